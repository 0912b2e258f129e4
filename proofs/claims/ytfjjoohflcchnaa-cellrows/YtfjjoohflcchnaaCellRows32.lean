/- CellRows returns true, whatever the schedule, the values and the scripts, and leaves what it was given as it was: of the law's statement as given, with no condition of our own. Part 32 of 33. (Joined, by program, of: Aw3, Aw4, Law3, Ins.) -/
import Derived.Test.YtfjjoohflcchnaaCellRows29
import Derived.Test.YtfjjoohflcchnaaCellRows30
import Derived.Test.YtfjjoohflcchnaaCellRows31
set_option linter.unusedSimpArgs false
set_option linter.unusedVariables false
namespace Go.Proofs.Ytfjjoohflcchnaa
open Go Go.Lift Go.Conc Go.RowKit

/-- What lies there at cell.Play's entry. -/
structure Set6 (v : World) (wb bk : Nat) (sc : Value) (c : Nat) (u : World) : Prop where
  mem : Mem zn (newS wb bk (v.heap.size + 1) sc [1]) [] u
  opn : Open u bk
  calls : u.heap[c]? = some (.cells #[I 5, I 0, I 1, I 0] 39)
  vals : u.heap[c + 1]? = some (.cells #[I 0] 3)
  scr : u.heap[c + 2]? = some (.cells #[.slice (some ⟨c, 0, none⟩) 1 1, .slice (some ⟨c, 0, none⟩) 1 1] 37)
  own : ∀ b, Own (newS wb bk (v.heap.size + 1) sc [1]) [] b ∨ b = bk → v.heap.size < b ∧ b < c
  old : Grows v u
/-- What lies there behind it. -/
structure Done6 (wb M A0 A1 : Nat) (S : TS) (u : World) : Prop where
  rep : Rep zn S u
  wb : S.wb = wb
  n : S.n = 6
  tr : S.tr = [I 0, I (-1), I 9, I 0, I 0, I 1, I (-1), I 9, I 0, I 0, I 1, I 0, I 5, I 0, I 1, I 1, I (-1), I 10, I 0, I 0, I 0, I 0, I 5, I 1, I 2, I 0, I (-1), I 10, I 0, I 0]
  m0 : u.cell? ⟨M, 0, none⟩ = some (.slice (some ⟨A0, 0, none⟩) 1 1)
  m1 : u.cell? ⟨M, 1, none⟩ = some (.slice (some ⟨A1, 0, none⟩) 1 1)
  x0 : u.cell? ⟨A0, 1, none⟩ = some (I 2)
  x1 : u.cell? ⟨A1, 1, none⟩ = some (I 1)

set_option maxHeartbeats 4000000 in
set_option maxRecDepth 100000 in
theorem awake_in {Ch : Nat → Prop} {Stop : Goroutine → World → Prop} {main : Bool} {v w : World} (cs : List Frame) {bc : Frame} {ac : Act} {ops : Array Oper} {q : Nat} {rest : List Nat} {oc : Oper} {k : List Item} (hoc : ops[q]? = some oc)
    (hvw : Rel zn v w) (hn : NoRow Ch v)
    (hk : ∀ v' w' (wb bk : Nat) (sc : Value) (c : Nat) (bd : Frame) (ad : Act) (od : Array Oper) (qd : Nat) (rd : List Nat) (oe : Oper) (kd : List Item), Rel zn v' w' → NoRow Ch v' → Set6 v wb bk sc c v' → od[qd]? = some oe →
      (∀ (Ch : Nat → Prop) (Stop : Goroutine → World → Prop) (S : TS) (M A0 A1 : Nat) (v w : World), Rel zn v w → NoRow Ch v → Done6 wb M A0 A1 S v → (∀ v' w', Rel zn v' w' → NoRow Ch v' → Grows v v' → GoesI Try.prog main (DT (ScZ zn) Ch) Stop (G (bc.at (ac.put oc.dst (.bool true)) (.inRegion ops rest :: k)) cs) w') → GoesI Try.prog main (DT (ScZ zn) Ch) Stop (G (bd.at (ad.put oe.dst (.tuple #[.slice (some ⟨M, 0, none⟩) 2 2, I 0])) (.inRegion od rd :: kd)) (bc.at ac (.inRegion ops (q :: rest) :: k) :: cs)) w) →
      GoesI Try.prog main (DT (ScZ zn) Ch) Stop (G ((base 19).at { tmps := #[Pt wb 0, .slice (some ⟨c + 1, 0, none⟩) 1 1, .slice (some ⟨c + 2, 0, none⟩) 2 2] ++ Array.replicate 39 undef, defers := [] } [.code B8]) (bd.at ad (.inRegion od (qd :: rd) :: kd) :: bc.at ac (.inRegion ops (q :: rest) :: k) :: cs)) w') :
    GoesI Try.prog main (DT (ScZ zn) Ch) Stop (G ((base 17).at { tmps := Array.replicate 72 undef, defers := [] } [.code B6]) (bc.at ac (.inRegion ops (q :: rest) :: k) :: cs)) w := by
  rw [eB6]
  refine goesI_seq (dt_idle _ _) ?_
  refine goesI_plain (z := zn) (wr := true) (L := LO) (I := NoRow Ch) hE fineO noRow_keeps (fun v v' w w' es hi hr ho he => dt_of_z v v' w w' es hi hr ho he) hvw fine60 rfl (by simp [base]) hn
    (Q := fun a w' => a = { tmps := #[.bool false] ++ Array.replicate 71 undef, defers := [] } ∧ w'.heap = v.heap ∧ w'.os = v.os ∧ w'.output = v.output) (fun τ => b60_wp (v := onTape v τ 0)) ?_
  rintro a0 v0 w0 ⟨rfl, e0, o0, u0⟩ hr0 hn0 -
  refine goesI_seq (dt_idle _ _) ?_
  refine goesI_plain (z := zn) (wr := true) (L := LO) (I := NoRow Ch) hE fineO noRow_keeps (fun v v' w w' es hi hr ho he => dt_of_z v v' w w' es hi hr ho he) hr0 fine61 rfl (by simp [base]) hn0
    (Q := fun a w' => ∃ wb bk sc, a = { tmps := #[.bool false, Pt wb 0, undef, undef, undef, undef, .slice (some ⟨v0.heap.size, 0, none⟩) 1 1, Pt wb 0] ++ Array.replicate 64 undef, defers := [] } ∧ IsNew (v0.alloc (.cells #[I 1] 3)) [1] wb bk sc w') (fun τ => wp_mono (b61_wp (v := onTape v0 τ 0)) (fun e a w' hq => ⟨hq.1, by
      obtain ⟨_, wb, bk, sc, h1, h2⟩ := hq
      exact ⟨wb, bk, sc, h1, h2.mem, h2.opn, h2.new, ⟨h2.old.size, h2.old.old, h2.old.os, h2.old.output⟩⟩⟩)) ?_
  rintro a1 v1 w1 ⟨wb, bk, sc, rfl, hnew⟩ hr1 hn1 -
  refine goesI_seq (dt_idle _ _) ?_
  refine goesI_plain (z := zn) (wr := true) (L := LO) (I := NoRow Ch) hE fineO noRow_keeps (fun v v' w w' es hi hr ho he => dt_of_z v v' w w' es hi hr ho he) hr1 fine62 rfl (by simp [base]) hn1
    (Q := fun a w' => a = { tmps := #[.bool false, Pt wb 0, .slice (some ⟨v1.heap.size, 0, none⟩) 1 1, undef, undef, undef, .slice (some ⟨v0.heap.size, 0, none⟩) 1 1, Pt wb 0, .agg #[I 5, I 0, I 1, I 0], .slice (some ⟨v1.heap.size, 0, none⟩) 1 1] ++ Array.replicate 62 undef, defers := [] } ∧ w'.heap = v1.heap.push (.cells #[I 5, I 0, I 1, I 0] 39) ∧ w'.os = v1.os ∧ w'.output = v1.output) (fun τ => b62_wp (v := onTape v1 τ 0) wb v0.heap.size) ?_
  rintro a2 v2 w2 ⟨rfl, e2, o2, u2⟩ hr2 hn2 -
  refine goesI_seq (dt_idle _ _) ?_
  have hset : Set6 v wb bk sc v1.heap.size ((v2.alloc (.cells #[I 0] 3)).alloc (.cells #[.slice (some ⟨v1.heap.size, 0, none⟩) 1 1, .slice (some ⟨v1.heap.size, 0, none⟩) 1 1] 37)) := by
    have ea : (v0.alloc (.cells #[I 1] 3)).heap.size = v.heap.size + 1 := by show (v0.heap.push _).size = _; rw [e0]; simp
    have hh : ((v2.alloc (.cells #[I 0] 3)).alloc (.cells #[.slice (some ⟨v1.heap.size, 0, none⟩) 1 1, .slice (some ⟨v1.heap.size, 0, none⟩) 1 1] 37)).heap = ((v1.heap.push (.cells #[I 5, I 0, I 1, I 0] 39)).push (.cells #[I 0] 3)).push (.cells #[.slice (some ⟨v1.heap.size, 0, none⟩) 1 1, .slice (some ⟨v1.heap.size, 0, none⟩) 1 1] 37) := by
      show (v2.heap.push _).push _ = _
      rw [e2]
    have hnm := hnew.mem
    have hnn := hnew.new
    rw [ea] at hnm hnn
    have hs1 : v.heap.size + 1 ≤ v1.heap.size := by rw [← ea]; exact hnew.old.size
    have k1 : ∀ b, b < v1.heap.size → ((v2.alloc (.cells #[I 0] 3)).alloc (.cells #[.slice (some ⟨v1.heap.size, 0, none⟩) 1 1, .slice (some ⟨v1.heap.size, 0, none⟩) 1 1] 37)).heap[b]? = v1.heap[b]? := fun b hb => by
      rw [hh, Array.getElem?_push, if_neg (by simp; omega), Array.getElem?_push, if_neg (by simp; omega), Array.getElem?_push, if_neg (by omega)]
    have gr1 : Grows v1 ((v2.alloc (.cells #[I 0] 3)).alloc (.cells #[.slice (some ⟨v1.heap.size, 0, none⟩) 1 1, .slice (some ⟨v1.heap.size, 0, none⟩) 1 1] 37)) := ⟨by rw [hh]; simp; omega, k1, o2, u2⟩
    have hbl : bk < v1.heap.size := by obtain ⟨c, m, h⟩ := hnew.opn; exact (Array.getElem?_eq_some_iff.1 h).1
    refine ⟨(hnm.grows gr1).mem, ?_, ?_, ?_, ?_, fun b hb => ⟨by have := hnn b hb; omega, ?_⟩, ?_⟩
    · obtain ⟨c, m, h⟩ := hnew.opn
      exact ⟨c, m, by rw [k1 bk hbl]; exact h⟩
    · rw [hh, Array.getElem?_push, if_neg (by simp; omega), Array.getElem?_push, if_neg (by simp), Array.getElem?_push, if_pos rfl]
    · rw [hh, Array.getElem?_push, if_neg (by simp), Array.getElem?_push, if_pos (by simp)]
    · rw [hh, Array.getElem?_push, if_pos (by simp)]
    · rcases hb with hb | rfl
      · exact hnm.lt hb
      · exact hbl
    · refine ⟨by have := gr1.size; omega, fun b hb => ?_, gr1.os.trans (hnew.old.os.trans o0), gr1.output.trans (hnew.old.output.trans u0)⟩
      rw [k1 b (by omega), hnew.old.old b (by rw [ea]; omega)]
      show (v0.heap.push _)[b]? = _
      rw [Array.getElem?_push, if_neg (by rw [e0]; omega), e0]
  have s2 : v2.heap.size = v1.heap.size + 1 := by rw [e2]; simp
  have s0 : v0.heap.size = v.heap.size := by rw [e0]
  clear e0 o0 u0 e2 o2 u2 hnew hr0 hn0 hr1 hn1 hvw hn
  unfold b63 B6 Try.f17 seq1 seq2
  simp only [Option.getD_some, Array.replicate_succ, Array.replicate_zero, List.push_toArray, List.append_toArray, List.nil_append, List.cons_append]
  refine goesI_region (dt_idle _ _) ?_
  simp only [List.size_toArray, List.length_cons, List.length_nil, Nat.reduceAdd, Nat.zero_add, List.range, List.range.loop]
  iterate 1
    (refine goesI_oper rfl rfl (by decide) (fun d K hK => ?_)
     go_simp
     refine hK _ _ ⟨dt_reads (fun e he => ?_), GoesI.at ?_ d⟩
     · have hm := mem_listed he
       simp [go_sem, *] at hm
       try exact ⟨_, _, hm⟩
     clear hK K)
  refine goesI_opZ (L := LO) rfl rfl (by decide) (fineOp_ask callO extT (by kernel_rfl)) hr2 hn2 (v' := v2.alloc (.cells #[I 0] 3)) (x := .slice (some ⟨v1.heap.size + 1, 0, none⟩) 1 1) (by rw [← s2]; go_simp) rfl (fun w3 hr3 hn3 => ?_)
  iterate 2
    (refine goesI_oper rfl rfl (by decide) (fun d K hK => ?_)
     go_simp
     refine hK _ _ ⟨dt_reads (fun e he => ?_), GoesI.at ?_ d⟩
     · have hm := mem_listed he
       simp [go_sem, *] at hm
       try exact ⟨_, _, hm⟩
     clear hK K)
  refine goesI_opZ (L := LO) rfl rfl (by decide) (fineOp_ask callO extT (by kernel_rfl)) hr3 hn3 (v' := (v2.alloc (.cells #[I 0] 3)).alloc (.cells #[.slice (some ⟨v1.heap.size, 0, none⟩) 1 1, .slice (some ⟨v1.heap.size, 0, none⟩) 1 1] 37)) (x := .slice (some ⟨v1.heap.size + 2, 0, none⟩) 2 2) (by rw [show v1.heap.size + 2 = v2.heap.size + 1 by omega]; go_simp) rfl (fun w4 hr4 hn4 => ?_)
  refine goesI_into (f := 19) (fn := Try.f19) (args := #[Pt wb 0, .slice (some ⟨v1.heap.size + 1, 0, none⟩) 1 1, .slice (some ⟨v1.heap.size + 2, 0, none⟩) 2 2]) (dt_idle _ _) rfl rfl (by decide) rfl (by simp [Act.eval, Act.put]) Try.func19 (by decide) rfl ?_
  refine hk _ w4 wb bk sc v1.heap.size _ _ _ _ _ _ _ hr4 hn4 hset rfl (fun Ch Stop S M A0 A1 vv ww hvw hn hD hg => ?_)
  clear hk hset hr4 hn4 hr2 hn2 hr3 hn3
  have hwb := hD.wb
  subst hwb
  iterate 5
    (refine goesI_oper rfl rfl (by decide) (fun d K hK => ?_)
     go_simp
     refine hK _ _ ⟨dt_reads (fun e he => ?_), GoesI.at ?_ d⟩
     · have hm := mem_listed he
       simp [go_sem, *] at hm
       try exact ⟨_, _, hm⟩
     clear hK K)
  refine goesI_regionEnd (dt_idle _ _) ?_
  refine goesI_seq (dt_idle _ _) ?_
  refine goesI_plain (z := zn) (wr := true) (L := LO) (I := NoRow Ch) hE fineO noRow_keeps (fun v v' w w' es hi hr ho he => dt_of_z v v' w w' es hi hr ho he) hvw fine64 rfl (by simp [base]) hn
    (Q := fun a w' => ∃ g cap, a = { tmps := #[.bool false, Pt S.wb 0, .slice (some ⟨v1.heap.size, 0, none⟩) 1 1, .slice (some ⟨M, 0, none⟩) 2 2, I 0, .slice (some ⟨g, 0, none⟩) 6 cap, .slice (some ⟨v.heap.size, 0, none⟩) 1 1, Pt S.wb 0, .agg #[I 5, I 0, I 1, I 0], .slice (some ⟨v1.heap.size, 0, none⟩) 1 1, .tuple #[.slice (some ⟨M, 0, none⟩) 2 2, I 0], Pt S.wb 0, .slice (some ⟨v1.heap.size + 1, 0, none⟩) 1 1, .slice (some ⟨v1.heap.size, 0, none⟩) 1 1, .slice (some ⟨v1.heap.size, 0, none⟩) 1 1, .slice (some ⟨v1.heap.size + 2, 0, none⟩) 2 2, .tuple #[.slice (some ⟨M, 0, none⟩) 2 2, I 0], .slice (some ⟨M, 0, none⟩) 2 2, I 0, Pt S.wb 0, .slice (some ⟨g, 0, none⟩) 6 cap] ++ Array.replicate 51 undef, defers := [] } ∧ w'.ownsRow vv.heap.size 34 5 (.slice (some ⟨g, 0, none⟩) S.n cap) S.n S.tr ∧ Grows vv w') (fun τ => ?_) ?_
  · have h := b64_wp (v := onTape vv τ 0) (S := S) (hD.rep.same (v' := onTape vv τ 0) rfl) (by rw [hD.n]; decide) (by rw [hD.n]; decide) (by rw [hD.tr]; decide) (.slice (some ⟨v1.heap.size, 0, none⟩) 1 1) (.slice (some ⟨M, 0, none⟩) 2 2) (I 0) (.slice (some ⟨v.heap.size, 0, none⟩) 1 1) (Pt S.wb 0) (.agg #[I 5, I 0, I 1, I 0]) (.slice (some ⟨v1.heap.size, 0, none⟩) 1 1) (.tuple #[.slice (some ⟨M, 0, none⟩) 2 2, I 0]) (Pt S.wb 0) (.slice (some ⟨v1.heap.size + 1, 0, none⟩) 1 1) (.slice (some ⟨v1.heap.size, 0, none⟩) 1 1) (.slice (some ⟨v1.heap.size, 0, none⟩) 1 1) (.slice (some ⟨v1.heap.size + 2, 0, none⟩) 2 2) (.tuple #[.slice (some ⟨M, 0, none⟩) 2 2, I 0]) (.slice (some ⟨M, 0, none⟩) 2 2) (I 0)
    simp only [Array.replicate_succ, Array.replicate_zero, List.push_toArray, List.append_toArray, List.nil_append, List.cons_append] at h ⊢
    refine wp_mono h (fun e a w' hq => ⟨hq.1, ?_⟩)
    obtain ⟨_, g, cap, rfl, hown, hgr⟩ := hq
    exact ⟨g, cap, by rw [hD.n], hown, ⟨hgr.size, hgr.old, hgr.os, hgr.output⟩⟩
  rintro a5 v5 w5 ⟨g, cap, rfl, hown, hgr⟩ hr5 hn5 -
  have hc : ∀ (j : Nat) (x : Value), S.tr[j]? = some x → v5.cell? ⟨g, j, none⟩ = some x := fun j x hj => by
    have := hown.cells (g := g) rfl j x hj
    rw [show (⟨g, 0, none⟩ : Addr).add j = ⟨g, j, none⟩ by unfold Addr.add; split <;> simp_all] at this
    exact this
  rw [hD.tr] at hc
  refine goesI_seq (dt_idle _ _) ?_
  refine goesI_plain (z := zn) (wr := true) (L := LO) (I := NoRow Ch) hE fineO noRow_keeps (fun v v' w w' es hi hr ho he => dt_of_z v v' w w' es hi hr ho he) hr5 fine65 rfl (by simp [base]) hn5
    (Q := fun a w' => a.tmps.getD 0 undef = .bool true ∧ w'.heap = v5.heap ∧ w'.os = v5.os ∧ w'.output = v5.output) (fun τ => b65_wp (v := onTape v5 τ 0) M A0 A1 g cap (hgr.cell hD.m0) (hgr.cell hD.m1) (hgr.cell hD.x0) (hgr.cell hD.x1) (hc 10 _ rfl) (hc 11 _ rfl) (hc 12 _ rfl) (hc 13 _ rfl) (hc 14 _ rfl) _ _ _ _ _ _ _ _ _ _ _ _ _ _ _ _ _) ?_
  rintro a6 v6 w6 ⟨ht, e6, o6, u6⟩ hr6 hn6 hd6
  refine GoesI.ctl rfl (fun _ => stepG_ret') (dt_idle _ _) ?_
  refine goesI_leave (b := base 17) (fn := Try.f17) (v := .bool true) rfl hd6 Try.func17 (fun w => ?_) (fun w => by simp [results, go_sem, Try.f17]) hoc (dt_idle _ _) ?_
  · rw [results_tmp (t := 0) rfl, ht]
  · exact hg v6 w6 hr6 hn6 ⟨by rw [e6]; exact hgr.size, fun b hb => by rw [e6]; exact hgr.old b hb, o6.trans hgr.os, u6.trans hgr.output⟩
end Go.Proofs.Ytfjjoohflcchnaa

namespace Go.Proofs.Ytfjjoohflcchnaa
open Go Go.Lift Go.Conc Go.RowKit
open Go.ConcN (upd upd_same upd_ne)

section
variable {wb bk base : Nat} {sc cv : Value} {cb : Nat} {l0 : Nat → Ph}
theorem aw7 (tv0 : Value) (tb0 gc0 : Nat) (tv1 : Value) (tb1 gc1 : Nat) : (pt (pt (awP wb bk base sc cv tv0 tb0 gc0 tv1 tb1 gc1 cb l0))).S.wb = wb := by kernel_rfl
theorem hires_aw {N xb rk ck c : Nat} {S1 : TS} {l1 : Nat → Ph} (h : Hires 1 0 (scrs N 2 xb rk ck [(cb, 0)] (fun _ => some ⟨c, 0, none⟩) (fun _ => 1) (fun _ => 1) (fun _ => c) (fun _ => [cl5])) (awS wb bk base sc cv) l0 S1 l1) :
    ∃ tv0 tb0 gc0 tv1 tb1 gc1, (⟨S1, [(cb, 0)], l1⟩ : PSt) = awP wb bk base sc cv tv0 tb0 gc0 tv1 tb1 gc1 cb l0 := by
  have e : (scrs N 2 xb rk ck [(cb, 0)] (fun _ => some ⟨c, 0, none⟩) (fun _ => 1) (fun _ => 1) (fun _ => c) (fun _ => [cl5])) = [scrOf N 2 xb rk ck [cb] (fun _ => some ⟨c, 0, none⟩) (fun _ => 1) (fun _ => 1) (fun _ => c) (fun _ => [cl5]) 0, scrOf N 2 xb rk ck [cb] (fun _ => some ⟨c, 0, none⟩) (fun _ => 1) (fun _ => 1) (fun _ => c) (fun _ => [cl5]) 1] := rfl
  rw [e] at h
  cases h with
  | cons tv0 tb0 gc0 h =>
    cases h with
    | cons tv1 tb1 gc1 h =>
      cases h
      exact ⟨tv0, tb0, gc0, tv1, tb1, gc1, rfl⟩
end

theorem asked6 {v u : World} {wb bk : Nat} {sc : Value} {c : Nat} (s : Set6 v wb bk sc c u) : Asked u (newS wb bk (v.heap.size + 1) sc [1]) 2 (c + 2) 0 (fun _ => some ⟨c, 0, none⟩) (fun _ => 1) (fun _ => 1) (fun _ => c) (fun _ => [cl5]) := by
  refine ⟨fun j hj => ⟨rfl, by decide⟩, fun k hk => ?_, fun h => by have := (s.own _ (.inl h)).2; omega, fun j hj _ => ⟨rfl, fun h => by have := (s.own _ (.inl h)).2; omega⟩, fun j hj k x hx => ?_, fun j hj x hx => ?_⟩
  · unfold World.cell?
    rw [show u.heap[c + 2]? = _ from s.scr]
    have : k = 0 ∨ k = 1 := by omega
    rcases this with rfl | rfl <;> rfl
  · match k, hx with
    | 0, hx =>
      cases hx
      unfold World.cell?
      rw [show u.heap[c]? = _ from s.calls]
      exact ⟨rfl, rfl, rfl, rfl⟩
    | k + 1, hx => simp at hx
  · simp only [List.mem_singleton] at hx
    subst hx
    decide

set_option maxHeartbeats 1000000 in
theorem awake_all {cs : List Frame} {bc : Frame} {ac : Act} {ops : Array Oper} {q0 : Nat} {rest : List Nat} {oc : Oper} {k0 : List Item} (hoc : ops[q0]? = some oc) {w : World} {T : Trace} {gs : Array Goroutine} {q : Nat → Nat} (sl : Option (Nat × Nat)) (A : Alone gs w T q)
    (hg : gs[0]? = some (G ((base 17).at { tmps := Array.replicate 72 undef, defers := [] } [.code B6]) (bc.at ac (.inRegion ops (q0 :: rest) :: k0) :: cs))) :
    ∃ (N' : Nat) (gs' : Array Goroutine) (w' : World) (sl' : Option (Nat × Nat)) (T' : Trace) (q' : Nat → Nat),
      runNT Try.prog N' (crowd gs w sl) T = (.next (crowd gs' w' sl'), T') ∧ gs'[0]? = some (G (bc.at (ac.put oc.dst (.bool true)) (.inRegion ops rest :: k0)) cs) ∧ Alone gs' w' T' q' ∧ Grows w w' := by
  have hG : GoesI Try.prog true (DT (ScZ zn) (fun _ => False)) (fun g w' => ∃ (wb bk : Nat) (sc : Value) (c : Nat) (bd : Frame) (ad : Act) (od : Array Oper) (qd : Nat) (rd : List Nat) (oe : Oper) (kd : List Item), Set6 w wb bk sc c w' ∧ od[qd]? = some oe ∧
      (∀ (Ch : Nat → Prop) (Stop : Goroutine → World → Prop) (S : TS) (M A0 A1 : Nat) (v w : World), Rel zn v w → NoRow Ch v → Done6 wb M A0 A1 S v → (∀ v' w', Rel zn v' w' → NoRow Ch v' → Grows v v' → GoesI Try.prog true (DT (ScZ zn) Ch) Stop (G (bc.at (ac.put oc.dst (.bool true)) (.inRegion ops rest :: k0)) cs) w') → GoesI Try.prog true (DT (ScZ zn) Ch) Stop (G (bd.at (ad.put oe.dst (.tuple #[.slice (some ⟨M, 0, none⟩) 2 2, I 0])) (.inRegion od rd :: kd)) (bc.at ac (.inRegion ops (q0 :: rest) :: k0) :: cs)) w) ∧
      g = G ((base 19).at { tmps := #[Pt wb 0, .slice (some ⟨c + 1, 0, none⟩) 1 1, .slice (some ⟨c + 2, 0, none⟩) 2 2] ++ Array.replicate 39 undef, defers := [] } [.code B8]) (bd.at ad (.inRegion od (qd :: rd) :: kd) :: bc.at ac (.inRegion ops (q0 :: rest) :: k0) :: cs)) (G ((base 17).at { tmps := Array.replicate 72 undef, defers := [] } [.code B6]) (bc.at ac (.inRegion ops (q0 :: rest) :: k0) :: cs)) w := by
    refine awake_in cs hoc (Rel.refl w) (fun c hc => hc.elim) (fun v' w' wb bk sc c bd ad od qd rd oe kd hr hn hset ho hback => GoesI.stop fun d => ⟨wb, bk, sc, c, bd, ad, od, qd, rd, oe, kd, ?_, ho, hback, rfl⟩)
    have e : (w'.at d).heap = v'.heap := hr.eq
    have hgr : Grows v' (w'.at d) := ⟨by rw [e]; exact Nat.le_refl _, fun b _ => by rw [e], hr.os, hr.output⟩
    refine ⟨(hset.mem.grows hgr).mem, ?_, by rw [e]; exact hset.calls, by rw [e]; exact hset.vals, by rw [e]; exact hset.scr, hset.own, ⟨by rw [e]; exact hset.old.size, fun b hb => by rw [e]; exact hset.old.old b hb, hr.os.trans hset.old.os, hr.output.trans hset.old.output⟩⟩
    obtain ⟨c, m, h⟩ := hset.opn
    exact ⟨c, m, by rw [e]; exact h⟩
  obtain ⟨N1, gs1, a1, w1, sl1, T1, q1, r1, z1, h1, ⟨wb, bk, sc, c, bd, ad, od, qd, rd, oe, kd, s, hoe, hback, rfl⟩, A1⟩ := alone_goes A hg sl hG
  have hKof : ∀ K : List (Nat × Int), K.map (·.2) = [0] → ∃ cb, K = [(cb, 0)] := fun K hK => by
    match K, hK with
    | [], hK => cases hK
    | [x], hK =>
      obtain ⟨a, b⟩ := x
      simp only [List.map_cons, List.map_nil, List.cons.injEq, and_true] at hK
      subst hK
      exact ⟨a, rfl⟩
    | x :: y :: l, hK => simp at hK
  have l0 : Nat → Ph := fun _ => .done []
  obtain ⟨N2, gs2, w2, sl2, T2, q2, N, cv, K, S', S1, l1, m, p', r2, z2, h2, A2, hK, hnv, hH, hT, O⟩ := play8_all (S := newS wb bk (w.heap.size + 1) sc [1]) (xs := [0]) (n := 2) (sb := c + 2) (so := 0) (vb := c + 1) (vo := 0) (vcap := 1) (cap := 2) (pc := fun _ => some ⟨c, 0, none⟩) (ln := fun _ => 1) (cp := fun _ => 1) (rb := fun _ => c) (cl := fun _ => [cl5]) hoe sl1 2 A1 h1 s.mem rfl rfl rfl s.opn (asked6 s) (by decide) (by decide) (by decide) (fun k x hk => by
      match k, hk with
      | 0, hk =>
        cases hk
        unfold World.cell?
        rw [show w1.heap[c + 1]? = _ from s.vals]
        rfl
      | k + 1, hk => simp at hk) (fun h => by have := (s.own _ (.inl h)).2; omega) (fun N K => by show 0 + 2 * (1 + (1 + 0)) ≤ 1000000; decide) (by show 1 ≤ 4611686018427387904; decide) (by show ∀ x ∈ [(1 : Int)], _; decide) l0 (fun N cv K hK S1 l1 hH => by
      obtain ⟨cb, rfl⟩ := hKof K hK
      obtain ⟨tv0, tb0, gc0, tv1, tb1, gc1, e⟩ := hires_aw (wb := wb) (bk := bk) (base := w.heap.size + 1) (sc := sc) (cv := cv) hH
      exact ⟨2, _, Nat.le_refl _, by rw [e]; exact aw_turns wb bk _ sc cv tv0 tb0 gc0 tv1 tb1 gc1 cb l0, by rw [aw5]; decide⟩)
  obtain ⟨cb, rfl⟩ := hKof K hK
  obtain ⟨tv0, tb0, gc0, tv1, tb1, gc1, e⟩ := hires_aw (wb := wb) (bk := bk) (base := w.heap.size + 1) (sc := sc) (cv := cv) hH
  have hT' : Turns 1 m (⟨S1, [(cb, 0)], l1⟩ : PSt) p' := hT
  rw [e] at hT'
  have hp := turns_det hT' (aw_turns wb bk (w.heap.size + 1) sc cv tv0 tb0 gc0 tv1 tb1 gc1 cb l0)
  have hSn : S'.n = 6 := by
    have := congrArg TS.n hnv
    rw [hp, aw5] at this
    exact this
  have hStr := congrArg TS.tr hnv
  rw [hp, aw4] at hStr
  have hSw : S'.wb = wb := by
    have := congrArg TS.wb hnv
    rw [hp, aw7] at this
    exact this
  have hans := aw6 wb bk (w.heap.size + 1) sc cv tv0 tb0 gc0 tv1 tb1 gc1 cb l0
  rw [← hp] at hans
  have a0 := (O.ans 0 (by decide)).2.1 (by decide)
  have a1 := (O.ans 1 (by decide)).2.1 (by decide)
  rw [hans.1] at a0
  rw [hans.2] at a1
  have hD : Done6 wb (N + 1) (N + 4 + 3 * 0 + 2) (N + 4 + 3 * 1 + 2) S' w2 := by
    refine ⟨O.mem.rep, hSw, hSn, hStr, O.rows 0 (by decide), O.rows 1 (by decide), ?_, ?_⟩
    · unfold World.cell?
      rw [show w2.heap[N + 4 + 3 * 0 + 2]? = _ from a0]
      rfl
    · unfold World.cell?
      rw [show w2.heap[N + 4 + 3 * 1 + 2]? = _ from a1]
      rfl
  obtain ⟨N3, gs3, a3, w3, sl3, T3, q3, r3, z3, h3, ⟨rfl, hg3⟩, A3⟩ := alone_goes A2 h2 sl2 (hback (fun _ => False) (fun g w' => g = G (bc.at (ac.put oc.dst (.bool true)) (.inRegion ops rest :: k0)) cs ∧ Grows w2 w') S' (N + 1) _ _ w2 w2 (Rel.refl w2) (fun c hc => hc.elim) hD (fun v' w' hr hn hgr => GoesI.stop fun d => ⟨rfl, by
      have e : (w'.at d).heap = v'.heap := hr.eq
      exact ⟨by rw [e]; exact hgr.size, fun b hb => by rw [e]; exact hgr.old b hb, hr.os.trans hgr.os, hr.output.trans hgr.output⟩⟩))
  refine ⟨N1 + N2 + N3, gs3, w3, sl3, T3, q3, runNT_then (runNT_then r1 r2) r3, h3, A3, ⟨by have := s.old.size; have := O.size; have := hg3.size; omega, fun b hb => ?_, hg3.os.trans (O.os.trans s.old.os), hg3.output.trans (O.out.trans s.old.output)⟩⟩
  have hs1 := s.old.size
  have hno : ¬ (Own (newS wb bk (w.heap.size + 1) sc [1]) [] b ∨ b = bk) := fun h => by have := (s.own b h).1; omega
  have h5 := O.old b (by omega) (fun h => hno (.inl h)) (fun h => hno (.inr h))
  rw [hg3.old b (by have := O.size; omega), h5.1, s.old.old b hb]
end Go.Proofs.Ytfjjoohflcchnaa

namespace Go.Proofs.Ytfjjoohflcchnaa
open Go Go.Lift Go.Conc Go.RowKit

/-- The frame behind awake. -/
structure F3a (s0 s1 s2 : Value) (a : Act) : Prop where
  size : a.tmps.size = 93
  defers : a.defers = []
  t0 : a.tmps.getD 0 undef = s0
  t1 : a.tmps.getD 1 undef = s1
  t2 : a.tmps.getD 2 undef = s2
  t7 : a.tmps.getD 7 undef = .bool true
/-- .. and behind New. -/
structure F3b (s1 s2 : Value) (wb : Nat) (a : Act) : Prop where
  size : a.tmps.size = 93
  defers : a.defers = []
  t1 : a.tmps.getD 1 undef = s1
  t2 : a.tmps.getD 2 undef = s2
  t7 : a.tmps.getD 7 undef = .bool true
  t8 : a.tmps.getD 8 undef = Pt wb 0

set_option maxHeartbeats 4000000 in
set_option maxRecDepth 100000 in
theorem law3_a {Ch : Nat → Prop} {Stop : Goroutine → World → Prop} {main : Bool} {w : World} (s0 s1 s2 : Value)
    (hk : ∀ (w' : World) (bd : Frame) (ad : Act) (od : Array Oper) (qd : Nat) (rd : List Nat) (oe : Oper) (kd : List Item), (∃ d, w' = w.at d) → od[qd]? = some oe →
      (∀ (Ch : Nat → Prop) (Stop : Goroutine → World → Prop) (w1 : World), (∀ a, F3a s0 s1 s2 a → GoesI Try.prog main (DT (ScZ zn) Ch) Stop (G ((base 3).at a [.code (.seq c32 (.seq c33 T3))]) []) w1) → GoesI Try.prog main (DT (ScZ zn) Ch) Stop (G (bd.at (ad.put oe.dst (.bool true)) (.inRegion od rd :: kd)) []) w1) →
      GoesI Try.prog main (DT (ScZ zn) Ch) Stop (G ((base 17).at { tmps := Array.replicate 72 undef, defers := [] } [.code B6]) [bd.at ad (.inRegion od (qd :: rd) :: kd)]) w') :
    GoesI Try.prog main (DT (ScZ zn) Ch) Stop (G ((base 3).at { tmps := #[s0, s1, s2] ++ Array.replicate 90 undef, defers := [] } [.code B3]) []) w := by
  rw [eB3]
  simp only [Array.replicate_succ, Array.replicate_zero, List.push_toArray, List.append_toArray, List.nil_append, List.cons_append] at hk ⊢
  refine goesI_seq (dt_idle _ _) ?_
  generalize hR : (Code.seq c32 (.seq c33 T3)) = R3
  unfold c30 c31 B3 Try.f3 seq1 seq2
  simp only [Option.getD_some]
  refine goesI_region (dt_idle _ _) ?_
  simp only [List.size_toArray, List.length_cons, List.length_nil, Nat.reduceAdd, Nat.zero_add, List.range, List.range.loop]
  (refine goesI_oper rfl rfl (by decide) (fun d K hK => ?_)
   go_simp
   refine hK _ _ ⟨dt_reads (fun e he => ?_), GoesI.at ?_ d⟩
   · have hm := mem_listed he
     simp [go_sem, *] at hm
   clear hK K)
  refine goesI_regionEnd (dt_idle _ _) ?_
  refine goesI_seq (dt_idle _ _) ?_
  refine goesI_region (dt_idle _ _) ?_
  simp only [List.size_toArray, List.length_cons, List.length_nil, Nat.reduceAdd, Nat.zero_add, List.range, List.range.loop]
  refine goesI_into (f := 17) (fn := Try.f17) (args := #[]) (dt_idle _ _) rfl rfl (by decide) rfl (by simp [Act.eval]) Try.func17 (by decide) rfl ?_
  refine hk w _ _ _ _ _ _ _ ⟨w.drawn, rfl⟩ rfl (fun Ch Stop w1 hg => ?_)
  clear hk
  (refine goesI_oper rfl rfl (by decide) (fun d K hK => ?_)
   go_simp
   refine hK _ _ ⟨dt_reads (fun e he => ?_), GoesI.at ?_ d⟩
   · have hm := mem_listed he
     simp [go_sem, *] at hm
   clear hK K)
  refine goesI_regionEnd (dt_idle _ _) ?_
  subst hR
  exact hg _ ⟨rfl, rfl, rfl, rfl, rfl, rfl⟩

set_option maxHeartbeats 4000000 in
set_option maxRecDepth 100000 in
theorem c32_wp {v : World} (p : Option Addr) (cap vb vo : Nat) (xs : List Int) (hp : 0 < xs.length → p = some ⟨vb, vo, none⟩) (hx1 : xs.length ≤ 17592186043904) (hv : ∀ k x, xs[k]? = some x → v.cell? ⟨vb, vo + k, none⟩ = some (I x)) {s1 s2 : Value} {a : Act} (hA : F3a (.slice p xs.length cap) s1 s2 a) :
    c32.wp Try.prog (fun e a w' => e = .normal ∧ ∃ wb bk sc, F3b s1 s2 wb a ∧ IsNew v xs wb bk sc w') a v := by
  have H7 : Hid (Calls Try.prog 18 #[.slice p xs.length cap] v _) := ⟨(body7A p vb vo cap xs hp hx1 hv).calls Try.func18 rfl⟩
  clear hp hx1 hv
  obtain ⟨u, rfl, hg⟩ := litN hA.size hA.defers
  have u0 := (hg 0).symm.trans hA.t0
  have u1 := (hg 1).symm.trans hA.t1
  have u2 := (hg 2).symm.trans hA.t2
  have u7 := (hg 7).symm.trans hA.t7
  clear hg hA
  show Code.wp Try.prog (seq1 (seq2 (seq2 B3))) _ _ _
  unfold B3 Try.f3 seq1 seq2
  simp only [Option.getD_some, lis, Nat.reduceAdd, u0, u1, u2, u7]
  clear u0 u1 u2 u7
  go_wp2_with (first
    | (go_at_call 18; refine H7.out.mono ?_; rintro e w1 ⟨_, rfl, wb, bk, sc, rfl, hnew⟩))
  exact ⟨wb, ⟨rfl, rfl, rfl, rfl, rfl, rfl⟩, bk, sc, hnew⟩

set_option maxHeartbeats 4000000 in
set_option maxRecDepth 100000 in
theorem law3_b {Ch : Nat → Prop} {Stop : Goroutine → World → Prop} {main : Bool} {v w : World} (p : Option Addr) (cap vb vo : Nat) (xs : List Int) (hp : 0 < xs.length → p = some ⟨vb, vo, none⟩) (hx1 : xs.length ≤ 17592186043904) (hv : ∀ k x, xs[k]? = some x → v.cell? ⟨vb, vo + k, none⟩ = some (I x)) (s1 s2 : Value) (hvw : Rel zn v w) (hn : NoRow Ch v)
    (hk : ∀ (v' w' : World) (wb bk : Nat) (sc : Value) (bd : Frame) (ad : Act) (od : Array Oper) (qd : Nat) (rd : List Nat) (oe : Oper) (kd : List Item), Rel zn v' w' → NoRow Ch v' → IsNew v xs wb bk sc v' → od[qd]? = some oe →
      (∀ (Ch : Nat → Prop) (Stop : Goroutine → World → Prop) (v2 w2 : World) (A : Value) (E : Int), Rel zn v2 w2 → NoRow Ch v2 →
        (∀ τ a, F3 s1 wb E a → T3.wp Try.prog (fun e a w' => e = .ret ∧ a.tmps.getD 6 undef = .bool true ∧ Grows (onTape v2 τ 0) w') a (onTape v2 τ 0)) →
        (∀ a' v' w' todo, Rel zn v' w' → Grows v2 v' → a'.defers = [] → a'.tmps.getD 6 undef = .bool true → GoesI Try.prog main (DT (ScZ zn) Ch) Stop (G { (base 3).at a' todo with mode := .returning } []) w') →
        GoesI Try.prog main (DT (ScZ zn) Ch) Stop (G (bd.at (ad.put oe.dst (.tuple #[A, I E])) (.inRegion od rd :: kd)) []) w2) →
      GoesI Try.prog main (DT (ScZ zn) Ch) Stop (G ((base 19).at { tmps := #[Pt wb 0, s1, s2] ++ Array.replicate 39 undef, defers := [] } [.code B8]) [bd.at ad (.inRegion od (qd :: rd) :: kd)]) w') :
    ∀ a, F3a (.slice p xs.length cap) s1 s2 a → GoesI Try.prog main (DT (ScZ zn) Ch) Stop (G ((base 3).at a [.code (.seq c32 (.seq c33 T3))]) []) w := by
  intro a0 hA0
  refine goesI_seq (dt_idle _ _) ?_
  refine goesI_plain (z := zn) (wr := true) (L := LO) (I := NoRow Ch) hE fineO noRow_keeps (fun v v' w w' es hi hr ho he => dt_of_z v v' w w' es hi hr ho he) hvw fine32 hA0.defers (by simp [base]) hn
    (Q := fun a w' => ∃ wb bk sc, F3b s1 s2 wb a ∧ IsNew v xs wb bk sc w') (fun τ => wp_mono (c32_wp (v := onTape v τ 0) p cap vb vo xs hp hx1 hv hA0) (fun e a w' hq => ⟨hq.1, by
      obtain ⟨_, wb, bk, sc, h1, h2⟩ := hq
      exact ⟨wb, bk, sc, h1, h2.mem, h2.opn, h2.new, ⟨h2.old.size, h2.old.old, h2.old.os, h2.old.output⟩⟩⟩)) ?_
  rintro a1 v1 w1 ⟨wb, bk, sc, hB, hnew⟩ hr1 hn1 -
  obtain ⟨u, rfl, hg⟩ := litN hB.size hB.defers
  have u1 := (hg 1).symm.trans hB.t1
  have u2 := (hg 2).symm.trans hB.t2
  have u7 := (hg 7).symm.trans hB.t7
  have u8 := (hg 8).symm.trans hB.t8
  clear hg hB hA0
  refine goesI_seq (dt_idle _ _) ?_
  clear hvw hn hp hx1 hv
  generalize hT : T3 = T at hk ⊢
  unfold c33 B3 Try.f3 seq1 seq2
  simp only [Option.getD_some, lis, Nat.reduceAdd, u1, u2, u7, u8]
  clear u1 u2 u7 u8
  refine goesI_region (dt_idle _ _) ?_
  simp only [List.size_toArray, List.length_cons, List.length_nil, Nat.reduceAdd, Nat.zero_add, List.range, List.range.loop]
  iterate 3
    (refine goesI_oper rfl rfl (by decide) (fun d K hK => ?_)
     go_simp
     refine hK _ _ ⟨dt_reads (fun e he => ?_), GoesI.at ?_ d⟩
     · have hm := mem_listed he
       simp [go_sem, *] at hm
       try exact ⟨_, _, hm⟩
     clear hK K)
  refine goesI_into (f := 19) (fn := Try.f19) (args := #[Pt wb 0, s1, s2]) (dt_idle _ _) rfl rfl (by decide) rfl (by simp [Act.eval]) Try.func19 (by decide) rfl ?_
  refine hk v1 w1 wb bk sc _ _ _ _ _ _ _ hr1 hn1 hnew rfl (fun Ch Stop v2 w2 A E hvw hn hwp hend => ?_)
  clear hk hnew hr1 hn1
  iterate 5
    (refine goesI_oper rfl rfl (by decide) (fun d K hK => ?_)
     go_simp
     refine hK _ _ ⟨dt_reads (fun e he => ?_), GoesI.at ?_ d⟩
     · have hm := mem_listed he
       simp [go_sem, *] at hm
       try exact ⟨_, _, hm⟩
     clear hK K)
  refine goesI_regionEnd (dt_idle _ _) ?_
  subst hT
  refine (show ∀ a : Act, F3 s1 wb E a → GoesI Try.prog main (DT (ScZ zn) Ch) Stop (G ((base 3).at a [.code T3]) []) w2 from fun a hA => ?_) _ ⟨rfl, rfl, rfl, rfl, rfl, rfl⟩
  have hfin := lift_code (P := Try.prog) (z := zn) (wr := true) (L := LO) (D := DT (ScZ zn) Ch) (I := NoRow Ch) (main := main) (b := base 3) (k := []) (cs := []) hE fineO noRow_keeps (fun v v' w w' es hi hr ho he => dt_of_z v v' w w' es hi hr ho he) hvw fineT3 hA.defers (by simp [base]) hn
    (Q := fun e a w' => e = .ret ∧ a.tmps.getD 6 undef = .bool true ∧ Grows v2 w') (fun τ => wp_mono (hwp τ a hA) (fun e a w' hq => ⟨hq.1, hq.2.1, hq.2.2.size, hq.2.2.old, hq.2.2.os, hq.2.2.output⟩)) (fun e a w hq => .inr hq.1)
  refine hfin.then ?_
  rintro g w' ⟨a', v', hr, hiv, hd, ⟨⟨hq, _⟩, _⟩ | ⟨⟨_, h6, hgr⟩, todo, rfl⟩⟩
  · cases hq
  · exact hend a' v' w' todo hr hgr hd h6
end Go.Proofs.Ytfjjoohflcchnaa

namespace Go.Proofs.Ytfjjoohflcchnaa
open Go Go.Lift Go.Conc Go.RowKit

theorem turns_n {nk m : Nat} {p p' : PSt} (h : Turns nk m p p') : Good nk p → p'.S.n + mu p' ≤ p.S.n + mu p := by
  induction h with
  | stop => intro _; exact Nat.le_refl _
  | step e _ ih =>
    intro g
    obtain ⟨g1, _, h2⟩ := pturn_mu g e
    have := ih g1
    omega
theorem turns_wb {nk m : Nat} {p p' : PSt} (h : Turns nk m p p') : p'.S.wb = p.S.wb := by
  induction h with
  | stop => rfl
  | @step n p p1 p' e _ ih =>
    rw [ih]
    unfold pturn at e
    split at e
    · split at e
      · cases e; rfl
      · cases e
    · cases e
      show (resume _ _ _ _ _).1.wb = _
      rw [(resume_sta _ _ _ _ _).wb]
      show (picked p.S).wb = _
      unfold picked
      split <;> rfl
theorem hires_wb {nk k : Nat} {ss : List Scr} {S S' : TS} {l l' : Nat → Ph} (h : Hires nk k ss S l S' l') : S'.wb = S.wb := by
  induction h with
  | nil => rfl
  | cons tv tb gc h ih => rw [ih, (flow_sta _ _ _ _ _ _ _).wb]; rfl
theorem play_small {nk m : Nat} {ss : List Scr} {S S1 : TS} {l0 l1 : Nat → Ph} {K : List (Nat × Int)} {p' : PSt} (h : Hires nk 0 ss S l0 S1 l1) (hT : Turns nk m ⟨S1, K, l1⟩ p') (h0 : S.thr = []) (h8 : ss.length ≤ 8) (hl : lens ss ≤ 512) (hn : S.n = 0) : p'.S.n ≤ 13329 ∧ p'.S.wb = S.wb := by
  obtain ⟨a1, a2, a3, a4⟩ := hires_good h (by rw [h0]; rfl) (by omega) (fun i t ht => by rw [h0] at ht; cases ht)
  have g : Good nk ⟨S1, K, l1⟩ := ⟨by show S1.thr.length ≤ 8; omega, a2⟩
  have hm := mu_le ⟨S1, K, l1⟩ g.len
  rw [h0] at a4
  simp only [List.length_nil, List.range_zero, List.map_nil, List.sum_nil] at a4
  have hm2 : mu ⟨S1, K, l1⟩ ≤ 12305 := by
    refine Nat.le_trans hm ?_
    show 17 + 24 * ((List.range S1.thr.length).map fun i => (l1 i).left).sum ≤ 12305
    omega
  have := turns_n hT g
  have k3 : p'.S.n + mu p' ≤ S1.n + mu ⟨S1, K, l1⟩ := this
  exact ⟨by omega, by rw [turns_wb hT]; exact hires_wb h⟩

/-- Where a list of ints lies that came in. -/
structure InI (W : World) (p : Option Addr) (b o : Nat) (xs : List Int) : Prop where
  at_ : 0 < xs.length → p = some ⟨b, o, none⟩
  cell : ∀ k x, xs[k]? = some x → W.cell? ⟨b, o + k, none⟩ = some (I x)
  inr : ∀ x ∈ xs, InR x
  len : xs.length ≤ 17592186043904
theorem InI.grows {W W' : World} {p : Option Addr} {b o : Nat} {xs : List Int} (h : InI W p b o xs) (g : Grows W W') : InI W' p b o xs :=
  ⟨h.at_, fun k x hk => g.cell (h.cell k x hk), h.inr, h.len⟩
/-- Where scripts lie that came in. -/
structure InS (W : World) (p : Option Addr) (b o n : Nat) (pc : Nat → Option Addr) (ln cp rb : Nat → Nat) (cl : Nat → List Cl) : Prop where
  at_ : 0 < n → p = some ⟨b, o, none⟩
  row : ∀ k, k < n → W.cell? ⟨b, o + k, none⟩ = some (.slice (pc k) (ln k) (cp k))
  len : ∀ j, j < n → (cl j).length = ln j
  pq : ∀ j, j < n → 0 < ln j → pc j = some ⟨rb j, roOf (pc j), none⟩
  call : ∀ j, j < n → ∀ (k : Nat) (c : Cl), (cl j)[k]? = some c → W.cell? ⟨rb j, roOf (pc j) + k * 4, none⟩ = some (I c.po) ∧ W.cell? ⟨rb j, roOf (pc j) + k * 4 + 1, none⟩ = some (I c.ca) ∧ W.cell? ⟨rb j, roOf (pc j) + k * 4 + 2, none⟩ = some (I c.cb) ∧ W.cell? ⟨rb j, roOf (pc j) + k * 4 + 3, none⟩ = some (I c.cc)
  ok : ∀ j, j < n → ∀ c ∈ cl j, InR c.ca ∧ c.ok
  n : n ≤ 17592186043904
theorem InS.grows {W W' : World} {p : Option Addr} {b o n : Nat} {pc : Nat → Option Addr} {ln cp rb : Nat → Nat} {cl : Nat → List Cl} (h : InS W p b o n pc ln cp rb cl) (g : Grows W W') : InS W' p b o n pc ln cp rb cl :=
  ⟨h.at_, fun k hk => g.cell (h.row k hk), h.len, h.pq, fun j hj k c hc => by
    have := h.call j hj k c hc
    exact ⟨g.cell this.1, g.cell this.2.1, g.cell this.2.2.1, g.cell this.2.2.2⟩, h.ok, h.n⟩

theorem lens_scrs (N n xb rk ck : Nat) (K : List (Nat × Int)) (pc : Nat → Option Addr) (ln cp rb : Nat → Nat) (cl : Nat → List Cl) (hl : ∀ j, j < n → (cl j).length ≤ 64) : lens (scrs N n xb rk ck K pc ln cp rb cl) ≤ 64 * n := by
  unfold lens scrs
  rw [List.map_map]
  have : ∀ (m j : Nat), j + m ≤ n → ((List.range' j m).map ((fun s : Scr => s.calls.length) ∘ scrOf N n xb rk ck (K.map (·.1)) pc ln cp rb cl)).sum ≤ 64 * m := by
    intro m
    induction m with
    | zero => intro j _; simp
    | succ m ih =>
      intro j hj
      rw [List.range'_succ, List.map_cons, List.sum_cons]
      have h1 := ih (j + 1) (by omega)
      have h2 : ((fun s : Scr => s.calls.length) ∘ scrOf N n xb rk ck (K.map (·.1)) pc ln cp rb cl) j ≤ 64 := hl j (by omega)
      omega
  exact this n 0 (by omega)
theorem scrs_len (N n xb rk ck : Nat) (K : List (Nat × Int)) (pc : Nat → Option Addr) (ln cp rb : Nat → Nat) (cl : Nat → List Cl) : (scrs N n xb rk ck K pc ln cp rb cl).length = n := by simp [scrs]
theorem scrs_calls {N n xb rk ck : Nat} {K : List (Nat × Int)} {pc : Nat → Option Addr} {ln cp rb : Nat → Nat} {cl : Nat → List Cl} {s : Scr} (hs : s ∈ scrs N n xb rk ck K pc ln cp rb cl) : ∃ j, j < n ∧ s.calls = cl j := by
  simp only [scrs, List.mem_map, List.mem_range'] at hs
  obtain ⟨j, ⟨i, hi, rfl⟩, rfl⟩ := hs
  exact ⟨_, by omega, rfl⟩

/-- The world is new: the scripts lie there for Play. -/
theorem asked_of {W v : World} {p : Option Addr} {b o n : Nat} {pc : Nat → Option Addr} {ln cp rb : Nat → Nat} {cl : Nat → List Cl} (h : InS W p b o n pc ln cp rb cl) {xs : List Int} {wb bk : Nat} {sc : Value} (hn : IsNew W xs wb bk sc v) (h64 : ∀ j, j < n → ln j ≤ 64) (h0 : 0 < n) : Asked v (newS wb bk W.heap.size sc xs) n b o pc ln cp rb cl := by
  have g := h.grows hn.old
  have far : ∀ (a : Addr) (x : Value), W.cell? a = some x → ¬ Own (newS wb bk W.heap.size sc xs) [] a.block := fun a x ha ho => by
    have := hn.new _ (.inl ho)
    have := World.block_lt_of_cell? _ _ ha
    omega
  refine ⟨fun j hj => ⟨h.len j hj, h64 j hj⟩, g.row, far _ _ (h.row 0 h0), fun j hj hl => ⟨h.pq j hj hl, ?_⟩, g.call, fun j hj c hc => (h.ok j hj c hc).1⟩
  obtain ⟨c, hc⟩ : ∃ c, (cl j)[0]? = some c := ⟨_, List.getElem?_eq_getElem (by rw [h.len j hj]; exact hl)⟩
  exact far _ _ (h.call j hj 0 c hc).1

end Go.Proofs.Ytfjjoohflcchnaa
