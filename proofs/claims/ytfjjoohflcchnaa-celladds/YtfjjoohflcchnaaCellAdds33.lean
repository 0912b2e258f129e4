/- CellAdds returns true, whatever the schedule, the start and the numbers, and leaves what it was given as it was: of the law's statement as given, with no condition of our own. Part 33 of 34. (Joined, by program, of: Aw3, Aw4, Law4, Law4c.) -/
import Derived.Test.YtfjjoohflcchnaaCellAdds32
set_option linter.unusedSimpArgs false
set_option linter.unusedVariables false
namespace Go.Proofs.Ytfjjoohflcchnaa
open Go Go.Lift Go.Conc Go.RowKit

/-- What lies there at cell.Play's entry. -/
structure Set6 (v : World) (wb bk : Nat) (sc : Value) (c : Nat) (u : World) : Prop where
  mem : Mem zn (newS wb bk (v.heap.size + 1) sc [1]) [] u
  opn : Open u bk
  calls : u.heap[c]? = some (.cells #[I 5, I 0, I 1, I 0] 39)
  vals : u.heap[c + 1]? = some (.cells #[I 0] 3)
  scr : u.heap[c + 2]? = some (.cells #[.slice (some ⟨c, 0, none⟩) 1 1, .slice (some ⟨c, 0, none⟩) 1 1] 37)
  own : ∀ b, Own (newS wb bk (v.heap.size + 1) sc [1]) [] b ∨ b = bk → v.heap.size < b ∧ b < c
  old : Grows v u
/-- What lies there behind it. -/
structure Done6 (wb M A0 A1 : Nat) (S : TS) (u : World) : Prop where
  rep : Rep zn S u
  wb : S.wb = wb
  n : S.n = 6
  tr : S.tr = [I 0, I (-1), I 9, I 0, I 0, I 1, I (-1), I 9, I 0, I 0, I 1, I 0, I 5, I 0, I 1, I 1, I (-1), I 10, I 0, I 0, I 0, I 0, I 5, I 1, I 2, I 0, I (-1), I 10, I 0, I 0]
  m0 : u.cell? ⟨M, 0, none⟩ = some (.slice (some ⟨A0, 0, none⟩) 1 1)
  m1 : u.cell? ⟨M, 1, none⟩ = some (.slice (some ⟨A1, 0, none⟩) 1 1)
  x0 : u.cell? ⟨A0, 1, none⟩ = some (I 2)
  x1 : u.cell? ⟨A1, 1, none⟩ = some (I 1)

set_option maxHeartbeats 4000000 in
set_option maxRecDepth 100000 in
theorem awake_in {Ch : Nat → Prop} {Stop : Goroutine → World → Prop} {main : Bool} {v w : World} (cs : List Frame) {bc : Frame} {ac : Act} {ops : Array Oper} {q : Nat} {rest : List Nat} {oc : Oper} {k : List Item} (hoc : ops[q]? = some oc)
    (hvw : Rel zn v w) (hn : NoRow Ch v)
    (hk : ∀ v' w' (wb bk : Nat) (sc : Value) (c : Nat) (bd : Frame) (ad : Act) (od : Array Oper) (qd : Nat) (rd : List Nat) (oe : Oper) (kd : List Item), Rel zn v' w' → NoRow Ch v' → Set6 v wb bk sc c v' → od[qd]? = some oe →
      (∀ (Ch : Nat → Prop) (Stop : Goroutine → World → Prop) (S : TS) (M A0 A1 : Nat) (v w : World), Rel zn v w → NoRow Ch v → Done6 wb M A0 A1 S v → (∀ v' w', Rel zn v' w' → NoRow Ch v' → Grows v v' → GoesI Try.prog main (DT (ScZ zn) Ch) Stop (G (bc.at (ac.put oc.dst (.bool true)) (.inRegion ops rest :: k)) cs) w') → GoesI Try.prog main (DT (ScZ zn) Ch) Stop (G (bd.at (ad.put oe.dst (.tuple #[.slice (some ⟨M, 0, none⟩) 2 2, I 0])) (.inRegion od rd :: kd)) (bc.at ac (.inRegion ops (q :: rest) :: k) :: cs)) w) →
      GoesI Try.prog main (DT (ScZ zn) Ch) Stop (G ((base 19).at { tmps := #[Pt wb 0, .slice (some ⟨c + 1, 0, none⟩) 1 1, .slice (some ⟨c + 2, 0, none⟩) 2 2] ++ Array.replicate 39 undef, defers := [] } [.code B8]) (bd.at ad (.inRegion od (qd :: rd) :: kd) :: bc.at ac (.inRegion ops (q :: rest) :: k) :: cs)) w') :
    GoesI Try.prog main (DT (ScZ zn) Ch) Stop (G ((base 17).at { tmps := Array.replicate 72 undef, defers := [] } [.code B6]) (bc.at ac (.inRegion ops (q :: rest) :: k) :: cs)) w := by
  rw [eB6]
  refine goesI_seq (dt_idle _ _) ?_
  refine goesI_plain (z := zn) (wr := true) (L := LO) (I := NoRow Ch) hE fineO noRow_keeps (fun v v' w w' es hi hr ho he => dt_of_z v v' w w' es hi hr ho he) hvw fine60 rfl (by simp [base]) hn
    (Q := fun a w' => a = { tmps := #[.bool false] ++ Array.replicate 71 undef, defers := [] } ∧ w'.heap = v.heap ∧ w'.os = v.os ∧ w'.output = v.output) (fun τ => b60_wp (v := onTape v τ 0)) ?_
  rintro a0 v0 w0 ⟨rfl, e0, o0, u0⟩ hr0 hn0 -
  refine goesI_seq (dt_idle _ _) ?_
  refine goesI_plain (z := zn) (wr := true) (L := LO) (I := NoRow Ch) hE fineO noRow_keeps (fun v v' w w' es hi hr ho he => dt_of_z v v' w w' es hi hr ho he) hr0 fine61 rfl (by simp [base]) hn0
    (Q := fun a w' => ∃ wb bk sc, a = { tmps := #[.bool false, Pt wb 0, undef, undef, undef, undef, .slice (some ⟨v0.heap.size, 0, none⟩) 1 1, Pt wb 0] ++ Array.replicate 64 undef, defers := [] } ∧ IsNew (v0.alloc (.cells #[I 1] 3)) [1] wb bk sc w') (fun τ => wp_mono (b61_wp (v := onTape v0 τ 0)) (fun e a w' hq => ⟨hq.1, by
      obtain ⟨_, wb, bk, sc, h1, h2⟩ := hq
      exact ⟨wb, bk, sc, h1, h2.mem, h2.opn, h2.new, ⟨h2.old.size, h2.old.old, h2.old.os, h2.old.output⟩⟩⟩)) ?_
  rintro a1 v1 w1 ⟨wb, bk, sc, rfl, hnew⟩ hr1 hn1 -
  refine goesI_seq (dt_idle _ _) ?_
  refine goesI_plain (z := zn) (wr := true) (L := LO) (I := NoRow Ch) hE fineO noRow_keeps (fun v v' w w' es hi hr ho he => dt_of_z v v' w w' es hi hr ho he) hr1 fine62 rfl (by simp [base]) hn1
    (Q := fun a w' => a = { tmps := #[.bool false, Pt wb 0, .slice (some ⟨v1.heap.size, 0, none⟩) 1 1, undef, undef, undef, .slice (some ⟨v0.heap.size, 0, none⟩) 1 1, Pt wb 0, .agg #[I 5, I 0, I 1, I 0], .slice (some ⟨v1.heap.size, 0, none⟩) 1 1] ++ Array.replicate 62 undef, defers := [] } ∧ w'.heap = v1.heap.push (.cells #[I 5, I 0, I 1, I 0] 39) ∧ w'.os = v1.os ∧ w'.output = v1.output) (fun τ => b62_wp (v := onTape v1 τ 0) wb v0.heap.size) ?_
  rintro a2 v2 w2 ⟨rfl, e2, o2, u2⟩ hr2 hn2 -
  refine goesI_seq (dt_idle _ _) ?_
  have hset : Set6 v wb bk sc v1.heap.size ((v2.alloc (.cells #[I 0] 3)).alloc (.cells #[.slice (some ⟨v1.heap.size, 0, none⟩) 1 1, .slice (some ⟨v1.heap.size, 0, none⟩) 1 1] 37)) := by
    have ea : (v0.alloc (.cells #[I 1] 3)).heap.size = v.heap.size + 1 := by show (v0.heap.push _).size = _; rw [e0]; simp
    have hh : ((v2.alloc (.cells #[I 0] 3)).alloc (.cells #[.slice (some ⟨v1.heap.size, 0, none⟩) 1 1, .slice (some ⟨v1.heap.size, 0, none⟩) 1 1] 37)).heap = ((v1.heap.push (.cells #[I 5, I 0, I 1, I 0] 39)).push (.cells #[I 0] 3)).push (.cells #[.slice (some ⟨v1.heap.size, 0, none⟩) 1 1, .slice (some ⟨v1.heap.size, 0, none⟩) 1 1] 37) := by
      show (v2.heap.push _).push _ = _
      rw [e2]
    have hnm := hnew.mem
    have hnn := hnew.new
    rw [ea] at hnm hnn
    have hs1 : v.heap.size + 1 ≤ v1.heap.size := by rw [← ea]; exact hnew.old.size
    have k1 : ∀ b, b < v1.heap.size → ((v2.alloc (.cells #[I 0] 3)).alloc (.cells #[.slice (some ⟨v1.heap.size, 0, none⟩) 1 1, .slice (some ⟨v1.heap.size, 0, none⟩) 1 1] 37)).heap[b]? = v1.heap[b]? := fun b hb => by
      rw [hh, Array.getElem?_push, if_neg (by simp; omega), Array.getElem?_push, if_neg (by simp; omega), Array.getElem?_push, if_neg (by omega)]
    have gr1 : Grows v1 ((v2.alloc (.cells #[I 0] 3)).alloc (.cells #[.slice (some ⟨v1.heap.size, 0, none⟩) 1 1, .slice (some ⟨v1.heap.size, 0, none⟩) 1 1] 37)) := ⟨by rw [hh]; simp; omega, k1, o2, u2⟩
    have hbl : bk < v1.heap.size := by obtain ⟨c, m, h⟩ := hnew.opn; exact (Array.getElem?_eq_some_iff.1 h).1
    refine ⟨(hnm.grows gr1).mem, ?_, ?_, ?_, ?_, fun b hb => ⟨by have := hnn b hb; omega, ?_⟩, ?_⟩
    · obtain ⟨c, m, h⟩ := hnew.opn
      exact ⟨c, m, by rw [k1 bk hbl]; exact h⟩
    · rw [hh, Array.getElem?_push, if_neg (by simp; omega), Array.getElem?_push, if_neg (by simp), Array.getElem?_push, if_pos rfl]
    · rw [hh, Array.getElem?_push, if_neg (by simp), Array.getElem?_push, if_pos (by simp)]
    · rw [hh, Array.getElem?_push, if_pos (by simp)]
    · rcases hb with hb | rfl
      · exact hnm.lt hb
      · exact hbl
    · refine ⟨by have := gr1.size; omega, fun b hb => ?_, gr1.os.trans (hnew.old.os.trans o0), gr1.output.trans (hnew.old.output.trans u0)⟩
      rw [k1 b (by omega), hnew.old.old b (by rw [ea]; omega)]
      show (v0.heap.push _)[b]? = _
      rw [Array.getElem?_push, if_neg (by rw [e0]; omega), e0]
  have s2 : v2.heap.size = v1.heap.size + 1 := by rw [e2]; simp
  have s0 : v0.heap.size = v.heap.size := by rw [e0]
  clear e0 o0 u0 e2 o2 u2 hnew hr0 hn0 hr1 hn1 hvw hn
  unfold b63 B6 Try.f17 seq1 seq2
  simp only [Option.getD_some, Array.replicate_succ, Array.replicate_zero, List.push_toArray, List.append_toArray, List.nil_append, List.cons_append]
  refine goesI_region (dt_idle _ _) ?_
  simp only [List.size_toArray, List.length_cons, List.length_nil, Nat.reduceAdd, Nat.zero_add, List.range, List.range.loop]
  iterate 1
    (refine goesI_oper rfl rfl (by decide) (fun d K hK => ?_)
     go_simp
     refine hK _ _ ⟨dt_reads (fun e he => ?_), GoesI.at ?_ d⟩
     · have hm := mem_listed he
       simp [go_sem, *] at hm
       try exact ⟨_, _, hm⟩
     clear hK K)
  refine goesI_opZ (L := LO) rfl rfl (by decide) (fineOp_ask callO extT (by kernel_rfl)) hr2 hn2 (v' := v2.alloc (.cells #[I 0] 3)) (x := .slice (some ⟨v1.heap.size + 1, 0, none⟩) 1 1) (by rw [← s2]; go_simp) rfl (fun w3 hr3 hn3 => ?_)
  iterate 2
    (refine goesI_oper rfl rfl (by decide) (fun d K hK => ?_)
     go_simp
     refine hK _ _ ⟨dt_reads (fun e he => ?_), GoesI.at ?_ d⟩
     · have hm := mem_listed he
       simp [go_sem, *] at hm
       try exact ⟨_, _, hm⟩
     clear hK K)
  refine goesI_opZ (L := LO) rfl rfl (by decide) (fineOp_ask callO extT (by kernel_rfl)) hr3 hn3 (v' := (v2.alloc (.cells #[I 0] 3)).alloc (.cells #[.slice (some ⟨v1.heap.size, 0, none⟩) 1 1, .slice (some ⟨v1.heap.size, 0, none⟩) 1 1] 37)) (x := .slice (some ⟨v1.heap.size + 2, 0, none⟩) 2 2) (by rw [show v1.heap.size + 2 = v2.heap.size + 1 by omega]; go_simp) rfl (fun w4 hr4 hn4 => ?_)
  refine goesI_into (f := 19) (fn := Try.f19) (args := #[Pt wb 0, .slice (some ⟨v1.heap.size + 1, 0, none⟩) 1 1, .slice (some ⟨v1.heap.size + 2, 0, none⟩) 2 2]) (dt_idle _ _) rfl rfl (by decide) rfl (by simp [Act.eval, Act.put]) Try.func19 (by decide) rfl ?_
  refine hk _ w4 wb bk sc v1.heap.size _ _ _ _ _ _ _ hr4 hn4 hset rfl (fun Ch Stop S M A0 A1 vv ww hvw hn hD hg => ?_)
  clear hk hset hr4 hn4 hr2 hn2 hr3 hn3
  have hwb := hD.wb
  subst hwb
  iterate 5
    (refine goesI_oper rfl rfl (by decide) (fun d K hK => ?_)
     go_simp
     refine hK _ _ ⟨dt_reads (fun e he => ?_), GoesI.at ?_ d⟩
     · have hm := mem_listed he
       simp [go_sem, *] at hm
       try exact ⟨_, _, hm⟩
     clear hK K)
  refine goesI_regionEnd (dt_idle _ _) ?_
  refine goesI_seq (dt_idle _ _) ?_
  refine goesI_plain (z := zn) (wr := true) (L := LO) (I := NoRow Ch) hE fineO noRow_keeps (fun v v' w w' es hi hr ho he => dt_of_z v v' w w' es hi hr ho he) hvw fine64 rfl (by simp [base]) hn
    (Q := fun a w' => ∃ g cap, a = { tmps := #[.bool false, Pt S.wb 0, .slice (some ⟨v1.heap.size, 0, none⟩) 1 1, .slice (some ⟨M, 0, none⟩) 2 2, I 0, .slice (some ⟨g, 0, none⟩) 6 cap, .slice (some ⟨v.heap.size, 0, none⟩) 1 1, Pt S.wb 0, .agg #[I 5, I 0, I 1, I 0], .slice (some ⟨v1.heap.size, 0, none⟩) 1 1, .tuple #[.slice (some ⟨M, 0, none⟩) 2 2, I 0], Pt S.wb 0, .slice (some ⟨v1.heap.size + 1, 0, none⟩) 1 1, .slice (some ⟨v1.heap.size, 0, none⟩) 1 1, .slice (some ⟨v1.heap.size, 0, none⟩) 1 1, .slice (some ⟨v1.heap.size + 2, 0, none⟩) 2 2, .tuple #[.slice (some ⟨M, 0, none⟩) 2 2, I 0], .slice (some ⟨M, 0, none⟩) 2 2, I 0, Pt S.wb 0, .slice (some ⟨g, 0, none⟩) 6 cap] ++ Array.replicate 51 undef, defers := [] } ∧ w'.ownsRow vv.heap.size 34 5 (.slice (some ⟨g, 0, none⟩) S.n cap) S.n S.tr ∧ Grows vv w') (fun τ => ?_) ?_
  · have h := b64_wp (v := onTape vv τ 0) (S := S) (hD.rep.same (v' := onTape vv τ 0) rfl) (by rw [hD.n]; decide) (by rw [hD.n]; decide) (by rw [hD.tr]; decide) (.slice (some ⟨v1.heap.size, 0, none⟩) 1 1) (.slice (some ⟨M, 0, none⟩) 2 2) (I 0) (.slice (some ⟨v.heap.size, 0, none⟩) 1 1) (Pt S.wb 0) (.agg #[I 5, I 0, I 1, I 0]) (.slice (some ⟨v1.heap.size, 0, none⟩) 1 1) (.tuple #[.slice (some ⟨M, 0, none⟩) 2 2, I 0]) (Pt S.wb 0) (.slice (some ⟨v1.heap.size + 1, 0, none⟩) 1 1) (.slice (some ⟨v1.heap.size, 0, none⟩) 1 1) (.slice (some ⟨v1.heap.size, 0, none⟩) 1 1) (.slice (some ⟨v1.heap.size + 2, 0, none⟩) 2 2) (.tuple #[.slice (some ⟨M, 0, none⟩) 2 2, I 0]) (.slice (some ⟨M, 0, none⟩) 2 2) (I 0)
    simp only [Array.replicate_succ, Array.replicate_zero, List.push_toArray, List.append_toArray, List.nil_append, List.cons_append] at h ⊢
    refine wp_mono h (fun e a w' hq => ⟨hq.1, ?_⟩)
    obtain ⟨_, g, cap, rfl, hown, hgr⟩ := hq
    exact ⟨g, cap, by rw [hD.n], hown, ⟨hgr.size, hgr.old, hgr.os, hgr.output⟩⟩
  rintro a5 v5 w5 ⟨g, cap, rfl, hown, hgr⟩ hr5 hn5 -
  have hc : ∀ (j : Nat) (x : Value), S.tr[j]? = some x → v5.cell? ⟨g, j, none⟩ = some x := fun j x hj => by
    have := hown.cells (g := g) rfl j x hj
    rw [show (⟨g, 0, none⟩ : Addr).add j = ⟨g, j, none⟩ by unfold Addr.add; split <;> simp_all] at this
    exact this
  rw [hD.tr] at hc
  refine goesI_seq (dt_idle _ _) ?_
  refine goesI_plain (z := zn) (wr := true) (L := LO) (I := NoRow Ch) hE fineO noRow_keeps (fun v v' w w' es hi hr ho he => dt_of_z v v' w w' es hi hr ho he) hr5 fine65 rfl (by simp [base]) hn5
    (Q := fun a w' => a.tmps.getD 0 undef = .bool true ∧ w'.heap = v5.heap ∧ w'.os = v5.os ∧ w'.output = v5.output) (fun τ => b65_wp (v := onTape v5 τ 0) M A0 A1 g cap (hgr.cell hD.m0) (hgr.cell hD.m1) (hgr.cell hD.x0) (hgr.cell hD.x1) (hc 10 _ rfl) (hc 11 _ rfl) (hc 12 _ rfl) (hc 13 _ rfl) (hc 14 _ rfl) _ _ _ _ _ _ _ _ _ _ _ _ _ _ _ _ _) ?_
  rintro a6 v6 w6 ⟨ht, e6, o6, u6⟩ hr6 hn6 hd6
  refine GoesI.ctl rfl (fun _ => stepG_ret') (dt_idle _ _) ?_
  refine goesI_leave (b := base 17) (fn := Try.f17) (v := .bool true) rfl hd6 Try.func17 (fun w => ?_) (fun w => by simp [results, go_sem, Try.f17]) hoc (dt_idle _ _) ?_
  · rw [results_tmp (t := 0) rfl, ht]
  · exact hg v6 w6 hr6 hn6 ⟨by rw [e6]; exact hgr.size, fun b hb => by rw [e6]; exact hgr.old b hb, o6.trans hgr.os, u6.trans hgr.output⟩
end Go.Proofs.Ytfjjoohflcchnaa

namespace Go.Proofs.Ytfjjoohflcchnaa
open Go Go.Lift Go.Conc Go.RowKit
open Go.ConcN (upd upd_same upd_ne)

section
variable {wb bk base : Nat} {sc cv : Value} {cb : Nat} {l0 : Nat → Ph}
theorem aw7 (tv0 : Value) (tb0 gc0 : Nat) (tv1 : Value) (tb1 gc1 : Nat) : (pt (pt (awP wb bk base sc cv tv0 tb0 gc0 tv1 tb1 gc1 cb l0))).S.wb = wb := by kernel_rfl
theorem hires_aw {N xb rk ck c : Nat} {S1 : TS} {l1 : Nat → Ph} (h : Hires 1 0 (scrs N 2 xb rk ck [(cb, 0)] (fun _ => some ⟨c, 0, none⟩) (fun _ => 1) (fun _ => 1) (fun _ => c) (fun _ => [cl5])) (awS wb bk base sc cv) l0 S1 l1) :
    ∃ tv0 tb0 gc0 tv1 tb1 gc1, (⟨S1, [(cb, 0)], l1⟩ : PSt) = awP wb bk base sc cv tv0 tb0 gc0 tv1 tb1 gc1 cb l0 := by
  have e : (scrs N 2 xb rk ck [(cb, 0)] (fun _ => some ⟨c, 0, none⟩) (fun _ => 1) (fun _ => 1) (fun _ => c) (fun _ => [cl5])) = [scrOf N 2 xb rk ck [cb] (fun _ => some ⟨c, 0, none⟩) (fun _ => 1) (fun _ => 1) (fun _ => c) (fun _ => [cl5]) 0, scrOf N 2 xb rk ck [cb] (fun _ => some ⟨c, 0, none⟩) (fun _ => 1) (fun _ => 1) (fun _ => c) (fun _ => [cl5]) 1] := rfl
  rw [e] at h
  cases h with
  | cons tv0 tb0 gc0 h =>
    cases h with
    | cons tv1 tb1 gc1 h =>
      cases h
      exact ⟨tv0, tb0, gc0, tv1, tb1, gc1, rfl⟩
end

theorem asked6 {v u : World} {wb bk : Nat} {sc : Value} {c : Nat} (s : Set6 v wb bk sc c u) : Asked u (newS wb bk (v.heap.size + 1) sc [1]) 2 (c + 2) 0 (fun _ => some ⟨c, 0, none⟩) (fun _ => 1) (fun _ => 1) (fun _ => c) (fun _ => [cl5]) := by
  refine ⟨fun j hj => ⟨rfl, by decide⟩, fun k hk => ?_, fun h => by have := (s.own _ (.inl h)).2; omega, fun j hj _ => ⟨rfl, fun h => by have := (s.own _ (.inl h)).2; omega⟩, fun j hj k x hx => ?_, fun j hj x hx => ?_⟩
  · unfold World.cell?
    rw [show u.heap[c + 2]? = _ from s.scr]
    have : k = 0 ∨ k = 1 := by omega
    rcases this with rfl | rfl <;> rfl
  · match k, hx with
    | 0, hx =>
      cases hx
      unfold World.cell?
      rw [show u.heap[c]? = _ from s.calls]
      exact ⟨rfl, rfl, rfl, rfl⟩
    | k + 1, hx => simp at hx
  · simp only [List.mem_singleton] at hx
    subst hx
    decide

set_option maxHeartbeats 1000000 in
theorem awake_all {cs : List Frame} {bc : Frame} {ac : Act} {ops : Array Oper} {q0 : Nat} {rest : List Nat} {oc : Oper} {k0 : List Item} (hoc : ops[q0]? = some oc) {w : World} {T : Trace} {gs : Array Goroutine} {q : Nat → Nat} (sl : Option (Nat × Nat)) (A : Alone gs w T q)
    (hg : gs[0]? = some (G ((base 17).at { tmps := Array.replicate 72 undef, defers := [] } [.code B6]) (bc.at ac (.inRegion ops (q0 :: rest) :: k0) :: cs))) :
    ∃ (N' : Nat) (gs' : Array Goroutine) (w' : World) (sl' : Option (Nat × Nat)) (T' : Trace) (q' : Nat → Nat),
      runNT Try.prog N' (crowd gs w sl) T = (.next (crowd gs' w' sl'), T') ∧ gs'[0]? = some (G (bc.at (ac.put oc.dst (.bool true)) (.inRegion ops rest :: k0)) cs) ∧ Alone gs' w' T' q' ∧ Grows w w' := by
  have hG : GoesI Try.prog true (DT (ScZ zn) (fun _ => False)) (fun g w' => ∃ (wb bk : Nat) (sc : Value) (c : Nat) (bd : Frame) (ad : Act) (od : Array Oper) (qd : Nat) (rd : List Nat) (oe : Oper) (kd : List Item), Set6 w wb bk sc c w' ∧ od[qd]? = some oe ∧
      (∀ (Ch : Nat → Prop) (Stop : Goroutine → World → Prop) (S : TS) (M A0 A1 : Nat) (v w : World), Rel zn v w → NoRow Ch v → Done6 wb M A0 A1 S v → (∀ v' w', Rel zn v' w' → NoRow Ch v' → Grows v v' → GoesI Try.prog true (DT (ScZ zn) Ch) Stop (G (bc.at (ac.put oc.dst (.bool true)) (.inRegion ops rest :: k0)) cs) w') → GoesI Try.prog true (DT (ScZ zn) Ch) Stop (G (bd.at (ad.put oe.dst (.tuple #[.slice (some ⟨M, 0, none⟩) 2 2, I 0])) (.inRegion od rd :: kd)) (bc.at ac (.inRegion ops (q0 :: rest) :: k0) :: cs)) w) ∧
      g = G ((base 19).at { tmps := #[Pt wb 0, .slice (some ⟨c + 1, 0, none⟩) 1 1, .slice (some ⟨c + 2, 0, none⟩) 2 2] ++ Array.replicate 39 undef, defers := [] } [.code B8]) (bd.at ad (.inRegion od (qd :: rd) :: kd) :: bc.at ac (.inRegion ops (q0 :: rest) :: k0) :: cs)) (G ((base 17).at { tmps := Array.replicate 72 undef, defers := [] } [.code B6]) (bc.at ac (.inRegion ops (q0 :: rest) :: k0) :: cs)) w := by
    refine awake_in cs hoc (Rel.refl w) (fun c hc => hc.elim) (fun v' w' wb bk sc c bd ad od qd rd oe kd hr hn hset ho hback => GoesI.stop fun d => ⟨wb, bk, sc, c, bd, ad, od, qd, rd, oe, kd, ?_, ho, hback, rfl⟩)
    have e : (w'.at d).heap = v'.heap := hr.eq
    have hgr : Grows v' (w'.at d) := ⟨by rw [e]; exact Nat.le_refl _, fun b _ => by rw [e], hr.os, hr.output⟩
    refine ⟨(hset.mem.grows hgr).mem, ?_, by rw [e]; exact hset.calls, by rw [e]; exact hset.vals, by rw [e]; exact hset.scr, hset.own, ⟨by rw [e]; exact hset.old.size, fun b hb => by rw [e]; exact hset.old.old b hb, hr.os.trans hset.old.os, hr.output.trans hset.old.output⟩⟩
    obtain ⟨c, m, h⟩ := hset.opn
    exact ⟨c, m, by rw [e]; exact h⟩
  obtain ⟨N1, gs1, a1, w1, sl1, T1, q1, r1, z1, h1, ⟨wb, bk, sc, c, bd, ad, od, qd, rd, oe, kd, s, hoe, hback, rfl⟩, A1⟩ := alone_goes A hg sl hG
  have hKof : ∀ K : List (Nat × Int), K.map (·.2) = [0] → ∃ cb, K = [(cb, 0)] := fun K hK => by
    match K, hK with
    | [], hK => cases hK
    | [x], hK =>
      obtain ⟨a, b⟩ := x
      simp only [List.map_cons, List.map_nil, List.cons.injEq, and_true] at hK
      subst hK
      exact ⟨a, rfl⟩
    | x :: y :: l, hK => simp at hK
  have l0 : Nat → Ph := fun _ => .done []
  obtain ⟨N2, gs2, w2, sl2, T2, q2, N, cv, K, S', S1, l1, m, p', r2, z2, h2, A2, hK, hnv, hH, hT, O⟩ := play8_all (S := newS wb bk (w.heap.size + 1) sc [1]) (xs := [0]) (n := 2) (sb := c + 2) (so := 0) (vb := c + 1) (vo := 0) (vcap := 1) (cap := 2) (pc := fun _ => some ⟨c, 0, none⟩) (ln := fun _ => 1) (cp := fun _ => 1) (rb := fun _ => c) (cl := fun _ => [cl5]) hoe sl1 2 A1 h1 s.mem rfl rfl rfl s.opn (asked6 s) (by decide) (by decide) (by decide) (fun k x hk => by
      match k, hk with
      | 0, hk =>
        cases hk
        unfold World.cell?
        rw [show w1.heap[c + 1]? = _ from s.vals]
        rfl
      | k + 1, hk => simp at hk) (fun h => by have := (s.own _ (.inl h)).2; omega) (fun N K => by show 0 + 2 * (1 + (1 + 0)) ≤ 1000000; decide) (by show 1 ≤ 4611686018427387904; decide) (by show ∀ x ∈ [(1 : Int)], _; decide) l0 (fun N cv K hK S1 l1 hH => by
      obtain ⟨cb, rfl⟩ := hKof K hK
      obtain ⟨tv0, tb0, gc0, tv1, tb1, gc1, e⟩ := hires_aw (wb := wb) (bk := bk) (base := w.heap.size + 1) (sc := sc) (cv := cv) hH
      exact ⟨2, _, Nat.le_refl _, by rw [e]; exact aw_turns wb bk _ sc cv tv0 tb0 gc0 tv1 tb1 gc1 cb l0, by rw [aw5]; decide⟩)
  obtain ⟨cb, rfl⟩ := hKof K hK
  obtain ⟨tv0, tb0, gc0, tv1, tb1, gc1, e⟩ := hires_aw (wb := wb) (bk := bk) (base := w.heap.size + 1) (sc := sc) (cv := cv) hH
  have hT' : Turns 1 m (⟨S1, [(cb, 0)], l1⟩ : PSt) p' := hT
  rw [e] at hT'
  have hp := turns_det hT' (aw_turns wb bk (w.heap.size + 1) sc cv tv0 tb0 gc0 tv1 tb1 gc1 cb l0)
  have hSn : S'.n = 6 := by
    have := congrArg TS.n hnv
    rw [hp, aw5] at this
    exact this
  have hStr := congrArg TS.tr hnv
  rw [hp, aw4] at hStr
  have hSw : S'.wb = wb := by
    have := congrArg TS.wb hnv
    rw [hp, aw7] at this
    exact this
  have hans := aw6 wb bk (w.heap.size + 1) sc cv tv0 tb0 gc0 tv1 tb1 gc1 cb l0
  rw [← hp] at hans
  have a0 := (O.ans 0 (by decide)).2.1 (by decide)
  have a1 := (O.ans 1 (by decide)).2.1 (by decide)
  rw [hans.1] at a0
  rw [hans.2] at a1
  have hD : Done6 wb (N + 1) (N + 4 + 3 * 0 + 2) (N + 4 + 3 * 1 + 2) S' w2 := by
    refine ⟨O.mem.rep, hSw, hSn, hStr, O.rows 0 (by decide), O.rows 1 (by decide), ?_, ?_⟩
    · unfold World.cell?
      rw [show w2.heap[N + 4 + 3 * 0 + 2]? = _ from a0]
      rfl
    · unfold World.cell?
      rw [show w2.heap[N + 4 + 3 * 1 + 2]? = _ from a1]
      rfl
  obtain ⟨N3, gs3, a3, w3, sl3, T3, q3, r3, z3, h3, ⟨rfl, hg3⟩, A3⟩ := alone_goes A2 h2 sl2 (hback (fun _ => False) (fun g w' => g = G (bc.at (ac.put oc.dst (.bool true)) (.inRegion ops rest :: k0)) cs ∧ Grows w2 w') S' (N + 1) _ _ w2 w2 (Rel.refl w2) (fun c hc => hc.elim) hD (fun v' w' hr hn hgr => GoesI.stop fun d => ⟨rfl, by
      have e : (w'.at d).heap = v'.heap := hr.eq
      exact ⟨by rw [e]; exact hgr.size, fun b hb => by rw [e]; exact hgr.old b hb, hr.os.trans hgr.os, hr.output.trans hgr.output⟩⟩))
  refine ⟨N1 + N2 + N3, gs3, w3, sl3, T3, q3, runNT_then (runNT_then r1 r2) r3, h3, A3, ⟨by have := s.old.size; have := O.size; have := hg3.size; omega, fun b hb => ?_, hg3.os.trans (O.os.trans s.old.os), hg3.output.trans (O.out.trans s.old.output)⟩⟩
  have hs1 := s.old.size
  have hno : ¬ (Own (newS wb bk (w.heap.size + 1) sc [1]) [] b ∨ b = bk) := fun h => by have := (s.own b h).1; omega
  have h5 := O.old b (by omega) (fun h => hno (.inl h)) (fun h => hno (.inr h))
  rw [hg3.old b (by have := O.size; omega), h5.1, s.old.old b hb]
end Go.Proofs.Ytfjjoohflcchnaa

namespace Go.Proofs.Ytfjjoohflcchnaa
open Go Go.Lift Go.Conc Go.RowKit

theorem fram_start (m : Nat) (s0 s1 s2 : Value) : Fram (3 + m) [(0, s0), (1, s1), (2, s2)] { tmps := #[s0, s1, s2] ++ Array.replicate m undef, defers := [] } := by
  refine ⟨by simp, rfl, ?_, ?_, ?_, trivial⟩ <;> simp [Array.getElem?_append]
noncomputable abbrev R4 : Code := .seq e42 (.seq e44 (.seq e45 (.seq e46 (.seq e419 (.seq e420 (.seq e421 P4))))))

set_option maxHeartbeats 4000000 in
set_option maxRecDepth 100000 in
theorem law4_a {Ch : Nat → Prop} {Stop : Goroutine → World → Prop} {main : Bool} {w : World} (s0 s1 s2 : Value)
    (hk : ∀ (w' : World) (bd : Frame) (ad : Act) (od : Array Oper) (qd : Nat) (rd : List Nat) (oe : Oper) (kd : List Item), (∃ d, w' = w.at d) → od[qd]? = some oe →
      (∀ (Ch : Nat → Prop) (Stop : Goroutine → World → Prop) (w1 : World), (∀ a, Fram 191 [(0, s0), (1, s1), (2, s2), (7, .bool true)] a → GoesI Try.prog main (DT (ScZ zn) Ch) Stop (G ((base 4).at a [.code R4]) []) w1) → GoesI Try.prog main (DT (ScZ zn) Ch) Stop (G (bd.at (ad.put oe.dst (.bool true)) (.inRegion od rd :: kd)) []) w1) →
      GoesI Try.prog main (DT (ScZ zn) Ch) Stop (G ((base 17).at { tmps := Array.replicate 72 undef, defers := [] } [.code B6]) [bd.at ad (.inRegion od (qd :: rd) :: kd)]) w') :
    GoesI Try.prog main (DT (ScZ zn) Ch) Stop (G ((base 4).at { tmps := #[s0, s1, s2] ++ Array.replicate 188 undef, defers := [] } [.code B4]) []) w := by
  refine (show ∀ a : Act, Fram 191 [(0, s0), (1, s1), (2, s2)] a → GoesI Try.prog main (DT (ScZ zn) Ch) Stop (G ((base 4).at a [.code B4]) []) w from fun a hF => ?_) _ (fram_start 188 s0 s1 s2)
  obtain ⟨f0, f1, f2, -⟩ := hF.at_
  obtain ⟨u, rfl, hg⟩ := litN hF.size hF.defers
  have u0 := (hg 0).symm.trans f0
  have u1 := (hg 1).symm.trans f1
  have u2 := (hg 2).symm.trans f2
  clear hg hF f0 f1 f2
  rw [eB4]
  refine goesI_seq (dt_idle _ _) ?_
  generalize hR : R4 = R at hk
  have hR' : (Code.seq e42 (.seq e44 (.seq e45 (.seq e46 (.seq e419 (.seq e420 (.seq e421 P4))))))) = R := hR
  rw [hR']
  unfold B4 Try.f4 seq1 seq2
  simp only [Option.getD_some, lis, Nat.reduceAdd, u0, u1, u2]
  clear u0 u1 u2
  refine goesI_region (dt_idle _ _) ?_
  simp only [List.size_toArray, List.length_cons, List.length_nil, Nat.reduceAdd, Nat.zero_add, List.range, List.range.loop]
  (refine goesI_oper rfl rfl (by decide) (fun d K hK => ?_)
   go_simp
   refine hK _ _ ⟨dt_reads (fun e he => ?_), GoesI.at ?_ d⟩
   · have hm := mem_listed he
     simp [go_sem, *] at hm
   clear hK K)
  refine goesI_regionEnd (dt_idle _ _) ?_
  refine goesI_seq (dt_idle _ _) ?_
  refine goesI_region (dt_idle _ _) ?_
  simp only [List.size_toArray, List.length_cons, List.length_nil, Nat.reduceAdd, Nat.zero_add, List.range, List.range.loop]
  refine goesI_into (f := 17) (fn := Try.f17) (args := #[]) (dt_idle _ _) rfl rfl (by decide) rfl (by simp [Act.eval]) Try.func17 (by decide) rfl ?_
  refine hk w _ _ _ _ _ _ _ ⟨w.drawn, rfl⟩ rfl (fun Ch Stop w1 hg => ?_)
  clear hk
  (refine goesI_oper rfl rfl (by decide) (fun d K hK => ?_)
   go_simp
   refine hK _ _ ⟨dt_reads (fun e he => ?_), GoesI.at ?_ d⟩
   · have hm := mem_listed he
     simp [go_sem, *] at hm
   clear hK K)
  refine goesI_regionEnd (dt_idle _ _) ?_
  exact hg _ ⟨rfl, rfl, rfl, rfl, rfl, rfl, trivial⟩

end Go.Proofs.Ytfjjoohflcchnaa

namespace Go.Proofs.Ytfjjoohflcchnaa
open Go Go.Lift Go.Conc Go.RowKit

/-- What lies there at Play's entry. -/
structure Set4 (v : World) (start : Int) (az : Nat → List Nat) (n : Nat) (sched : List Int) (wb bk : Nat) (sc : Value) (og : Nat) (pc : Nat → Option Addr) (cp rb : Nat → Nat) (vb : Nat) (v5 u : World) : Prop where
  old : Grows v v5
  new : IsNew v5 sched wb bk sc u
  scr : InS v5 (some ⟨og, 0, none⟩) og 0 n pc (fun j => (addS start az j).length) cp rb (addS start az)
  val : u.cell? ⟨vb, 0, none⟩ = some (I start)
  far : ¬ Own (newS wb bk v5.heap.size sc sched) [] vb
/-- What lies there behind it. -/
structure Got4 (v2 : World) (start : Int) (p : Option Addr) (b o n : Nat) (qa : Nat → Option Addr) (ca ib io : Nat → Nat) (za : Nat → List Int) (og : Nat) (pc : Nat → Option Addr) (cp : Nat → Nat) (wb M : Nat) : Prop where
  inA : InA v2 p b o n qa ca ib io za
  ans : ∃ Ab vals, Ans v2 M n og Ab (fun j => (addS start (azOf za) j).length) pc cp vals ∧ (∀ j, j < n → (vals j).length = (za j).length) ∧ (∀ j, (vals j).length ≤ 64) ∧ ∀ (i k : Nat) (x y : Int), k < i → (seenOf vals n)[i]? = some x → (seenOf vals n)[k]? = some y → x ≠ y
  tr : ∃ S L, S.wb = wb ∧ Rep zn S v2 ∧ S.tr = flat L ∧ S.n = L.length ∧ S.n ≤ 1000000 ∧ lastAdd start L = wrap64 (start + total (azOf za) n)

section
variable {Ch : Nat → Prop} {Stop : Goroutine → World → Prop} {main : Bool}

/-- Behind Play. -/
theorem law4_c {v w : World} {start : Int} {p : Option Addr} {b o n cap : Nat} {qa : Nat → Option Addr} {ca ib io : Nat → Nat} {za : Nat → List Int} {og ocap : Nat} {pc : Nat → Option Addr} {cp : Nat → Nat} {wb M : Nat} (hn : 0 < n ∧ n ≤ 8) (hG : Got4 v start p b o n qa ca ib io za og pc cp wb M) (hvw : Rel zn v w) (hnr : NoRow Ch v)
    (hend : ∀ a' v' w' todo, Rel zn v' w' → Grows v v' → a'.defers = [] → a'.tmps.getD 6 undef = .bool true → GoesI Try.prog main (DT (ScZ zn) Ch) Stop (G { (base 4).at a' todo with mode := .returning } []) w') {a : Act}
    (hF : Fram 191 ((16, I 0) :: slots4 start (wrap64 (start + total (azOf za) n)) (.slice p n cap) (.slice (some ⟨og, 0, none⟩) n ocap) wb M n) a) : GoesI Try.prog main (DT (ScZ zn) Ch) Stop (G ((base 4).at a [.code P4]) []) w := by
  obtain ⟨Ab, vals, hA, hvl, hv64, hdis⟩ := hG.ans
  obtain ⟨S, L, rfl, hrep, htr, hSn, hS1, hlast⟩ := hG.tr
  rw [eP4z]
  refine goesI_seq (dt_idle _ _) ?_
  refine goesI_plain (z := zn) (wr := true) (L := LO) (I := NoRow Ch) hE fineO noRow_keeps (fun v v' w w' es hi hr ho he => dt_of_z v v' w w' es hi hr ho he) hvw fineq22 hF.defers (by simp [base]) hnr
    (Q := fun a w' => Fram 191 (slots4 start (wrap64 (start + total (azOf za) n)) (.slice p n cap) (.slice (some ⟨og, 0, none⟩) n ocap) S.wb M n) a ∧ w'.heap = v.heap ∧ w'.os = v.os ∧ w'.output = v.output) (fun τ => q422_wp (v := onTape v τ 0) hF) ?_
  rintro a1 v1 w1 ⟨hF1, e1, o1, u1⟩ hr1 hn1 -
  refine goesI_seq (dt_idle _ _) ?_
  refine goesI_plain (z := zn) (wr := true) (L := LO) (I := NoRow Ch) hE fineO noRow_keeps (fun v v' w w' es hi hr ho he => dt_of_z v v' w w' es hi hr ho he) hr1 fineq24 hF1.defers (by simp [base]) hn1
    (Q := fun a w' => Fram 191 ((17, .slice none 0 0) :: slots4 start (wrap64 (start + total (azOf za) n)) (.slice p n cap) (.slice (some ⟨og, 0, none⟩) n ocap) S.wb M n) a ∧ w'.heap = v1.heap ∧ w'.os = v1.os ∧ w'.output = v1.output) (fun τ => q424_wp (v := onTape v1 τ 0) hF1) ?_
  rintro a2 v2 w2 ⟨hF2, e2, o2, u2⟩ hr2 hn2 -
  have g2 : Grows v v2 := ⟨by rw [e2, e1]; exact Nat.le_refl _, fun b _ => by rw [e2, e1], by rw [o2, o1], by rw [u2, u1]⟩
  refine goesI_seq (dt_idle _ _) ?_
  refine goesI_plain (z := zn) (wr := true) (L := LO) (I := NoRow Ch) hE fineO noRow_keeps (fun v v' w w' es hi hr ho he => dt_of_z v v' w w' es hi hr ho he) hr2 fineq25 hF2.defers (by simp [base]) hn2
    (Q := fun a w' => ∃ sv, Fram 191 ((17, sv) :: slots4 start (wrap64 (start + total (azOf za) n)) (.slice p n cap) (.slice (some ⟨og, 0, none⟩) n ocap) S.wb M n) a ∧ Seen v2 sv (seenOf vals n) w') (fun τ => wp_mono (q425_wp (v := onTape v2 τ 0) ((hG.inA.stn (P := fun _ => True) g2).stn (P := fun _ => True) ⟨Nat.le_refl _, fun _ _ => rfl, rfl, rfl⟩) hn ((hA.grows g2).grows ⟨Nat.le_refl _, fun _ _ => rfl, rfl, rfl⟩) hvl hv64 hF2) (fun e a w' hq => ⟨hq.1, by
      obtain ⟨_, sv, h1, h2⟩ := hq
      exact ⟨sv, h1, h2.own, ⟨h2.old.size, h2.old.old, h2.old.os, h2.old.output⟩⟩⟩)) ?_
  rintro a3 v3 w3 ⟨sv, hF3, hSe⟩ hr3 hn3 -
  refine goesI_seq (dt_idle _ _) ?_
  refine goesI_plain (z := zn) (wr := true) (L := LO) (I := NoRow Ch) hE fineO noRow_keeps (fun v v' w w' es hi hr ho he => dt_of_z v v' w w' es hi hr ho he) hr3 fineq34 hF3.defers (by simp [base]) hn3
    (Q := fun a w' => Fram 191 (slots4 start (wrap64 (start + total (azOf za) n)) (.slice p n cap) (.slice (some ⟨og, 0, none⟩) n ocap) S.wb M n) a ∧ w'.heap = v3.heap ∧ w'.os = v3.os ∧ w'.output = v3.output) (fun τ => q434_wp (v := v2) (w := onTape v3 τ 0) (l := seenOf vals n) ⟨own_stay (fun b _ => rfl) hSe.own, ⟨hSe.old.size, hSe.old.old, hSe.old.os, hSe.old.output⟩⟩ (by have := seenOf_le vals hv64 n; omega) hdis hF3) ?_
  rintro a4 v4 w4 ⟨hF4, e4, o4, u4⟩ hr4 hn4 -
  have g4 : Grows v v4 := by
    have := g2.trans' hSe.old
    exact ⟨by rw [e4]; exact this.size, fun b hb => by rw [e4]; exact this.old b hb, o4.trans this.os, u4.trans this.output⟩
  have hfin := lift_code (P := Try.prog) (z := zn) (wr := true) (L := LO) (D := DT (ScZ zn) Ch) (I := NoRow Ch) (main := main) (b := base 4) (k := []) (cs := []) hE fineO noRow_keeps (fun v v' w w' es hi hr ho he => dt_of_z v v' w w' es hi hr ho he) hr4 fineZ4 hF4.defers (by simp [base]) hn4
    (Q := fun e a w' => e = .ret ∧ a.tmps.getD 6 undef = .bool true ∧ Grows v4 w') (fun τ => wp_mono (z4_wp (v := onTape v4 τ 0) ((hrep.grows g4.size g4.old).same (v' := onTape v4 τ 0) rfl) L htr hSn hS1 hlast hF4) (fun e a w' hq => ⟨hq.1, hq.2.1, hq.2.2.size, hq.2.2.old, hq.2.2.os, hq.2.2.output⟩)) (fun e a w hq => .inr hq.1)
  refine hfin.then ?_
  rintro g w' ⟨a', v', hr, hiv, hd, ⟨⟨hq, _⟩, _⟩ | ⟨⟨_, h6, hgr⟩, todo, rfl⟩⟩
  · cases hq
  · exact hend a' v' w' todo hr (g4.trans' hgr) hd h6
end
end Go.Proofs.Ytfjjoohflcchnaa
