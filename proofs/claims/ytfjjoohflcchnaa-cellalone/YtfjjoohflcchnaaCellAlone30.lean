/- CellAlone returns true, whatever the number and the calls, and leaves what it was given as it was: of the law's statement as given, with no condition of our own. Part 30 of 33. (Joined, by program, of: Aw4, Free, FreeOps, Free2.) -/
import Derived.Test.YtfjjoohflcchnaaCellAlone29
set_option linter.unusedSimpArgs false
set_option linter.unusedVariables false
namespace Go.Proofs.Ytfjjoohflcchnaa
open Go Go.Lift Go.Conc Go.RowKit
open Go.ConcN (upd upd_same upd_ne)

section
variable {wb bk base : Nat} {sc cv : Value} {cb : Nat} {l0 : Nat → Ph}
theorem aw7 (tv0 : Value) (tb0 gc0 : Nat) (tv1 : Value) (tb1 gc1 : Nat) : (pt (pt (awP wb bk base sc cv tv0 tb0 gc0 tv1 tb1 gc1 cb l0))).S.wb = wb := by kernel_rfl
theorem hires_aw {N xb rk ck c : Nat} {S1 : TS} {l1 : Nat → Ph} (h : Hires 1 0 (scrs N 2 xb rk ck [(cb, 0)] (fun _ => some ⟨c, 0, none⟩) (fun _ => 1) (fun _ => 1) (fun _ => c) (fun _ => [cl5])) (awS wb bk base sc cv) l0 S1 l1) :
    ∃ tv0 tb0 gc0 tv1 tb1 gc1, (⟨S1, [(cb, 0)], l1⟩ : PSt) = awP wb bk base sc cv tv0 tb0 gc0 tv1 tb1 gc1 cb l0 := by
  have e : (scrs N 2 xb rk ck [(cb, 0)] (fun _ => some ⟨c, 0, none⟩) (fun _ => 1) (fun _ => 1) (fun _ => c) (fun _ => [cl5])) = [scrOf N 2 xb rk ck [cb] (fun _ => some ⟨c, 0, none⟩) (fun _ => 1) (fun _ => 1) (fun _ => c) (fun _ => [cl5]) 0, scrOf N 2 xb rk ck [cb] (fun _ => some ⟨c, 0, none⟩) (fun _ => 1) (fun _ => 1) (fun _ => c) (fun _ => [cl5]) 1] := rfl
  rw [e] at h
  cases h with
  | cons tv0 tb0 gc0 h =>
    cases h with
    | cons tv1 tb1 gc1 h =>
      cases h
      exact ⟨tv0, tb0, gc0, tv1, tb1, gc1, rfl⟩
end

theorem asked6 {v u : World} {wb bk : Nat} {sc : Value} {c : Nat} (s : Set6 v wb bk sc c u) : Asked u (newS wb bk (v.heap.size + 1) sc [1]) 2 (c + 2) 0 (fun _ => some ⟨c, 0, none⟩) (fun _ => 1) (fun _ => 1) (fun _ => c) (fun _ => [cl5]) := by
  refine ⟨fun j hj => ⟨rfl, by decide⟩, fun k hk => ?_, fun h => by have := (s.own _ (.inl h)).2; omega, fun j hj _ => ⟨rfl, fun h => by have := (s.own _ (.inl h)).2; omega⟩, fun j hj k x hx => ?_, fun j hj x hx => ?_⟩
  · unfold World.cell?
    rw [show u.heap[c + 2]? = _ from s.scr]
    have : k = 0 ∨ k = 1 := by omega
    rcases this with rfl | rfl <;> rfl
  · match k, hx with
    | 0, hx =>
      cases hx
      unfold World.cell?
      rw [show u.heap[c]? = _ from s.calls]
      exact ⟨rfl, rfl, rfl, rfl⟩
    | k + 1, hx => simp at hx
  · simp only [List.mem_singleton] at hx
    subst hx
    decide

set_option maxHeartbeats 1000000 in
theorem awake_all {cs : List Frame} {bc : Frame} {ac : Act} {ops : Array Oper} {q0 : Nat} {rest : List Nat} {oc : Oper} {k0 : List Item} (hoc : ops[q0]? = some oc) {w : World} {T : Trace} {gs : Array Goroutine} {q : Nat → Nat} (sl : Option (Nat × Nat)) (A : Alone gs w T q)
    (hg : gs[0]? = some (G ((base 17).at { tmps := Array.replicate 72 undef, defers := [] } [.code B6]) (bc.at ac (.inRegion ops (q0 :: rest) :: k0) :: cs))) :
    ∃ (N' : Nat) (gs' : Array Goroutine) (w' : World) (sl' : Option (Nat × Nat)) (T' : Trace) (q' : Nat → Nat),
      runNT Try.prog N' (crowd gs w sl) T = (.next (crowd gs' w' sl'), T') ∧ gs'[0]? = some (G (bc.at (ac.put oc.dst (.bool true)) (.inRegion ops rest :: k0)) cs) ∧ Alone gs' w' T' q' ∧ Grows w w' := by
  have hG : GoesI Try.prog true (DT (ScZ zn) (fun _ => False)) (fun g w' => ∃ (wb bk : Nat) (sc : Value) (c : Nat) (bd : Frame) (ad : Act) (od : Array Oper) (qd : Nat) (rd : List Nat) (oe : Oper) (kd : List Item), Set6 w wb bk sc c w' ∧ od[qd]? = some oe ∧
      (∀ (Ch : Nat → Prop) (Stop : Goroutine → World → Prop) (S : TS) (M A0 A1 : Nat) (v w : World), Rel zn v w → NoRow Ch v → Done6 wb M A0 A1 S v → (∀ v' w', Rel zn v' w' → NoRow Ch v' → Grows v v' → GoesI Try.prog true (DT (ScZ zn) Ch) Stop (G (bc.at (ac.put oc.dst (.bool true)) (.inRegion ops rest :: k0)) cs) w') → GoesI Try.prog true (DT (ScZ zn) Ch) Stop (G (bd.at (ad.put oe.dst (.tuple #[.slice (some ⟨M, 0, none⟩) 2 2, I 0])) (.inRegion od rd :: kd)) (bc.at ac (.inRegion ops (q0 :: rest) :: k0) :: cs)) w) ∧
      g = G ((base 19).at { tmps := #[Pt wb 0, .slice (some ⟨c + 1, 0, none⟩) 1 1, .slice (some ⟨c + 2, 0, none⟩) 2 2] ++ Array.replicate 39 undef, defers := [] } [.code B8]) (bd.at ad (.inRegion od (qd :: rd) :: kd) :: bc.at ac (.inRegion ops (q0 :: rest) :: k0) :: cs)) (G ((base 17).at { tmps := Array.replicate 72 undef, defers := [] } [.code B6]) (bc.at ac (.inRegion ops (q0 :: rest) :: k0) :: cs)) w := by
    refine awake_in cs hoc (Rel.refl w) (fun c hc => hc.elim) (fun v' w' wb bk sc c bd ad od qd rd oe kd hr hn hset ho hback => GoesI.stop fun d => ⟨wb, bk, sc, c, bd, ad, od, qd, rd, oe, kd, ?_, ho, hback, rfl⟩)
    have e : (w'.at d).heap = v'.heap := hr.eq
    have hgr : Grows v' (w'.at d) := ⟨by rw [e]; exact Nat.le_refl _, fun b _ => by rw [e], hr.os, hr.output⟩
    refine ⟨(hset.mem.grows hgr).mem, ?_, by rw [e]; exact hset.calls, by rw [e]; exact hset.vals, by rw [e]; exact hset.scr, hset.own, ⟨by rw [e]; exact hset.old.size, fun b hb => by rw [e]; exact hset.old.old b hb, hr.os.trans hset.old.os, hr.output.trans hset.old.output⟩⟩
    obtain ⟨c, m, h⟩ := hset.opn
    exact ⟨c, m, by rw [e]; exact h⟩
  obtain ⟨N1, gs1, a1, w1, sl1, T1, q1, r1, z1, h1, ⟨wb, bk, sc, c, bd, ad, od, qd, rd, oe, kd, s, hoe, hback, rfl⟩, A1⟩ := alone_goes A hg sl hG
  have hKof : ∀ K : List (Nat × Int), K.map (·.2) = [0] → ∃ cb, K = [(cb, 0)] := fun K hK => by
    match K, hK with
    | [], hK => cases hK
    | [x], hK =>
      obtain ⟨a, b⟩ := x
      simp only [List.map_cons, List.map_nil, List.cons.injEq, and_true] at hK
      subst hK
      exact ⟨a, rfl⟩
    | x :: y :: l, hK => simp at hK
  have l0 : Nat → Ph := fun _ => .done []
  obtain ⟨N2, gs2, w2, sl2, T2, q2, N, cv, K, S', S1, l1, m, p', r2, z2, h2, A2, hK, hnv, hH, hT, O⟩ := play8_all (S := newS wb bk (w.heap.size + 1) sc [1]) (xs := [0]) (n := 2) (sb := c + 2) (so := 0) (vb := c + 1) (vo := 0) (vcap := 1) (cap := 2) (pc := fun _ => some ⟨c, 0, none⟩) (ln := fun _ => 1) (cp := fun _ => 1) (rb := fun _ => c) (cl := fun _ => [cl5]) hoe sl1 2 A1 h1 s.mem rfl rfl rfl s.opn (asked6 s) (by decide) (by decide) (by decide) (fun k x hk => by
      match k, hk with
      | 0, hk =>
        cases hk
        unfold World.cell?
        rw [show w1.heap[c + 1]? = _ from s.vals]
        rfl
      | k + 1, hk => simp at hk) (fun h => by have := (s.own _ (.inl h)).2; omega) (fun N K => by show 0 + 2 * (1 + (1 + 0)) ≤ 1000000; decide) (by show 1 ≤ 4611686018427387904; decide) (by show ∀ x ∈ [(1 : Int)], _; decide) l0 (fun N cv K hK S1 l1 hH => by
      obtain ⟨cb, rfl⟩ := hKof K hK
      obtain ⟨tv0, tb0, gc0, tv1, tb1, gc1, e⟩ := hires_aw (wb := wb) (bk := bk) (base := w.heap.size + 1) (sc := sc) (cv := cv) hH
      exact ⟨2, _, Nat.le_refl _, by rw [e]; exact aw_turns wb bk _ sc cv tv0 tb0 gc0 tv1 tb1 gc1 cb l0, by rw [aw5]; decide⟩)
  obtain ⟨cb, rfl⟩ := hKof K hK
  obtain ⟨tv0, tb0, gc0, tv1, tb1, gc1, e⟩ := hires_aw (wb := wb) (bk := bk) (base := w.heap.size + 1) (sc := sc) (cv := cv) hH
  have hT' : Turns 1 m (⟨S1, [(cb, 0)], l1⟩ : PSt) p' := hT
  rw [e] at hT'
  have hp := turns_det hT' (aw_turns wb bk (w.heap.size + 1) sc cv tv0 tb0 gc0 tv1 tb1 gc1 cb l0)
  have hSn : S'.n = 6 := by
    have := congrArg TS.n hnv
    rw [hp, aw5] at this
    exact this
  have hStr := congrArg TS.tr hnv
  rw [hp, aw4] at hStr
  have hSw : S'.wb = wb := by
    have := congrArg TS.wb hnv
    rw [hp, aw7] at this
    exact this
  have hans := aw6 wb bk (w.heap.size + 1) sc cv tv0 tb0 gc0 tv1 tb1 gc1 cb l0
  rw [← hp] at hans
  have a0 := (O.ans 0 (by decide)).2.1 (by decide)
  have a1 := (O.ans 1 (by decide)).2.1 (by decide)
  rw [hans.1] at a0
  rw [hans.2] at a1
  have hD : Done6 wb (N + 1) (N + 4 + 3 * 0 + 2) (N + 4 + 3 * 1 + 2) S' w2 := by
    refine ⟨O.mem.rep, hSw, hSn, hStr, O.rows 0 (by decide), O.rows 1 (by decide), ?_, ?_⟩
    · unfold World.cell?
      rw [show w2.heap[N + 4 + 3 * 0 + 2]? = _ from a0]
      rfl
    · unfold World.cell?
      rw [show w2.heap[N + 4 + 3 * 1 + 2]? = _ from a1]
      rfl
  obtain ⟨N3, gs3, a3, w3, sl3, T3, q3, r3, z3, h3, ⟨rfl, hg3⟩, A3⟩ := alone_goes A2 h2 sl2 (hback (fun _ => False) (fun g w' => g = G (bc.at (ac.put oc.dst (.bool true)) (.inRegion ops rest :: k0)) cs ∧ Grows w2 w') S' (N + 1) _ _ w2 w2 (Rel.refl w2) (fun c hc => hc.elim) hD (fun v' w' hr hn hgr => GoesI.stop fun d => ⟨rfl, by
      have e : (w'.at d).heap = v'.heap := hr.eq
      exact ⟨by rw [e]; exact hgr.size, fun b hb => by rw [e]; exact hgr.old b hb, hr.os.trans hgr.os, hr.output.trans hgr.output⟩⟩))
  refine ⟨N1 + N2 + N3, gs3, w3, sl3, T3, q3, runNT_then (runNT_then r1 r2) r3, h3, A3, ⟨by have := s.old.size; have := O.size; have := hg3.size; omega, fun b hb => ?_, hg3.os.trans (O.os.trans s.old.os), hg3.output.trans (O.out.trans s.old.output)⟩⟩
  have hs1 := s.old.size
  have hno : ¬ (Own (newS wb bk (w.heap.size + 1) sc [1]) [] b ∨ b = bk) := fun h => by have := (s.own b h).1; omega
  have h5 := O.old b (by omega) (fun h => hno (.inl h)) (fun h => hno (.inr h))
  rw [hg3.old b (by have := O.size; omega), h5.1, s.old.old b hb]
end Go.Proofs.Ytfjjoohflcchnaa

namespace Go.Proofs.Ytfjjoohflcchnaa
open Go Go.Lift Go.Conc Go.RowKit

/-- A free thread, and a cell of no world. -/
structure Fm (tb cb : Nat) (x : Int) (v : World) : Prop where
  thr : v.heap[tb]? = some (.cells #[.pointer none, I 3, .chan none, I 0, I 0, I 0, I 0] 97 (0, 0))
  cel : v.heap[cb]? = some (.cells #[I 0, I x] 94 (0, 0))
structure Fto (tb cb : Nat) (x : Int) (v v' : World) : Prop where
  fm : Fm tb cb x v'
  old : ∀ b, b ≠ cb → v'.heap[b]? = v.heap[b]?
  size : v'.heap.size = v.heap.size
  os : v'.os = v.os
  out : v'.output = v.output
section
variable {tb cb : Nat} {x y : Int} {v v' v'' : World}
theorem Fm.cells (h : Fm tb cb x v) : v.cell? ⟨tb, 0, none⟩ = some (.pointer none) ∧ v.cell? ⟨cb, 0, none⟩ = some (I 0) ∧ v.cell? ⟨cb, 1, none⟩ = some (I x) ∧ v.frozen? ⟨cb, 1, none⟩ = false := by
  refine ⟨?_, ?_, ?_, ?_⟩
  · unfold World.cell?; rw [show v.heap[tb]? = _ from h.thr]; rfl
  · unfold World.cell?; rw [show v.heap[cb]? = _ from h.cel]; rfl
  · unfold World.cell?; rw [show v.heap[cb]? = _ from h.cel]; rfl
  · unfold World.frozen?; rw [show v.heap[cb]? = _ from h.cel]; rfl
theorem Fm.ne (h : Fm tb cb x v) : tb ≠ cb := fun e => by
  have h1 := h.thr
  rw [e, h.cel] at h1
  simp at h1
theorem Fto.refl (h : Fm tb cb x v) : Fto tb cb x v v := ⟨h, fun _ _ => rfl, rfl, rfl, rfl⟩
theorem Fto.same (h : Fto tb cb x v v') (e1 : v''.heap = v'.heap) (e2 : v''.os = v'.os) (e3 : v''.output = v'.output) : Fto tb cb x v v'' :=
  ⟨⟨by rw [e1]; exact h.fm.thr, by rw [e1]; exact h.fm.cel⟩, fun b hb => by rw [e1]; exact h.old b hb, by rw [e1]; exact h.size, e2.trans h.os, e3.trans h.out⟩
theorem Fto.set (h : Fm tb cb x v) (y : Int) : Fto tb cb y v (v.setCell ⟨cb, 1, none⟩ (I y)) :=
  ⟨⟨by rw [Below.heap_setCell _ _ _ _ h.ne]; exact h.thr, heap_setCell_same h.cel _⟩, fun b hb => Below.heap_setCell _ _ _ _ hb, by simp [World.setCell], rfl, rfl⟩
theorem Fto.base (h : Fto tb cb x v v') (e1 : v.heap = v''.heap) (e2 : v.os = v''.os) (e3 : v.output = v''.output) : Fto tb cb x v'' v' :=
  ⟨h.fm, fun b hb => by rw [← e1]; exact h.old b hb, by rw [← e1]; exact h.size, h.os.trans e2, h.out.trans e3⟩
theorem Fm.same (h : Fm tb cb x v) (e : v'.heap = v.heap) : Fm tb cb x v' := ⟨by rw [e]; exact h.thr, by rw [e]; exact h.cel⟩

theorem body27f (tb : Nat) (b a : Int) (v : World) (h : v.cell? ⟨tb, 0, none⟩ = some (.pointer none)) : Body Try.f61 #[Pt tb 0, I b, I a] v (fun r v' => r = .tuple #[] ∧ v' = v) := by
  intro code hb
  obtain rfl := Option.some.inj hb
  clear hb
  simp only [Try.ntmps61, List.size_toArray, List.length_cons, List.length_nil, Nat.reduceAdd, Nat.reduceSub, Array.replicate_succ, Array.replicate_zero, List.push_toArray, List.append_toArray, List.nil_append, List.cons_append]
  go_wp2_with fail
  exact ⟨rfl, _, results_none rfl _ _ _, _, rfl, rfl, rfl⟩
end

set_option maxHeartbeats 1000000 in
set_option maxRecDepth 100000 in
theorem free26 {Ch : Nat → Prop} {Stop : Goroutine → World → Prop} {main : Bool} {v w : World} (tb : Nat) (c o : Int) (ht : v.cell? ⟨tb, 0, none⟩ = some (.pointer none)) (cs : List Frame) {bc : Frame} {ac : Act} {ops : Array Oper} {q : Nat} {rest : List Nat} {oc : Oper} {k : List Item} (hoc : ops[q]? = some oc) (hvw : Rel zn v w) (hn : NoRow Ch v)
    (hk : ∀ w', Rel zn v w' → GoesI Try.prog main (DT (ScZ zn) Ch) Stop (G (bc.at (ac.put oc.dst (.tuple #[])) (.inRegion ops rest :: k)) cs) w') (code : Code) (hc : Try.f60.body = some code) :
    GoesI Try.prog main (DT (ScZ zn) Ch) Stop (G ((base 60).at { tmps := #[Pt tb 0, I c, I o] ++ Array.replicate 12 undef, defers := [] } [.code code]) (bc.at ac (.inRegion ops (q :: rest) :: k) :: cs)) w := by
  obtain rfl := Option.some.inj hc
  clear hc
  have e0 : w.cell? ⟨tb, 0, none⟩ = some (.pointer none) := by rw [hvw.cell?]; exact ht
  simp only [Array.replicate_succ, Array.replicate_zero, List.push_toArray, List.append_toArray, List.nil_append, List.cons_append]
  refine goesI_seq (dt_idle _ _) ?_
  refine goesI_region (dt_idle _ _) ?_
  simp only [List.size_toArray, List.length_cons, List.length_nil, Nat.reduceAdd, Nat.zero_add, List.range, List.range.loop]
  iterate 4
    (refine goesI_oper rfl rfl (by decide) (fun d K hK => ?_)
     go_simp
     refine hK _ _ ⟨dt_reads (fun e he => ?_), GoesI.at ?_ d⟩
     · have hm := mem_listed he
       simp [go_sem, *] at hm
       try exact ⟨_, _, hm⟩
     clear hK K)
  refine goesI_opZ (L := LT) rfl rfl (by decide) (fineOp_ask callT extT (by kernel_rfl)) hvw hn (v' := v) (x := .bool false) (by go_simp) rfl (fun w2 hr2 hn2 => ?_)
  refine goesI_regionEnd (dt_idle _ _) ?_
  refine goesI_cond (dt_idle _ _) (t := false) rfl ?_
  refine goesI_skip (dt_idle _ _) ?_
  refine goesI_end (dt_idle _ _) ?_
  exact goesI_leave (b := base 60) (fn := Try.f60) rfl rfl Try.func60 (res26 _) (ev26 _) hoc (dt_idle _ _) (hk w2 hr2)
end Go.Proofs.Ytfjjoohflcchnaa

namespace Go.Proofs.Ytfjjoohflcchnaa
open Go Go.Lift Go.Conc Go.RowKit

set_option maxHeartbeats 1000000 in
set_option maxRecDepth 100000 in
theorem tailF12 {v : World} {tb cb : Nat} {x : Int} {y : Int} (hm : Fm tb cb x v) (a7 a8 a9 a10 a11 a12 : Value) :
    rest12.wp Try.prog (bodyPost Try.prog Try.f23 (fun e w' => ∃ r, e = .returned r ∧ (r = (effStore y x).2.2 ∧ Fto tb cb (effStore y x).2.1 v w')))
      { tmps := #[Pt cb 0, Pt tb 0, I y, undef, undef, undef, undef, a7, a8, a9, a10, a11, a12, undef, undef, undef, undef, undef, undef, undef, undef, undef], defers := [] } v := by
  obtain ⟨c0, _, c1, f1⟩ := hm.cells
  have HM : Hid (Fm tb cb x v) := ⟨hm⟩
  have HT : Hid ((v.setCell ⟨cb, 1, none⟩ (I y)).cell? ⟨tb, 0, none⟩ = some (.pointer none)) := ⟨by rw [World.cell?_of_block (Below.heap_setCell _ _ _ _ hm.ne)]; exact c0⟩
  clear hm
  show Code.wp Try.prog (seq2 (Try.f23.body.getD .skip)) _ _ _
  unfold Try.f23 seq2
  simp only [Option.getD_some]
  go_wp2_with (first
    | (go_at_call 59; refine ((body25 cb x y _ c1 f1).calls Try.func59 rfl).mono ?_; rintro e w1 ⟨_, rfl, rfl, rfl⟩)
    | (go_at_call 61; refine ((body27f tb x y _ HT.out).calls Try.func61 rfl).mono ?_; rintro e w2 ⟨_, rfl, rfl, rfl⟩))
  exact ⟨rfl, _, results_none rfl _ _ _, _, rfl, rfl, Fto.set HM.out _⟩

set_option maxHeartbeats 1000000 in
set_option maxRecDepth 100000 in
theorem free12 {Ch : Nat → Prop} {Stop : Goroutine → World → Prop} {main : Bool} {v w : World} {tb cb : Nat} (y : Int) (x : Int) (cs : List Frame) {bc : Frame} {ac : Act} {ops : Array Oper} {q : Nat} {rest : List Nat} {oc : Oper} {k : List Item} (hoc : ops[q]? = some oc)
    (hvw : Rel zn v w) (hn : NoRow Ch v) (hm : Fm tb cb x v)
    (hk : ∀ v' w', Rel zn v' w' → NoRow Ch v' → Fto tb cb (effStore y x).2.1 v v' → GoesI Try.prog main (DT (ScZ zn) Ch) Stop (G (bc.at (ac.put oc.dst (effStore y x).2.2) (.inRegion ops rest :: k)) cs) w') (code : Code) (hc : Try.f23.body = some code) :
    GoesI Try.prog main (DT (ScZ zn) Ch) Stop (G ((base 23).at { tmps := #[Pt cb 0, Pt tb 0, I y] ++ Array.replicate 19 undef, defers := [] } [.code code]) (bc.at ac (.inRegion ops (q :: rest) :: k) :: cs)) w := by
  obtain rfl := Option.some.inj hc
  clear hc
  have e0 : w.cell? ⟨cb, 0, none⟩ = some (I 0) := by rw [hvw.cell?]; exact hm.cells.2.1
  simp only [Array.replicate_succ, Array.replicate_zero, List.push_toArray, List.append_toArray, List.nil_append, List.cons_append]
  have HM : Hid (Fm tb cb x v) := ⟨hm⟩
  clear hm
  refine goesI_seq (dt_idle _ _) ?_
  refine goesI_region (dt_idle _ _) ?_
  simp only [List.size_toArray, List.length_cons, List.length_nil, Nat.reduceAdd, Nat.zero_add, List.range, List.range.loop]
  iterate 5
    (refine goesI_oper rfl rfl (by decide) (fun d K hK => ?_)
     go_simp
     refine hK _ _ ⟨dt_reads (fun e he => ?_), GoesI.at ?_ d⟩
     · have hm := mem_listed he
       simp [go_sem, *] at hm
       try exact ⟨_, _, hm⟩
     clear hK K)
  refine goesI_into (f := 60) (fn := Try.f60) (args := #[Pt tb 0, I 0, I 2]) (dt_idle _ _) rfl rfl (by decide) rfl (by simp [Act.eval]) Try.func60 (by decide) rfl ?_
  refine free26 tb 0 2 HM.out.cells.1 _ rfl hvw hn (fun w1 hr1 => ?_) _ rfl
  clear e0 hvw
  refine goesI_regionEnd (dt_idle _ _) ?_
  refine goesI_rest (f := 23) (fn := Try.f23) (c := rest12) hE fineT hr1 hn Try.func23 fine12 rfl hoc res12 (fun τ => ?_) (fun r v' w' hR hr' hn' => ?_) (R := fun r w' => r = (effStore y x).2.2 ∧ Fto tb cb (effStore y x).2.1 v w')
  · exact wp_mono (tailF12 (HM.out.same (v' := onTape v τ 0) rfl) _ _ _ _ _ _) (bp_mono fun r u hq => ⟨hq.1, hq.2.base rfl rfl rfl⟩)
  · obtain ⟨rfl, he⟩ := hR
    exact hk v' w' hr' hn' he

set_option maxHeartbeats 1000000 in
set_option maxRecDepth 100000 in
theorem tailF13 {v : World} {tb cb : Nat} {x : Int} {y : Int} (hm : Fm tb cb x v) (a8 a9 a10 a11 a12 a13 : Value) :
    rest13.wp Try.prog (bodyPost Try.prog Try.f24 (fun e w' => ∃ r, e = .returned r ∧ (r = (effSwap y x).2.2 ∧ Fto tb cb (effSwap y x).2.1 v w')))
      { tmps := #[Pt cb 0, Pt tb 0, I y, undef, undef, undef, I 0, undef, a8, a9, a10, a11, a12, a13, undef, undef, undef, undef, undef, undef, undef, undef, undef, undef], defers := [] } v := by
  obtain ⟨c0, _, c1, f1⟩ := hm.cells
  have HM : Hid (Fm tb cb x v) := ⟨hm⟩
  have HT : Hid ((v.setCell ⟨cb, 1, none⟩ (I y)).cell? ⟨tb, 0, none⟩ = some (.pointer none)) := ⟨by rw [World.cell?_of_block (Below.heap_setCell _ _ _ _ hm.ne)]; exact c0⟩
  clear hm
  show Code.wp Try.prog (seq2 (seq2 (Try.f24.body.getD .skip))) _ _ _
  unfold Try.f24 seq2
  simp only [Option.getD_some]
  go_wp2_with (first
    | (go_at_call 59; refine ((body25 cb x y _ c1 f1).calls Try.func59 rfl).mono ?_; rintro e w1 ⟨_, rfl, rfl, rfl⟩)
    | (go_at_call 61; refine ((body27f tb x y _ HT.out).calls Try.func61 rfl).mono ?_; rintro e w2 ⟨_, rfl, rfl, rfl⟩))
  go_ret
  exact ⟨_, rfl, rfl, Fto.set HM.out _⟩

set_option maxHeartbeats 1000000 in
set_option maxRecDepth 100000 in
theorem free13 {Ch : Nat → Prop} {Stop : Goroutine → World → Prop} {main : Bool} {v w : World} {tb cb : Nat} (y : Int) (x : Int) (cs : List Frame) {bc : Frame} {ac : Act} {ops : Array Oper} {q : Nat} {rest : List Nat} {oc : Oper} {k : List Item} (hoc : ops[q]? = some oc)
    (hvw : Rel zn v w) (hn : NoRow Ch v) (hm : Fm tb cb x v)
    (hk : ∀ v' w', Rel zn v' w' → NoRow Ch v' → Fto tb cb (effSwap y x).2.1 v v' → GoesI Try.prog main (DT (ScZ zn) Ch) Stop (G (bc.at (ac.put oc.dst (effSwap y x).2.2) (.inRegion ops rest :: k)) cs) w') (code : Code) (hc : Try.f24.body = some code) :
    GoesI Try.prog main (DT (ScZ zn) Ch) Stop (G ((base 24).at { tmps := #[Pt cb 0, Pt tb 0, I y] ++ Array.replicate 21 undef, defers := [] } [.code code]) (bc.at ac (.inRegion ops (q :: rest) :: k) :: cs)) w := by
  obtain rfl := Option.some.inj hc
  clear hc
  have e0 : w.cell? ⟨cb, 0, none⟩ = some (I 0) := by rw [hvw.cell?]; exact hm.cells.2.1
  simp only [Array.replicate_succ, Array.replicate_zero, List.push_toArray, List.append_toArray, List.nil_append, List.cons_append]
  have HM : Hid (Fm tb cb x v) := ⟨hm⟩
  clear hm
  refine goesI_seq (dt_idle _ _) ?_
  refine goesI_region (dt_idle _ _) ?_
  simp only [List.size_toArray, List.length_cons, List.length_nil, Nat.reduceAdd, Nat.zero_add, List.range, List.range.loop]
  (refine goesI_oper rfl rfl (by decide) (fun d K hK => ?_)
   go_simp
   refine hK _ _ ⟨dt_reads (fun e he => ?_), GoesI.at ?_ d⟩
   · have hm := mem_listed he
     simp [go_sem, *] at hm
   clear hK K)
  refine goesI_regionEnd (dt_idle _ _) ?_
  refine goesI_seq (dt_idle _ _) ?_
  refine goesI_region (dt_idle _ _) ?_
  simp only [List.size_toArray, List.length_cons, List.length_nil, Nat.reduceAdd, Nat.zero_add, List.range, List.range.loop]
  iterate 5
    (refine goesI_oper rfl rfl (by decide) (fun d K hK => ?_)
     go_simp
     refine hK _ _ ⟨dt_reads (fun e he => ?_), GoesI.at ?_ d⟩
     · have hm := mem_listed he
       simp [go_sem, *] at hm
       try exact ⟨_, _, hm⟩
     clear hK K)
  refine goesI_into (f := 60) (fn := Try.f60) (args := #[Pt tb 0, I 0, I 3]) (dt_idle _ _) rfl rfl (by decide) rfl (by simp [Act.eval]) Try.func60 (by decide) rfl ?_
  refine free26 tb 0 3 HM.out.cells.1 _ rfl hvw hn (fun w1 hr1 => ?_) _ rfl
  clear e0 hvw
  refine goesI_regionEnd (dt_idle _ _) ?_
  refine goesI_rest (f := 24) (fn := Try.f24) (c := rest13) hE fineT hr1 hn Try.func24 fine13 rfl hoc res13 (fun τ => ?_) (fun r v' w' hR hr' hn' => ?_) (R := fun r w' => r = (effSwap y x).2.2 ∧ Fto tb cb (effSwap y x).2.1 v w')
  · exact wp_mono (tailF13 (HM.out.same (v' := onTape v τ 0) rfl) _ _ _ _ _ _) (bp_mono fun r u hq => ⟨hq.1, hq.2.base rfl rfl rfl⟩)
  · obtain ⟨rfl, he⟩ := hR
    exact hk v' w' hr' hn' he

set_option maxHeartbeats 1000000 in
set_option maxRecDepth 100000 in
theorem tailF15 {v : World} {tb cb : Nat} {x : Int} {n : Int} (hm : Fm tb cb x v) (a8 a9 a10 a11 a12 a13 : Value) :
    rest15.wp Try.prog (bodyPost Try.prog Try.f26 (fun e w' => ∃ r, e = .returned r ∧ (r = (effAdd n x).2.2 ∧ Fto tb cb (effAdd n x).2.1 v w')))
      { tmps := #[Pt cb 0, Pt tb 0, I n, undef, undef, undef, I 0, undef, a8, a9, a10, a11, a12, a13, undef, undef, undef, undef, undef, undef, undef, undef, undef, undef, undef, undef], defers := [] } v := by
  obtain ⟨c0, _, c1, f1⟩ := hm.cells
  have HM : Hid (Fm tb cb x v) := ⟨hm⟩
  have HT : Hid ((v.setCell ⟨cb, 1, none⟩ (I (wrap64 (x + n)))).cell? ⟨tb, 0, none⟩ = some (.pointer none)) := ⟨by rw [World.cell?_of_block (Below.heap_setCell _ _ _ _ hm.ne)]; exact c0⟩
  clear hm
  show Code.wp Try.prog (seq2 (seq2 (Try.f26.body.getD .skip))) _ _ _
  unfold Try.f26 seq2
  simp only [Option.getD_some]
  go_wp2_with (first
    | (go_at_call 64; refine ((body30 cb x n _ c1 f1).calls Try.func64 rfl).mono ?_; rintro e w1 ⟨_, rfl, rfl, rfl⟩)
    | (go_at_call 61; refine ((body27f tb (wrap64 (wrap64 (x + n) - n)) (wrap64 (x + n)) _ HT.out).calls Try.func61 rfl).mono ?_; rintro e w2 ⟨_, rfl, rfl, rfl⟩))
  go_ret
  exact ⟨_, rfl, rfl, Fto.set HM.out _⟩

set_option maxHeartbeats 1000000 in
set_option maxRecDepth 100000 in
theorem free15 {Ch : Nat → Prop} {Stop : Goroutine → World → Prop} {main : Bool} {v w : World} {tb cb : Nat} (n : Int) (x : Int) (cs : List Frame) {bc : Frame} {ac : Act} {ops : Array Oper} {q : Nat} {rest : List Nat} {oc : Oper} {k : List Item} (hoc : ops[q]? = some oc)
    (hvw : Rel zn v w) (hn : NoRow Ch v) (hm : Fm tb cb x v)
    (hk : ∀ v' w', Rel zn v' w' → NoRow Ch v' → Fto tb cb (effAdd n x).2.1 v v' → GoesI Try.prog main (DT (ScZ zn) Ch) Stop (G (bc.at (ac.put oc.dst (effAdd n x).2.2) (.inRegion ops rest :: k)) cs) w') (code : Code) (hc : Try.f26.body = some code) :
    GoesI Try.prog main (DT (ScZ zn) Ch) Stop (G ((base 26).at { tmps := #[Pt cb 0, Pt tb 0, I n] ++ Array.replicate 23 undef, defers := [] } [.code code]) (bc.at ac (.inRegion ops (q :: rest) :: k) :: cs)) w := by
  obtain rfl := Option.some.inj hc
  clear hc
  have e0 : w.cell? ⟨cb, 0, none⟩ = some (I 0) := by rw [hvw.cell?]; exact hm.cells.2.1
  simp only [Array.replicate_succ, Array.replicate_zero, List.push_toArray, List.append_toArray, List.nil_append, List.cons_append]
  have HM : Hid (Fm tb cb x v) := ⟨hm⟩
  clear hm
  refine goesI_seq (dt_idle _ _) ?_
  refine goesI_region (dt_idle _ _) ?_
  simp only [List.size_toArray, List.length_cons, List.length_nil, Nat.reduceAdd, Nat.zero_add, List.range, List.range.loop]
  (refine goesI_oper rfl rfl (by decide) (fun d K hK => ?_)
   go_simp
   refine hK _ _ ⟨dt_reads (fun e he => ?_), GoesI.at ?_ d⟩
   · have hm := mem_listed he
     simp [go_sem, *] at hm
   clear hK K)
  refine goesI_regionEnd (dt_idle _ _) ?_
  refine goesI_seq (dt_idle _ _) ?_
  refine goesI_region (dt_idle _ _) ?_
  simp only [List.size_toArray, List.length_cons, List.length_nil, Nat.reduceAdd, Nat.zero_add, List.range, List.range.loop]
  iterate 5
    (refine goesI_oper rfl rfl (by decide) (fun d K hK => ?_)
     go_simp
     refine hK _ _ ⟨dt_reads (fun e he => ?_), GoesI.at ?_ d⟩
     · have hm := mem_listed he
       simp [go_sem, *] at hm
       try exact ⟨_, _, hm⟩
     clear hK K)
  refine goesI_into (f := 60) (fn := Try.f60) (args := #[Pt tb 0, I 0, I 5]) (dt_idle _ _) rfl rfl (by decide) rfl (by simp [Act.eval]) Try.func60 (by decide) rfl ?_
  refine free26 tb 0 5 HM.out.cells.1 _ rfl hvw hn (fun w1 hr1 => ?_) _ rfl
  clear e0 hvw
  refine goesI_regionEnd (dt_idle _ _) ?_
  refine goesI_rest (f := 26) (fn := Try.f26) (c := rest15) hE fineT hr1 hn Try.func26 fine15 rfl hoc res15 (fun τ => ?_) (fun r v' w' hR hr' hn' => ?_) (R := fun r w' => r = (effAdd n x).2.2 ∧ Fto tb cb (effAdd n x).2.1 v w')
  · exact wp_mono (tailF15 (HM.out.same (v' := onTape v τ 0) rfl) _ _ _ _ _ _) (bp_mono fun r u hq => ⟨hq.1, hq.2.base rfl rfl rfl⟩)
  · obtain ⟨rfl, he⟩ := hR
    exact hk v' w' hr' hn' he

set_option maxHeartbeats 1000000 in
set_option maxRecDepth 100000 in
theorem tailF17 {v : World} {tb cb : Nat} {x : Int} (hm : Fm tb cb x v) (a6 a7 a8 a9 a10 a11 : Value) :
    rest17.wp Try.prog (bodyPost Try.prog Try.f28 (fun e w' => ∃ r, e = .returned r ∧ (r = (effLoad x).2.2 ∧ Fto tb cb (effLoad x).2.1 v w')))
      { tmps := #[Pt cb 0, Pt tb 0, undef, undef, I 0, undef, a6, a7, a8, a9, a10, a11, undef, undef, undef, undef, undef, undef, undef, undef, undef], defers := [] } v := by
  obtain ⟨c0, _, c1, f1⟩ := hm.cells
  have HM : Hid (Fm tb cb x v) := ⟨hm⟩
  have HT : Hid (v.cell? ⟨tb, 0, none⟩ = some (.pointer none)) := ⟨by exact c0⟩
  clear hm
  show Code.wp Try.prog (seq2 (seq2 (Try.f28.body.getD .skip))) _ _ _
  unfold Try.f28 seq2
  simp only [Option.getD_some]
  go_wp2_with (first
    | (go_at_call 63; refine ((body29 cb x _ c1).calls Try.func63 rfl).mono ?_; rintro e w1 ⟨_, rfl, rfl, rfl⟩)
    | (go_at_call 61; refine ((body27f tb x x _ HT.out).calls Try.func61 rfl).mono ?_; rintro e w2 ⟨_, rfl, rfl, rfl⟩))
  go_ret
  exact ⟨_, rfl, rfl, Fto.refl HM.out⟩

set_option maxHeartbeats 1000000 in
set_option maxRecDepth 100000 in
theorem free17 {Ch : Nat → Prop} {Stop : Goroutine → World → Prop} {main : Bool} {v w : World} {tb cb : Nat} (x : Int) (cs : List Frame) {bc : Frame} {ac : Act} {ops : Array Oper} {q : Nat} {rest : List Nat} {oc : Oper} {k : List Item} (hoc : ops[q]? = some oc)
    (hvw : Rel zn v w) (hn : NoRow Ch v) (hm : Fm tb cb x v)
    (hk : ∀ v' w', Rel zn v' w' → NoRow Ch v' → Fto tb cb (effLoad x).2.1 v v' → GoesI Try.prog main (DT (ScZ zn) Ch) Stop (G (bc.at (ac.put oc.dst (effLoad x).2.2) (.inRegion ops rest :: k)) cs) w') (code : Code) (hc : Try.f28.body = some code) :
    GoesI Try.prog main (DT (ScZ zn) Ch) Stop (G ((base 28).at { tmps := #[Pt cb 0, Pt tb 0] ++ Array.replicate 19 undef, defers := [] } [.code code]) (bc.at ac (.inRegion ops (q :: rest) :: k) :: cs)) w := by
  obtain rfl := Option.some.inj hc
  clear hc
  have e0 : w.cell? ⟨cb, 0, none⟩ = some (I 0) := by rw [hvw.cell?]; exact hm.cells.2.1
  simp only [Array.replicate_succ, Array.replicate_zero, List.push_toArray, List.append_toArray, List.nil_append, List.cons_append]
  have HM : Hid (Fm tb cb x v) := ⟨hm⟩
  clear hm
  refine goesI_seq (dt_idle _ _) ?_
  refine goesI_region (dt_idle _ _) ?_
  simp only [List.size_toArray, List.length_cons, List.length_nil, Nat.reduceAdd, Nat.zero_add, List.range, List.range.loop]
  (refine goesI_oper rfl rfl (by decide) (fun d K hK => ?_)
   go_simp
   refine hK _ _ ⟨dt_reads (fun e he => ?_), GoesI.at ?_ d⟩
   · have hm := mem_listed he
     simp [go_sem, *] at hm
   clear hK K)
  refine goesI_regionEnd (dt_idle _ _) ?_
  refine goesI_seq (dt_idle _ _) ?_
  refine goesI_region (dt_idle _ _) ?_
  simp only [List.size_toArray, List.length_cons, List.length_nil, Nat.reduceAdd, Nat.zero_add, List.range, List.range.loop]
  iterate 5
    (refine goesI_oper rfl rfl (by decide) (fun d K hK => ?_)
     go_simp
     refine hK _ _ ⟨dt_reads (fun e he => ?_), GoesI.at ?_ d⟩
     · have hm := mem_listed he
       simp [go_sem, *] at hm
       try exact ⟨_, _, hm⟩
     clear hK K)
  refine goesI_into (f := 60) (fn := Try.f60) (args := #[Pt tb 0, I 0, I 1]) (dt_idle _ _) rfl rfl (by decide) rfl (by simp [Act.eval]) Try.func60 (by decide) rfl ?_
  refine free26 tb 0 1 HM.out.cells.1 _ rfl hvw hn (fun w1 hr1 => ?_) _ rfl
  clear e0 hvw
  refine goesI_regionEnd (dt_idle _ _) ?_
  refine goesI_rest (f := 28) (fn := Try.f28) (c := rest17) hE fineT hr1 hn Try.func28 fine17 rfl hoc res17 (fun τ => ?_) (fun r v' w' hR hr' hn' => ?_) (R := fun r w' => r = (effLoad x).2.2 ∧ Fto tb cb (effLoad x).2.1 v w')
  · exact wp_mono (tailF17 (HM.out.same (v' := onTape v τ 0) rfl) _ _ _ _ _ _) (bp_mono fun r u hq => ⟨hq.1, hq.2.base rfl rfl rfl⟩)
  · obtain ⟨rfl, he⟩ := hR
    exact hk v' w' hr' hn' he

set_option maxHeartbeats 1000000 in
set_option maxRecDepth 100000 in
theorem tailF14 {v : World} {tb cb : Nat} {x : Int} {a y : Int} (hm : Fm tb cb x v) (a10 a11 a12 a13 a14 a15 : Value) :
    rest14.wp Try.prog (bodyPost Try.prog Try.f25 (fun e w' => ∃ r, e = .returned r ∧ (r = (effCas a y x).2.2 ∧ Fto tb cb (effCas a y x).2.1 v w')))
      { tmps := #[Pt cb 0, Pt tb 0, I a, I y, undef, undef, undef, undef, .bool false, undef, a10, a11, a12, a13, a14, a15, undef, undef, undef, undef, undef, undef, undef, undef, undef, undef, undef, undef, undef, undef, undef, undef, undef, undef], defers := [] } v := by
  obtain ⟨c0, _, c1, f1⟩ := hm.cells
  have HM : Hid (Fm tb cb x v) := ⟨hm⟩
  by_cases hx : x = a
  · subst hx
    have HT : Hid ((v.setCell ⟨cb, 1, none⟩ (I y)).cell? ⟨tb, 0, none⟩ = some (.pointer none)) := ⟨by rw [World.cell?_of_block (Below.heap_setCell _ _ _ _ hm.ne)]; exact c0⟩
    have HQ : Hid (effCas x y x = ((x, y), y, .bool true)) := ⟨by simp [effCas]⟩
    rw [HQ.out]
    clear hm
    show Code.wp Try.prog (seq2 (seq2 (Try.f25.body.getD .skip))) _ _ _
    unfold Try.f25 seq2
    simp only [Option.getD_some]
    go_wp2_with (first
      | (go_at_call 62; refine ((body28 cb x y _ c1 f1).calls Try.func62 rfl).mono ?_; rintro e w1 ⟨_, rfl, rfl, rfl⟩)
      | (go_at_call 61; refine ((body27f tb x y _ HT.out).calls Try.func61 rfl).mono ?_; rintro e w2 ⟨_, rfl, rfl, rfl⟩))
    go_ret
    exact ⟨_, rfl, rfl, Fto.set HM.out _⟩
  have HT : Hid (v.cell? ⟨tb, 0, none⟩ = some (.pointer none)) := ⟨by exact c0⟩
  have HQ : Hid (effCas a y x = ((x, x), x, .bool false)) := ⟨by simp [effCas, hx]⟩
  rw [HQ.out]
  clear hm
  show Code.wp Try.prog (seq2 (seq2 (Try.f25.body.getD .skip))) _ _ _
  unfold Try.f25 seq2
  simp only [Option.getD_some]
  go_wp2_with (first
    | (go_at_call 62; refine ((body28n cb x a y _ c1 f1 hx).calls Try.func62 rfl).mono ?_; rintro e w1 ⟨_, rfl, rfl, rfl⟩)
    | (go_at_call 63; refine ((body29 cb x _ c1).calls Try.func63 rfl).mono ?_; rintro e w1 ⟨_, rfl, rfl, rfl⟩)
    | (go_at_call 61; refine ((body27f tb x x _ HT.out).calls Try.func61 rfl).mono ?_; rintro e w2 ⟨_, rfl, rfl, rfl⟩))
  go_ret
  exact ⟨_, rfl, rfl, Fto.refl HM.out⟩

set_option maxHeartbeats 1000000 in
set_option maxRecDepth 100000 in
theorem free14 {Ch : Nat → Prop} {Stop : Goroutine → World → Prop} {main : Bool} {v w : World} {tb cb : Nat} (a y : Int) (x : Int) (cs : List Frame) {bc : Frame} {ac : Act} {ops : Array Oper} {q : Nat} {rest : List Nat} {oc : Oper} {k : List Item} (hoc : ops[q]? = some oc)
    (hvw : Rel zn v w) (hn : NoRow Ch v) (hm : Fm tb cb x v)
    (hk : ∀ v' w', Rel zn v' w' → NoRow Ch v' → Fto tb cb (effCas a y x).2.1 v v' → GoesI Try.prog main (DT (ScZ zn) Ch) Stop (G (bc.at (ac.put oc.dst (effCas a y x).2.2) (.inRegion ops rest :: k)) cs) w') (code : Code) (hc : Try.f25.body = some code) :
    GoesI Try.prog main (DT (ScZ zn) Ch) Stop (G ((base 25).at { tmps := #[Pt cb 0, Pt tb 0, I a, I y] ++ Array.replicate 30 undef, defers := [] } [.code code]) (bc.at ac (.inRegion ops (q :: rest) :: k) :: cs)) w := by
  obtain rfl := Option.some.inj hc
  clear hc
  have e0 : w.cell? ⟨cb, 0, none⟩ = some (I 0) := by rw [hvw.cell?]; exact hm.cells.2.1
  simp only [Array.replicate_succ, Array.replicate_zero, List.push_toArray, List.append_toArray, List.nil_append, List.cons_append]
  have HM : Hid (Fm tb cb x v) := ⟨hm⟩
  clear hm
  refine goesI_seq (dt_idle _ _) ?_
  refine goesI_region (dt_idle _ _) ?_
  simp only [List.size_toArray, List.length_cons, List.length_nil, Nat.reduceAdd, Nat.zero_add, List.range, List.range.loop]
  (refine goesI_oper rfl rfl (by decide) (fun d K hK => ?_)
   go_simp
   refine hK _ _ ⟨dt_reads (fun e he => ?_), GoesI.at ?_ d⟩
   · have hm := mem_listed he
     simp [go_sem, *] at hm
   clear hK K)
  refine goesI_regionEnd (dt_idle _ _) ?_
  refine goesI_seq (dt_idle _ _) ?_
  refine goesI_region (dt_idle _ _) ?_
  simp only [List.size_toArray, List.length_cons, List.length_nil, Nat.reduceAdd, Nat.zero_add, List.range, List.range.loop]
  iterate 5
    (refine goesI_oper rfl rfl (by decide) (fun d K hK => ?_)
     go_simp
     refine hK _ _ ⟨dt_reads (fun e he => ?_), GoesI.at ?_ d⟩
     · have hm := mem_listed he
       simp [go_sem, *] at hm
       try exact ⟨_, _, hm⟩
     clear hK K)
  refine goesI_into (f := 60) (fn := Try.f60) (args := #[Pt tb 0, I 0, I 4]) (dt_idle _ _) rfl rfl (by decide) rfl (by simp [Act.eval]) Try.func60 (by decide) rfl ?_
  refine free26 tb 0 4 HM.out.cells.1 _ rfl hvw hn (fun w1 hr1 => ?_) _ rfl
  clear e0 hvw
  refine goesI_regionEnd (dt_idle _ _) ?_
  refine goesI_rest (f := 25) (fn := Try.f25) (c := rest14) hE fineT hr1 hn Try.func25 fine14 rfl hoc res14 (fun τ => ?_) (fun r v' w' hR hr' hn' => ?_) (R := fun r w' => r = (effCas a y x).2.2 ∧ Fto tb cb (effCas a y x).2.1 v w')
  · exact wp_mono (tailF14 (HM.out.same (v' := onTape v τ 0) rfl) _ _ _ _ _ _) (bp_mono fun r u hq => ⟨hq.1, hq.2.base rfl rfl rfl⟩)
  · obtain ⟨rfl, he⟩ := hR
    exact hk v' w' hr' hn' he

end Go.Proofs.Ytfjjoohflcchnaa

namespace Go.Proofs.Ytfjjoohflcchnaa
open Go Go.Lift Go.Conc Go.RowKit

set_option maxHeartbeats 1000000 in
set_option maxRecDepth 100000 in
theorem free16 {Ch : Nat → Prop} {Stop : Goroutine → World → Prop} {main : Bool} {v w : World} {tb cb : Nat} (n x : Int) (hx : x ≠ n) (cs : List Frame) {bc : Frame} {ac : Act} {ops : Array Oper} {q : Nat} {rest : List Nat} {oc : Oper} {k : List Item} (hoc : ops[q]? = some oc)
    (hvw : Rel zn v w) (hn : NoRow Ch v) (hm : Fm tb cb x v)
    (hk : ∀ v' w', Rel zn v' w' → NoRow Ch v' → Fto tb cb x v v' → GoesI Try.prog main (DT (ScZ zn) Ch) Stop (G (bc.at (ac.put oc.dst (.bool true)) (.inRegion ops rest :: k)) cs) w') (code : Code) (hc : Try.f27.body = some code) :
    GoesI Try.prog main (DT (ScZ zn) Ch) Stop (G ((base 27).at { tmps := #[Pt cb 0, Pt tb 0, I n] ++ Array.replicate 16 undef, defers := [] } [.code code]) (bc.at ac (.inRegion ops (q :: rest) :: k) :: cs)) w := by
  refine until_in n _ (fun u => ?_) code hc
  have hd : ∀ v2 w2, Rel zn v2 w2 → NoRow Ch v2 → Fto tb cb x v v2 → GoesI Try.prog main (DT (ScZ zn) Ch) Stop (G (uSeen cb tb n u (I x)) (bc.at ac (.inRegion ops (q :: rest) :: k) :: cs)) w2 := fun v2 w2 h1 h2 h3 => until_diff n x hx u cs hoc h1 h2 (fun v3 w3 r3 n3 e1 e2 e3 => hk v3 w3 r3 n3 (h3.same e1 e2 e3))
  unfold uSeen ops161 at hd
  unfold uFr
  unfold L16 T16 Try.f27 seq2 seq1 blockC loopC opsOf at hd
  unfold L16 T16 Try.f27 seq2 seq1 blockC loopC
  simp only [Option.getD_some] at hd ⊢
  refine goesI_seq (dt_idle _ _) ?_
  refine goesI_seq (dt_idle _ _) ?_
  refine goesI_region (dt_idle _ _) ?_
  simp only [List.size_toArray, List.length_cons, List.length_nil, Nat.reduceAdd, Nat.zero_add, List.range, List.range.loop]
  iterate 2
    (refine goesI_oper rfl rfl (by decide) (fun d K hK => ?_)
     go_simp
     refine hK _ _ ⟨dt_reads (fun e he => ?_), GoesI.at ?_ d⟩
     · have hm := mem_listed he
       simp [go_sem, *] at hm
       try exact ⟨_, _, hm⟩
     clear hK K)
  refine goesI_into (f := 28) (fn := Try.f28) (args := #[Pt cb 0, Pt tb 0]) (dt_idle _ _) rfl rfl (by decide) rfl (by simp [Act.eval]) Try.func28 (by decide) rfl ?_
  refine free17 x _ rfl hvw hn hm (fun v2 w2 r2 n2 h2 => ?_) _ rfl
  exact hd v2 w2 r2 n2 h2

theorem body24n (v : World) : Body Try.f58 #[.pointer none] v (fun r v' => r = I 0 ∧ v' = v) := by
  intro code hb
  obtain rfl := Option.some.inj hb
  clear hb
  simp only [Try.ntmps58, List.size_toArray, List.length_cons, List.length_nil, Nat.reduceAdd, Nat.reduceSub, Array.replicate_succ, Array.replicate_zero, List.push_toArray, List.append_toArray, List.nil_append, List.cons_append]
  go_wp2_with fail
  go_ret
  exact ⟨_, rfl, rfl, rfl⟩
set_option maxHeartbeats 2000000 in
set_option maxRecDepth 100000 in
theorem body10n (v : World) (x : Int) : Body Try.f21 #[.pointer none, I x] v (fun r v' => r = Pt v.heap.size 0 ∧ v'.heap = v.heap.push (.cells #[I 0, I x] 94) ∧ v'.os = v.os ∧ v'.output = v.output) := by
  intro code hb
  obtain rfl := Option.some.inj hb
  clear hb
  simp only [Try.ntmps21, List.size_toArray, List.length_cons, List.length_nil, Nat.reduceAdd, Nat.reduceSub, Array.replicate_succ, Array.replicate_zero, List.push_toArray, List.append_toArray, List.nil_append, List.cons_append]
  go_wp2_with (first
    | (go_at_call 58; refine ((body24n v).calls Try.func58 rfl).mono ?_; rintro e w1 ⟨r1, rfl, rfl, rfl⟩)
    | (go_at_call 59
       have hb : (w1.alloc (.cells #[I 0, I 0] 94)).heap[w1.heap.size]? = some (.cells #[I 0, I 0] 94) := Array.getElem?_push_size
       refine ((body25 w1.heap.size 0 x _ (by unfold World.cell?; rw [hb]; rfl) (by unfold World.frozen?; rw [hb]; rfl)).calls Try.func59 rfl).mono ?_; rintro e w2 ⟨r2, rfl, rfl, rfl⟩))
  go_ret
  exact ⟨_, rfl, rfl, rfl, rfl, rfl⟩
set_option maxHeartbeats 2000000 in
set_option maxRecDepth 100000 in
theorem body11 (v : World) : Body Try.f22 #[I 3] v (fun r v' => r = Pt v.heap.size 0 ∧ v'.heap = v.heap.push (.cells #[.pointer none, I 3, .chan none, I 0, I 0, I 0, I 0] 97) ∧ v'.os = v.os ∧ v'.output = v.output) := by
  intro code hb
  obtain rfl := Option.some.inj hb
  clear hb
  simp only [Try.ntmps22, List.size_toArray, List.length_cons, List.length_nil, Nat.reduceAdd, Nat.reduceSub, Array.replicate_succ, Array.replicate_zero, List.push_toArray, List.append_toArray, List.nil_append, List.cons_append]
  go_wp2_with fail
  go_ret
  exact ⟨_, rfl, rfl, rfl, rfl, rfl⟩
theorem body18 (v : World) (cb : Nat) (h : v.cell? ⟨cb, 0, none⟩ = some (I 0)) : Body Try.f29 #[Pt cb 0] v (fun r v' => r = I 0 ∧ v' = v) := by
  intro code hb
  obtain rfl := Option.some.inj hb
  clear hb
  simp only [Try.ntmps29, List.size_toArray, List.length_cons, List.length_nil, Nat.reduceAdd, Nat.reduceSub, Array.replicate_succ, Array.replicate_zero, List.push_toArray, List.append_toArray, List.nil_append, List.cons_append]
  go_wp2_with fail
  go_ret
  exact ⟨_, rfl, rfl, rfl⟩
end Go.Proofs.Ytfjjoohflcchnaa
