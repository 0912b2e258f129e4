/- LockNames is true of the program at this commit: the law's head plays one thread of a lock in a world, by the machine, and the numbers are those that the chapter names; no conditions. Part 33 of 33. (Joined, by program, of: LokAw3, GEnd, LokNm, GRow, LokNmRow.) -/
import Derived.Test.YtehingmdmijedaaLockNames26
import Derived.Test.YtehingmdmijedaaLockNames32
import Derived.Conc.LeavingOf
import Derived.ProofKit
import Derived.OpenShut
import Derived.ChangeOld
import Derived.Lib.SmallJoins
import Derived.Deep.SlicePairs
import Derived.Test.YtehingmdmijedaaRows

/- The laws' first play of a lock (awake), whole, by the machine: true. -/
set_option linter.unusedSimpArgs false
set_option linter.unusedVariables false
namespace Go.Proofs.Ytehingmdmijedaa.Gen
open Go Go.Lift Go.Conc Go.RowKit
open Go.ConcN (upd upd_same upd_ne)

section
variable {wb bk base : Nat} {sc cv : Value} {c0 c1 gb : Nat} {l0 : Nat → Ph}
theorem hires_lok {caps : Array Value} {pk : Nat → Option Obj} {N c : Nat} {S1 : TS} {l1 : Nat → Ph} (h : Hires mcLock 0 (scrs mcLock 61 caps pk N 1 [(c0, 0), (c1, 0), (gb, 0)] (fun _ => some ⟨c, 0, none⟩) (fun _ => 2) (fun _ => 2) (fun _ => c) (fun _ => clsL)) (awS wb bk base sc cv 3) l0 S1 l1) :
    ∃ tv0 tb0 gc0, (⟨S1, [(c0, 0), (c1, 0), (gb, 0)], l1⟩ : PSt) = awP wb bk base sc cv tv0 tb0 gc0 c0 c1 gb l0 := by
  have e : (scrs mcLock 61 caps pk N 1 [(c0, 0), (c1, 0), (gb, 0)] (fun _ => some ⟨c, 0, none⟩) (fun _ => 2) (fun _ => 2) (fun _ => c) (fun _ => clsL)) = [scrOf mcLock 61 caps pk N 1 [c0, c1, gb] (fun _ => some ⟨c, 0, none⟩) (fun _ => 2) (fun _ => 2) (fun _ => c) (fun _ => clsL) 0] := rfl
  rw [e] at h
  cases h with
  | cons tv0 tb0 gc0 h =>
    cases h
    exact ⟨tv0, tb0, gc0, rfl⟩
end

theorem asked28 {v u : World} {wb bk : Nat} {sc : Value} {c : Nat} (s : Set28 v wb bk sc c u) : Asked u (newS wb bk v.heap.size sc []) 1 (c + 1) 0 (fun _ => some ⟨c, 0, none⟩) (fun _ => 2) (fun _ => 2) (fun _ => c) (fun _ => clsL) := by
  refine ⟨fun j hj => ⟨rfl, by decide⟩, fun k hk => ?_, fun h => by have := (s.own _ (.inl h)).2; omega, fun j hj _ => ⟨rfl, fun h => by have := (s.own _ (.inl h)).2; omega⟩, fun j hj k x hx => ?_, fun j hj x hx => ?_⟩
  · obtain rfl : k = 0 := by omega
    exact cell_of s.scr rfl
  · match k, hx with
    | 0, hx =>
      cases hx
      exact ⟨cell_of s.calls rfl, cell_of s.calls rfl, cell_of s.calls rfl, cell_of s.calls rfl⟩
    | 1, hx =>
      cases hx
      exact ⟨cell_of s.calls rfl, cell_of s.calls rfl, cell_of s.calls rfl, cell_of s.calls rfl⟩
    | k + 2, hx => simp [clsL] at hx
  · simp only [clsL, List.mem_cons, List.not_mem_nil, or_false] at hx
    rcases hx with rfl | rfl <;> decide

theorem K_three {K : List (Nat × Int)} (hK : K.map (·.2) = [0, 0, 0]) : ∃ c0 c1 gb, K = [(c0, 0), (c1, 0), (gb, 0)] := by
  match K, hK with
  | [], hK => cases hK
  | [x], hK => simp at hK
  | [x, y], hK => simp at hK
  | [x, y, z], hK =>
    obtain ⟨a, b⟩ := x
    obtain ⟨c, d⟩ := y
    obtain ⟨e, f⟩ := z
    simp only [List.map_cons, List.map_nil, List.cons.injEq, and_true] at hK
    obtain ⟨rfl, rfl, rfl⟩ := hK
    exact ⟨a, c, e, rfl⟩
  | x :: y :: z :: u :: l, hK => simp at hK

set_option maxHeartbeats 1000000 in
theorem lawake_all {cs : List Frame} {bc : Frame} {ac : Act} {ops : Array Oper} {q0 : Nat} {rest : List Nat} {oc : Oper} {k0 : List Item} (hoc : ops[q0]? = some oc) {w : World} {T : Trace} {gs : Array Goroutine} {q : Nat → Nat} (sl : Option (Nat × Nat)) (A : Alone gs w T q)
    (hg : gs[0]? = some (G ((base 28).at { tmps := Array.replicate 53 undef, defers := [] } [.code B28]) (bc.at ac (.inRegion ops (q0 :: rest) :: k0) :: cs))) :
    ∃ (N' : Nat) (gs' : Array Goroutine) (w' : World) (sl' : Option (Nat × Nat)) (T' : Trace) (q' : Nat → Nat),
      runNT Try.prog N' (crowd gs w sl) T = (.next (crowd gs' w' sl'), T') ∧ gs'[0]? = some (G (bc.at (ac.put oc.dst (.bool true)) (.inRegion ops rest :: k0)) cs) ∧ Alone gs' w' T' q' ∧ Grows w w' := by
  have hG : GoesI Try.prog true (DT (ScZ zn) (fun _ => False)) (fun g w' => ∃ (wb bk : Nat) (sc : Value) (c : Nat) (bd : Frame) (ad : Act) (od : Array Oper) (qd : Nat) (rd : List Nat) (oe : Oper) (kd : List Item), Set28 w wb bk sc c w' ∧ od[qd]? = some oe ∧
      (∀ (Ch : Nat → Prop) (Stop : Goroutine → World → Prop) (M A0 : Nat) (v w : World), Rel zn v w → NoRow Ch v → Done28 M A0 v → (∀ v' w', Rel zn v' w' → NoRow Ch v' → Grows v v' → GoesI Try.prog true (DT (ScZ zn) Ch) Stop (G (bc.at (ac.put oc.dst (.bool true)) (.inRegion ops rest :: k0)) cs) w') → GoesI Try.prog true (DT (ScZ zn) Ch) Stop (G (bd.at (ad.put oe.dst (.tuple #[.slice (some ⟨M, 0, none⟩) 1 1, I 0])) (.inRegion od rd :: kd)) (bc.at ac (.inRegion ops (q0 :: rest) :: k0) :: cs)) w) ∧
      g = G ((base 31).at { tmps := #[Pt wb 0, .slice (some ⟨c + 1, 0, none⟩) 1 1] ++ Array.replicate 21 undef, defers := [] } [.code B31]) (bd.at ad (.inRegion od (qd :: rd) :: kd) :: bc.at ac (.inRegion ops (q0 :: rest) :: k0) :: cs)) (G ((base 28).at { tmps := Array.replicate 53 undef, defers := [] } [.code B28]) (bc.at ac (.inRegion ops (q0 :: rest) :: k0) :: cs)) w :=
    lawake_in cs hoc (Rel.refl w) (fun c hc => hc.elim) (fun v' w' wb bk sc c bd ad od qd rd oe kd hr hn hset ho hback => GoesI.stop fun d => ⟨wb, bk, sc, c, bd, ad, od, qd, rd, oe, kd, hset.same hr.eq hr.os hr.output, ho, hback, rfl⟩)
  obtain ⟨N1, gs1, a1, w1, sl1, T1, q1, r1, z1, h1, ⟨wb, bk, sc, c, bd, ad, od, qd, rd, oe, kd, s, hoe, hback, rfl⟩, A1⟩ := alone_goes A hg sl hG
  have l0 : Nat → Ph := fun _ => .done []
  obtain ⟨N2, gs2, w2, sl2, T2, q2, caps, pk, N, cv, K, S', S1, l1, m, p', r2, z2, h2, A2, hK, hnv, hH, hT, O⟩ := lplay_all (S := newS wb bk w.heap.size sc []) (n := 1) (sb := c + 1) (so := 0) (cap := 1) (pc := fun _ => some ⟨c, 0, none⟩) (ln := fun _ => 2) (cp := fun _ => 2) (rb := fun _ => c) (cl := fun _ => clsL) hoe sl1 10 A1 h1 s.mem rfl rfl rfl s.opn (asked28 s) (by decide) (fun caps pk N K => by show 0 + 2 * (2 + 0) ≤ 1000000; decide) (by show 0 ≤ 4611686018427387904; decide) (by show ∀ x ∈ ([] : List Int), _; simp) l0 (fun caps pk N cv K hK S1 l1 hH => by
      obtain ⟨c0, c1, gb, rfl⟩ := K_three hK
      obtain ⟨tv0, tb0, gc0, e⟩ := hires_lok (wb := wb) (bk := bk) (base := w.heap.size) (sc := sc) (cv := cv) hH
      exact ⟨10, _, Nat.le_refl _, by rw [e]; exact turns_of 10 _ (aw_runs wb bk _ sc cv tv0 tb0 gc0 c0 c1 gb l0), by rw [aw_n]; decide⟩)
  obtain ⟨c0, c1, gb, rfl⟩ := K_three hK
  obtain ⟨tv0, tb0, gc0, e⟩ := hires_lok (wb := wb) (bk := bk) (base := w.heap.size) (sc := sc) (cv := cv) hH
  have hT' : Turns mcLock m (⟨S1, [(c0, 0), (c1, 0), (gb, 0)], l1⟩ : PSt) p' := hT
  rw [e] at hT'
  have hp := turns_det hT' (turns_of 10 _ (aw_runs wb bk w.heap.size sc cv tv0 tb0 gc0 c0 c1 gb l0))
  have hans := aw_ans wb bk w.heap.size sc cv tv0 tb0 gc0 c0 c1 gb l0
  rw [← hp] at hans
  have a0 := (O.ans 0 (by decide)).2.1 (by decide)
  rw [hans] at a0
  have hD : Done28 (N + 1) (N + 4 + 3 * 0 + 2) w2 := ⟨O.rows 0 (by decide), cell_of a0 rfl, cell_of a0 rfl, cell_of a0 rfl⟩
  obtain ⟨N3, gs3, a3, w3, sl3, T3, q3, r3, z3, h3, ⟨rfl, hg3⟩, A3⟩ := alone_goes A2 h2 sl2 (hback (fun _ => False) (fun g w' => g = G (bc.at (ac.put oc.dst (.bool true)) (.inRegion ops rest :: k0)) cs ∧ Grows w2 w') (N + 1) _ w2 w2 (Rel.refl w2) (fun c hc => hc.elim) hD (fun v' w' hr hn hgr => GoesI.stop fun d => ⟨rfl, by
      have e : (w'.at d).heap = v'.heap := hr.eq
      exact ⟨by rw [e]; exact hgr.size, fun b hb => by rw [e]; exact hgr.old b hb, hr.os.trans hgr.os, hr.output.trans hgr.output⟩⟩))
  refine ⟨N1 + N2 + N3, gs3, w3, sl3, T3, q3, runNT_then (runNT_then r1 r2) r3, h3, A3, ⟨by have := s.old.size; have := O.size; have := hg3.size; omega, fun b hb => ?_, hg3.os.trans (O.os.trans s.old.os), hg3.output.trans (O.out.trans s.old.output)⟩⟩
  have hs1 := s.old.size
  have hno : ¬ (Own (newS wb bk w.heap.size sc []) [] b ∨ b = bk) := fun h => by have := (s.own b h).1; omega
  have h5 := O.old b (by omega) (fun h => hno (.inl h)) (fun h => hno (.inr h))
  rw [hg3.old b (by have := O.size; omega), h5.1, s.old.old b hb]
end Go.Proofs.Ytehingmdmijedaa.Gen

/- A law's last stretch: a lone walk to its return; and its end. -/
set_option linter.unusedSimpArgs false
set_option linter.unusedVariables false
namespace Go.Proofs.Ytehingmdmijedaa.Gen
open Go Go.Lift Go.Conc Go.RowKit

/-- Code that returns, walked alone. -/
theorem goesI_retZ {Ch : Nat → Prop} {Stop : Goroutine → World → Prop} {main : Bool} {f : FuncId} {c : Code} {act : Act} {more : List Item} {cs : List Frame} {v w : World} {Q : Act → World → Prop} (hvw : Rel zn v w) (hn : NoRow Ch v) (hc : fineCode Try.prog true LV c) (ha : act.defers = [])
    (hwp : ∀ τ, c.wp Try.prog (fun e a w' => e = .ret ∧ Q a w') act (onTape v τ 0))
    (h : ∀ a' v' w' todo, Q a' v' → a'.defers = [] → Rel zn v' w' → NoRow Ch v' → GoesI Try.prog main (DT (ScZ zn) Ch) Stop (G { (base f).at a' todo with mode := .returning } cs) w') :
    GoesI Try.prog main (DT (ScZ zn) Ch) Stop (G ((base f).at act (.code c :: more)) cs) w := by
  have hfin := lift_code (P := Try.prog) (z := zn) (wr := true) (L := LV) (D := DT (ScZ zn) Ch) (I := NoRow Ch) (main := main) (b := base f) (k := more) (cs := cs) hE fineV noRow_keeps (fun v v' w w' es hi hr ho he => dt_of_z v v' w w' es hi hr ho he) hvw hc ha (by simp [base]) hn
    (Q := fun e a w' => e = .ret ∧ Q a w') hwp (fun e a w hq => .inr hq.1)
  refine hfin.then ?_
  rintro g w' ⟨a', v', hr, hiv, hd, ⟨⟨hq, _⟩, _⟩ | ⟨⟨_, hQ⟩, todo, rfl⟩⟩
  · cases hq
  · exact h a' v' w' todo hQ hd hr hiv

theorem _root_.Go.Proofs.Ytehingmdmijedaa.Grows.toAt {W v w : World} (h : Grows W v) (hr : Rel zn v w) (d : Nat) : Grows W (w.at d) := by
  have e : (w.at d).heap = v.heap := hr.eq
  exact ⟨by rw [e]; exact h.size, fun b hb => by rw [e]; exact h.old b hb, hr.os.trans h.os, hr.output.trans h.output⟩
theorem _root_.Go.Proofs.Ytehingmdmijedaa.Grows.andThen {W v w : World} (h : Grows W v) (k : Grows v w) : Grows W w := ⟨Nat.le_trans h.size k.size, fun b hb => by rw [k.old b (by have := h.size; omega), h.old b hb], k.os.trans h.os, k.output.trans h.output⟩
def PostT (W : World) (r : Value) (w' : World) : Prop := r = .bool true ∧ Grows W w'
end Go.Proofs.Ytehingmdmijedaa.Gen

/- The law LockNames (6), whole, by the machine. -/
set_option linter.unusedSimpArgs false
set_option linter.unusedVariables false
namespace Go.Proofs.Ytehingmdmijedaa.Gen
open Go Go.Lift Go.Conc Go.RowKit

noncomputable def B6 : Code := Try.f6.body.getD .skip
noncomputable def T6 : Code := seq2 (seq2 B6)
theorem eB6 : B6 = .seq (seq1 B6) (.seq (seq1 (seq2 B6)) T6) := by kernel_rfl
theorem fineT6 : fineCode Try.prog true LV T6 := fineCode_askS callV extT (by kernel_rfl)

set_option maxHeartbeats 2000000 in
set_option maxRecDepth 100000 in
theorem body29 {v : World} (x : Int) : Body Try.f29 #[I x] v (fun r v' => r = I x ∧ v' = v) := by
  intro code hb
  obtain rfl := Option.some.inj hb
  clear hb
  simp only [Try.ntmps29, List.size_toArray, List.length_cons, List.length_nil, Nat.reduceAdd, Nat.reduceSub, Array.replicate_succ, Array.replicate_zero, List.push_toArray, List.append_toArray, List.nil_append, List.cons_append]
  go_wp2
  go_ret
  exact ⟨_, rfl, rfl, rfl⟩

set_option maxHeartbeats 4000000 in
set_option maxRecDepth 100000 in
theorem T6_wp {v : World} : T6.wp Try.prog (fun e a w' => e = .ret ∧ a.tmps.getD 0 undef = .bool true ∧ w'.heap = v.heap ∧ w'.os = v.os ∧ w'.output = v.output)
      { tmps := #[.bool false, .bool true, .bool true] ++ Array.replicate 21 undef, defers := [] } v := by
  have H : ∀ (x : Int) (w : World), Hid (Calls Try.prog 29 #[I x] w (fun e w' => e = .returned (I x) ∧ w' = w)) := fun x w => ⟨((body29 (v := w) x).calls Try.func29 rfl).mono (by
    rintro e w' ⟨r, rfl, rfl, rfl⟩
    exact ⟨rfl, rfl⟩)⟩
  show Code.wp Try.prog (seq2 (seq2 (Try.f6.body.getD .skip))) _ _ _
  unfold Try.f6 seq2
  simp only [Option.getD_some, Array.replicate_succ, Array.replicate_zero, List.push_toArray, List.append_toArray, List.nil_append, List.cons_append]
  go_wp2_with (first
    | (go_at_call 29; refine (H _ _).out.mono ?_; rintro e w1 ⟨rfl, rfl⟩))

set_option maxHeartbeats 4000000 in
set_option maxRecDepth 100000 in
theorem law6_in {Ch : Nat → Prop} {Stop : Goroutine → World → Prop} {main : Bool} {w : World}
    (hk : ∀ (w' : World) (bd : Frame) (ad : Act) (od : Array Oper) (qd : Nat) (rd : List Nat) (oe : Oper) (kd : List Item), (∃ d, w' = w.at d) → od[qd]? = some oe →
      (∀ (Ch : Nat → Prop) (Stop : Goroutine → World → Prop) (v1 w1 : World), Rel zn v1 w1 → NoRow Ch v1 → (∀ a' v' w' todo, Rel zn v' w' → Grows v1 v' → a'.defers = [] → a'.tmps.getD 0 undef = .bool true → GoesI Try.prog main (DT (ScZ zn) Ch) Stop (G { (base 6).at a' todo with mode := .returning } []) w') → GoesI Try.prog main (DT (ScZ zn) Ch) Stop (G (bd.at (ad.put oe.dst (.bool true)) (.inRegion od rd :: kd)) []) w1) →
      GoesI Try.prog main (DT (ScZ zn) Ch) Stop (G ((base 28).at { tmps := Array.replicate 53 undef, defers := [] } [.code B28]) [bd.at ad (.inRegion od (qd :: rd) :: kd)]) w') :
    GoesI Try.prog main (DT (ScZ zn) Ch) Stop (G ((base 6).at { tmps := Array.replicate 24 undef, defers := [] } [.code B6]) []) w := by
  rw [eB6]
  simp only [Array.replicate_succ, Array.replicate_zero, List.push_toArray, List.append_toArray, List.nil_append, List.cons_append]
  refine goesI_seq (dt_idle _ _) ?_
  generalize hR : T6 = R6
  unfold B6 Try.f6 seq1 seq2
  simp only [Option.getD_some]
  refine goesI_region (dt_idle _ _) ?_
  simp only [List.size_toArray, List.length_cons, List.length_nil, Nat.reduceAdd, Nat.zero_add, List.range, List.range.loop]
  (refine goesI_oper rfl rfl (by decide) (fun d K hK => ?_)
   go_simp
   refine hK _ _ ⟨dt_reads (fun e he => ?_), GoesI.at ?_ d⟩
   · have hm := mem_listed he
     simp [go_sem, *] at hm
   clear hK K)
  refine goesI_regionEnd (dt_idle _ _) ?_
  refine goesI_seq (dt_idle _ _) ?_
  refine goesI_region (dt_idle _ _) ?_
  simp only [List.size_toArray, List.length_cons, List.length_nil, Nat.reduceAdd, Nat.zero_add, List.range, List.range.loop]
  refine goesI_into (f := 28) (fn := Try.f28) (args := #[]) (dt_idle _ _) rfl rfl (by decide) rfl (by simp [Act.eval]) Try.func28 (by decide) rfl ?_
  refine hk w _ _ _ _ _ _ _ ⟨w.drawn, rfl⟩ rfl (fun Ch Stop v1 w1 hvw hn hend => ?_)
  clear hk
  (refine goesI_oper rfl rfl (by decide) (fun d K hK => ?_)
   go_simp
   refine hK _ _ ⟨dt_reads (fun e he => ?_), GoesI.at ?_ d⟩
   · have hm := mem_listed he
     simp [go_sem, *] at hm
   clear hK K)
  refine goesI_regionEnd (dt_idle _ _) ?_
  subst hR
  refine goesI_retZ (Q := fun a w' => a.tmps.getD 0 undef = .bool true ∧ w'.heap = v1.heap ∧ w'.os = v1.os ∧ w'.output = v1.output) hvw hn fineT6 rfl (fun τ => ?_) (fun a' v' w' todo hQ hd hr hn' => hend a' v' w' todo hr ⟨by rw [hQ.2.1]; exact Nat.le_refl _, fun b _ => by rw [hQ.2.1], hQ.2.2.1, hQ.2.2.2⟩ hd hQ.1)
  have h := T6_wp (v := onTape v1 τ 0)
  simp only [Array.replicate_succ, Array.replicate_zero, List.push_toArray, List.append_toArray, List.nil_append, List.cons_append] at h ⊢
  exact h

theorem end6 {a : Act} {todo : List Item} {w : World} (hd : a.defers = []) (h4 : a.tmps.getD 0 undef = .bool true) : stepG Try.prog true (G { (base 6).at a todo with mode := .returning } []) w = .ended (.done (.bool true)) w #[] := by
  have hr : (results Try.f6 a.tmps).run Try.prog w = .ok (.bool true) w := by rw [results_tmp (t := 0) rfl, h4]
  have he : (results Try.f6 a.tmps).events Try.prog w #[] = #[] := by simp [results, go_sem, Try.f6]
  simp [G, stepG, unwind, Frame.at, hd, Try.func6, base, hr, he, doReturn, GStep.after, seen]

set_option maxHeartbeats 1000000 in
theorem run6 (W : World) :
    ∃ M last o w' t', runNT Try.prog (M + 1) (solo (G (Frame.enter Try.prog 6 #[] .normal) []) W) #[] = (.ended o w', t') ∧
      runN Try.prog M (solo (G (Frame.enter Try.prog 6 #[] .normal) []) W) = .next last ∧ step Try.prog last = .ended o w' ∧ Go.Conc.Good Try.prog (PostT W) last o w' t' := by
  have e : Frame.enter Try.prog 6 #[] .normal = (base 6).at { tmps := Array.replicate 24 undef, defers := [] } [.code B6] := by
    have := enter_at (fn := Try.f6) (c := B6) #[] Try.func6 (by rfl)
    exact this
  rw [e, solo_eq_crowd]
  have A : Alone #[G ((base 6).at { tmps := Array.replicate 24 undef, defers := [] } [.code B6]) []] W #[] (fun _ => 0) := ⟨leavers_one _ _, 0, Nat.zero_le _, past_nil⟩
  have hG : GoesI Try.prog true (DT (ScZ zn) (fun _ => False)) (fun g w' => ∃ (bd : Frame) (ad : Act) (od : Array Oper) (qd : Nat) (rd : List Nat) (oe : Oper) (kd : List Item), (∃ d, w' = W.at d) ∧ od[qd]? = some oe ∧
      (∀ (Ch : Nat → Prop) (Stop : Goroutine → World → Prop) (v1 w1 : World), Rel zn v1 w1 → NoRow Ch v1 → (∀ a' v' w' todo, Rel zn v' w' → Grows v1 v' → a'.defers = [] → a'.tmps.getD 0 undef = .bool true → GoesI Try.prog true (DT (ScZ zn) Ch) Stop (G { (base 6).at a' todo with mode := .returning } []) w') → GoesI Try.prog true (DT (ScZ zn) Ch) Stop (G (bd.at (ad.put oe.dst (.bool true)) (.inRegion od rd :: kd)) []) w1) ∧
      g = G ((base 28).at { tmps := Array.replicate 53 undef, defers := [] } [.code B28]) [bd.at ad (.inRegion od (qd :: rd) :: kd)]) (G ((base 6).at { tmps := Array.replicate 24 undef, defers := [] } [.code B6]) []) W :=
    law6_in (fun w' bd ad od qd rd oe kd hw ho hback => GoesI.stop fun d => ⟨bd, ad, od, qd, rd, oe, kd, by obtain ⟨d0, rfl⟩ := hw; exact ⟨d, rfl⟩, ho, hback, rfl⟩)
  obtain ⟨N1, gs1, a1, w1, sl1, T1, q1, r1, z1, h1, ⟨bd, ad, od, qd, rd, oe, kd, ⟨d1, rfl⟩, hoe, hback, rfl⟩, A1⟩ := alone_goes A rfl none hG
  obtain ⟨N2, gs2, w2, sl2, T2, q2, r2, h2, A2, g2⟩ := lawake_all hoe sl1 A1 h1
  have g2' : Grows W w2 := ⟨g2.size, g2.old, g2.os, g2.output⟩
  obtain ⟨N3, gs3, a3, w3, sl3, T3, q3, r3, z3, h3, ⟨a', todo, hd, h4, g3, rfl⟩, A3⟩ := alone_goes A2 h2 sl2 (hback (fun _ => False) (fun g w' => ∃ a' todo, a'.defers = [] ∧ a'.tmps.getD 0 undef = .bool true ∧ Grows w2 w' ∧ g = G { (base 6).at a' todo with mode := .returning } []) w2 w2 (Rel.refl w2) (fun c hc => hc.elim) (fun a' v' w' todo hr hgr hd h4 => GoesI.stop fun d => ⟨a', todo, hd, h4, hgr.toAt hr d, rfl⟩))
  have hfin : Grows W w3 := g2'.andThen g3
  obtain ⟨M4, last, o, w', t', e1, e2, e3, e4⟩ := alone_ends A3 h3 sl3 (Post := PostT W) (fun B d => ⟨rfl, .bool true, #[], end6 hd h4, fun e he => by simp at he, rfl, ⟨hfin.size, hfin.old, hfin.os, hfin.output⟩⟩)
  have hrun := runNT_then (runNT_then r1 r2) r3
  refine ⟨N1 + N2 + N3 + M4, last, o, w', t', ?_, ?_, e3, e4⟩
  · rw [Nat.add_assoc, runNT_add, hrun]; exact e1
  · rw [runN_add, ← runNT_fst Try.prog _ _ #[], hrun]; exact e2
end Go.Proofs.Ytehingmdmijedaa.Gen

/- What came in, opened; what stays. -/
set_option linter.unusedSimpArgs false
set_option linter.unusedVariables false
namespace Go.Proofs.Ytehingmdmijedaa.Gen
open Go Go.Lift Go.Conc
open Go.ChangeShapes Go.WideShapes Go.ChangeAt Go.RowKit Go.Joins Go.Deep

/-- A list of calls that came in lies there. -/
def InL (w : World) (lb lo : Nat) (calls : List Cl) : Prop := ∀ (k : Nat) (c : Cl), calls[k]? = some c → w.cell? ⟨lb, lo + k * 4, none⟩ = some (I c.po) ∧ w.cell? ⟨lb, lo + k * 4 + 1, none⟩ = some (I c.ca) ∧ w.cell? ⟨lb, lo + k * 4 + 2, none⟩ = some (I c.cb) ∧ w.cell? ⟨lb, lo + k * 4 + 3, none⟩ = some (I c.cc)
theorem wr_knob : ownKnob Try.prog.godebug = none := by kernel_rfl
theorem wr_cells3 : Try.prog.cellsOf 3 = 1 := by kernel_rfl
theorem wr_cells39 : Try.prog.cellsOf 39 = 4 := by kernel_rfl
def clL (c : Cl) : List Value := [I c.po, I c.ca, I c.cb, I c.cc]

section
variable {H : Type} {enc : TypeId × Value → H} {w : World} {held : Bool}
set_option maxRecDepth 100000 in
theorem cl_open : ∀ fuel cs (y : DataW H × List MemPlace), cs.length = 4 → DataW.trod enc Try.prog w 0 (fun _ => true) held fuel 39 cs = some y → ∃ a, cs = clL a := by
  intro fuel cs y hl h
  obtain ⟨xs, k, hk, hxy, _, hxl, hf⟩ := DataW.trod_struct Try.underlying39 h
  match xs, hxl, cs, hl with
  | [y0, y1, y2, y3], _, [c0, c1, c2, c3], _ =>
    have g0 := hf 0 _ rfl
    have g1 := hf 1 _ rfl
    have g2 := hf 2 _ rfl
    have g3 := hf 3 _ rfl
    simp [wr_cells3] at g0 g1 g2 g3
    obtain ⟨a0, e0, _, f0⟩ := DataW.trod_int Try.underlying3 g0
    obtain ⟨a1, e1, _, f1⟩ := DataW.trod_int Try.underlying3 g1
    obtain ⟨a2, e2, _, f2⟩ := DataW.trod_int Try.underlying3 g2
    obtain ⟨a3, e3, _, f3⟩ := DataW.trod_int Try.underlying3 g3
    simp at e0 e1 e2 e3
    subst e0 e1 e2 e3
    exact ⟨⟨a0, a1, a2, a3⟩, rfl⟩
set_option maxRecDepth 100000 in
/-- A list of calls that came in. -/
theorem cls_open {r : Reach} {b0 : Nat} {v : Value} {d : DataW H} {ps : List MemPlace} (hv : Value.okWide Try.prog w r b0 37 v) (h : DataW.Trod enc Try.prog w 0 (fun _ => true) held 37 v d ps) :
    ∃ (p : Option Addr) (n cap lb lo : Nat) (l : List Cl), v = .slice p n cap ∧ (0 < n → p = some ⟨lb, lo, none⟩) ∧ l.length = n ∧ n ≤ maxLen ∧ InL w lb lo l := by
  obtain ⟨a0, len0, cap0, rfl⟩ := okWide_slice Try.underlying37 hv
  obtain ⟨fuel, hf⟩ := h
  rcases open_slice Try.underlying37 hf with ⟨hcs, hx⟩ | ⟨ad, len, cap, m, k, D, Pl, hcs, _, hl, hm, hmm, hxe, hx⟩
  · simp [Value.cells] at hcs
    obtain ⟨rfl, rfl, rfl⟩ := hcs
    exact ⟨none, 0, 0, 0, 0, [], rfl, fun h => by omega, rfl, Nat.zero_le _, fun k c h => by simp at h⟩
  · simp [Value.cells] at hcs
    obtain ⟨rfl, rfl, rfl⟩ := hcs
    simp only [if_true] at hmm
    subst hmm
    have each : ∀ i, i < len0 → ∃ a : Cl, ∀ j, j < 4 → w.cell? ((ad.add (i * 4)).add j) = (clL a)[j]? := by
      intro i hi
      obtain ⟨cs', h1, h2⟩ := hx i (by omega)
      rw [wr_cells39] at h1
      obtain ⟨_, hlen, hc⟩ := World.cells?_some h1
      obtain ⟨a, rfl⟩ := cl_open _ _ _ hlen h2
      exact ⟨a, hc⟩
    have ie : Inhabited Cl := ⟨⟨0, 0, 0, 0⟩⟩
    obtain ⟨q, hq⟩ := choose_lt each
    obtain ⟨b, off, spot⟩ := ad
    by_cases h0 : len0 = 0
    · subst h0
      exact ⟨_, 0, _, 0, 0, [], rfl, fun h => by omega, rfl, Nat.zero_le _, fun k c h => by simp at h⟩
    · have c00 := (hq 0 (by omega) 0 (by omega))
      have c01 : w.cell? (((⟨b, off, spot⟩ : Addr).add (0 * 4)).add 0) = some (I (q 0).po) := c00
      have hspot : spot = none := by
        have := World.cell?_spot c01
        simpa [Addr.add] using this
      subst hspot
      have hadd : ∀ (o j : Nat), (⟨b, o, none⟩ : Addr).add j = ⟨b, o + j, none⟩ := by intro o j; unfold Addr.add; split <;> simp_all
      refine ⟨_, len0, _, b, off, (List.range len0).map q, rfl, fun _ => rfl, by simp, Nat.le_trans hl hm, fun i a hi => ?_⟩
      have hil : i < len0 := by simpa using (List.getElem?_eq_some_iff.1 hi).1
      have ha : a = q i := by simp [hil] at hi; exact hi.symm
      subst ha
      have k0 := hq i hil 0 (by omega)
      have k1 := hq i hil 1 (by omega)
      have k2 := hq i hil 2 (by omega)
      have k3 := hq i hil 3 (by omega)
      rw [hadd, hadd] at k0 k1 k2 k3
      exact ⟨k0, k1, k2, k3⟩
end

theorem _root_.Go.Proofs.Ytehingmdmijedaa.Grows.frame {W w' : World} (h : Grows W w') (may : MemPlace → Prop) : W.keptBut w' may := by
  refine ⟨h.os, h.output, fun i hi => ?_⟩
  rw [h.old i hi]
  split <;> simp_all
theorem _root_.Go.Proofs.Ytehingmdmijedaa.Grows.sameP {W w' : World} (h : Grows W w') {p : MemPlace} (hp : p.block < W.heap.size) : W.sameAt w' p := by
  cases p with
  | cell b o => exact World.cell?_of_block (w := W) (h.old b hp)
  | map b => exact h.old b hp
theorem laidOut5 : laidOutB Try.prog = true := by kernel_rfl
theorem _root_.Go.Proofs.Ytehingmdmijedaa.Grows.trod {H : Type} {enc : TypeId × Value → H} {t : TypeId} (hr : Try.prog.readableRec t = true) (hrow : t < Try.prog.types.size) {W W' : World} {v : Value} {d : DataW H} {ps : List MemPlace}
    (h : DataW.Trod enc Try.prog W 0 (fun _ => true) true t v d ps) (hb : Grows W W') (hlt : ∀ x ∈ ps, x.block < W.heap.size) :
    DataW.Trod enc Try.prog W' 0 (fun b => decide (b < W.heap.size)) true t v d ps :=
  WideElems.Trod_stays laidOut5 hr hrow h (fun x hx => hb.sameP (hlt x hx)) (fun x hx => by simpa using hlt x hx)

end Go.Proofs.Ytehingmdmijedaa.Gen

/- THE ROW: LockNames: the laws' head plays one thread of a lock in a world, and the numbers are those that the chapter names. -/
set_option linter.unusedSimpArgs false
set_option linter.unusedVariables false
namespace Go.Proofs.Ytehingmdmijedaa
open Go Go.Lift Go.Conc
open Go.ChangeShapes Go.WideShapes Go.ChangeAt Go.RowKit Go.Joins Go.Deep
open Gen

set_option maxRecDepth 100000 in
theorem names_lifted (os : Os) (started : os.Started) (H : Type) (enc : TypeId × Value → H) :
    ReturnsInLeavingWide {} Try.checked os 6 .any (Rows.lockNamesSpec.pre6 enc Try.prog Try.f6 Rows.lockNamesRow.domain false) (Rows.lockNamesSpec.post enc Try.prog Try.f6 false true false false) := by
  refine returnsInLeavingWide_of_change_sized (C := Try.checked) wr_knob started Try.func6
    (ChangeSpec.witness6 (enc := enc) (C := Try.checked) false ⟨#[], #[], []⟩ 8 (by kernel_rfl) (by kernel_rfl) (by kernel_rfl) (by kernel_rfl)) ?_
  intro W base args ds gs before hval0 hW _ _ _
  have hW' := hW
  obtain ⟨p, q, hA0, hV, rfl, _, _⟩ := hW
  have hA : DataW.TrodAll enc Try.prog W 0 (fun _ => true) true Try.f6.params.toList args.toList ds p := hA0
  rw [Try.params6] at hA
  have hargs : args.toList = [] ∧ ds = [] ∧ p = [] := by
    obtain ⟨h1, h2, h3⟩ := trodAll_nil hA
    exact ⟨h1, h2, h3⟩
  obtain ⟨ha, rfl, rfl⟩ := hargs
  obtain rfl : args = #[] := by cases args; simp_all
  obtain ⟨rfl, rfl⟩ := trodVars_none hV
  clear hA0 hval0
  simp only [List.append_nil] at hW'
  obtain ⟨M, last, o, w', t', e1, e2, e3, e4⟩ := run6 W
  refine ⟨M, last, o, w', t', e1, e2, e3, e4.mono fun v hF => ?_⟩
  obtain ⟨rfl, bel⟩ : PostT W v w' := hF
  exact ⟨_, _, _, [], _, [], hW', trodAll_mk1 (shut_bool Try.underlying4 _), trodAll_mk0, rfl, bel.frame _, fun h => by cases h⟩

theorem lockNames_holds : Rows.LockNamesSaid :=
  OpenClaim.holds_of_wide_leaving 6 Try.f6 rfl rfl rfl rfl rfl rfl rfl ⟨rfl, rfl, rfl, rfl, rfl⟩ rfl rfl rfl rfl rfl (by kernel_rfl) Try.func6 (by kernel_rfl)
    (of_decide_eq_true (by kernel_rfl)) (by unfold Func.isWrapper; first | (rw [if_pos (by decide +kernel)]; kernel_rfl) | (rw [if_neg (by decide +kernel)]; exact ⟨rfl, rfl⟩))
    (fun os started H enc _ => names_lifted os started H enc)

#print axioms lockNames_holds
end Go.Proofs.Ytehingmdmijedaa
