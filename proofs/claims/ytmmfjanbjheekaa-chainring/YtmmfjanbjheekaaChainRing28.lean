/- ChainRing: of a ring the last who writes down is told, under every schedule. Part 28 of 28. (Joined, by program, of: La3g, La3Row.) -/
import Derived.Test.YtmmfjanbjheekaaChainRing22
import Derived.Test.YtmmfjanbjheekaaChainRing27
import Derived.Test.YtmmfjanbjheekaaRows

/- The law ChainRing (3), whole, by the machine. (Made by wip/tools/mk3g.py.) -/
set_option linter.unusedSimpArgs false
set_option linter.unusedVariables false
namespace Go.Proofs.Ytmmfjanbjheekaa.Gen
open Go Go.Lift Go.Conc Go.RowKit


set_option maxHeartbeats 2000000 in
theorem run3 (W : World) {p0 p1 p2 p3 : Option Addr} {b0 o0 c0 b1 o1 c1 b2 o2 c2 b3 o3 c3 : Nat} {xs pk se : List Int} {ns : List Cl} (i0 : InI W p0 b0 o0 xs) (i1 : InI W p1 b1 o1 pk) (i2 : InI W p2 b2 o2 se) (i3 : InK W p3 b3 o3 ns) :
    ∃ M last o w' t', runNT Try.prog (M + 1) (solo (G (Frame.enter Try.prog 3 #[.slice p0 xs.length c0, .slice p1 pk.length c1, .slice p2 se.length c2, .slice p3 ns.length c3] .normal) []) W) #[] = (.ended o w', t') ∧
      runN Try.prog M (solo (G (Frame.enter Try.prog 3 #[.slice p0 xs.length c0, .slice p1 pk.length c1, .slice p2 se.length c2, .slice p3 ns.length c3] .normal) []) W) = .next last ∧ step Try.prog last = .ended o w' ∧ Go.Conc.Good Try.prog (PostT W) last o w' t' := by
  have e : Frame.enter Try.prog 3 #[.slice p0 xs.length c0, .slice p1 pk.length c1, .slice p2 se.length c2, .slice p3 ns.length c3] .normal = (base 3).at { tmps := #[.slice p0 xs.length c0, .slice p1 pk.length c1, .slice p2 se.length c2, .slice p3 ns.length c3] ++ Array.replicate 250 undef, defers := [] } [.code C3] := enter_at (fn := Try.f3) (c := C3) _ Try.func3 (by rfl)
  rw [e, solo_eq_crowd]
  have A : Alone #[G ((base 3).at { tmps := #[.slice p0 xs.length c0, .slice p1 pk.length c1, .slice p2 se.length c2, .slice p3 ns.length c3] ++ Array.replicate 250 undef, defers := [] } [.code C3]) []] W #[] (fun _ => 0) := ⟨leavers_one _ _, 0, Nat.zero_le _, past_nil⟩
  -- to awake
  obtain ⟨N1, gs1, a1, w1, sl1, T1, q1, r1, z1, h1, ⟨bd, ad, od, qd, rd, oe, kd, ⟨d1, rfl⟩, hoe, hback, rfl⟩, A1⟩ := alone_goes A rfl none (Stop := fun g w' => ∃ (bd : Frame) (ad : Act) (od : Array Oper) (qd : Nat) (rd : List Nat) (oe : Oper) (kd : List Item), (∃ d, w' = W.at d) ∧ od[qd]? = some oe ∧
      (∀ (Ch : Nat → Prop) (Stop : Goroutine → World → Prop) (w1 : World), (∀ a, Fl 254 [(0, .slice p0 xs.length c0), (1, .slice p1 pk.length c1), (2, .slice p2 se.length c2), (3, .slice p3 ns.length c3), (9, .bool true)] a → GoesI Try.prog true (DT (ScZ zn) Ch) Stop (G ((base 3).at a [.code P3]) []) w1) → GoesI Try.prog true (DT (ScZ zn) Ch) Stop (G (bd.at (ad.put oe.dst (.bool true)) (.inRegion od rd :: kd)) []) w1) ∧
      g = G ((base 5).at { tmps := Array.replicate 89 undef, defers := [] } [.code hwB]) [bd.at ad (.inRegion od (qd :: rd) :: kd)])
    (law3_in _ _ _ _ (fun w' bd ad od qd rd oe kd hw ho hback => GoesI.stop fun d => ⟨bd, ad, od, qd, rd, oe, kd, by obtain ⟨d0, rfl⟩ := hw; exact ⟨d, rfl⟩, ho, hback, rfl⟩))
  obtain ⟨N2, gs2, w2, sl2, T2, q2, r2, h2, A2, g2⟩ := hawake_all hoe sl1 A1 h1
  have g2' : Grows W w2 := ⟨g2.size, g2.old, g2.os, g2.output⟩
  -- to Play, or to the end
  obtain ⟨N3, gs3, a3, w3, sl3, T3', q3, r3, z3, h3, hst3, A3⟩ := alone_goes A2 h2 sl2 (Stop := fun g w' => (∃ (u : World) (Sb wb bk : Nat) (sc : Value) (pc : Nat → Option Addr) (ln cp rb : Nat → Nat) (cl : Nat → List Cl) (bd : Frame) (ad : Act) (od : Array Oper) (qd : Nat) (rd : List Nat) (oe : Oper) (kd : List Item), Rdy w2 u xs Sb wb bk sc pc ln cp rb cl w' ∧ od[qd]? = some oe ∧
      (∀ (Ch : Nat → Prop) (Stop : Goroutine → World → Prop) (w2 : World) (A : Value) (E : Int), (∀ a, Fl 254 [(9, .bool true), (15, .slice (some ⟨Sb, 0, none⟩) 4 4), (20, Pt wb 0), (21, A), (22, I E)] a → GoesI Try.prog true (DT (ScZ zn) Ch) Stop (G ((base 3).at a [.code T3]) []) w2) →
        GoesI Try.prog true (DT (ScZ zn) Ch) Stop (G (bd.at (ad.put oe.dst (.tuple #[A, I E])) (.inRegion od rd :: kd)) []) w2) ∧
      g = G ((base 8).at { tmps := #[Pt wb 0, I 20, .slice (some ⟨Sb, 0, none⟩) 4 4] ++ Array.replicate 25 undef, defers := [] } [.code B8c]) [bd.at ad (.inRegion od (qd :: rd) :: kd)]) ∨ (∃ a' todo, a'.defers = [] ∧ a'.tmps.getD 8 undef = .bool true ∧ Grows W w' ∧ g = G { (base 3).at a' todo with mode := .returning } []))
    (hback (fun _ => False) _ w2 (law3_b (i0.grows g2') (i1.grows g2') (i2.grows g2') (i3.grows g2') (Rel.refl w2) (fun c hc => hc.elim) (fun a' v' w' todo hr hgr hd h6 => GoesI.stop fun d => .inr ⟨a', todo, hd, h6, by
      have e : (w'.at d).heap = v'.heap := hr.eq
      have := g2'.trans' hgr
      exact ⟨by rw [e]; exact this.size, fun b hb => by rw [e]; exact this.old b hb, hr.os.trans this.os, hr.output.trans this.output⟩, rfl⟩) (fun u v' w' Sb wb bk sc pc ln cp rb cl bd ad od qd rd oe kd hr hn hrdy ho hend => GoesI.stop fun d => .inl ⟨u, Sb, wb, bk, sc, pc, ln, cp, rb, cl, bd, ad, od, qd, rd, oe, kd, by
      have e : (w'.at d).heap = v'.heap := hr.eq
      have hgr : Grows v' (w'.at d) := ⟨by rw [e]; exact Nat.le_refl _, fun b _ => by rw [e], hr.os, hr.output⟩
      have hnew := hrdy.new
      refine ⟨hrdy.gr, hrdy.ins, hrdy.len, hrdy.ring, (hnew.mem.grows hgr).mem, ?_, hnew.new, ⟨by rw [e]; exact hnew.old.size, fun b hb => by rw [e]; exact hnew.old.old b hb, hr.os.trans hnew.old.os, hr.output.trans hnew.old.output⟩⟩
      obtain ⟨c, m, h⟩ := hnew.opn
      exact ⟨c, m, by rw [e]; exact h⟩, ho, hend, rfl⟩)))
  -- the end
  have fin : ∀ (N4 : Nat) (gs4 : Array Goroutine) (w4 : World) (sl4 : Option (Nat × Nat)) (T4 : Trace) (q4 : Nat → Nat) (a4 : Goroutine), runNT Try.prog N4 (crowd gs3 w3 sl3) T3' = (.next (crowd gs4 w4 sl4), T4) → gs4[0]? = some a4 → Alone gs4 w4 T4 q4 → (∃ a' todo, a'.defers = [] ∧ a'.tmps.getD 8 undef = .bool true ∧ Grows W w4 ∧ a4 = G { (base 3).at a' todo with mode := .returning } []) →
      ∃ M last o w' t', runNT Try.prog (M + 1) (crowd #[G ((base 3).at { tmps := #[.slice p0 xs.length c0, .slice p1 pk.length c1, .slice p2 se.length c2, .slice p3 ns.length c3] ++ Array.replicate 250 undef, defers := [] } [.code C3]) []] W none) #[] = (.ended o w', t') ∧ runN Try.prog M (crowd #[G ((base 3).at { tmps := #[.slice p0 xs.length c0, .slice p1 pk.length c1, .slice p2 se.length c2, .slice p3 ns.length c3] ++ Array.replicate 250 undef, defers := [] } [.code C3]) []] W none) = .next last ∧ step Try.prog last = .ended o w' ∧ Go.Conc.Good Try.prog (PostT W) last o w' t' := by
    intro N4 gs4 w4 sl4 T4 q4 a4 r4 h4 A4 ⟨a', todo, hd, h6, g4, ea⟩
    subst ea
    obtain ⟨M5, last, o, w', t', e1, e2, e3, e4⟩ := alone_ends A4 h4 sl4 (Post := PostT W) (fun B d => ⟨rfl, .bool true, #[], end3 hd h6, fun e he => by simp at he, rfl, ⟨g4.size, g4.old, g4.os, g4.output⟩⟩)
    have hrun := runNT_then (runNT_then (runNT_then r1 r2) r3) r4
    refine ⟨N1 + N2 + N3 + N4 + M5, last, o, w', t', ?_, ?_, e3, e4⟩
    · rw [Nat.add_assoc, runNT_add, hrun]; exact e1
    · rw [runN_add, ← runNT_fst Try.prog _ _ #[], hrun]; exact e2
  rcases hst3 with ⟨u, Sb, wb, bk, sc, pc, ln, cp, rb, cl, bd, ad, od, qd, rd, oe, kd, hrdy, hoe3, hend3, rfl⟩ | hret
  · have hnew := hrdy.new
    have hC := hrdy.ins
    have h64 := hrdy.len
    obtain ⟨R, hRg⟩ := hrdy.ring
    have gu : Grows W u := g2'.trans' hrdy.gr
    have g3 : Grows W w3 := gu.trans' hnew.old
    have hn8 : 0 < 4 ∧ 4 ≤ 8 := by decide
    have hl64 : ∀ j, j < 4 → (cl j).length ≤ 64 := fun j hj => by rw [hC.len j hj]; exact h64 j hj
    have hlens : ∀ caps pk N K, lens (scrs (mcH 20) 16 caps pk N 4 K pc ln cp rb cl) ≤ 512 := fun caps pk N K => Nat.le_trans (lens_scrs _ _ _ _ _ _ _ _ _ _ _ _ hl64) (by omega)
    have hML : (metH 20).L ≤ 101 := by show 20 + 1 ≤ 101; omega
    obtain ⟨N4, gs4, w4, sl4, T4', q4, caps, pk', N, cv, K, S', S1, l1, m, p', r4, z4, h4, A4, hK, hnv, hH, hT, O⟩ := cplay_all 20 (by omega) (by omega) (S := newS wb bk u.heap.size sc xs) (n := 4) (sb := Sb) (so := 0) (cap := 4) (pc := pc) (ln := ln) (cp := cp) (rb := rb) (cl := cl) hoe3 sl3 2000000 A3 h3 hnew.mem rfl rfl rfl hnew.opn (asked_of hC hnew h64 hn8.1) hn8 (fun caps pk N K => by
        have := hlens caps pk N K
        show 0 + 2 * _ ≤ 1000000
        omega) (by have := i0.len; show xs.length ≤ _; omega) (fun x hx => i0.inr x hx) (fun _ => .done []) (fun caps pk N cv K hK S1 l1 hH => ends_far (metH 20) hH rfl (by rw [scrs_len]; exact hn8.2) (hlens caps pk N K) hML rfl)
    obtain ⟨v, t1, t2, t3, t4, hI, hRI, hdone⟩ := chain_run (N := 4) (cl := cl) (E := Ed 4 20 cl) (by omega) (scrs_len _ _ _ _ _ _ _ _ _ _ _ _) hn8.2 (fun i hi c hc hp => ⟨i, hi, c, hc, hp, rfl, rfl⟩) (scrs_calls _ _ _ _ _ _ _ _ _ _ _ _) (scrs_ans _ _ _ _ _ _ _ _ _ _ _ _ (fun j hj => hC.len j hj)) rfl rfl rfl rfl hK hH hT
    have hlast := ring_end hRg hI (hRI R hRg) hdone
    rw [t4] at hlast
    have hSn : S'.n = v.L.length := by have := congrArg TS.n hnv; exact this.trans t2
    have hStr : S'.tr = flat v.L := by have := congrArg TS.tr hnv; exact this.trans t1
    have hsm := small_far (metH 20) hH hT rfl (by rw [scrs_len]; exact hn8.2) (hlens caps pk' N _) hML rfl
    have hSw : S'.wb = wb := by
      have h5 := congrArg TS.wb hnv
      have h6 := (turns_wb hT).trans (hires_wb hH)
      exact h5.trans h6
    have hn1 : S'.n ≤ 4000000 := by
      have : S'.n = p'.S.n := by have := congrArg TS.n hnv; exact this
      omega
    have hg34 : ∀ b, b < u.heap.size → w4.heap[b]? = w3.heap[b]? := fun b hb => by
      have hs := hnew.old.size
      exact (O.old b (by omega) (fun h => by have := hnew.new b (.inl h); omega) (fun h => by have := hnew.new b (.inr h); omega)).1
    have hgu : Grows u w4 := ⟨by have := hnew.old.size; have := O.size; omega, fun b hb => by rw [hg34 b hb]; exact hnew.old.old b hb, O.os.trans hnew.old.os, O.out.trans hnew.old.output⟩
    have hgW : Grows W w4 := gu.trans' hgu
    have hC4 := hC.grows hgu
    subst hSw
    have hal : ∀ j, j < 4 → (p'.l j).ans.length = ln j := fun j hj => (O.ans j hj).1
    have hSL : SL 4 Sb 0 ln cp rb (fun j => roOf (pc j)) pc cl w4 := ⟨hC4.len, hC4.row, hC4.pq, hC4.call⟩
    have hAL : AL 4 (N + 1) (fun j => N + 4 + 3 * j + 2) ln p'.l w4 := ⟨O.rows, hal, fun k hk j q hq => by
      have hj := (List.getElem?_eq_some_iff.1 hq).1
      have hpos : 0 < ln k := by have := hal k hk; omega
      have := arow_get _ _ _ hq
      exact ⟨cell_of ((O.ans k hk).2.1 hpos) (by rw [List.getElem?_toArray]; exact this.1), cell_of ((O.ans k hk).2.1 hpos) (by rw [List.getElem?_toArray]; exact this.2)⟩⟩
    obtain ⟨N5, gs5, a5, w5, sl5, T5, q5, r5, z5, h5, hs5, A5⟩ := alone_goes A4 h4 sl4 (hend3 (fun _ => False) (fun g w' => ∃ a' todo, a'.defers = [] ∧ a'.tmps.getD 8 undef = .bool true ∧ Grows W w' ∧ g = G { (base 3).at a' todo with mode := .returning } []) w4 _ 0 (fun a hA => law3_yes (v := w4) (S := S') hSL hAL O.mem.rep hStr hSn hn1 hI.stp hlast (Rel.refl w4) (fun c hc => hc.elim) hA (fun a' v' w' todo hr hgr hd h6 => GoesI.stop fun d => ⟨a', todo, hd, h6, by
      have e : (w'.at d).heap = v'.heap := hr.eq
      have := hgW.trans' hgr
      exact ⟨by rw [e]; exact this.size, fun b hb => by rw [e]; exact this.old b hb, hr.os.trans this.os, hr.output.trans this.output⟩, rfl⟩)))
    exact fin _ gs5 w5 sl5 T5 q5 a5 (runNT_then r4 r5) h5 A5 hs5
  · exact fin 0 gs3 w3 sl3 T3' q3 a3 rfl h3 A3 hret
end Go.Proofs.Ytmmfjanbjheekaa.Gen

/- THE ROW: ChainRing: whatever the schedule, the ring, the seats and the noise: of a ring the last who writes down is told. -/
set_option linter.unusedSimpArgs false
set_option linter.unusedVariables false
namespace Go.Proofs.Ytmmfjanbjheekaa
open Go Go.Lift Go.Conc
open Go.ChangeShapes Go.WideShapes Go.ChangeAt Go.RowKit Go.Joins Go.Deep
open Gen

set_option maxRecDepth 100000 in
theorem chainRing_lifted (os : Os) (started : os.Started) (H : Type) (enc : TypeId × Value → H) :
    ReturnsInLeavingWide {} Try.checked os 3 .any (Rows.chainRingSpec.pre6 enc Try.prog Try.f3 Rows.chainRingRow.domain false) (Rows.chainRingSpec.post enc Try.prog Try.f3 false true false false) := by
  refine returnsInLeavingWide_of_change_sized (C := Try.checked) op_knob started Try.func3
    (ChangeSpec.witness6 (enc := enc) (C := Try.checked) false ⟨#[], #[.slice none 0 0, .slice none 0 0, .slice none 0 0, .slice none 0 0], []⟩ 8 (by kernel_rfl) (by kernel_rfl) (by kernel_rfl) (by kernel_rfl)) ?_
  intro W base args ds gs before hval0 hW _ hsz0 _
  have hval : ∀ (j : Nat) t v, Try.f3.params[j]? = some t → args[j]? = some v → Value.okWide Try.prog W .any base t v := hval0
  have hW' := hW
  obtain ⟨p, q, hA0, hV, rfl, _, _⟩ := hW
  have hA : DataW.TrodAll enc Try.prog W 0 (fun _ => true) true Try.f3.params.toList args.toList ds p := hA0
  have hsz : (DataW.weightsEach Try.prog (Try.f3.params.toList ++ Rows.chainRingSpec.plain.varTypes Try.prog) (ds ++ gs)).all (· ≤ reachBytes) = true := hsz0
  rw [Try.params3] at hA hval hsz
  obtain ⟨v0, vs0, d0, ds0, p0, q0, hargs, rfl, rfl, h0, r0⟩ := trodAll_cons hA
  obtain ⟨v1, vs1, d1, ds1, p1, q1, rfl, rfl, rfl, h1, r1⟩ := trodAll_cons r0
  obtain ⟨v2, vs2, d2, ds2, p2, q2, rfl, rfl, rfl, h2, r2⟩ := trodAll_cons r1
  obtain ⟨v3, vs3, d3, ds3, p3, q3, rfl, rfl, rfl, h3, r3⟩ := trodAll_cons r2
  obtain ⟨rfl, rfl, rfl⟩ := trodAll_nil r3
  obtain rfl : args = #[v0, v1, v2, v3] := by cases args; simp_all
  obtain ⟨rfl, rfl⟩ := trodVars_none hV
  have k0 := h0
  have k1 := h1
  have k2 := h2
  have k3 := h3
  have lt0 : ∀ x ∈ p0, x.block < W.heap.size := by obtain ⟨m, hm⟩ := k0; exact DataW.trod_lt m _ _ _ hm
  have lt1 : ∀ x ∈ p1, x.block < W.heap.size := by obtain ⟨m, hm⟩ := k1; exact DataW.trod_lt m _ _ _ hm
  have lt2 : ∀ x ∈ p2, x.block < W.heap.size := by obtain ⟨m, hm⟩ := k2; exact DataW.trod_lt m _ _ _ hm
  have lt3 : ∀ x ∈ p3, x.block < W.heap.size := by obtain ⟨m, hm⟩ := k3; exact DataW.trod_lt m _ _ _ hm
  obtain ⟨sp, scap, sb, so, sched, e0, hS⟩ := ints_in (hval 0 22 v0 rfl rfl) h0 (fun el sp e => sized_slice hsz (j := 0) rfl (by rw [e]; rfl) Try.underlying22)
  obtain ⟨pp, pcap, pb, po, pk, e1, hP⟩ := ints_in (hval 1 22 v1 rfl rfl) h1 (fun el sp e => sized_slice hsz (j := 1) rfl (by rw [e]; rfl) Try.underlying22)
  obtain ⟨ep, ecap, eb, eo, se, e2, hE⟩ := ints_in (hval 2 22 v2 rfl rfl) h2 (fun el sp e => sized_slice hsz (j := 2) rfl (by rw [e]; rfl) Try.underlying22)
  obtain ⟨np, nb, no, ncap, ns, e3, hN⟩ := calls_in (hval 3 23 v3 rfl rfl) h3
  clear hA0 hval0 hsz0
  subst e0 e1 e2 e3
  simp only [List.append_nil] at hW'
  obtain ⟨M, last, o', w', t', g1, g2, g3, g4⟩ := run3 (c0 := scap) (c1 := pcap) (c2 := ecap) (c3 := ncap) W hS hP hE hN
  refine ⟨M, last, o', w', t', g1, g2, g3, g4.mono fun v hF => ?_⟩
  obtain ⟨rfl, bel⟩ : PostT W v w' := hF
  exact ⟨_, _, _, [], _, [], hW', trodAll_mk1 (shut_bool Try.underlying4 _),
    (trodAll_cons_mk (grows_trod (by kernel_rfl) (of_decide_eq_true (by kernel_rfl)) k0 bel lt0)
    (trodAll_cons_mk (grows_trod (by kernel_rfl) (of_decide_eq_true (by kernel_rfl)) k1 bel lt1)
    (trodAll_cons_mk (grows_trod (by kernel_rfl) (of_decide_eq_true (by kernel_rfl)) k2 bel lt2)
    (trodAll_cons_mk (grows_trod (by kernel_rfl) (of_decide_eq_true (by kernel_rfl)) k3 bel lt3) trodAll_mk0)))), rfl, grows_frame bel _, fun h => by cases h⟩

theorem chainRing_holds : Rows.ChainRingSaid :=
  OpenClaim.holds_of_wide_leaving 3 Try.f3 rfl rfl rfl rfl rfl rfl rfl ⟨rfl, rfl, rfl, rfl, rfl⟩ rfl rfl rfl rfl rfl (by kernel_rfl) Try.func3 (by kernel_rfl)
    (of_decide_eq_true (by kernel_rfl)) (by unfold Func.isWrapper; first | (rw [if_pos (by decide +kernel)]; kernel_rfl) | (rw [if_neg (by decide +kernel)]; exact ⟨rfl, rfl⟩))
    (fun os started H enc _ => chainRing_lifted os started H enc)

#print axioms chainRing_holds
end Go.Proofs.Ytmmfjanbjheekaa
