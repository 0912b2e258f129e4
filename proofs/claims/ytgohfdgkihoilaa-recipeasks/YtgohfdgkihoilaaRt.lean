/- What Right of package recipe does: its small calls. -/
import Derived.Test.YtgohfdgkihoilaaLib
set_option linter.unusedSimpArgs false
set_option linter.unusedVariables false
namespace Go.Proofs.Ytgohfdgkihoilaa.Rcp
open Go Go.RowKit Go.Deep Go.Maps

set_option maxHeartbeats 1000000 in
theorem within_any (a x b : Int) (w : World) : Calls Try.prog 38 #[I a, I x, I b] w (Ret fun v w' => v = Bl (decide (a ≤ x ∧ x ≤ b)) ∧ w' = w) := by
  by_cases h : a ≤ x
  · go_enter Try.func38, Try.ntmps38
    go_wp2
    go_ret
    exact ⟨_, rfl, by simp; exact fun _ => h, rfl⟩
  · have h' : decide (a ≤ x) = false := by simpa using h
    go_enter Try.func38, Try.ntmps38
    go_wp2
    go_ret
    exact ⟨_, rfl, by simp, rfl⟩

theorem within_q {a x b : Int} {c : Bool} (h : decide (a ≤ x ∧ x ≤ b) = c) (w : World) : Calls Try.prog 38 #[I a, I x, I b] w fun e w' => e = .returned (Bl c) ∧ w' = w :=
  (within_any a x b w).mono fun e w' h' => by obtain ⟨v, rfl, rfl, rfl⟩ := h'; rw [h]; exact ⟨rfl, rfl⟩

set_option maxHeartbeats 1000000 in
theorem tooLong_any (nv : Value) (p : Option Addr) (n cap : Nat) (hnv : nv = .slice p n cap) (hn : n ≤ 9223372036854775807) (r : Rc) (w : World) : Calls Try.prog 27 #[.agg (rcC nv r)] w (Ret fun v w' => v = Bl (decide (20 < n)) ∧ Kp (fun i => i < w.heap.size) w w') := by
  subst hnv
  go_enter Try.func27, Try.ntmps27
  go_wp2
  go_ret
  refine ⟨_, rfl, ?_, Kp.alloc (fun _ h => h) _⟩
  first | rfl | (congr 1; simp <;> omega)

set_option maxHeartbeats 4000000 in
theorem mayBe_any (nv : Value) (r : Rc) (w : World) : Calls Try.prog 28 #[.agg (rcC nv r)] w (Ret fun v w' => (∃ b, v = Bl b ∧ (b = true ↔ okR r)) ∧ Kp (fun i => i < w.heap.size) w w') := by
  cases h1 : decide (0 ≤ r.level ∧ r.level ≤ 7)
  · have H1 : Hid (decide (0 ≤ r.level ∧ r.level ≤ 7) = false) := h1
    clear h1
    go_enter Try.func28, Try.ntmps28
    go_wp2_with (go_at_call 38; refine (within_any _ _ _ _).mono ?_; rintro e w' ⟨_, rfl, rfl, rfl⟩; rw [H1.out])
    go_ret
    refine ⟨_, rfl, ⟨_, rfl, ?_⟩, Kp.alloc (fun _ h => h) _⟩
    have := H1.out; simp at this
    unfold okR; constructor
    · intro h; cases h
    · intro h; omega
  cases h2 : decide (0 ≤ r.act ∧ r.act ≤ 2)
  · have H1 : Hid (decide (0 ≤ r.level ∧ r.level ≤ 7) = true) := h1
    have H2 : Hid (decide (0 ≤ r.act ∧ r.act ≤ 2) = false) := h2
    clear h1 h2
    go_enter Try.func28, Try.ntmps28
    go_wp2_with (go_at_call 38; refine (within_any _ _ _ _).mono ?_; rintro e w' ⟨_, rfl, rfl, rfl⟩; first | rw [H1.out] | rw [H2.out])
    go_ret
    refine ⟨_, rfl, ⟨_, rfl, ?_⟩, Kp.alloc (fun _ h => h) _⟩
    have := H2.out; simp at this
    unfold okR; constructor
    · intro h; cases h
    · intro h; omega
  cases h3 : decide (0 ≤ r.fin ∧ r.fin ≤ 2)
  · have H1 : Hid (decide (0 ≤ r.level ∧ r.level ≤ 7) = true) := h1
    have H2 : Hid (decide (0 ≤ r.act ∧ r.act ≤ 2) = true) := h2
    have H3 : Hid (decide (0 ≤ r.fin ∧ r.fin ≤ 2) = false) := h3
    clear h1 h2 h3
    go_enter Try.func28, Try.ntmps28
    go_wp2_with (go_at_call 38; refine (within_any _ _ _ _).mono ?_; rintro e w' ⟨_, rfl, rfl, rfl⟩; first | rw [H1.out] | rw [H2.out] | rw [H3.out])
    go_ret
    refine ⟨_, rfl, ⟨_, rfl, ?_⟩, Kp.alloc (fun _ h => h) _⟩
    have := H3.out; simp at this
    unfold okR; constructor
    · intro h; cases h
    · intro h; omega
  · have H1 : Hid (decide (0 ≤ r.level ∧ r.level ≤ 7) = true) := h1
    have H2 : Hid (decide (0 ≤ r.act ∧ r.act ≤ 2) = true) := h2
    have H3 : Hid (decide (0 ≤ r.fin ∧ r.fin ≤ 2) = true) := h3
    clear h1 h2 h3
    go_enter Try.func28, Try.ntmps28
    go_wp2_with (go_at_call 38; refine (within_any _ _ _ _).mono ?_; rintro e w' ⟨_, rfl, rfl, rfl⟩; first | rw [H1.out] | rw [H2.out] | rw [H3.out] | skip)
    go_ret
    refine ⟨_, rfl, ⟨_, rfl, ?_⟩, Kp.alloc (fun _ h => h) _⟩
    have h1 := H1.out; have h2 := H2.out; have h3 := H3.out
    simp at h1 h2 h3
    simp
    unfold okR
    omega
theorem size43 : (Try.prog.info? 43).map (·.size) = some 5 := by kernel_rfl
/-- The load of a recipe, at the operation. -/
theorem wp_load43 {ops : Array Oper} {rest : List Oper} {op : Oper} {a : Act} {w : World} {Q : Exit → Act → World → Prop} (x : Operand) (ho : op.op = .load 43 x) (hgd : op.guard = none)
    (b o : Nat) (hx : a.eval x = .pointer (some ⟨b, o, none⟩)) (nv : Value) (r : Rc) (hc : w.rangeAt b o (rcL nv r))
    (h : wpList Try.prog ops Q rest (a.put op.dst (.agg (rcC nv r))) w) : wpList Try.prog ops Q (op :: rest) a w :=
  wpList_load_mid (P := Try.prog) hgd 43 x ho b o hx _ _ hc Try.underlying43 rfl size43 h
theorem callFunc_go {f : Nat} {fn : Func} (hf : Try.prog.funcs[f]? = some fn) (h1 : (fn.name == "runtime.NumGoroutine") = false) (h2 : fn.body.isNone = false) (args : Array Value) (w : World) :
    (callFunc f args).run Try.prog w = .ok (.enter f args) w := by
  have h1' : ¬ fn.name = "runtime.NumGoroutine" := by simpa using h1
  have h2' : ¬ fn.body = none := by intro h; rw [h] at h2; cases h2
  unfold callFunc
  simp [hf, h1', h2']
theorem cf27 : ∀ args w, (callFunc 27 args).run Try.prog w = .ok (.enter 27 args) w := callFunc_go Try.func27 (by kernel_rfl) (by kernel_rfl)

set_option maxHeartbeats 4000000 in
theorem index_any {Z : Nat → Prop} {w : World} {v : Value} {l : List Rc} (hl : RL Z w v l) (hZ : ∀ i, Z i → i < w.heap.size) :
    Calls Try.prog 37 #[v, .func (.func 27) #[] #[]] w (Ret fun r w' => (∃ n : Int, r = I n ∧ (0 ≤ n ↔ ∃ x ∈ l, 20 < x.needs.length)) ∧ Kp (fun i => i < w.heap.size) w w') := by
  have hcf := cf27
  have HL : Hid (RL Z w v l) := hl
  obtain ⟨p, cap, rfl, h1, _⟩ := hl
  go_enter Try.func37, Try.ntmps37
  go_wp2_with fail
  go_loopw [8] (fun i u => ∃ k : Nat, k ≤ l.length ∧ i = .int .i64 k ∧ (∀ j, j < k → (l.getD j r0).needs.length ≤ 20) ∧ Kp (fun i => i < w.heap.size) w u) (fun i _ => l.length - (intOf i).toNat)
  case atStart => exact ⟨0, Nat.zero_le _, rfl, fun i hi => absurd hi (Nat.not_lt_zero _), Kp.refl _ _⟩
  case round =>
    obtain ⟨k, hk, rfl, hso, hbl⟩ := hrel
    have HS : Hid (∀ j, j < k → (l.getD j r0).needs.length ≤ 20) := hso
    have HB : Hid (Kp (fun i => i < w.heap.size) w wr) := hbl
    have HLr : Hid (RL Z wr (.slice p l.length cap) l) := HL.out.kp (hbl.mono hZ)
    clear hso hbl
    by_cases hlt : k < l.length
    · obtain ⟨blk, off, nv, rfl, hz, hr, hn, c0, c1, c2, c3, c4⟩ := HLr.out.at hlt
      obtain ⟨q, nc, rfl, hn1, _⟩ := hn
      generalize hx : l.getD k r0 = x at c0 c1 c2 c3 c4 hn1
      have HX : Hid (l.getD k r0 = x) := hx
      clear hr hx
      cases hd : decide (20 < x.needs.length)
      · have HD : Hid (decide (20 < x.needs.length) = false) := hd
        clear hd
        go_wp2_with fail
        refine (tooLong_any _ q x.needs.length nc rfl hn1 x wr).mono ?_
        rintro e w1 ⟨_, rfl, rfl, hk1⟩
        rw [HD.out]
        have HK1 : Hid (Kp (fun i => i < wr.heap.size) wr w1) := hk1
        clear hk1
        go_wp2_with fail
        go_roundw
        case rel =>
          refine ⟨k + 1, by omega, by go_num, fun j hj => ?_, HB.out.trans (HK1.out.mono (fun i hi => Nat.lt_of_lt_of_le hi HB.out.size))⟩
          rcases Nat.lt_or_eq_of_le (Nat.le_of_lt_succ hj) with hj | rfl
          · exact HS.out j hj
          · rw [HX.out]; have := HD.out; simp at this; exact this
        case measure => simp [intOf]; omega
      · have HD : Hid (decide (20 < x.needs.length) = true) := hd
        clear hd
        go_wp2_with fail
        refine (tooLong_any _ q x.needs.length nc rfl hn1 x wr).mono ?_
        rintro e w1 ⟨_, rfl, rfl, hk1⟩
        rw [HD.out]
        have HK1 : Hid (Kp (fun i => i < wr.heap.size) wr w1) := hk1
        clear hk1
        go_wp2_with fail
        go_ret
        refine ⟨_, rfl, ⟨_, rfl, ?_⟩, HB.out.trans (HK1.out.mono (fun i hi => Nat.lt_of_lt_of_le hi HB.out.size))⟩
        refine ⟨fun _ => ⟨x, ?_, by simpa using HD.out⟩, fun _ => by omega⟩
        rw [← HX.out]
        exact List.mem_of_getElem? (getD_some hlt r0)
    · have : k = l.length := by omega
      subst this
      go_wp2_with fail
      go_ret
      refine ⟨_, rfl, ⟨_, rfl, ?_⟩, HB.out⟩
      refine ⟨fun h => absurd h (by omega), fun ⟨x, hx, h20⟩ => ?_⟩
      obtain ⟨i, hi, rfl⟩ := List.mem_iff_getElem.1 hx
      have := HS.out i hi
      rw [List.getD_eq_getElem?_getD, List.getElem?_eq_getElem hi] at this
      simp at this
      omega

set_option maxHeartbeats 4000000 in
theorem contains_any {Z : Nat → Prop} {w : World} {v : Value} {l : List Rc} (hl : RL Z w v l) (hZ : ∀ i, Z i → i < w.heap.size) :
    Calls Try.prog 26 #[v, .func (.func 27) #[] #[]] w (Ret fun r w' => (∃ b, r = Bl b ∧ (b = true ↔ ∃ x ∈ l, 20 < x.needs.length)) ∧ Kp (fun i => i < w.heap.size) w w') := by
  have HC : Hid (Calls Try.prog 37 #[v, .func (.func 27) #[] #[]] w _) := index_any hl hZ
  clear hl
  go_enter Try.func26, Try.ntmps26
  go_wp2_with (go_at_call 37; refine HC.out.mono ?_; rintro e w' ⟨_, rfl, ⟨n, rfl, hn⟩, hk⟩)
  go_ret
  refine ⟨_, rfl, ⟨_, rfl, ?_⟩, hk⟩
  simp [hn]

set_option maxHeartbeats 1000000 in
theorem mayNeed_any {Z : Nat → Prop} {w : World} {v nv : Value} {l : List Rc} {r : Rc} (hl : RL Z w v l) (hn : IL Z w nv r.needs) (hZ : ∀ i, Z i → i < w.heap.size) :
    Calls Try.prog 29 #[v, .agg (rcC nv r)] w (Ret fun x w' => (∃ b, x = Bl b ∧ (b = true ↔ okN l r)) ∧ Kp (fun i => i < w.heap.size) w w') := by
  have HL : Hid (RL Z w v l) := hl
  have HN : Hid (IL Z w nv r.needs) := hn
  obtain ⟨p, cap, rfl, h1, _⟩ := hl
  obtain ⟨q, nc, rfl, h2, _⟩ := hn
  have HW : Hid (IntKind.i64.wrap ((l.length : Int) - 1) = (l.length : Int) - 1) := IntWalk.i64_in _ (by omega)
  go_enter Try.func29, Try.ntmps29
  go_wp2_with fail
  go_loopw [10] (fun i u => ∃ k : Nat, k ≤ r.needs.length ∧ i = .int .i64 k ∧ (∀ j, j < k → 0 ≤ r.needs.getD j 0 ∧ r.needs.getD j 0 < l.length ∧ (l.getD (r.needs.getD j 0).toNat r0).level ≤ r.level) ∧ u.cell? ⟨w.heap.size, 1, none⟩ = some (I r.level) ∧ Kp (fun i => i < w.heap.size) w u ∧ w.heap.size < u.heap.size) (fun i _ => r.needs.length - (intOf i).toNat)
  case atStart => exact ⟨0, Nat.zero_le _, rfl, fun i hi => absurd hi (Nat.not_lt_zero _), by simp [World.cell?_alloc_at], Kp.alloc (fun _ h => h) _, by simp⟩
  case round =>
    obtain ⟨k, hk, rfl, hso, hbx, hbl, hsz⟩ := hrel
    have HS : Hid (∀ j, j < k → 0 ≤ r.needs.getD j 0 ∧ r.needs.getD j 0 < l.length ∧ (l.getD (r.needs.getD j 0).toNat r0).level ≤ r.level) := hso
    have HB : Hid (Kp (fun i => i < w.heap.size) w wr) := hbl
    have HLr : Hid (RL Z wr (.slice p l.length cap) l) := HL.out.kp (hbl.mono hZ)
    have HNr : Hid (IL Z wr (.slice q r.needs.length nc) r.needs) := HN.out.kp (hbl.mono hZ)
    clear hso hbl
    by_cases hlt : k < r.needs.length
    · obtain ⟨nb, no, rfl, hz, hcn⟩ := HNr.out.at hlt
      generalize hx : r.needs.getD k 0 = x at hcn
      have HX : Hid (r.needs.getD k 0 = x) := hx
      clear hx
      cases hd : decide (0 ≤ x ∧ x ≤ (l.length : Int) - 1)
      · have HD : Hid (decide (0 ≤ x ∧ x ≤ (l.length : Int) - 1) = false) := hd
        have HDW : Hid (decide (0 ≤ x ∧ x ≤ IntKind.i64.wrap ((l.length : Int) - 1)) = false) := by show decide _ = false; rw [HW.out]; exact hd
        clear hd
        go_wp2_with fail
        go_quiet (first | (go_at_call 38; first | (with_reducible exact Calls.quiet_of_same (within_q HDW.out _)) | (with_reducible exact Calls.quiet_of_same (within_q HD.out _))))
        go_wp2_with fail
        go_ret
        refine ⟨_, rfl, ⟨_, rfl, ?_⟩, HB.out.trans (Kp.drewN _ _)⟩
        refine ⟨fun h => by (cases h), fun h => ?_⟩
        have h1 := h _ (List.mem_of_getElem? (getD_some hlt 0))
        rw [HX.out] at h1
        have := HD.out
        simp at this
        omega
      · have HD : Hid (decide (0 ≤ x ∧ x ≤ (l.length : Int) - 1) = true) := hd
        have hd' := of_decide_eq_true hd
        obtain ⟨xn, rfl⟩ := Int.eq_ofNat_of_zero_le hd'.1
        have hxl : xn < l.length := by omega
        have hxl' : (xn : Int) < (l.length : Int) := by omega
        obtain ⟨blk, off, nv, rfl, hz2, -, -, -, e1, -⟩ := HLr.out.at hxl
        generalize hy : (l.getD xn r0).level = y at e1
        have HY : Hid ((l.getD xn r0).level = y) := hy
        have HDW : Hid (decide (0 ≤ (xn : Int) ∧ (xn : Int) ≤ IntKind.i64.wrap ((l.length : Int) - 1)) = true) := by show decide _ = true; rw [HW.out]; exact hd
        clear hd hd' hy
        by_cases hlv : r.level < y
        · go_wp2_with fail
          go_quiet (first | (go_at_call 38; first | (with_reducible exact Calls.quiet_of_same (within_q HDW.out _)) | (with_reducible exact Calls.quiet_of_same (within_q HD.out _))))
          go_wp2_with fail
          go_ret
          refine ⟨_, rfl, ⟨_, rfl, ?_⟩, HB.out.trans (Kp.drewN _ _)⟩
          refine ⟨fun h => by (cases h), fun h => ?_⟩
          have h1 := h _ (List.mem_of_getElem? (getD_some hlt 0))
          rw [HX.out] at h1
          have h2 := h1.2.2
          rw [show ((xn : Int)).toNat = xn by omega, HY.out] at h2
          omega
        · go_wp2_with fail
          go_quiet (first | (go_at_call 38; first | (with_reducible exact Calls.quiet_of_same (within_q HDW.out _)) | (with_reducible exact Calls.quiet_of_same (within_q HD.out _))))
          go_wp2_with fail
          go_roundw
          case rel =>
            refine ⟨k + 1, by omega, by go_num, fun j hj => ?_, hbx, HB.out.trans (Kp.drewN _ _), hsz⟩
            rcases Nat.lt_or_eq_of_le (Nat.le_of_lt_succ hj) with hj | rfl
            · exact HS.out j hj
            · rw [HX.out, show ((xn : Int)).toNat = xn by omega, HY.out]; omega
          case measure => simp [intOf]; omega
    · have : k = r.needs.length := by omega
      subst this
      go_wp2_with fail
      go_ret
      refine ⟨_, rfl, ⟨_, rfl, ?_⟩, HB.out⟩
      refine ⟨fun _ n hn => ?_, fun _ => rfl⟩
      obtain ⟨i, hi, rfl⟩ := List.mem_iff_getElem.1 hn
      have := HS.out i hi
      rw [List.getD_eq_getElem?_getD, List.getElem?_eq_getElem hi] at this
      simpa using this
end Go.Proofs.Ytgohfdgkihoilaa.Rcp
