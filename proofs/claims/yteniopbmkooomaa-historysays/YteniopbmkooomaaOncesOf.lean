/-
  So many onces, of which those that a history asks have a place.
-/
import Derived.Test.YteniopbmkooomaaAskS
import Derived.Deep.RegionHeld3
namespace Go.Proofs.Yteniopbmkooomaa
open Go.RowKit Hi Go.Deep Go.Maps

theorem Plc.looks {w : World} {bp : Nat} {ks : List Int} (h : Plc w bp ks) {k : Int} (hk : Fits k) : ∃ c : Int, ∀ w', w'.heap[bp]? = w.heap[bp]? → (Instr.lookup 127 (.map (some bp)) (I k) true).run Try.prog w' = .ok (.tuple #[I c, .bool (decide (k ∈ ks))]) w' := by
  obtain ⟨D, ⟨es, cl, hb, r⟩, _, hkD⟩ := h
  have hD : w.ownsMap Try.prog 3 (plainElem Try.prog 3) bp ks.length D := ⟨es, cl, hb, r⟩
  obtain ⟨v, ps, _, hv⟩ := hD.look_ok law3 Try.underlying127 (zero3 w) (plainElem_int Try.underlying3 (by decide)) (key3 hk)
  obtain ⟨c, rfl, hc, _⟩ := plainElem_int_inv Try.underlying3 hv
  refine ⟨c, fun w' hw' => ?_⟩
  have hD' : w'.ownsMap Try.prog 3 (plainElem Try.prog 3) bp ks.length D := ⟨es, cl, hw'.trans hb, r⟩
  obtain ⟨v', ps', hrun', hv'⟩ := hD'.look_ok law3 Try.underlying127 (zero3 w') (plainElem_int Try.underlying3 (by decide)) (key3 hk)
  obtain ⟨c', rfl, hc', _⟩ := plainElem_int_inv Try.underlying3 hv'
  have e1 : c' = c := by
    have h1 := congrArg Prod.fst hc
    have h2 := congrArg Prod.fst hc'
    simp only [] at h1 h2
    rw [h1] at h2
    simp only [DataW.lit.injEq, Lit.int.injEq, true_and] at h2
    exact h2.symm
  have e : Maps.has D (.int .i64 k) = decide (k ∈ ks) := by
    rw [Bool.eq_iff_iff, (hkD k).1]; simp
  rw [hrun', e, e1]

theorem grown_cell {w w' : World} {bp : Nat} {ks : List Int} (hp : Plc w bp ks) (hg : w.grownBy w' (some bp)) {a : Addr} {v : Value} (hc : w.cell? a = some v) : w'.cell? a = some v := by
  have hne : a.block ≠ bp := fun e => by
    obtain ⟨D, ⟨es, c, hm, _⟩, _⟩ := hp
    unfold World.cell? at hc
    rw [e, hm] at hc
    simp at hc
  rw [World.cell?_of_block (w := w) (hg.block a.block (World.block_lt_of_cell? _ _ hc) (fun e => hne (Option.some.inj e)))]
  exact hc

set_option maxHeartbeats 4000000 in
set_option maxRecDepth 100000 in
theorem oncesOf_any (n : Int) (h1 : 1 ≤ n) (h2 : n ≤ 1000) (v : Value) (l : List Ev) (w : World) (h : Evs w v l) (h12 : l.length ≤ 12) :
    Calls Try.prog 33 #[I n, v] w fun e w' => ∃ ks : List Int, e = .returned (.func (.func 56) #[] #[P1 (w.heap.size + 1 + 1), P1 w.heap.size]) ∧ w'.cell? ⟨w.heap.size + 1 + 1, 0, none⟩ = some (.map (some (w.heap.size + 1))) ∧ w'.cell? ⟨w.heap.size, 0, none⟩ = some (I n) ∧
      Plc w' (w.heap.size + 1) ks ∧ ks.length ≤ l.length ∧ (∀ i, i < l.length → (l.getD i ev0).a % n ∈ ks) ∧ Below w.heap.size w w' := by
  have hmm := @run_makeMap Try.prog
  obtain ⟨p, cap, rfl, hc, hm, hE⟩ := h
  unfold maxLen at hm
  go_enter Try.func33, Try.ntmps33
  go_wp2_with fail
  clear hmm
  go_loopw [13] (fun i u => ∃ (k : Nat) (ks : List Int), k ≤ l.length ∧ i = .int .i64 k ∧ Plc u (w.heap.size + 1) ks ∧ ks.length ≤ k ∧ (∀ i, i < k → (l.getD i ev0).a % n ∈ ks) ∧ u.cell? ⟨w.heap.size, 0, none⟩ = some (I n) ∧
    u.cell? ⟨w.heap.size + 1 + 1, 0, none⟩ = some (.map (some (w.heap.size + 1))) ∧ Below w.heap.size w u) (fun i _ => l.length - (intOf i).toNat)
  case atStart =>
    refine ⟨0, [], Nat.zero_le _, rfl, ?_, Nat.le_refl _, fun i hi => absurd hi (Nat.not_lt_zero _), ?_, ?_, below_alloc (below_alloc (below_alloc (Below.refl _ _) _) _) _⟩
    · have := Plc.made (w.alloc (.cells #[I n] 3))
      rw [World.size_alloc] at this
      exact this.later (below_alloc (Below.refl _ _) _) this.lt
    · exact one_old (one_old (one_new _ _ _) _) _
    · have := one_new ((w.alloc (.cells #[I n] 3)).alloc (.map #[] 0)) (.map (some (w.heap.size + 1))) 127
      rw [World.size_alloc, World.size_alloc] at this
      exact this
  case round =>
    obtain ⟨k, ks, hk, rfl, hp, hkl, hin, ct, cr, hb⟩ := hrel
    have HP : Hid (Plc wr (w.heap.size + 1) ks) := hp
    have HIN : Hid (∀ i, i < k → (l.getD i ev0).a % n ∈ ks) := hin
    have HB : Hid (Below w.heap.size w wr) := hb
    have lt := World.block_lt_of_cell? _ _ ct
    have lr := World.block_lt_of_cell? _ _ cr
    simp only [] at lt lr
    by_cases hlt : k < l.length
    · obtain ⟨blk, off, rfl, hr⟩ := hE k hlt
      have hld := range_later hb hr (range_lt hr)
      generalize hx : l.getD k ev0 = x at hld hr
      have HX : Hid (l.getD k ev0 = x) := hx
      have HL : Hid (wr.rangeAt blk (off + k * 8) (evC x).toList) := hld
      have hmf : Fits (x.a % n) := by
        have hb1 := Int.emod_nonneg x.a (show n ≠ 0 by omega)
        have hb2 := Int.emod_lt_of_pos x.a (show 0 < n by omega)
        unfold Fits; omega
      have HMF : Hid (Fits (x.a % n)) := hmf
      obtain ⟨c, hlook⟩ := hp.looks hmf
      have hlk : ∀ m, (Instr.lookup 127 (.map (some (w.heap.size + 1))) (I (x.a % n)) true).run Try.prog ((wr.alloc (.cells (evC x) 33)).drewN m) = .ok (.tuple #[I c, .bool (decide (x.a % n ∈ ks))]) ((wr.alloc (.cells (evC x) 33)).drewN m) := fun m =>
        hlook _ ((below_drewN (below_alloc (Below.refl _ _) _) _).block _ hp.lt)
      clear hlook hmf hp hin hb hE hr hld hx
      by_cases hmem : x.a % n ∈ ks
      · rw [decide_eq_true hmem] at hlk
        have HMEM : Hid (x.a % n ∈ ks) := hmem
        clear hmem
        go_wp2_with ((with_reducible refine wp_load33 (.tmp 15) ?_ ?_ blk (off + k * 8) ?_ x ?_ ?_); rfl; rfl; rfl; exact HL.out)
        go_quiet (first | (go_at_call 55; exact Calls.quiet_of (modulo_q x.a n h1 h2 _)))
        go_wp2_with fail
        go_roundw
        case rel =>
          refine ⟨k + 1, ks, by omega, by go_num, ?_, by omega, ?_, ?_, ?_, below_drewN (below_alloc HB.out _) _⟩
          · exact HP.out.later (below_drewN (below_alloc (Below.refl _ _) _) _) HP.out.lt
          · intro i hi
            by_cases e : i = k
            · subst e; rw [HX.out]; exact HMEM.out
            · exact HIN.out i (by omega)
          · exact one_old ct _
          · exact one_old cr _
        case measure => simp [intOf]; omega
      · rw [decide_eq_false hmem] at hlk
        have HMEM : Hid (x.a % n ∉ ks) := hmem
        clear hmem
        go_wp2_with ((with_reducible refine wp_load33 (.tmp 15) ?_ ?_ blk (off + k * 8) ?_ x ?_ ?_); rfl; rfl; rfl; exact HL.out)
        go_quiet (first | (go_at_call 55; exact Calls.quiet_of (modulo_q x.a n h1 h2 _)))
        go_wp2_with fail
        refine (show ∀ W, (Plc W (w.heap.size + 1) ks ∧ W.cell? ⟨wr.heap.size, 2, none⟩ = some (I x.a) ∧ W.cell? ⟨w.heap.size, 0, none⟩ = some (I n) ∧ W.cell? ⟨w.heap.size + 1 + 1, 0, none⟩ = some (.map (some (w.heap.size + 1))) ∧ Below w.heap.size w W) → Code.wp Try.prog _ _ _ W from fun W hW => ?_) _
          ⟨HP.out.later (below_drewN (below_alloc (Below.refl _ _) _) _) HP.out.lt, World.cell?_alloc_at _ _ _ _ rfl, one_old ct _, one_old cr _, below_drewN (below_alloc HB.out _) _⟩
        clear ct cr lt lr hlk
        obtain ⟨hp, hxa, ct, cr, hbW⟩ := hW
        have HPW : Hid (Plc W (w.heap.size + 1) ks) := hp
        have HBW : Hid (Below w.heap.size w W) := hbW
        have lt := World.block_lt_of_cell? _ _ ct
        have lr := World.block_lt_of_cell? _ _ cr
        have lx := World.block_lt_of_cell? _ _ hxa
        simp only [] at lt lr lx
        have hp1 : Plc W.drew (w.heap.size + 1) ks := hp.later (below_drew (Below.refl _ _)) hp.lt
        have hlen : ∀ ty, (Builtin.len_ #[127] ty #[.map (some (w.heap.size + 1))]).run Try.prog W.drew = .ok (I ks.length) W.drew := fun ty => hp1.len ty
        obtain ⟨w6, hput, hp6, hg6⟩ := hp1.put HMF.out HMEM.out (by omega)
        have e1 : w6.cell? ⟨wr.heap.size, 2, none⟩ = some (I x.a) := grown_cell hp1 hg6 hxa
        have e2 : w6.cell? ⟨w.heap.size, 0, none⟩ = some (I n) := grown_cell hp1 hg6 ct
        have e3 : w6.cell? ⟨w.heap.size + 1 + 1, 0, none⟩ = some (.map (some (w.heap.size + 1))) := grown_cell hp1 hg6 cr
        have HP6 : Hid (Plc w6 (w.heap.size + 1) (ks ++ [x.a % n])) := hp6
        have HB6 : Hid (Below w.heap.size w w6) := (below_drew hbW).grown hg6 hbW.size (fun i e => by have := Option.some.inj e; omega)
        clear hp hp1 hp6 hg6 hbW
        go_region_held (fun u => u.cell? ⟨wr.heap.size, 2, none⟩ = some (I x.a) ∧ u.cell? ⟨w.heap.size, 0, none⟩ = some (I n) ∧ u.cell? ⟨w.heap.size + 1 + 1, 0, none⟩ = some (.map (some (w.heap.size + 1))))
          (first | (exact ⟨hxa, ct, cr⟩) | (exact ⟨e1, e2, e3⟩) | (simp [go_sem, *]; done))
          (first
            | (go_at_call 55; refine (modulo_any x.a n h1 h2 _).mono ?_; rintro e w' ⟨rfl, rfl⟩))
        all_goals
          rename_i hH
          clear hH
          go_wp2_with fail
          go_roundw
          case rel =>
            refine ⟨k + 1, ks ++ [x.a % n], by omega, by go_num, HP6.out, by simp; omega, ?_, e2, e3, HB6.out⟩
            intro i hi
            by_cases e : i = k
            · subst e; rw [HX.out]; simp
            · exact List.mem_append_left _ (HIN.out i (by omega))
          case measure => simp [intOf]; omega
    · have : k = l.length := by omega
      subst this
      clear hb hin hp hE
      go_wp2_with fail
      go_ret
      exact ⟨ks, rfl, cr, ct, HP.out, hkl, HIN.out, HB.out⟩

end Go.Proofs.Yteniopbmkooomaa
