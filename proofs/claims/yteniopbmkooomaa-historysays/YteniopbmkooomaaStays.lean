/-
  What stays of the statements does, of lists that are as they were: it answers true.
-/
import Derived.Test.YteniopbmkooomaaSpare
namespace Go.Proofs.Yteniopbmkooomaa
open Go.RowKit Hi Go.Deep Go.Maps

theorem cells4 {w : World} {b o : Nat} {x : Call} (h : w.rangeAt b o (callL x)) : w.cell? ⟨b, o, none⟩ = some (I x.op) ∧ w.cell? ⟨b, o + 1, none⟩ = some (I x.a) ∧ w.cell? ⟨b, o + 2, none⟩ = some (I x.b) ∧ w.cell? ⟨b, o + 3, none⟩ = some (I x.c) :=
  ⟨h 0 _ rfl, h 1 _ rfl, h 2 _ rfl, h 3 _ rfl⟩
theorem cells2 {w : World} {b o : Nat} {x : Int × Int} (h : w.rangeAt b o (ansL x)) : w.cell? ⟨b, o, none⟩ = some (I x.1) ∧ w.cell? ⟨b, o + 1, none⟩ = some (I x.2) := ⟨h 0 _ rfl, h 1 _ rfl⟩
theorem cells5 {w : World} {b o : Nat} {x : Step} (h : w.rangeAt b o (stepL x)) : w.cell? ⟨b, o, none⟩ = some (I x.thr) ∧ w.cell? ⟨b, o + 1, none⟩ = some (I x.cel) ∧ w.cell? ⟨b, o + 2, none⟩ = some (I x.op) ∧ w.cell? ⟨b, o + 3, none⟩ = some (I x.old) ∧ w.cell? ⟨b, o + 4, none⟩ = some (I x.new) :=
  ⟨h 0 _ rfl, h 1 _ rfl, h 2 _ rfl, h 3 _ rfl, h 4 _ rfl⟩

set_option maxHeartbeats 8000000 in
set_option maxRecDepth 100000 in
theorem stays_any (sv av tv ys ya : Value) (tg B : Nat) (sc : List (List Call)) (an : List (List (Int × Int))) (tr : List Step) (w : World) (hs : SS 4 callL w sv sc) (ha : SS 2 ansL w av an) (ht : SL 5 stepL w tv tr)
    (ls : Lent callL markC 59 B w ys sc) (la : Lent ansL markA 31 B w ya an) (lt : Marked stepL markS 45 w tg tr)
    (bs : ∀ i, (sc.getD i []).length ≤ 1048576) (ba : ∀ i, (an.getD i []).length ≤ 1048576) (bt : tr.length ≤ 1048576) :
    Calls Try.prog 17 #[.agg #[ys, ya, .slice (some ⟨tg, 0, none⟩) tr.length (tr.length + 1)], .agg #[sv, av, tv]] w fun e w' => e = .returned (.bool true) ∧ Below w.heap.size w w' := by
  have HSS : Hid (SS 4 callL w sv sc) := hs
  have HSA : Hid (SS 2 ansL w av an) := ha
  have HST : Hid (SL 5 stepL w tv tr) := ht
  have HLS : Hid (Lent callL markC 59 B w ys sc) := ls
  have HLA : Hid (Lent ansL markA 31 B w ya an) := la
  have HLT : Hid (Marked stepL markS 45 w tg tr) := lt
  obtain ⟨p, cap, rfl, p1, p2, _⟩ := hs
  obtain ⟨q, caq, rfl, q1, q2, _⟩ := ha
  obtain ⟨o, cao, rfl, o1, o2, _⟩ := ht
  obtain ⟨py, capy, rfl, py1, py2, _⟩ := ls
  obtain ⟨qa, caqa, rfl, qa1, qa2, _⟩ := la
  unfold maxLen at p2 q2 o2 py2 qa2
  have BS : Hid (∀ i, (sc.getD i []).length ≤ 1048576) := bs
  have BA : Hid (∀ i, (an.getD i []).length ≤ 1048576) := ba
  have W0 : Hid (Below w.heap.size w ((w.alloc (.cells #[.slice py sc.length capy, .slice qa an.length caqa, .slice (some ⟨tg, 0, none⟩) tr.length (tr.length + 1)] 39)).alloc (.cells #[.slice p sc.length cap, .slice q an.length caq, .slice o tr.length cao] 39))) := below_alloc (below_alloc (Below.refl _ _) _) _
  clear lt bs ba
  go_enter Try.func17, Try.ntmps17
  go_wp2_with fail
  go_loopw [5] (fun i u => ∃ (k qn : Nat), k ≤ sc.length ∧ i = .int .i64 k ∧ u = ((w.alloc (.cells #[.slice py sc.length capy, .slice qa an.length caqa, .slice (some ⟨tg, 0, none⟩) tr.length (tr.length + 1)] 39)).alloc (.cells #[.slice p sc.length cap, .slice q an.length caq, .slice o tr.length cao] 39)).drewN qn) (fun i _ => sc.length - (intOf i).toNat)
  case atStart => exact ⟨0, 0, Nat.zero_le _, rfl, rfl⟩
  case round =>
    obtain ⟨k, qn, hk, rfl, rfl⟩ := hrel
    by_cases hlt : k < sc.length
    · obtain ⟨p', cap', he, _, _, h3⟩ := id HSS.out
      cases he
      obtain ⟨sblk, soff, vi, rfl, sc0, ⟨ip, icap, rfl, i1, i2, i3⟩⟩ := h3 k _ (getD_some hlt [])
      obtain ⟨py', capy', he, _, _, g3⟩ := id HLS.out
      cases he
      obtain ⟨yblk, yoff, g, rfl, yc0, _, hm⟩ := g3 k _ (getD_some hlt [])
      have hbig := BS.out k
      have lsb : sblk < w.heap.size := World.block_lt_of_cell? _ _ sc0
      have lyb : yblk < w.heap.size := World.block_lt_of_cell? _ _ yc0
      have hmk := hm.mark len_call 0 _ rfl
      have hms := hm.sl len_call (by unfold maxLen; omega)
      have HMS : Hid (∀ i a, (sc.getD k [])[i]? = some a → w.rangeAt g (i * 4) (callL a)) := fun i a hi => by
        obtain ⟨pp, cc, he, _, _, hh⟩ := hms
        cases he
        obtain ⟨b1, o1', e1, _, hr⟩ := hh i a hi
        cases e1
        simpa using hr
      have HI3 : Hid (∀ i a, (sc.getD k [])[i]? = some a → ∃ blk off, ip = some ⟨blk, off, none⟩ ∧ blk < w.heap.size ∧ w.rangeAt blk (off + i * 4) (callL a)) := i3
      have lg : g < w.heap.size := hm.lt
      simp only [Nat.add_zero] at hmk
      unfold maxLen at i2
      generalize hl : sc.getD k [] = l at *
      have hle1 : (l.length : Int) + 1 ≤ (l.length : Int) + 1 := Int.le_refl _
      clear h3 g3 i3 hm hms hl
      go_wp2_with fail
      go_loopw [8] (fun i u => ∃ (j qm : Nat), j ≤ l.length ∧ i = .int .i64 j ∧ u = ((w.alloc (.cells #[.slice (some ⟨yblk, yoff, none⟩) sc.length capy, .slice qa an.length caqa, .slice (some ⟨tg, 0, none⟩) tr.length (tr.length + 1)] 39)).alloc (.cells #[.slice (some ⟨sblk, soff, none⟩) sc.length cap, .slice q an.length caq, .slice o tr.length cao] 39)).drewN qm) (fun i _ => l.length - (intOf i).toNat)
      case atStart => exact ⟨0, qn, Nat.zero_le _, rfl, rfl⟩
      case round =>
        obtain ⟨j, qm, hj, rfl, rfl⟩ := hrel
        by_cases hjl : j < l.length
        · obtain ⟨cblk, coff, rfl, lcb, cr⟩ := HI3.out j _ (getD_some hjl call0)
          have dr := HMS.out j _ (getD_some hjl call0)
          generalize l.getD j call0 = c at cr dr
          obtain ⟨u0, u1, u2, u3⟩ := cells4 cr
          obtain ⟨v0, v1, v2, v3⟩ := cells4 dr
          clear cr dr
          go_wp2_with fail
          go_quiet (fail)
          go_wp2_with fail
          go_roundw
          case rel => exact ⟨j + 1, _, by omega, by go_num, rfl⟩
          case measure => simp [intOf]; omega
        · have : j = l.length := by omega
          subst this
          go_wp2_with fail
          go_roundw
          case rel => exact ⟨k + 1, _, by omega, by go_num, rfl⟩
          case measure => simp [intOf]; omega
    · have : k = sc.length := by omega
      subst this
      go_wp2_with fail
      go_loopw [9] (fun i u => ∃ (k qn : Nat), k ≤ an.length ∧ i = .int .i64 k ∧ u = ((w.alloc (.cells #[.slice py sc.length capy, .slice qa an.length caqa, .slice (some ⟨tg, 0, none⟩) tr.length (tr.length + 1)] 39)).alloc (.cells #[.slice p sc.length cap, .slice q an.length caq, .slice o tr.length cao] 39)).drewN qn) (fun i _ => an.length - (intOf i).toNat)
      case atStart => exact ⟨0, qn, Nat.zero_le _, rfl, rfl⟩
      case round =>
        obtain ⟨k, qn, hk, rfl, rfl⟩ := hrel
        by_cases hlt : k < an.length
        · obtain ⟨p', cap', he, _, _, h3⟩ := id HSA.out
          cases he
          obtain ⟨sblk, soff, vi, rfl, sc0, ⟨ip, icap, rfl, i1, i2, i3⟩⟩ := h3 k _ (getD_some hlt [])
          obtain ⟨py', capy', he, _, _, g3⟩ := id HLA.out
          cases he
          obtain ⟨yblk, yoff, g, rfl, yc0, _, hm⟩ := g3 k _ (getD_some hlt [])
          have hbig := BA.out k
          have lsb : sblk < w.heap.size := World.block_lt_of_cell? _ _ sc0
          have lyb : yblk < w.heap.size := World.block_lt_of_cell? _ _ yc0
          have hmk := hm.mark len_ans 0 _ rfl
          have hms := hm.sl len_ans (by unfold maxLen; omega)
          have HMS : Hid (∀ i a, (an.getD k [])[i]? = some a → w.rangeAt g (i * 2) (ansL a)) := fun i a hi => by
            obtain ⟨pp, cc, he, _, _, hh⟩ := hms
            cases he
            obtain ⟨b1, o1', e1, _, hr⟩ := hh i a hi
            cases e1
            simpa using hr
          have HI3 : Hid (∀ i a, (an.getD k [])[i]? = some a → ∃ blk off, ip = some ⟨blk, off, none⟩ ∧ blk < w.heap.size ∧ w.rangeAt blk (off + i * 2) (ansL a)) := i3
          have lg : g < w.heap.size := hm.lt
          simp only [Nat.add_zero] at hmk
          unfold maxLen at i2
          generalize hl : an.getD k [] = l at *
          have hle1 : (l.length : Int) + 1 ≤ (l.length : Int) + 1 := Int.le_refl _
          clear h3 g3 i3 hm hms hl
          go_wp2_with fail
          go_loopw [12] (fun i u => ∃ (j qm : Nat), j ≤ l.length ∧ i = .int .i64 j ∧ u = ((w.alloc (.cells #[.slice py sc.length capy, .slice (some ⟨yblk, yoff, none⟩) an.length caqa, .slice (some ⟨tg, 0, none⟩) tr.length (tr.length + 1)] 39)).alloc (.cells #[.slice p sc.length cap, .slice (some ⟨sblk, soff, none⟩) an.length caq, .slice o tr.length cao] 39)).drewN qm) (fun i _ => l.length - (intOf i).toNat)
          case atStart => exact ⟨0, qn, Nat.zero_le _, rfl, rfl⟩
          case round =>
            obtain ⟨j, qm, hj, rfl, rfl⟩ := hrel
            by_cases hjl : j < l.length
            · obtain ⟨cblk, coff, rfl, lcb, cr⟩ := HI3.out j _ (getD_some hjl (0, 0))
              have dr := HMS.out j _ (getD_some hjl (0, 0))
              generalize l.getD j (0, 0) = c at cr dr
              obtain ⟨u0, u1⟩ := cells2 cr
              obtain ⟨v0, v1⟩ := cells2 dr
              clear cr dr
              go_wp2_with fail
              go_quiet (fail)
              go_wp2_with fail
              go_roundw
              case rel => exact ⟨j + 1, _, by omega, by go_num, rfl⟩
              case measure => simp [intOf]; omega
            · have : j = l.length := by omega
              subst this
              go_wp2_with fail
              go_roundw
              case rel => exact ⟨k + 1, _, by omega, by go_num, rfl⟩
              case measure => simp [intOf]; omega
        · have : k = an.length := by omega
          subst this
          have hmk := HLT.out.mark len_step 2 _ rfl
          have hms := HLT.out.sl len_step (by unfold maxLen; omega)
          have HMS : Hid (∀ i a, tr[i]? = some a → w.rangeAt tg (i * 5) (stepL a)) := fun i a hi => by
            obtain ⟨pp, cc, he, _, _, hh⟩ := hms
            cases he
            obtain ⟨b1, o1', e1, _, hr⟩ := hh i a hi
            cases e1
            simpa using hr
          have ltg : tg < w.heap.size := HLT.out.lt
          clear hms
          go_wp2_with fail
          go_loopw [14] (fun i u => ∃ (j qm : Nat), j ≤ tr.length ∧ i = .int .i64 j ∧ u = ((w.alloc (.cells #[.slice py sc.length capy, .slice qa an.length caqa, .slice (some ⟨tg, 0, none⟩) tr.length (tr.length + 1)] 39)).alloc (.cells #[.slice p sc.length cap, .slice q an.length caq, .slice o tr.length cao] 39)).drewN qm) (fun i _ => tr.length - (intOf i).toNat)
          case atStart => exact ⟨0, _, Nat.zero_le _, rfl, rfl⟩
          case round =>
            obtain ⟨j, qm, hj, rfl, rfl⟩ := hrel
            by_cases hjl : j < tr.length
            · obtain ⟨o', cao', he, _, _, h3⟩ := id HST.out
              cases he
              obtain ⟨cblk, coff, rfl, lcb, cr⟩ := h3 j _ (getD_some hjl step0)
              have dr := HMS.out j _ (getD_some hjl step0)
              generalize tr.getD j step0 = c at cr dr
              obtain ⟨u0, u1, u2, u3, u4⟩ := cells5 cr
              obtain ⟨v0, v1, v2, v3, v4⟩ := cells5 dr
              clear cr dr h3
              go_wp2_with fail
              go_quiet (fail)
              go_wp2_with fail
              go_roundw
              case rel => exact ⟨j + 1, _, by omega, by go_num, rfl⟩
              case measure => simp [intOf]; omega
            · have : j = tr.length := by omega
              subst this
              go_wp2_with fail
              go_ret
              exact ⟨rfl, below_drewN W0.out _⟩

end Go.Proofs.Yteniopbmkooomaa
