/-
  The document's own Of, walked.
-/
import Derived.Test.YteniopbmkooomaaRefOf
namespace Go.Proofs.Yteniopbmkooomaa
open Go.RowKit Hi Go.Deep Go.Maps

theorem refEvs_succ (sc : List (List Call)) (an : List (List (Int × Int))) (tr : List Step) (k : Nat) :
    refEvs sc an tr (k + 1) = refEvs sc an tr k ++ (if (tr.getD k step0).op = 9 then [scan sc an tr k (tr.length - k - 1)] else []) := by
  unfold refEvs
  rw [begs_succ, List.map_append]
  by_cases h : (tr.getD k step0).op = 9
  · rw [if_pos h, if_pos h]; rfl
  · rw [if_neg h, if_neg h]; rfl

theorem refEvs_len (sc : List (List Call)) (an : List (List (Int × Int))) (tr : List Step) (k : Nat) : (refEvs sc an tr k).length ≤ k := by
  unfold refEvs begs
  rw [List.length_map]
  exact Nat.le_trans (List.length_filter_le _ _) (by simp)

theorem Box.later {u u' : World} {b n : Nat} {e : Ev} (h : Box u b e) (hb : Below n u u') (hn : b < n) : Box u' b e := (hb.block b hn).trans h

theorem scan_next {sc : List (List Call)} {an : List (List (Int × Int))} {tr : List Step} {k j : Nat} (hj : k < j) (x : Step) (hx : tr.getD j step0 = x) (t o : Nat) (b : Step) (hb : tr.getD k step0 = b) (ht : b.thr = t) (ho : b.old = o) :
    scan sc an tr k (j + 1 - k - 1) = if endsB x b = true then ended j ((an.getD t []).getD o (0, 0)) (scan sc an tr k (j - k - 1)) else scan sc an tr k (j - k - 1) := by
  rw [scan_step hj, hx, hb, ht, ho]
  rfl

set_option maxHeartbeats 8000000 in
set_option maxRecDepth 100000 in
theorem rof_any (sv av tv : Value) (sc : List (List Call)) (an : List (List (Int × Int))) (tr : List Step) (w : World) (hs : SS 4 callL w sv sc) (ha : SS 2 ansL w av an) (ht : SL 5 stepL w tv tr)
    (bn : sc.length ≤ 1048576) (ba : ∀ i, (an.getD i []).length ≤ 1048576) (bt : tr.length ≤ 1048576) :
    Calls Try.prog 13 #[sv, av, tv] w fun e w' => (∃ r, (Alike sc an → Ofs sc an 0 tr st0 r) ∧ (¬ Alike sc an → r = none) ∧ RetOf e w.heap.size w' r) ∧ Below w.heap.size w w' := by
  have HSS : Hid (SS 4 callL w sv sc) := hs
  have HSA : Hid (SS 2 ansL w av an) := ha
  have HTT : Hid (SL 5 stepL w tv tr) := ht
  obtain ⟨p, cap, rfl, p1, p2, p3⟩ := hs
  obtain ⟨q, caq, rfl, q1, q2, q3⟩ := ha
  obtain ⟨o, cao, rfl, o1, o2, o3⟩ := ht
  unfold maxLen at p2 q2 o2
  have P3 : Hid (∀ i l, sc[i]? = some l → ∃ blk off vi, p = some ⟨blk, off, none⟩ ∧ w.cell? ⟨blk, off + i, none⟩ = some vi ∧ SL 4 callL w vi l) := p3
  have Q3 : Hid (∀ i l, an[i]? = some l → ∃ blk off vi, q = some ⟨blk, off, none⟩ ∧ w.cell? ⟨blk, off + i, none⟩ = some vi ∧ SL 2 ansL w vi l) := q3
  have O3 : Hid (∀ i a, tr[i]? = some a → ∃ blk off, o = some ⟨blk, off, none⟩ ∧ blk < w.heap.size ∧ w.rangeAt blk (off + i * 5) (stepL a)) := o3
  have BA : Hid (∀ i, (an.getD i []).length ≤ 1048576) := ba
  clear p3 q3 o3 ba
  go_enter Try.func13, Try.ntmps13
  go_wp2_with fail
  refine (fit_any _ _ _ sc an tr _ HSS.out HSA.out HTT.out bn BA.out).mono ?_
  rintro e w1 ⟨⟨b, rfl, hb⟩, hb1⟩
  have HB1 : Hid (Below w.heap.size w w1) := hb1
  have HFB : Hid (b = true ↔ FitP sc an tr) := hb
  clear hb hb1
  cases b
  · obtain ⟨r, hr⟩ := ofs_total (sc := sc) (an := an) tr 0 st0
    have HN : Hid (Alike sc an → Ofs sc an 0 tr st0 none) := fun hal => by
      cases r with
      | none => exact hr
      | some st => exact absurd (HFB.out.2 ⟨hal, st, hr⟩) (by decide)
    clear hr
    go_wp2_with fail
    go_ret2
    exact ⟨⟨none, HN.out, fun _ => rfl, .inl ⟨rfl, rfl⟩⟩, HB1.out⟩
  · obtain ⟨hal, sf, hsf⟩ := HFB.out.1 rfl
    have HAL : Hid (Alike sc an) := hal
    have HSF : Hid (Ofs sc an 0 tr st0 (some sf)) := hsf
    have HBF : Hid (∀ i, i < tr.length → (tr.getD i step0).op = 9 → ∃ t o : Nat, (tr.getD i step0).thr = t ∧ t < sc.length ∧ (tr.getD i step0).old = o ∧ o < (an.getD t []).length) := fun i hi h9 => begin_facts tr 0 st0 sf rfl hsf i (Nat.zero_le _) hi h9
    clear hal hsf
    go_wp2_with fail
    go_loopw [9, 10] (fun lv i u => ∃ (k : Nat) (pl : Option Addr) (cpl : Nat), k ≤ tr.length ∧ i = .int .i64 k ∧ lv = .slice pl (refEvs sc an tr k).length cpl ∧ u.ownsRow w.heap.size 33 8 lv (refEvs sc an tr k).length ((refEvs sc an tr k).flatMap evL) ∧ Below w.heap.size w u) (fun _ i _ => tr.length - (intOf i).toNat)
    case atStart => exact ⟨0, none, 0, Nat.zero_le _, rfl, rfl, ⟨rfl, .inl ⟨rfl, rfl⟩⟩, HB1.out⟩
    case round =>
      obtain ⟨k, pl, cpl, hk, rfl, rfl, hown, hbel⟩ := hrel
      obtain ⟨wo, hwo⟩ : ∃ wo, wo = wr := ⟨wr, rfl⟩
      subst hwo
      have HOWN : Hid (wo.ownsRow w.heap.size 33 8 (.slice pl (refEvs sc an tr k).length cpl) (refEvs sc an tr k).length ((refEvs sc an tr k).flatMap evL)) := hown
      have HBEL : Hid (Below w.heap.size w wo) := hbel
      have hszo : w.heap.size ≤ wo.heap.size := hbel.size
      have hnk := refEvs_len sc an tr k
      clear hown hbel
      by_cases hlt : k < tr.length
      · obtain ⟨s, hsk⟩ : ∃ s, tr[k]? = some s := ⟨_, List.getElem?_eq_getElem hlt⟩
        have HSK : Hid (tr.getD k step0 = s) := by rw [List.getD_eq_getElem?_getD, hsk]; rfl
        obtain ⟨blk, off, rfl, hblk, hr⟩ := O3.out k s hsk
        have HST : Hid (wo.rangeAt blk (off + k * 5) (stepL s)) := range_later HBEL.out hr hblk
        clear hsk hr
        by_cases hop : s.op = 9
        · have hf := HBF.out k hlt (by rw [HSK.out]; exact hop)
          rw [HSK.out] at hf
          obtain ⟨t, o, hte, htl, hoe, hol⟩ := hf
          obtain ⟨sthr, scel, sop, sold, snew⟩ := s
          simp only at hte hop hoe
          subst hte hop hoe
          have htla : t < an.length := by have := HAL.out.1; omega
          have hlen : (sc.getD t []).length = (an.getD t []).length := HAL.out.2 t htl
          obtain ⟨ablk, aoff, avi, rfl, ac0, ⟨ip, icap, rfl, i1, i2, i3⟩⟩ := Q3.out t _ (getD_some htla [])
          obtain ⟨sblk, soff, svi, rfl, sc0, ⟨jp, jcap, rfl, j1, j2, j3⟩⟩ := P3.out t _ (getD_some htl [])
          obtain ⟨cblk, coff, rfl, lcb, cr⟩ := i3 o _ (getD_some hol (0, 0))
          obtain ⟨dblk, doff, rfl, ldb, dr⟩ := j3 o _ (getD_some (by omega) call0)
          have labk : ablk < w.heap.size := World.block_lt_of_cell? _ _ ac0
          have lsbk : sblk < w.heap.size := World.block_lt_of_cell? _ _ sc0
          have sc1 : wo.cell? ⟨sblk, soff + t, none⟩ = some (.slice (some ⟨dblk, doff, none⟩) (sc.getD t []).length jcap) := by rw [HBEL.out.cell (p := ⟨sblk, soff + t, none⟩) lsbk]; exact sc0
          have dr1 := range_later HBEL.out dr ldb
          have HAC : Hid (w.cell? ⟨ablk, aoff + t, none⟩ = some (.slice (some ⟨cblk, coff, none⟩) (an.getD t []).length icap)) := ac0
          have HCR : Hid (w.rangeAt cblk (coff + o * 2) (ansL ((an.getD t []).getD o (0, 0)))) := cr
          unfold maxLen at i2 j2
          generalize hdl : (sc.getD t []).getD o call0 = dl at dr1
          have HDL : Hid ((sc.getD t []).getD o call0 = dl) := hdl
          have d0 : wo.cell? ⟨dblk, doff + o * 4, none⟩ = some (I dl.op) := by simpa using dr1 0 _ rfl
          have d1 : wo.cell? ⟨dblk, doff + o * 4 + 1, none⟩ = some (I dl.a) := by simpa using dr1 1 _ rfl
          have d2 : wo.cell? ⟨dblk, doff + o * 4 + 2, none⟩ = some (I dl.b) := by simpa using dr1 2 _ rfl
          have d3 : wo.cell? ⟨dblk, doff + o * 4 + 3, none⟩ = some (I dl.c) := by simpa using dr1 3 _ rfl
          generalize hnl : (sc.getD t []).length = nl at sc1 j1 hlen
          generalize hnl2 : (an.getD t []).length = nl2 at hol i1 hlen
          have HNL2 : Hid ((an.getD t []).length = nl2) := hnl2
          have honl : (o : Int) < (nl : Int) := by omega
          have honl2 : (o : Int) < (nl2 : Int) := by omega
          have lso : sblk < wo.heap.size := by omega
          have ldo : dblk < wo.heap.size := by omega
          clear hdl hnl hnl2 i3 j3 ac0 sc0 cr dr dr1 hlen
          go_wp2_with ((with_reducible refine wp_load45 (.tmp 30) ?_ ?_ blk (off + k * 5) ?_ ⟨t, scel, 9, o, snew⟩ ?_ ?_); rfl; rfl; rfl; exact HST.out)
          go_region_held3 (fun u => u.cell? ⟨wo.heap.size, 0, none⟩ = some (I t) ∧ u.cell? ⟨wo.heap.size, 3, none⟩ = some (I o) ∧ u.cell? ⟨sblk, soff + t, none⟩ = some (.slice (some ⟨dblk, doff, none⟩) nl jcap) ∧
              u.cell? ⟨dblk, doff + o * 4, none⟩ = some (I dl.op) ∧ u.cell? ⟨dblk, doff + o * 4 + 1, none⟩ = some (I dl.a) ∧ u.cell? ⟨dblk, doff + o * 4 + 2, none⟩ = some (I dl.b) ∧ u.cell? ⟨dblk, doff + o * 4 + 3, none⟩ = some (I dl.c))
            (first | (exact keep7 ‹_› (below_alloc (Below.refl _ _) _)) | (simp [go_sem, *]; done))
            (fail)
          rename_i hH
          clear hH
          go_wp2_with fail
          have HSK' : Hid (tr.getD k step0 = ⟨t, scel, 9, o, snew⟩) := HSK.out
          clear sc1 d0 d1 d2 d3 lso ldo
          go_loopw [14] (fun i u => ∃ j : Nat, k + 1 ≤ j ∧ j ≤ tr.length ∧ i = .int .i64 j ∧ Box u (wo.heap.size + 1 + 1) (scan sc an tr k (j - k - 1)) ∧ u.cell? ⟨wo.heap.size, 0, none⟩ = some (I t) ∧ u.cell? ⟨wo.heap.size, 3, none⟩ = some (I o) ∧ Below wo.heap.size wo u) (fun i _ => tr.length - (intOf i).toNat)
          case atStart =>
            refine ⟨k + 1, Nat.le_refl _, by omega, by go_num, ?_, ?_, ?_, (below_alloc (below_alloc (below_alloc (Below.refl _ _) _) _) _).drew⟩
            · have e1 : k + 1 - k - 1 = 0 := by omega
              rw [e1, scan, HSK'.out]
              simp only [Int.toNat_natCast, HDL.out]
              show ((((wo.alloc _).alloc _).alloc _).drew).heap[wo.heap.size + 1 + 1]? = _
              have := heap_alloc_new ((wo.alloc (.cells #[I t, I scel, I 9, I o, I snew] 45)).alloc (.cells #[I dl.op, I dl.a, I dl.b, I dl.c] 59)) (.cells (evC (begunEv t k dl)) 33)
              rw [World.size_alloc, World.size_alloc] at this
              exact this
            · simp [go_sem]
            · simp [go_sem]
          case round =>
            obtain ⟨j, hkj, hj, rfl, hbox, s0, s3, hbw⟩ := hrel
            have HBOX : Hid (Box wr (wo.heap.size + 1 + 1) (scan sc an tr k (j - k - 1))) := hbox
            have HBW : Hid (Below wo.heap.size wo wr) := hbw
            have heb : wo.heap.size + 1 + 1 < wr.heap.size := (Array.getElem?_eq_some_iff.1 hbox).1
            have lwr0 : wo.heap.size < wr.heap.size := by omega
            clear hbox hbw
            by_cases hjl : j < tr.length
            · obtain ⟨x, hxj⟩ : ∃ x, tr[j]? = some x := ⟨_, List.getElem?_eq_getElem hjl⟩
              have HXJ : Hid (tr.getD j step0 = x) := by rw [List.getD_eq_getElem?_getD, hxj]; rfl
              obtain ⟨b', o', e', _, hrx⟩ := O3.out j x hxj
              cases e'
              have HSX : Hid (wr.rangeAt blk (off + j * 5) (stepL x)) := range_later HBW.out (range_later HBEL.out hrx hblk) (by omega)
              have hsn := scan_next (sc := sc) (an := an) (show k < j by omega) x HXJ.out t o ⟨t, scel, 9, o, snew⟩ HSK'.out rfl rfl
              have HSN : Hid (scan sc an tr k (j + 1 - k - 1) = if endsB x ⟨t, scel, 9, o, snew⟩ = true then ended j ((an.getD t []).getD o (0, 0)) (scan sc an tr k (j - k - 1)) else scan sc an tr k (j - k - 1)) := hsn
              clear hxj hrx hsn
              by_cases hen : endsB x ⟨t, scel, 9, o, snew⟩ = true
              · have HEN : Hid (endsB x ⟨t, scel, 9, o, snew⟩ = true) := hen
                obtain ⟨e1, e2, e3, e4⟩ := ends_iff.1 hen
                simp only at e2 e3
                have e1' : (x.op == 10) = true := by simpa using e1
                have e2' : (x.thr == (t : Int)) = true := by simpa using e2
                have e3' : (x.old == (o : Int)) = true := by simpa using e3
                have e4' : (x.new != 4) = true := by simpa using e4
                have ac := range_later HBW.out (range_later HBEL.out HCR.out lcb) (show cblk < wo.heap.size by omega)
                have av1 : wr.cell? ⟨ablk, aoff + t, none⟩ = some (.slice (some ⟨cblk, coff, none⟩) nl2 icap) := by
                  rw [HBW.out.cell (p := ⟨ablk, aoff + t, none⟩) (by simp; omega), HBEL.out.cell (p := ⟨ablk, aoff + t, none⟩) labk, HAC.out, HNL2.out]
                generalize hcl : (an.getD t []).getD o (0, 0) = cl at ac
                have HCL : Hid ((an.getD t []).getD o (0, 0) = cl) := hcl
                have q0 : wr.cell? ⟨cblk, coff + o * 2, none⟩ = some (I cl.1) := by simpa using ac 0 _ rfl
                have q1' : wr.cell? ⟨cblk, coff + o * 2 + 1, none⟩ = some (I cl.2) := by simpa using ac 1 _ rfl
                obtain ⟨x0, x1, x2, x3, x4, x5, x6, x7⟩ := box8 HBOX.out.range
                have f5 := HBOX.out.frozen 5
                have f6 := HBOX.out.frozen 6
                have f7 := HBOX.out.frozen 7
                have n1 : ¬ cblk = wo.heap.size + 1 + 1 := by omega
                have n2 : ¬ wo.heap.size + 1 + 1 = cblk := by omega
                have n3 : ¬ ablk = wo.heap.size + 1 + 1 := by omega
                have n4 : ¬ wo.heap.size + 1 + 1 = ablk := by omega
                have lar : ablk < wr.heap.size := by omega
                have lcr : cblk < wr.heap.size := by omega
                have n5 : ¬ wo.heap.size = wo.heap.size + 1 + 1 := by omega
                clear hen e1 e2 e3 e4 ac hcl
                go_wp2_with ((with_reducible refine wp_load45 (.tmp 65) ?_ ?_ blk (off + j * 5) ?_ x ?_ ?_); rfl; rfl; rfl; exact HSX.out)
                go_region_held3 (fun u => u.cell? ⟨wo.heap.size, 0, none⟩ = some (I t) ∧ u.cell? ⟨wo.heap.size, 3, none⟩ = some (I o) ∧ u.cell? ⟨ablk, aoff + t, none⟩ = some (.slice (some ⟨cblk, coff, none⟩) nl2 icap) ∧ u.cell? ⟨cblk, coff + o * 2, none⟩ = some (I cl.1) ∧ u.cell? ⟨cblk, coff + o * 2 + 1, none⟩ = some (I cl.2))
                  ((simp [go_sem, *]; done))
                  (fail)
                rename_i hH
                clear hH
                go_wp2_with fail
                go_roundw
                case rel =>
                  have b3 := ((HBW.out.setCell (p := ⟨wo.heap.size + 1 + 1, 5, none⟩) (by simp; omega) (I j)).setCell (p := ⟨wo.heap.size + 1 + 1, 6, none⟩) (by simp; omega) (I cl.1)).setCell (p := ⟨wo.heap.size + 1 + 1, 7, none⟩) (by simp; omega) (I cl.2)
                  have hbx := HBOX.out.set j cl
                  have hb := (below_alloc (Below.refl _ (((wr.setCell ⟨wo.heap.size + 1 + 1, 5, none⟩ (I j)).setCell ⟨wo.heap.size + 1 + 1, 6, none⟩ (I cl.1)).setCell ⟨wo.heap.size + 1 + 1, 7, none⟩ (I cl.2))) (.cells #[I x.thr, I x.cel, I x.op, I x.old, I x.new] 45)).drew
                  have c0' : (((wr.setCell ⟨wo.heap.size + 1 + 1, 5, none⟩ (I j)).setCell ⟨wo.heap.size + 1 + 1, 6, none⟩ (I cl.1)).setCell ⟨wo.heap.size + 1 + 1, 7, none⟩ (I cl.2)).cell? ⟨wo.heap.size, 0, none⟩ = some (I t) := by
                    rw [World.cell?_setCell_other (h := by simp), World.cell?_setCell_other (h := by simp), World.cell?_setCell_other (h := by simp)]; exact s0
                  have c3' : (((wr.setCell ⟨wo.heap.size + 1 + 1, 5, none⟩ (I j)).setCell ⟨wo.heap.size + 1 + 1, 6, none⟩ (I cl.1)).setCell ⟨wo.heap.size + 1 + 1, 7, none⟩ (I cl.2)).cell? ⟨wo.heap.size, 3, none⟩ = some (I o) := by
                    rw [World.cell?_setCell_other (h := by simp), World.cell?_setCell_other (h := by simp), World.cell?_setCell_other (h := by simp)]; exact s3
                  refine ⟨j + 1, by omega, by omega, by go_num, ?_, kcell hb c0', kcell hb c3', b3.trans (hb.mono b3.size)⟩
                  rw [HSN.out, if_pos HEN.out, HCL.out]
                  exact hbx.later hb (Array.getElem?_eq_some_iff.1 hbx).1
                case measure => simp [intOf]; omega
              · have HEN : Hid (¬ endsB x ⟨t, scel, 9, o, snew⟩ = true) := hen
                have hcs : (x.op == 10) = false ∨ ((x.op == 10) = true ∧ (x.thr == (t : Int)) = false) ∨ ((x.op == 10) = true ∧ (x.thr == (t : Int)) = true ∧ (x.old == (o : Int)) = false) ∨ ((x.op == 10) = true ∧ (x.thr == (t : Int)) = true ∧ (x.old == (o : Int)) = true ∧ (x.new != 4) = false) := by
                  unfold endsB at hen
                  simp only [Bool.and_eq_true, not_and] at hen
                  cases h1 : (x.op == 10) with
                  | false => exact .inl rfl
                  | true =>
                    cases h2 : (x.thr == (t : Int)) with
                    | false => exact .inr (.inl ⟨rfl, rfl⟩)
                    | true =>
                      cases h3 : (x.old == (o : Int)) with
                      | false => exact .inr (.inr (.inl ⟨rfl, rfl, rfl⟩))
                      | true => exact .inr (.inr (.inr ⟨rfl, rfl, rfl, by simpa using hen ⟨⟨h1, h2⟩, h3⟩⟩))
                clear hen
                rcases hcs with g1 | ⟨g1, g2⟩ | ⟨g1, g2, g3⟩ | ⟨g1, g2, g3, g4⟩
                all_goals
                  go_wp2_with ((with_reducible refine wp_load45 (.tmp 65) ?_ ?_ blk (off + j * 5) ?_ x ?_ ?_); rfl; rfl; rfl; exact HSX.out)
                  go_roundw
                  case rel =>
                    have hb := below_alloc (Below.refl _ wr) (.cells #[I x.thr, I x.cel, I x.op, I x.old, I x.new] 45)
                    refine ⟨j + 1, by omega, by omega, by go_num, ?_, kcell hb s0, kcell hb s3, HBW.out.trans (hb.mono (by omega))⟩
                    rw [HSN.out, if_neg HEN.out]
                    exact HBOX.out.later hb heb
                  case measure => simp [intOf]; omega
            · have : j = tr.length := by omega
              subst this
              obtain ⟨j0, hj', hj0, hj1, hj2⟩ := info_parts info33
              have HOW2 : Hid (wr.ownsRow w.heap.size 33 8 (.slice pl (refEvs sc an tr k).length cpl) (refEvs sc an tr k).length ((refEvs sc an tr k).flatMap evL)) := own_later HBW.out HOWN.out
              have hgb := own_block HOWN.out
              generalize hev : scan sc an tr k (tr.length - k - 1) = ev at HBOX
              have HEV : Hid (scan sc an tr k (tr.length - k - 1) = ev) := hev
              have HRE : Hid (refEvs sc an tr (k + 1) = refEvs sc an tr k ++ [ev]) := by
                have h := refEvs_succ sc an tr k
                rw [HSK'.out, if_pos rfl, hev] at h
                exact h
              generalize hre : (refEvs sc an tr k).length = nr at hnk HOW2 hgb ⊢
              have HNR : Hid ((refEvs sc an tr k).length = nr) := hre
              clear hev hre s0 s3
              go_wp2_with (first
                | ((with_reducible refine wp_load33 (.tmp 13) ?_ ?_ (wo.heap.size + 1 + 1) 0 ?_ ev ?_ ?_); rfl; rfl; rfl; exact HBOX.out.range)
                | (at_builtin; refine wpList_append_lies _ rfl (.tmp 101) (.tmp 103) 22 rfl w.heap.size 33 j0 _ 8 64 Try.underlying22 hj' hj0 hj1 hj2 rfl (by decide) (.slice pl nr cpl) nr ((refEvs sc an tr k).flatMap evL) rfl
                        (own_later (below_alloc (Below.refl _ _) _) HOW2.out) ⟨wr.heap.size, 0, none⟩ 1 1 (evL ev) rfl rfl (news8 _ _ _) (one8 _) (by decide) (by unfold maxLen; omega) (by omega) (by simp; omega) _ rfl ?_; intro g cpg w6 hown6 hgrow6 hat6 hlt6))
              have HO6 : Hid (w6.ownsRow w.heap.size 33 8 (.slice (some ⟨g, 0, none⟩) (nr + 1) cpg) (nr + 1) ((refEvs sc an tr k).flatMap evL ++ evL ev)) := hown6
              have HB6 : Hid (Below w.heap.size w w6) := by
                have bw := HBEL.out.trans (HBW.out.mono HBEL.out.size)
                exact (below_alloc bw _).grown hgrow6 (by simp; omega) (fun g hg => by have := hgb g hg; omega)
              clear hown6 hgrow6 hat6 hlt6 hgb
              go_wp2_with fail
              go_roundw
              case rel =>
                refine ⟨k + 1, some ⟨g, 0, none⟩, cpg, by omega, by go_num, ?_, ?_, HB6.out⟩
                · rw [HRE.out, List.length_append, HNR.out]; rfl
                · rw [HRE.out, List.length_append, HNR.out, List.flatMap_append]
                  simpa using HO6.out
              case measure => simp [intOf]; omega
        · have HNP : Hid (¬ s.op = 9) := hop
          have hop' : (s.op != 9) = true := by simpa using hop
          clear hop
          go_wp2_with ((with_reducible refine wp_load45 (.tmp 30) ?_ ?_ blk (off + k * 5) ?_ s ?_ ?_); rfl; rfl; rfl; exact HST.out)
          go_roundw
          case rel =>
            have e1 : refEvs sc an tr (k + 1) = refEvs sc an tr k := by rw [refEvs_succ, HSK.out, if_neg HNP.out, List.append_nil]
            refine ⟨k + 1, pl, cpl, by omega, by go_num, by rw [e1], ?_, below_alloc HBEL.out _⟩
            rw [e1]
            exact own_later (below_alloc (Below.refl _ _) _) HOWN.out
          case measure => simp [intOf]; omega
      · have : k = tr.length := by omega
        subst this
        go_wp2_with fail
        go_ret2
        refine ⟨⟨some sf, fun _ => HSF.out, fun h => absurd HAL.out h, .inr ⟨sf, _, rfl, rfl, ?_⟩⟩, HBEL.out⟩
        rw [evs_ref HSF.out]
        exact HOWN.out

end Go.Proofs.Yteniopbmkooomaa
