/- LatchLinear: whatever the schedule, the number and the scripts, what a latch's calls are told could have been one call behind the other, as chapter 3's own functions say; no conditions. Part 3 of 39. (Joined, by program, of: R3RefOf, R3Rof, R3With, R3Ways, R3Ways2, R3Ways3, R3Ways4, R3WaysAll.) -/
import Derived.Test.YtehingmdmijedaaLatchLinear02
import Derived.Deep.RegionWith
set_option linter.unusedSimpArgs false
set_option linter.unusedVariables false
namespace Go.Proofs.Ytehingmdmijedaa.R3
open Go.RowKit Go.Proofs.Ytehingmdmijedaa.His Go.Deep Go.Maps
theorem ofs_total {sc : List (List Call)} {an : List (List (Int × Int))} : ∀ (l : List Step) (k : Nat) (st : St), ∃ r, Ofs sc an k l st r
  | [], k, st => ⟨some st, rfl⟩
  | s :: l, k, st => by
    by_cases hop : s.op = 9 ∨ s.op = 10
    · by_cases hth : s.thr < 0 ∨ (sc.length : Int) ≤ s.thr
      · exact ⟨none, .inr (.inl ⟨hop, hth, rfl⟩)⟩
      · obtain ⟨t, ht⟩ := Int.eq_ofNat_of_zero_le (show 0 ≤ s.thr by omega)
        have htl : t < sc.length := by omega
        rcases hop with hop | hop
        · by_cases ho : beginOk an st t s
          · obtain ⟨r, hr⟩ := ofs_total l (k + 1) (beginSt sc st t k)
            exact ⟨r, .inr (.inr (.inl ⟨t, ht, htl, hop, ho, hr⟩))⟩
          · exact ⟨none, .inr (.inr (.inr (.inr (.inl ⟨t, ht, htl, hop, ho, rfl⟩))))⟩
        · by_cases ho : endOk an st t s
          · obtain ⟨r, hr⟩ := ofs_total l (k + 1) (endSt an st t k)
            exact ⟨r, .inr (.inr (.inr (.inl ⟨t, ht, htl, hop, ho, hr⟩)))⟩
          · exact ⟨none, .inr (.inr (.inr (.inr (.inr ⟨t, ht, htl, hop, ho, rfl⟩))))⟩
    · obtain ⟨r, hr⟩ := ofs_total l (k + 1) st
      exact ⟨r, .inl ⟨fun h => hop (.inl h), fun h => hop (.inr h), hr⟩⟩
theorem begin_facts {sc : List (List Call)} {an : List (List (Int × Int))} {tr : List Step} : ∀ (l : List Step) (k : Nat) (st r : St), tr.drop k = l → Ofs sc an k l st (some r) → ∀ i, k ≤ i → i < tr.length → (tr.getD i step0).op = 9 →
    ∃ t o : Nat, (tr.getD i step0).thr = t ∧ t < sc.length ∧ (tr.getD i step0).old = o ∧ o < (an.getD t []).length
  | [], k, st, r, hd, _, i, hk, hi, _ => by
    have := List.drop_eq_nil_iff.1 hd
    omega
  | s :: l, k, st, r, hd, h, i, hk, hi, h9 => by
    have hlt : k < tr.length := by omega
    rw [List.drop_eq_getElem_cons hlt] at hd
    have hs : tr.getD k step0 = s := by
      rw [List.getD_eq_getElem?_getD, List.getElem?_eq_getElem hlt]
      exact (List.cons.inj hd).1
    have hd' := (List.cons.inj hd).2
    by_cases e : i = k
    · subst e
      rw [hs] at h9 ⊢
      rcases h with ⟨h1, _, _⟩ | ⟨_, _, h⟩ | ⟨t, h1, h2, h3, h4, h⟩ | ⟨t, h1, h2, h3, h4, h⟩ | ⟨t, h1, h2, h3, h4, h⟩ | ⟨t, h1, h2, h3, h4, h⟩
      · exact absurd h9 h1
      · cases h
      · exact ⟨t, (st.tab t).1, h1, h2, h4.2.2.1, h4.2.1⟩
      · omega
      · cases h
      · cases h
    · rcases h with ⟨h1, h2, h⟩ | ⟨_, _, h⟩ | ⟨t, h1, h2, h3, h4, h⟩ | ⟨t, h1, h2, h3, h4, h⟩ | ⟨t, h1, h2, h3, h4, h⟩ | ⟨t, h1, h2, h3, h4, h⟩
      · exact begin_facts l (k + 1) _ r hd' h i (by omega) hi h9
      · cases h
      · exact begin_facts l (k + 1) _ r hd' h i (by omega) hi h9
      · exact begin_facts l (k + 1) _ r hd' h i (by omega) hi h9
      · cases h
      · cases h
def Box (u : World) (b : Nat) (e : Ev) : Prop := u.heap[b]? = some (.cells (evC e) 129 (0, 0))
theorem Box.range {u : World} {b : Nat} {e : Ev} (h : Box u b e) : u.rangeAt b 0 (evC e).toList := by
  intro j v hj
  simp only [World.cell?]
  rw [show u.heap[b]? = some (.cells (evC e) 129 (0, 0)) from h]
  simpa using hj
theorem Box.frozen {u : World} {b : Nat} {e : Ev} (h : Box u b e) (j : Nat) : u.frozen? ⟨b, j, none⟩ = false := by
  simp only [World.frozen?]
  rw [show u.heap[b]? = some (.cells (evC e) 129 (0, 0)) from h]
  simp
theorem Box.set {u : World} {b : Nat} {e : Ev} (h : Box u b e) (k : Nat) (a : Int × Int) : Box (((u.setCell ⟨b, 5, none⟩ (I k)).setCell ⟨b, 6, none⟩ (I a.1)).setCell ⟨b, 7, none⟩ (I a.2)) b (ended k a e) := by
  have h' : u.heap[b]? = some (.cells (evC e) 129 (0, 0)) := h
  unfold Box
  simp [World.setCell, Array.getElem?_modify, h', ended]
end Go.Proofs.Ytehingmdmijedaa.R3

namespace Go.Proofs.Ytehingmdmijedaa.R3
open Go.RowKit Go.Proofs.Ytehingmdmijedaa.His Go.Deep Go.Maps
theorem refEvs_succ (sc : List (List Call)) (an : List (List (Int × Int))) (tr : List Step) (k : Nat) :
    refEvs sc an tr (k + 1) = refEvs sc an tr k ++ (if (tr.getD k step0).op = 9 then [scan sc an tr k (tr.length - k - 1)] else []) := by
  unfold refEvs
  rw [begs_succ, List.map_append]
  by_cases h : (tr.getD k step0).op = 9
  · rw [if_pos h, if_pos h]; rfl
  · rw [if_neg h, if_neg h]; rfl
theorem refEvs_len (sc : List (List Call)) (an : List (List (Int × Int))) (tr : List Step) (k : Nat) : (refEvs sc an tr k).length ≤ k := by
  unfold refEvs begs
  rw [List.length_map]
  exact Nat.le_trans (List.length_filter_le _ _) (by simp)
theorem Box.later {u u' : World} {b n : Nat} {e : Ev} (h : Box u b e) (hb : Below n u u') (hn : b < n) : Box u' b e := (hb.block b hn).trans h
theorem scan_next {sc : List (List Call)} {an : List (List (Int × Int))} {tr : List Step} {k j : Nat} (hj : k < j) (x : Step) (hx : tr.getD j step0 = x) (t o : Nat) (b : Step) (hb : tr.getD k step0 = b) (ht : b.thr = t) (ho : b.old = o) :
    scan sc an tr k (j + 1 - k - 1) = if endsB x b = true then ended j ((an.getD t []).getD o (0, 0)) (scan sc an tr k (j - k - 1)) else scan sc an tr k (j - k - 1) := by
  rw [scan_step hj, hx, hb, ht, ho]
  rfl
set_option maxHeartbeats 8000000 in
set_option maxRecDepth 100000 in
theorem rof_any (sv av tv : Value) (sc : List (List Call)) (an : List (List (Int × Int))) (tr : List Step) (w : World) (hs : SSw 4 callL w sv sc) (ha : SSw 2 ansL w av an) (ht : SLw 5 stepL w tv tr)
    (bn : sc.length ≤ 1048576) (ba : ∀ i, (an.getD i []).length ≤ 1048576) (bt : tr.length ≤ 1048576) :
    Calls Try.prog 66 #[sv, av, tv] w fun e w' => (∃ r, (Alike sc an → Ofs sc an 0 tr st0 r) ∧ (¬ Alike sc an → r = none) ∧ RetOf e w.heap.size w' r) ∧ Below w.heap.size w w' := by
  have HSS : Hid (SSw 4 callL w sv sc) := hs
  have HSA : Hid (SSw 2 ansL w av an) := ha
  have HTT : Hid (SLw 5 stepL w tv tr) := ht
  obtain ⟨p, cap, rfl, p1, p2, p3⟩ := hs
  obtain ⟨q, caq, rfl, q1, q2, q3⟩ := ha
  obtain ⟨o, cao, rfl, o1, o2, o3⟩ := ht
  unfold maxLen at p2 q2 o2
  have P3 : Hid (∀ i l, sc[i]? = some l → ∃ blk off vi, p = some ⟨blk, off, none⟩ ∧ w.cell? ⟨blk, off + i, none⟩ = some vi ∧ SLw 4 callL w vi l) := p3
  have Q3 : Hid (∀ i l, an[i]? = some l → ∃ blk off vi, q = some ⟨blk, off, none⟩ ∧ w.cell? ⟨blk, off + i, none⟩ = some vi ∧ SLw 2 ansL w vi l) := q3
  have O3 : Hid (∀ i a, tr[i]? = some a → ∃ blk off, o = some ⟨blk, off, none⟩ ∧ blk < w.heap.size ∧ w.rangeAt blk (off + i * 5) (stepL a)) := o3
  have BA : Hid (∀ i, (an.getD i []).length ≤ 1048576) := ba
  clear p3 q3 o3 ba
  go_enter Try.func66, Try.ntmps66
  go_wp2_with fail
  refine (fit_any _ _ _ sc an tr _ HSS.out HSA.out HTT.out bn BA.out).mono ?_
  rintro e w1 ⟨⟨b, rfl, hb⟩, hb1⟩
  have HB1 : Hid (Below w.heap.size w w1) := hb1
  have HFB : Hid (b = true ↔ FitP sc an tr) := hb
  clear hb hb1
  cases b
  · obtain ⟨r, hr⟩ := ofs_total (sc := sc) (an := an) tr 0 st0
    have HN : Hid (Alike sc an → Ofs sc an 0 tr st0 none) := fun hal => by
      cases r with
      | none => exact hr
      | some st => exact absurd (HFB.out.2 ⟨hal, st, hr⟩) (by decide)
    clear hr
    go_wp2_with fail
    go_ret2
    exact ⟨⟨none, HN.out, fun _ => rfl, .inl ⟨rfl, rfl⟩⟩, HB1.out⟩
  · obtain ⟨hal, sf, hsf⟩ := HFB.out.1 rfl
    have HAL : Hid (Alike sc an) := hal
    have HSF : Hid (Ofs sc an 0 tr st0 (some sf)) := hsf
    have HBF : Hid (∀ i, i < tr.length → (tr.getD i step0).op = 9 → ∃ t o : Nat, (tr.getD i step0).thr = t ∧ t < sc.length ∧ (tr.getD i step0).old = o ∧ o < (an.getD t []).length) := fun i hi h9 => begin_facts tr 0 st0 sf rfl hsf i (Nat.zero_le _) hi h9
    clear hal hsf
    go_wp2_with fail
    go_loopw [9, 10] (fun lv i u => ∃ (k : Nat) (pl : Option Addr) (cpl : Nat), k ≤ tr.length ∧ i = .int .i64 k ∧ lv = .slice pl (refEvs sc an tr k).length cpl ∧ u.ownsRow w.heap.size 129 8 lv (refEvs sc an tr k).length ((refEvs sc an tr k).flatMap evL) ∧ Below w.heap.size w u) (fun _ i _ => tr.length - (intOf i).toNat)
    case atStart => exact ⟨0, none, 0, Nat.zero_le _, rfl, rfl, ⟨rfl, .inl ⟨rfl, rfl⟩⟩, HB1.out⟩
    case round =>
      obtain ⟨k, pl, cpl, hk, rfl, rfl, hown, hbel⟩ := hrel
      obtain ⟨wo, hwo⟩ : ∃ wo, wo = wr := ⟨wr, rfl⟩
      subst hwo
      have HOWN : Hid (wo.ownsRow w.heap.size 129 8 (.slice pl (refEvs sc an tr k).length cpl) (refEvs sc an tr k).length ((refEvs sc an tr k).flatMap evL)) := hown
      have HBEL : Hid (Below w.heap.size w wo) := hbel
      have hszo : w.heap.size ≤ wo.heap.size := hbel.size
      have hnk := refEvs_len sc an tr k
      clear hown hbel
      by_cases hlt : k < tr.length
      · obtain ⟨s, hsk⟩ : ∃ s, tr[k]? = some s := ⟨_, List.getElem?_eq_getElem hlt⟩
        have HSK : Hid (tr.getD k step0 = s) := by rw [List.getD_eq_getElem?_getD, hsk]; rfl
        obtain ⟨blk, off, rfl, hblk, hr⟩ := O3.out k s hsk
        have HST : Hid (wo.rangeAt blk (off + k * 5) (stepL s)) := range_later HBEL.out hr hblk
        clear hsk hr
        by_cases hop : s.op = 9
        · have hf := HBF.out k hlt (by rw [HSK.out]; exact hop)
          rw [HSK.out] at hf
          obtain ⟨t, o, hte, htl, hoe, hol⟩ := hf
          obtain ⟨sthr, scel, sop, sold, snew⟩ := s
          simp only at hte hop hoe
          subst hte hop hoe
          have htla : t < an.length := by have := HAL.out.1; omega
          have hlen : (sc.getD t []).length = (an.getD t []).length := HAL.out.2 t htl
          obtain ⟨ablk, aoff, avi, rfl, ac0, ⟨ip, icap, rfl, i1, i2, i3⟩⟩ := Q3.out t _ (getD_some htla [])
          obtain ⟨sblk, soff, svi, rfl, sc0, ⟨jp, jcap, rfl, j1, j2, j3⟩⟩ := P3.out t _ (getD_some htl [])
          obtain ⟨cblk, coff, rfl, lcb, cr⟩ := i3 o _ (getD_some hol (0, 0))
          obtain ⟨dblk, doff, rfl, ldb, dr⟩ := j3 o _ (getD_some (by omega) call0)
          have labk : ablk < w.heap.size := World.block_lt_of_cell? _ _ ac0
          have lsbk : sblk < w.heap.size := World.block_lt_of_cell? _ _ sc0
          have sc1 : wo.cell? ⟨sblk, soff + t, none⟩ = some (.slice (some ⟨dblk, doff, none⟩) (sc.getD t []).length jcap) := by rw [HBEL.out.cell (p := ⟨sblk, soff + t, none⟩) lsbk]; exact sc0
          have dr1 := range_later HBEL.out dr ldb
          have HAC : Hid (w.cell? ⟨ablk, aoff + t, none⟩ = some (.slice (some ⟨cblk, coff, none⟩) (an.getD t []).length icap)) := ac0
          have HCR : Hid (w.rangeAt cblk (coff + o * 2) (ansL ((an.getD t []).getD o (0, 0)))) := cr
          unfold maxLen at i2 j2
          generalize hdl : (sc.getD t []).getD o call0 = dl at dr1
          have HDL : Hid ((sc.getD t []).getD o call0 = dl) := hdl
          have d0 : wo.cell? ⟨dblk, doff + o * 4, none⟩ = some (I dl.op) := by simpa using dr1 0 _ rfl
          have d1 : wo.cell? ⟨dblk, doff + o * 4 + 1, none⟩ = some (I dl.a) := by simpa using dr1 1 _ rfl
          have d2 : wo.cell? ⟨dblk, doff + o * 4 + 2, none⟩ = some (I dl.b) := by simpa using dr1 2 _ rfl
          have d3 : wo.cell? ⟨dblk, doff + o * 4 + 3, none⟩ = some (I dl.c) := by simpa using dr1 3 _ rfl
          generalize hnl : (sc.getD t []).length = nl at sc1 j1 hlen
          generalize hnl2 : (an.getD t []).length = nl2 at hol i1 hlen
          have HNL2 : Hid ((an.getD t []).length = nl2) := hnl2
          have honl : (o : Int) < (nl : Int) := by omega
          have honl2 : (o : Int) < (nl2 : Int) := by omega
          have lso : sblk < wo.heap.size := by omega
          have ldo : dblk < wo.heap.size := by omega
          clear hdl hnl hnl2 i3 j3 ac0 sc0 cr dr dr1 hlen
          go_wp2_with ((with_reducible refine wp_load45 (.tmp 30) ?_ ?_ blk (off + k * 5) ?_ ⟨t, scel, 9, o, snew⟩ ?_ ?_); rfl; rfl; rfl; exact HST.out)
          go_region_held3 (fun u => u.cell? ⟨wo.heap.size, 0, none⟩ = some (I t) ∧ u.cell? ⟨wo.heap.size, 3, none⟩ = some (I o) ∧ u.cell? ⟨sblk, soff + t, none⟩ = some (.slice (some ⟨dblk, doff, none⟩) nl jcap) ∧
              u.cell? ⟨dblk, doff + o * 4, none⟩ = some (I dl.op) ∧ u.cell? ⟨dblk, doff + o * 4 + 1, none⟩ = some (I dl.a) ∧ u.cell? ⟨dblk, doff + o * 4 + 2, none⟩ = some (I dl.b) ∧ u.cell? ⟨dblk, doff + o * 4 + 3, none⟩ = some (I dl.c))
            (first | (exact keep7 ‹_› (below_alloc (Below.refl _ _) _)) | (simp [go_sem, *]; done))
            (fail)
          rename_i hH
          clear hH
          go_wp2_with fail
          have HSK' : Hid (tr.getD k step0 = ⟨t, scel, 9, o, snew⟩) := HSK.out
          clear sc1 d0 d1 d2 d3 lso ldo
          go_loopw [14] (fun i u => ∃ j : Nat, k + 1 ≤ j ∧ j ≤ tr.length ∧ i = .int .i64 j ∧ Box u (wo.heap.size + 1 + 1) (scan sc an tr k (j - k - 1)) ∧ u.cell? ⟨wo.heap.size, 0, none⟩ = some (I t) ∧ u.cell? ⟨wo.heap.size, 3, none⟩ = some (I o) ∧ Below wo.heap.size wo u) (fun i _ => tr.length - (intOf i).toNat)
          case atStart =>
            refine ⟨k + 1, Nat.le_refl _, by omega, by go_num, ?_, ?_, ?_, (below_alloc (below_alloc (below_alloc (Below.refl _ _) _) _) _).drew⟩
            · have e1 : k + 1 - k - 1 = 0 := by omega
              rw [e1, scan, HSK'.out]
              simp only [Int.toNat_natCast, HDL.out]
              show ((((wo.alloc _).alloc _).alloc _).drew).heap[wo.heap.size + 1 + 1]? = _
              have := heap_alloc_new ((wo.alloc (.cells #[I t, I scel, I 9, I o, I snew] 34)).alloc (.cells #[I dl.op, I dl.a, I dl.b, I dl.c] 39)) (.cells (evC (begunEv t k dl)) 129)
              rw [World.size_alloc, World.size_alloc] at this
              exact this
            · simp [go_sem]
            · simp [go_sem]
          case round =>
            obtain ⟨j, hkj, hj, rfl, hbox, s0, s3, hbw⟩ := hrel
            have HBOX : Hid (Box wr (wo.heap.size + 1 + 1) (scan sc an tr k (j - k - 1))) := hbox
            have HBW : Hid (Below wo.heap.size wo wr) := hbw
            have heb : wo.heap.size + 1 + 1 < wr.heap.size := (Array.getElem?_eq_some_iff.1 hbox).1
            have lwr0 : wo.heap.size < wr.heap.size := by omega
            clear hbox hbw
            by_cases hjl : j < tr.length
            · obtain ⟨x, hxj⟩ : ∃ x, tr[j]? = some x := ⟨_, List.getElem?_eq_getElem hjl⟩
              have HXJ : Hid (tr.getD j step0 = x) := by rw [List.getD_eq_getElem?_getD, hxj]; rfl
              obtain ⟨b', o', e', _, hrx⟩ := O3.out j x hxj
              cases e'
              have HSX : Hid (wr.rangeAt blk (off + j * 5) (stepL x)) := range_later HBW.out (range_later HBEL.out hrx hblk) (by omega)
              have hsn := scan_next (sc := sc) (an := an) (show k < j by omega) x HXJ.out t o ⟨t, scel, 9, o, snew⟩ HSK'.out rfl rfl
              have HSN : Hid (scan sc an tr k (j + 1 - k - 1) = if endsB x ⟨t, scel, 9, o, snew⟩ = true then ended j ((an.getD t []).getD o (0, 0)) (scan sc an tr k (j - k - 1)) else scan sc an tr k (j - k - 1)) := hsn
              clear hxj hrx hsn
              by_cases hen : endsB x ⟨t, scel, 9, o, snew⟩ = true
              · have HEN : Hid (endsB x ⟨t, scel, 9, o, snew⟩ = true) := hen
                obtain ⟨e1, e2, e3, e4⟩ := ends_iff.1 hen
                simp only at e2 e3
                have e1' : (x.op == 10) = true := by simpa using e1
                have e2' : (x.thr == (t : Int)) = true := by simpa using e2
                have e3' : (x.old == (o : Int)) = true := by simpa using e3
                have e4' : (x.new != 4) = true := by simpa using e4
                have ac := range_later HBW.out (range_later HBEL.out HCR.out lcb) (show cblk < wo.heap.size by omega)
                have av1 : wr.cell? ⟨ablk, aoff + t, none⟩ = some (.slice (some ⟨cblk, coff, none⟩) nl2 icap) := by
                  rw [HBW.out.cell (p := ⟨ablk, aoff + t, none⟩) (by simp; omega), HBEL.out.cell (p := ⟨ablk, aoff + t, none⟩) labk, HAC.out, HNL2.out]
                generalize hcl : (an.getD t []).getD o (0, 0) = cl at ac
                have HCL : Hid ((an.getD t []).getD o (0, 0) = cl) := hcl
                have q0 : wr.cell? ⟨cblk, coff + o * 2, none⟩ = some (I cl.1) := by simpa using ac 0 _ rfl
                have q1' : wr.cell? ⟨cblk, coff + o * 2 + 1, none⟩ = some (I cl.2) := by simpa using ac 1 _ rfl
                obtain ⟨x0, x1, x2, x3, x4, x5, x6, x7⟩ := box8 HBOX.out.range
                have f5 := HBOX.out.frozen 5
                have f6 := HBOX.out.frozen 6
                have f7 := HBOX.out.frozen 7
                have n1 : ¬ cblk = wo.heap.size + 1 + 1 := by omega
                have n2 : ¬ wo.heap.size + 1 + 1 = cblk := by omega
                have n3 : ¬ ablk = wo.heap.size + 1 + 1 := by omega
                have n4 : ¬ wo.heap.size + 1 + 1 = ablk := by omega
                have lar : ablk < wr.heap.size := by omega
                have lcr : cblk < wr.heap.size := by omega
                have n5 : ¬ wo.heap.size = wo.heap.size + 1 + 1 := by omega
                clear hen e1 e2 e3 e4 ac hcl
                go_wp2_with ((with_reducible refine wp_load45 (.tmp 65) ?_ ?_ blk (off + j * 5) ?_ x ?_ ?_); rfl; rfl; rfl; exact HSX.out)
                go_region_held3 (fun u => u.cell? ⟨wo.heap.size, 0, none⟩ = some (I t) ∧ u.cell? ⟨wo.heap.size, 3, none⟩ = some (I o) ∧ u.cell? ⟨ablk, aoff + t, none⟩ = some (.slice (some ⟨cblk, coff, none⟩) nl2 icap) ∧ u.cell? ⟨cblk, coff + o * 2, none⟩ = some (I cl.1) ∧ u.cell? ⟨cblk, coff + o * 2 + 1, none⟩ = some (I cl.2))
                  ((simp [go_sem, *]; done))
                  (fail)
                rename_i hH
                clear hH
                go_wp2_with fail
                go_roundw
                case rel =>
                  have b3 := ((HBW.out.setCell (p := ⟨wo.heap.size + 1 + 1, 5, none⟩) (by simp; omega) (I j)).setCell (p := ⟨wo.heap.size + 1 + 1, 6, none⟩) (by simp; omega) (I cl.1)).setCell (p := ⟨wo.heap.size + 1 + 1, 7, none⟩) (by simp; omega) (I cl.2)
                  have hbx := HBOX.out.set j cl
                  have hb := (below_alloc (Below.refl _ (((wr.setCell ⟨wo.heap.size + 1 + 1, 5, none⟩ (I j)).setCell ⟨wo.heap.size + 1 + 1, 6, none⟩ (I cl.1)).setCell ⟨wo.heap.size + 1 + 1, 7, none⟩ (I cl.2))) (.cells #[I x.thr, I x.cel, I x.op, I x.old, I x.new] 34)).drew
                  have c0' : (((wr.setCell ⟨wo.heap.size + 1 + 1, 5, none⟩ (I j)).setCell ⟨wo.heap.size + 1 + 1, 6, none⟩ (I cl.1)).setCell ⟨wo.heap.size + 1 + 1, 7, none⟩ (I cl.2)).cell? ⟨wo.heap.size, 0, none⟩ = some (I t) := by
                    rw [World.cell?_setCell_other (h := by simp), World.cell?_setCell_other (h := by simp), World.cell?_setCell_other (h := by simp)]; exact s0
                  have c3' : (((wr.setCell ⟨wo.heap.size + 1 + 1, 5, none⟩ (I j)).setCell ⟨wo.heap.size + 1 + 1, 6, none⟩ (I cl.1)).setCell ⟨wo.heap.size + 1 + 1, 7, none⟩ (I cl.2)).cell? ⟨wo.heap.size, 3, none⟩ = some (I o) := by
                    rw [World.cell?_setCell_other (h := by simp), World.cell?_setCell_other (h := by simp), World.cell?_setCell_other (h := by simp)]; exact s3
                  refine ⟨j + 1, by omega, by omega, by go_num, ?_, kcell hb c0', kcell hb c3', b3.trans (hb.mono b3.size)⟩
                  rw [HSN.out, if_pos HEN.out, HCL.out]
                  exact hbx.later hb (Array.getElem?_eq_some_iff.1 hbx).1
                case measure => simp [intOf]; omega
              · have HEN : Hid (¬ endsB x ⟨t, scel, 9, o, snew⟩ = true) := hen
                have hcs : (x.op == 10) = false ∨ ((x.op == 10) = true ∧ (x.thr == (t : Int)) = false) ∨ ((x.op == 10) = true ∧ (x.thr == (t : Int)) = true ∧ (x.old == (o : Int)) = false) ∨ ((x.op == 10) = true ∧ (x.thr == (t : Int)) = true ∧ (x.old == (o : Int)) = true ∧ (x.new != 4) = false) := by
                  unfold endsB at hen
                  simp only [Bool.and_eq_true, not_and] at hen
                  cases h1 : (x.op == 10) with
                  | false => exact .inl rfl
                  | true =>
                    cases h2 : (x.thr == (t : Int)) with
                    | false => exact .inr (.inl ⟨rfl, rfl⟩)
                    | true =>
                      cases h3 : (x.old == (o : Int)) with
                      | false => exact .inr (.inr (.inl ⟨rfl, rfl, rfl⟩))
                      | true => exact .inr (.inr (.inr ⟨rfl, rfl, rfl, by simpa using hen ⟨⟨h1, h2⟩, h3⟩⟩))
                clear hen
                rcases hcs with g1 | ⟨g1, g2⟩ | ⟨g1, g2, g3⟩ | ⟨g1, g2, g3, g4⟩
                all_goals
                  go_wp2_with ((with_reducible refine wp_load45 (.tmp 65) ?_ ?_ blk (off + j * 5) ?_ x ?_ ?_); rfl; rfl; rfl; exact HSX.out)
                  go_roundw
                  case rel =>
                    have hb := below_alloc (Below.refl _ wr) (.cells #[I x.thr, I x.cel, I x.op, I x.old, I x.new] 34)
                    refine ⟨j + 1, by omega, by omega, by go_num, ?_, kcell hb s0, kcell hb s3, HBW.out.trans (hb.mono (by omega))⟩
                    rw [HSN.out, if_neg HEN.out]
                    exact HBOX.out.later hb heb
                  case measure => simp [intOf]; omega
            · have : j = tr.length := by omega
              subst this
              obtain ⟨j0, hj', hj0, hj1, hj2⟩ := info_parts info33
              have HOW2 : Hid (wr.ownsRow w.heap.size 129 8 (.slice pl (refEvs sc an tr k).length cpl) (refEvs sc an tr k).length ((refEvs sc an tr k).flatMap evL)) := own_later HBW.out HOWN.out
              have hgb := own_block HOWN.out
              generalize hev : scan sc an tr k (tr.length - k - 1) = ev at HBOX
              have HEV : Hid (scan sc an tr k (tr.length - k - 1) = ev) := hev
              have HRE : Hid (refEvs sc an tr (k + 1) = refEvs sc an tr k ++ [ev]) := by
                have h := refEvs_succ sc an tr k
                rw [HSK'.out, if_pos rfl, hev] at h
                exact h
              generalize hre : (refEvs sc an tr k).length = nr at hnk HOW2 hgb ⊢
              have HNR : Hid ((refEvs sc an tr k).length = nr) := hre
              clear hev hre s0 s3
              go_wp2_with (first
                | ((with_reducible refine wp_load33 (.tmp 13) ?_ ?_ (wo.heap.size + 1 + 1) 0 ?_ ev ?_ ?_); rfl; rfl; rfl; exact HBOX.out.range)
                | (at_builtin; refine wpList_append_lies _ rfl (.tmp 101) (.tmp 103) 104 rfl w.heap.size 129 j0 _ 8 64 Try.underlying104 hj' hj0 hj1 hj2 rfl (by decide) (.slice pl nr cpl) nr ((refEvs sc an tr k).flatMap evL) rfl
                        (own_later (below_alloc (Below.refl _ _) _) HOW2.out) ⟨wr.heap.size, 0, none⟩ 1 1 (evL ev) rfl rfl (news8 _ _ _) (one8 _) (by decide) (by unfold maxLen; omega) (by omega) (by simp; omega) _ rfl ?_; intro g cpg w6 hown6 hgrow6 hat6 hlt6))
              have HO6 : Hid (w6.ownsRow w.heap.size 129 8 (.slice (some ⟨g, 0, none⟩) (nr + 1) cpg) (nr + 1) ((refEvs sc an tr k).flatMap evL ++ evL ev)) := hown6
              have HB6 : Hid (Below w.heap.size w w6) := by
                have bw := HBEL.out.trans (HBW.out.mono HBEL.out.size)
                exact (below_alloc bw _).grown hgrow6 (by simp; omega) (fun g hg => by have := hgb g hg; omega)
              clear hown6 hgrow6 hat6 hlt6 hgb
              go_wp2_with fail
              go_roundw
              case rel =>
                refine ⟨k + 1, some ⟨g, 0, none⟩, cpg, by omega, by go_num, ?_, ?_, HB6.out⟩
                · rw [HRE.out, List.length_append, HNR.out]; rfl
                · rw [HRE.out, List.length_append, HNR.out, List.flatMap_append]
                  simpa using HO6.out
              case measure => simp [intOf]; omega
        · have HNP : Hid (¬ s.op = 9) := hop
          have hop' : (s.op != 9) = true := by simpa using hop
          clear hop
          go_wp2_with ((with_reducible refine wp_load45 (.tmp 30) ?_ ?_ blk (off + k * 5) ?_ s ?_ ?_); rfl; rfl; rfl; exact HST.out)
          go_roundw
          case rel =>
            have e1 : refEvs sc an tr (k + 1) = refEvs sc an tr k := by rw [refEvs_succ, HSK.out, if_neg HNP.out, List.append_nil]
            refine ⟨k + 1, pl, cpl, by omega, by go_num, by rw [e1], ?_, below_alloc HBEL.out _⟩
            rw [e1]
            exact own_later (below_alloc (Below.refl _ _) _) HOWN.out
          case measure => simp [intOf]; omega
      · have : k = tr.length := by omega
        subst this
        go_wp2_with fail
        go_ret2
        refine ⟨⟨some sf, fun _ => HSF.out, fun h => absurd HAL.out h, .inr ⟨sf, _, rfl, rfl, ?_⟩⟩, HBEL.out⟩
        rw [evs_ref HSF.out]
        exact HOWN.out
end Go.Proofs.Ytehingmdmijedaa.R3

namespace Go.Proofs.Ytehingmdmijedaa.R3
open Go.RowKit Go.Proofs.Ytehingmdmijedaa.His Go.Deep Go.Maps
abbrev SI (w : World) (v : Value) (s : List Int) : Prop := SL 1 encI w v s
theorem info3 : (Try.prog.info? 3).map (fun i => (i.zero, i.size, i.bytes)) = some (some (I 0), 1, 8) := by kernel_rfl
theorem news1 (w : World) (v : Int) (t : TypeId) {n : Nat} (hn : n = w.heap.size) : ∀ j u, [I v][j]? = some u → (w.alloc (.cells #[I v] t)).cell? ((⟨n, 0, none⟩ : Addr).add j) = some u := by
  subst hn
  intro j u hj
  rw [Addr.add_mid]
  exact range_new w #[I v] t 0 [I v] rfl rfl j u hj
end Go.Proofs.Ytehingmdmijedaa.R3

namespace Go.Proofs.Ytehingmdmijedaa.R3
open Go.RowKit Go.Proofs.Ytehingmdmijedaa.His Go.Deep Go.Maps
def WOuts (w : World) (v : Value) (os : List ((Int × Int) × List Int)) : Prop :=
  ∃ p, v = .slice p os.length os.length ∧ ∀ i o, os[i]? = some o → ∃ blk sv, p = some ⟨blk, 0, none⟩ ∧ w.rangeAt blk (i * 3) [I o.1.1, I o.1.2, sv] ∧ SI w sv o.2
theorem wouts_nil (w : World) : WOuts w (.slice none 0 0) [] := ⟨none, rfl, fun i o h => by simp at h⟩
theorem wouts_one {w : World} {blk : Nat} {o : (Int × Int) × List Int} {sv : Value} (h : w.rangeAt blk 0 [I o.1.1, I o.1.2, sv]) (hs : SI w sv o.2) : WOuts w (.slice (some ⟨blk, 0, none⟩) 1 1) [o] := ⟨_, rfl, fun i o' hi => by
  cases i with
  | zero => simp at hi; subst hi; exact ⟨blk, sv, rfl, by simpa using h, hs⟩
  | succ i => simp at hi⟩
theorem keep4 {u u' : World} {a1 a2 a3 a4 : Addr} {v1 v2 v3 v4 : Value} (h : u.cell? a1 = some v1 ∧ u.cell? a2 = some v2 ∧ u.cell? a3 = some v3 ∧ u.cell? a4 = some v4) (hb : Below u.heap.size u u') : u'.cell? a1 = some v1 ∧ u'.cell? a2 = some v2 ∧ u'.cell? a3 = some v3 ∧ u'.cell? a4 = some v4 :=
  ⟨kcell hb h.1, kcell hb h.2.1, kcell hb h.2.2.1, kcell hb h.2.2.2⟩
end Go.Proofs.Ytehingmdmijedaa.R3

namespace Go.Proofs.Ytehingmdmijedaa.R3
open Go.RowKit Go.Proofs.Ytehingmdmijedaa.His Go.Deep Go.Maps
end Go.Proofs.Ytehingmdmijedaa.R3

namespace Go.Proofs.Ytehingmdmijedaa.R3
open Go.RowKit Go.Proofs.Ytehingmdmijedaa.His Go.Deep Go.Maps
theorem si_one {w : World} {blk : Nat} {z : Int} (h : w.cell? ⟨blk, 0, none⟩ = some (I z)) : SI w (.slice (some ⟨blk, 0, none⟩) 1 1) [z] :=
  ⟨_, _, rfl, Nat.le_refl _, by unfold maxLen; omega, fun i a hi => by
    cases i with
    | zero =>
      simp at hi; subst hi
      refine ⟨blk, 0, rfl, World.block_lt_of_cell? _ _ h, fun j u hj => ?_⟩
      cases j with
      | zero => simp [encI] at hj; subst hj; simpa using h
      | succ j => simp [encI] at hj
    | succ i => simp at hi⟩
theorem make_nums (n : Nat) (hn : n ≤ 1048576) (w : World) :
    (Instr.makeSlice 22 (.int .i64 (n : Int)) (.int .i64 (n : Int))).run Try.prog w = .ok (.slice (some ⟨w.heap.size, 0, none⟩) n n) (w.alloc (.cells (madeCells #[I 0] n) 3)) := by
  cases hq : Try.prog.info? 3 with
  | none => have := info3; rw [hq] at this; cases this
  | some i =>
    have hi := info3
    rw [hq] at hi
    simp only [Option.map_some, Option.some.injEq, Prod.mk.injEq] at hi
    obtain ⟨hz, hs, hb⟩ := hi
    have := run_make (P := Try.prog) w 22 3 i _ Try.underlying22 hq hz .i64 .i64 (n : Int) (n : Int) (by omega) (by omega) (by rw [hb]; omega) (by omega)
    rw [hs] at this
    rw [this]
    simp [Value.cells]
theorem si_zeros (w : World) (n : Nat) (hn : n ≤ 1048576) : SI (w.alloc (.cells (madeCells #[I 0] n) 3)) (.slice (some ⟨w.heap.size, 0, none⟩) n n) (List.replicate n 0) := by
  refine ⟨some ⟨w.heap.size, 0, none⟩, n, by simp, by simp, by unfold maxLen; omega, fun i a hi => ?_⟩
  have hil : i < n := by simpa using (List.getElem?_eq_some_iff.1 hi).1
  have ha : a = 0 := by simpa [hil] using hi.symm
  subst ha
  refine ⟨w.heap.size, 0, rfl, by simp, fun j u hj => ?_⟩
  cases j with
  | zero =>
    simp [encI] at hj; subst hj
    rw [World.cell?_alloc_at _ _ _ _ rfl]
    simp [madeCells, hil, Nat.mod_one]
  | succ j => simp [encI] at hj
set_option maxHeartbeats 1000000 in
theorem first_any (ob st : Int) (h : Starts ob st) (w : World) :
    Calls Try.prog 89 #[I ob, I st] w fun e w' => ∃ v, e = .returned v ∧ SI w' v (firstOf ob st) ∧ Below w.heap.size w w' := by
  by_cases h2 : ob = 2
  · subst h2
    go_enter Try.func89, Try.ntmps89
    go_wp2
    go_ret
    exact ⟨_, rfl, ⟨none, 0, rfl, Nat.le_refl _, Nat.zero_le _, fun i a hi => by simp [firstOf] at hi⟩, Below.refl _ _⟩
  · have b2 : (ob == 2) = false := by simpa using h2
    by_cases h5 : ob = 5
    · have hst : 1 ≤ st ∧ st ≤ 1000 := by
        rcases h with h | h | h | h | h <;> omega
      have hf : firstOf ob st = List.replicate (3 * st.toNat) 0 := by unfold firstOf; rw [if_neg h2, if_pos h5]
      rw [hf]
      subst h5
      obtain ⟨m, hm⟩ : ∃ m : Nat, (m : Int) = st := ⟨st.toNat, by omega⟩
      have hmk := make_nums (3 * m) (by omega)
      have h3 : (3 : Int) * st = ((3 * m : Nat) : Int) := by omega
      have h4 : 3 * st.toNat = 3 * m := by omega
      rw [h4]
      have hn : 3 * m ≤ 3000 := by omega
      generalize 3 * m = n at hmk h3 hn ⊢
      clear h hf h2 h4 hm
      go_enter Try.func89, Try.ntmps89
      go_wp2_with fail
      go_ret
      exact ⟨_, rfl, si_zeros w n (by omega), below_alloc (Below.refl _ _) _⟩
    · have b5 : (ob == 5) = false := by simpa using h5
      have hf : firstOf ob st = [st] := by unfold firstOf; rw [if_neg h2, if_neg h5]
      rw [hf]
      clear h hf h2 h5
      go_enter Try.func89, Try.ntmps89
      go_wp2
      go_ret
      exact ⟨_, rfl, si_one (World.cell?_alloc_at _ _ _ _ rfl), below_alloc (Below.refl _ _) _⟩
end Go.Proofs.Ytehingmdmijedaa.R3

namespace Go.Proofs.Ytehingmdmijedaa.R3
open Go.RowKit Go.Proofs.Ytehingmdmijedaa.His Go.Deep Go.Maps
set_option maxHeartbeats 4000000 in
set_option maxRecDepth 100000 in
theorem ways4_down (n z : Int) (sv : Value) (x : Ev) (h1 : x.op = 1) (hp : 0 < z) (w : World) (h : SI w sv [z]) :
    Calls Try.prog 108 #[I 4, I n, sv, evV x] w fun e w' => ∃ v, e = .returned v ∧ WOuts w' v (refWays 4 n [z] x) ∧ Below w.heap.size w w' := by
  have e1 : refWays 4 n [z] x = [((0, 0), [wrap64 (z - 1)])] := by simp [refWays, h1, hp]
  rw [e1]
  have HS : Hid (SI w sv [z]) := h
  obtain ⟨p, cap, rfl, hc, hm, h3⟩ := h
  obtain ⟨blk, off, rfl, hlb, hr⟩ := h3 0 z rfl
  have hz : w.cell? ⟨blk, off, none⟩ = some (I z) := by simpa using hr 0 (I z) rfl
  unfold maxLen at hm
  have hz1 : (w.alloc (.cells (evC x) 129)).cell? ⟨blk, off, none⟩ = some (I z) := one_old hz _
  have hxa : (w.alloc (.cells (evC x) 129)).cell? ⟨w.heap.size, 2, none⟩ = some (I x.a) := World.cell?_alloc_at _ _ _ _ rfl
  clear h3 hr e1
  have h1' : (x.op == 1) = true := by simpa using h1
  have hp' : decide (z > 0) = true := by simpa using hp
  clear h1 hp
  go_enter Try.func108, Try.ntmps108
  go_wp2_with fail
  go_ret
  exact ⟨_, rfl, wouts_one (o := ((0, 0), [wrap64 (z - 1)])) (range_new _ _ _ _ _ rfl (by simp)) (si_one (by simp [go_sem])), below_alloc (below_alloc (below_alloc (Below.refl _ _) _) _) _⟩
set_option maxHeartbeats 4000000 in
set_option maxRecDepth 100000 in
theorem ways4_low (n z : Int) (sv : Value) (x : Ev) (h1 : x.op = 1) (hp : ¬ 0 < z) (w : World) (h : SI w sv [z]) :
    Calls Try.prog 108 #[I 4, I n, sv, evV x] w fun e w' => ∃ v, e = .returned v ∧ WOuts w' v (refWays 4 n [z] x) ∧ Below w.heap.size w w' := by
  have e1 : refWays 4 n [z] x = [((50, 0), [z])] := by simp [refWays, h1, hp]
  rw [e1]
  have HS : Hid (SI w sv [z]) := h
  obtain ⟨p, cap, rfl, hc, hm, h3⟩ := h
  obtain ⟨blk, off, rfl, hlb, hr⟩ := h3 0 z rfl
  have hz : w.cell? ⟨blk, off, none⟩ = some (I z) := by simpa using hr 0 (I z) rfl
  unfold maxLen at hm
  have hz1 : (w.alloc (.cells (evC x) 129)).cell? ⟨blk, off, none⟩ = some (I z) := one_old hz _
  have hxa : (w.alloc (.cells (evC x) 129)).cell? ⟨w.heap.size, 2, none⟩ = some (I x.a) := World.cell?_alloc_at _ _ _ _ rfl
  clear h3 hr e1
  have h1' : (x.op == 1) = true := by simpa using h1
  have hp' : decide (z > 0) = false := by simpa using hp
  clear h1 hp
  go_enter Try.func108, Try.ntmps108
  go_wp2_with fail
  go_ret
  exact ⟨_, rfl, wouts_one (o := ((50, 0), [z])) (sv := .slice (some ⟨blk, off, none⟩) 1 cap) (range_new _ _ _ _ _ rfl (by simp)) (HS.out.later (below_alloc (below_alloc (Below.refl _ _) _) _)), below_alloc (below_alloc (Below.refl _ _) _) _⟩
set_option maxHeartbeats 4000000 in
set_option maxRecDepth 100000 in
theorem ways4_wait (n z : Int) (sv : Value) (x : Ev) (h1 : x.op = 2) (hp : z = 0) (w : World) (h : SI w sv [z]) :
    Calls Try.prog 108 #[I 4, I n, sv, evV x] w fun e w' => ∃ v, e = .returned v ∧ WOuts w' v (refWays 4 n [z] x) ∧ Below w.heap.size w w' := by
  have e1 : refWays 4 n [z] x = [((0, 0), [z])] := by simp [refWays, h1, hp]
  rw [e1]
  have HS : Hid (SI w sv [z]) := h
  obtain ⟨p, cap, rfl, hc, hm, h3⟩ := h
  obtain ⟨blk, off, rfl, hlb, hr⟩ := h3 0 z rfl
  have hz : w.cell? ⟨blk, off, none⟩ = some (I z) := by simpa using hr 0 (I z) rfl
  unfold maxLen at hm
  have hz1 : (w.alloc (.cells (evC x) 129)).cell? ⟨blk, off, none⟩ = some (I z) := one_old hz _
  have hxa : (w.alloc (.cells (evC x) 129)).cell? ⟨w.heap.size, 2, none⟩ = some (I x.a) := World.cell?_alloc_at _ _ _ _ rfl
  clear h3 hr e1
  have h1' : (x.op == 1) = false := by rw [h1]; rfl
  have h2' : (x.op == 2) = true := by rw [h1]; rfl
  have hp' : (z == 0) = true := by simpa using hp
  clear h1 hp
  go_enter Try.func108, Try.ntmps108
  go_wp2_with fail
  go_ret
  exact ⟨_, rfl, wouts_one (o := ((0, 0), [z])) (sv := .slice (some ⟨blk, off, none⟩) 1 cap) (range_new _ _ _ _ _ rfl (by simp)) (HS.out.later (below_alloc (below_alloc (Below.refl _ _) _) _)), below_alloc (below_alloc (Below.refl _ _) _) _⟩
set_option maxHeartbeats 4000000 in
set_option maxRecDepth 100000 in
theorem ways4_not (n z : Int) (sv : Value) (x : Ev) (h1 : x.op = 2) (hp : ¬ z = 0) (w : World) (h : SI w sv [z]) :
    Calls Try.prog 108 #[I 4, I n, sv, evV x] w fun e w' => ∃ v, e = .returned v ∧ WOuts w' v (refWays 4 n [z] x) ∧ Below w.heap.size w w' := by
  have e1 : refWays 4 n [z] x = [] := by simp [refWays, h1, hp]
  rw [e1]
  have HS : Hid (SI w sv [z]) := h
  obtain ⟨p, cap, rfl, hc, hm, h3⟩ := h
  obtain ⟨blk, off, rfl, hlb, hr⟩ := h3 0 z rfl
  have hz : w.cell? ⟨blk, off, none⟩ = some (I z) := by simpa using hr 0 (I z) rfl
  unfold maxLen at hm
  have hz1 : (w.alloc (.cells (evC x) 129)).cell? ⟨blk, off, none⟩ = some (I z) := one_old hz _
  have hxa : (w.alloc (.cells (evC x) 129)).cell? ⟨w.heap.size, 2, none⟩ = some (I x.a) := World.cell?_alloc_at _ _ _ _ rfl
  clear h3 hr e1
  have h1' : (x.op == 1) = false := by rw [h1]; rfl
  have h2' : (x.op == 2) = true := by rw [h1]; rfl
  have hp' : (z == 0) = false := by simpa using hp
  clear h1 hp
  go_enter Try.func108, Try.ntmps108
  go_wp2_with fail
  go_ret
  exact ⟨_, rfl, wouts_nil _, below_alloc (Below.refl _ _) _⟩
set_option maxHeartbeats 4000000 in
set_option maxRecDepth 100000 in
theorem ways4_none (n z : Int) (sv : Value) (x : Ev) (h1 : ¬ x.op = 1) (h2 : ¬ x.op = 2) (w : World) (h : SI w sv [z]) :
    Calls Try.prog 108 #[I 4, I n, sv, evV x] w fun e w' => ∃ v, e = .returned v ∧ WOuts w' v (refWays 4 n [z] x) ∧ Below w.heap.size w w' := by
  have e1 : refWays 4 n [z] x = [] := by simp [refWays, h1, h2]
  rw [e1]
  have HS : Hid (SI w sv [z]) := h
  obtain ⟨p, cap, rfl, hc, hm, h3⟩ := h
  obtain ⟨blk, off, rfl, hlb, hr⟩ := h3 0 z rfl
  have hz : w.cell? ⟨blk, off, none⟩ = some (I z) := by simpa using hr 0 (I z) rfl
  unfold maxLen at hm
  have hz1 : (w.alloc (.cells (evC x) 129)).cell? ⟨blk, off, none⟩ = some (I z) := one_old hz _
  have hxa : (w.alloc (.cells (evC x) 129)).cell? ⟨w.heap.size, 2, none⟩ = some (I x.a) := World.cell?_alloc_at _ _ _ _ rfl
  clear h3 hr e1
  have h1' : (x.op == 1) = false := by simpa using h1
  have h2' : (x.op == 2) = false := by simpa using h2
  clear h1 h2
  go_enter Try.func108, Try.ntmps108
  go_wp2_with fail
  go_ret
  exact ⟨_, rfl, wouts_nil _, below_alloc (Below.refl _ _) _⟩
end Go.Proofs.Ytehingmdmijedaa.R3

namespace Go.Proofs.Ytehingmdmijedaa.R3
open Go.RowKit Go.Proofs.Ytehingmdmijedaa.His Go.Deep Go.Maps
def StOk (ob st : Int) (k : Nat) (s : List Int) : Prop :=
  (ob = 1 ∨ ob = 3 ∨ ob = 4 → ∃ z, s = [z]) ∧ (ob = 2 → s.length ≤ k) ∧ (ob = 5 → s.length = 3 * st.toNat)
def WaysC (ob st : Int) : Prop := ∀ (k : Nat), k ≤ 1000 → ∀ (s : List Int), StOk ob st k s → ∀ (x : Ev) (sv : Value) (w : World), SI w sv s →
    Calls Try.prog 108 #[I ob, I st, sv, evV x] w fun e w' => ∃ v, e = .returned v ∧ WOuts w' v (refWays ob st s x) ∧ Below w.heap.size w w'
theorem waysC_latch (st : Int) : WaysC 4 st := fun k hk s hs x sv w h => by
  obtain ⟨z, rfl⟩ := hs.1 (.inr (.inr rfl))
  by_cases o1 : x.op = 1
  · by_cases hp : 0 < z
    · exact ways4_down st z sv x o1 hp w h
    · exact ways4_low st z sv x o1 hp w h
  · by_cases o2 : x.op = 2
    · by_cases hz : z = 0
      · exact ways4_wait st z sv x o2 hz w h
      · exact ways4_not st z sv x o2 hz w h
    · exact ways4_none st z sv x o1 o2 w h
theorem stOk_first (ob st : Int) : StOk ob st 0 (firstOf ob st) := by
  refine ⟨fun ho => ⟨st, ?_⟩, fun ho => ?_, fun ho => ?_⟩
  · unfold firstOf; rw [if_neg (by omega), if_neg (by omega)]
  · unfold firstOf; rw [if_pos ho]; exact Nat.le_refl _
  · unfold firstOf; rw [if_neg (by omega), if_pos ho]; simp
theorem stOk_next {ob st : Int} {k : Nat} {s : List Int} {x : Ev} (h : StOk ob st k s) {o : (Int × Int) × List Int} (ho : o ∈ refWays ob st s x) : StOk ob st (k + 1) o.2 := by
  unfold refWays at ho
  split at ho
  · rename_i h1
    obtain ⟨z, rfl⟩ := h.1 (.inl h1)
    have key : ∃ z', o.2 = [z'] := by
      split at ho
      · simp at ho; subst ho; exact ⟨_, rfl⟩
      · split at ho
        · simp at ho
          rcases ho with rfl | rfl
          · exact ⟨_, rfl⟩
          · exact ⟨_, rfl⟩
        · simp at ho
    exact ⟨fun _ => key, fun h => by omega, fun h => by omega⟩
  · split at ho
    · rename_i h2
      have hl := h.2.1 h2
      refine ⟨fun h => by omega, fun _ => ?_, fun h => by omega⟩
      unfold wayStack at ho
      split at ho
      · simp at ho
        rcases ho with rfl | rfl
        · simp; omega
        · simp only []; omega
      · split at ho
        · split at ho
          · simp at ho; subst ho; simp only []; omega
          · simp at ho; subst ho; simp only [List.length_dropLast]; omega
        · simp at ho
    · split at ho
      · rename_i h3
        obtain ⟨z, rfl⟩ := h.1 (.inr (.inl h3))
        have key : ∃ z', o.2 = [z'] := by
          split at ho
          · simp at ho; subst ho; exact ⟨_, rfl⟩
          · split at ho
            · simp at ho; subst ho; exact ⟨_, rfl⟩
            · simp at ho
        exact ⟨fun _ => key, fun h => by omega, fun h => by omega⟩
      · split at ho
        · rename_i h4
          obtain ⟨z, rfl⟩ := h.1 (.inr (.inr h4))
          have key : ∃ z', o.2 = [z'] := by
            split at ho
            · split at ho
              · simp at ho; subst ho; exact ⟨_, rfl⟩
              · simp at ho; subst ho; exact ⟨_, rfl⟩
            · split at ho
              · split at ho
                · simp at ho; subst ho; exact ⟨_, rfl⟩
                · simp at ho
              · simp at ho
          exact ⟨fun _ => key, fun h => by omega, fun h => by omega⟩
        · refine ⟨fun h => by omega, fun h => by omega, fun h5 => ?_⟩
          have hl := h.2.2 h5
          unfold wayThree at ho
          split at ho
          · simp at ho
          · split at ho
            · simp at ho; subst ho; exact hl
            · simp at ho; subst ho; simp [hl]
end Go.Proofs.Ytehingmdmijedaa.R3
