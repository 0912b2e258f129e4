/-
  The statement HistoryOf, walked.
-/
import Derived.Test.YteniopbmkooomaaOfBase
namespace Go.Proofs.Yteniopbmkooomaa
open Go.RowKit Hi Go.Deep Go.Maps

set_option maxHeartbeats 8000000 in
set_option maxRecDepth 100000 in
theorem ofLaw_any (sv av tv : Value) (sc : List (List Call)) (an : List (List (Int × Int))) (tr : List Step) (w : World) (hs : SS 4 callL w sv sc) (ha : SS 2 ansL w av an) (ht : SL 5 stepL w tv tr)
    (bn : sc.length ≤ 1048576) (bm : an.length ≤ 1048576) (bs : ∀ i, (sc.getD i []).length ≤ 1048576) (ba : ∀ i, (an.getD i []).length ≤ 1048576) (bt : tr.length ≤ 1048576) :
    Calls Try.prog 4 #[.agg #[sv, av, tv]] w fun e w' => e = .returned (.bool true) ∧ Below w.heap.size w w' := by
  have HSS : Hid (SS 4 callL w sv sc) := hs
  have HSA : Hid (SS 2 ansL w av an) := ha
  have HTT : Hid (SL 5 stepL w tv tr) := ht
  obtain ⟨p, cap, rfl, p1, p2, _⟩ := hs
  obtain ⟨q, caq, rfl, q1, q2, _⟩ := ha
  obtain ⟨o, cao, rfl, o1, o2, _⟩ := ht
  unfold maxLen at p2 q2 o2
  have BS : Hid (∀ i, (sc.getD i []).length ≤ 1048576) := bs
  have BA : Hid (∀ i, (an.getD i []).length ≤ 1048576) := ba
  clear bs ba
  go_enter Try.func4, Try.ntmps4
  go_wp2_with fail
  refine (awake_any _).mono ?_
  rintro e w1 ⟨rfl, hb1⟩
  have X1 : Hid (w1.heap[w.heap.size]? = some (.cells #[.slice p sc.length cap, .slice q an.length caq, .slice o tr.length cao] 39 (0, 0))) := (hb1.block w.heap.size (by simp)).trans (heap_alloc_new _ _)
  have B1 : Hid (Below w.heap.size w w1) := below_step (below_alloc (Below.refl _ _) _) hb1
  obtain ⟨x0, x1, x2, xf⟩ := cell3 X1.out
  clear hb1 xf
  go_wp2_with fail
  refine (rof_any _ _ _ sc an tr _ (HSS.out.later B1.out) (HSA.out.later B1.out) (HTT.out.later B1.out) bn BA.out bt).mono ?_
  rintro e w2 ⟨⟨r, hr1, hr2, hret⟩, hb2⟩
  obtain ⟨vw, rfl, hoW⟩ := retOf_open hret
  have HR1 : Hid (Alike sc an → Ofs sc an 0 tr st0 r) := hr1
  have HR2 : Hid (¬ Alike sc an → r = none) := hr2
  have OW : Hid (w2.ownsRow w1.heap.size 33 8 vw (evsOf r).length ((evsOf r).flatMap evL)) := hoW
  have S2 : Hid (Below w1.heap.size w1 w2) := hb2
  have B2 : Hid (Below w.heap.size w w2) := below_step B1.out hb2
  have X2 : Hid (w2.heap[w.heap.size]? = some (.cells #[.slice p sc.length cap, .slice q an.length caq, .slice o tr.length cao] 39 (0, 0))) := (hb2.block w.heap.size (Array.getElem?_eq_some_iff.1 X1.out).1).trans X1.out
  clear x0 x1 x2 hr1 hr2 hret hoW hb2
  obtain ⟨x0, x1, x2, xf⟩ := cell3 X2.out
  clear xf
  go_wp2_with fail
  refine (spare_any _ _ _ sc an tr _ (HSS.out.later B2.out) (HSA.out.later B2.out) (HTT.out.later B2.out) bn bm BS.out BA.out bt).mono ?_
  rintro e w3 ⟨ys, ya, tg, rfl, hls, hla, htg, hmt, hb3⟩
  have HLS : Hid (Lent callL markC 59 w2.heap.size w3 ys sc) := hls
  have HLA : Hid (Lent ansL markA 31 w2.heap.size w3 ya an) := hla
  have HMT : Hid (Marked stepL markS 45 w3 tg tr) := hmt
  have HTG : Hid (w2.heap.size ≤ tg) := htg
  have S3 : Hid (Below w2.heap.size w2 w3) := hb3
  obtain ⟨py, cy, hys, _⟩ := id hls
  subst hys
  obtain ⟨pa, ca, hya, _⟩ := id hla
  subst hya
  clear x0 x1 x2 hls hla htg hmt hb3
  go_wp2_with fail
  have wfl : ∀ l ∈ sc, l.length + 1 ≤ maxLen := fun l hl => by
    obtain ⟨i, hi, rfl⟩ := List.mem_iff_getElem.1 hl
    have := BS.out i
    rw [List.getD_eq_getElem?_getD, List.getElem?_eq_getElem hi] at this
    simp at this
    unfold maxLen; omega
  have wfa : ∀ l ∈ an, l.length + 1 ≤ maxLen := fun l hl => by
    obtain ⟨i, hi, rfl⟩ := List.mem_iff_getElem.1 hl
    have := BA.out i
    rw [List.getD_eq_getElem?_getD, List.getElem?_eq_getElem hi] at this
    simp at this
    unfold maxLen; omega
  have bY := below_alloc (Below.refl _ w3) (.cells #[.slice py sc.length cy, .slice pa an.length ca, .slice (some ⟨tg, 0, none⟩) tr.length (tr.length + 1)] 39)
  refine (of_any _ _ _ sc an tr _ ((HLS.out.later bY).ss len_call wfl) ((HLA.out.later bY).ss len_ans wfa) ((HMT.out.later bY).sl len_step (by unfold maxLen; omega)) bn BA.out bt).mono ?_
  rintro e w4 ⟨⟨ra, hra1, hra2, hreta⟩, hb4⟩
  have era : ra = r := ofs_one hra1 hra2 HR1.out HR2.out
  subst era
  obtain ⟨va, rfl, hoA⟩ := retOf_open hreta
  have OA : Hid (w4.ownsRow ((w3.alloc (.cells #[.slice py sc.length cy, .slice pa an.length ca, .slice (some ⟨tg, 0, none⟩) tr.length (tr.length + 1)] 39)).heap.size + 1) 33 8 va (evsOf ra).length ((evsOf ra).flatMap evL)) := hoA
  have S4 : Hid (Below w3.heap.size w3 w4) := below_step bY hb4
  have HS4 : Hid (w3.heap.size + 1 ≤ w4.heap.size) := by have := hb4.size; rw [World.size_alloc] at this; exact this
  have Y4 : Hid (w4.heap[w3.heap.size]? = some (.cells #[.slice py sc.length cy, .slice pa an.length ca, .slice (some ⟨tg, 0, none⟩) tr.length (tr.length + 1)] 39 (0, 0))) := (hb4.block w3.heap.size (by simp)).trans (heap_alloc_new _ _)
  have WFL : Hid (∀ l ∈ sc, l.length + 1 ≤ maxLen) := wfl
  have WFA : Hid (∀ l ∈ an, l.length + 1 ≤ maxLen) := wfa
  obtain ⟨y0, y1, y2, yf⟩ := cell3 Y4.out
  clear bY hra1 hra2 hreta hoA hb4 wfl wfa yf
  go_wp2_with fail
  refine (of_any _ _ _ sc an tr _ ((HLS.out.later S4.out).ss len_call WFL.out) ((HLA.out.later S4.out).ss len_ans WFA.out) ((HMT.out.later S4.out).sl len_step (by unfold maxLen; omega)) bn BA.out bt).mono ?_
  rintro e w5 ⟨⟨rb, hrb1, hrb2, hretb⟩, hb5⟩
  have erb : rb = ra := ofs_one hrb1 hrb2 HR1.out HR2.out
  subst erb
  obtain ⟨vb, rfl, hoB⟩ := retOf_open hretb
  have OB : Hid (w5.ownsRow (w4.heap.size + 1) 33 8 vb (evsOf rb).length ((evsOf rb).flatMap evL)) := hoB
  have S5 : Hid (Below w4.heap.size w4 w5) := hb5
  have OA5 : Hid (w5.ownsRow (w3.heap.size + 1 + 1) 33 8 va (evsOf rb).length ((evsOf rb).flatMap evL)) := by
    have this := own_later hb5 OA.out
    rw [World.size_alloc] at this
    exact this
  have OW5 : Hid (w5.ownsRow w1.heap.size 33 8 vw (evsOf rb).length ((evsOf rb).flatMap evL)) := own_later (below_step S3.out (below_step S4.out hb5)) OW.out
  have Y5 : Hid (w5.heap[w3.heap.size]? = some (.cells #[.slice py sc.length cy, .slice pa an.length ca, .slice (some ⟨tg, 0, none⟩) tr.length (tr.length + 1)] 39 (0, 0))) := (hb5.block w3.heap.size (Array.getElem?_eq_some_iff.1 Y4.out).1).trans Y4.out
  have X5 : Hid (w5.heap[w.heap.size]? = some (.cells #[.slice p sc.length cap, .slice q an.length caq, .slice o tr.length cao] 39 (0, 0))) := ((below_step S3.out (below_step S4.out hb5)).block w.heap.size (Array.getElem?_eq_some_iff.1 X2.out).1).trans X2.out
  have B5 : Hid (Below w.heap.size w w5) := below_step B2.out (below_step S3.out (below_step S4.out hb5))
  clear y0 y1 y2 hrb1 hrb2 hretb hoB hb5
  go_wp2_with fail
  refine (same_any _ _ (evsOf rb) _ (own_sl OA5.out) (own_sl OW5.out)).mono ?_
  rintro e w6 ⟨rfl, hb6⟩
  have S6 : Hid (Below w5.heap.size w5 w6) := hb6
  clear hb6
  go_wp2_with fail
  refine (same_any _ _ (evsOf rb) _ (own_sl (own_later S6.out OB.out)) (own_sl (own_later S6.out OW5.out))).mono ?_
  rintro e w7 ⟨rfl, hb7⟩
  have S7 : Hid (Below w5.heap.size w5 w7) := below_step S6.out hb7
  have Y7 := (S7.out.block w3.heap.size (Array.getElem?_eq_some_iff.1 Y5.out).1).trans Y5.out
  have X7 := (S7.out.block w.heap.size (Array.getElem?_eq_some_iff.1 X5.out).1).trans X5.out
  obtain ⟨y0, y1, y2, yf⟩ := cell3 Y7
  obtain ⟨x0, x1, x2, xf⟩ := cell3 X7
  have HY7 : Hid (w7.heap[w3.heap.size]? = some (.cells #[.slice py sc.length cy, .slice pa an.length ca, .slice (some ⟨tg, 0, none⟩) tr.length (tr.length + 1)] 39 (0, 0))) := Y7
  have B7 : Hid (Below w.heap.size w w7) := below_step B5.out S7.out
  have S37 : Hid (Below w3.heap.size w3 w7) := below_step S4.out (below_step S5.out S7.out)
  clear hb7 yf xf Y7 X7
  go_wp2_with fail
  refine (stays_any _ _ _ _ _ tg w2.heap.size sc an tr _ (HSS.out.later B7.out) (HSA.out.later B7.out) (HTT.out.later B7.out) (HLS.out.later S37.out) (HLA.out.later S37.out) (HMT.out.later S37.out) BS.out BA.out bt).mono ?_
  rintro e w8 ⟨rfl, hb8⟩
  have S8 : Hid (Below w7.heap.size w7 w8) := hb8
  have S58 : Hid (Below w5.heap.size w5 w8) := below_step S7.out hb8
  have B8 : Hid (Below w.heap.size w w8) := below_step B7.out hb8
  clear y0 y1 y2 x0 x1 x2 hb8
  have OA8 : Hid (w8.ownsRow (w3.heap.size + 1 + 1) 33 8 va (evsOf rb).length ((evsOf rb).flatMap evL)) := own_later S58.out OA5.out
  obtain ⟨pva, cva, hva, _⟩ := id (own_sl OA8.out)
  subst hva
  have hs38 : w3.heap.size + 1 ≤ w8.heap.size := by
    have h1 := HS4.out
    have h2 := S5.out.size
    have h3 := S58.out.size
    omega
  obtain ⟨ga, hga1, hga2, hga3⟩ := own_ga (w8.heap.size + 1) OA8.out (by omega)
  have hwl : w.heap.size ≤ w3.heap.size := by
    have h1 := B2.out.size
    have h2 := S3.out.size
    omega
  have HGA : Hid (∀ g, (Value.slice pva (evsOf rb).length cva).ownBlock = some g → g = ga) := hga2
  have T8 : Hid (Turned w.heap.size (w3.heap.size + 1 + 1) ga ga w w8 (.slice pva (evsOf rb).length cva) (evsOf rb).length w8) := ⟨⟨_, OA8.out⟩, But2.refl _ _ _ _, B8.out⟩
  have hne : (evsOf rb).length ≤ 1048576 := by
    have := evs_small HR1.out HR2.out
    omega
  have htl : tg < w3.heap.size := HMT.out.lt
  have hw2t : w2.heap.size ≤ tg := HTG.out
  have S38 : Hid (Below w3.heap.size w3 w8) := below_step S37.out S8.out
  have M8 : Hid (∃ arr : Array Value, w8.heap[tg]? = some (.cells arr 45 (0, 0)) ∧ arr.size = (tr.length + 1) * 5) := marked_arr ((S38.out.block tg htl).trans HMT.out)
  have Y8 : Hid (w8.heap[w3.heap.size]? = some (.cells #[.slice py sc.length cy, .slice pa an.length ca, .slice (some ⟨tg, 0, none⟩) tr.length (tr.length + 1)] 39 (0, 0))) := (S8.out.block w3.heap.size (Array.getElem?_eq_some_iff.1 HY7.out).1).trans HY7.out
  have LB : Hid (SL 8 evL w8 vb (evsOf rb)) := own_sl (own_later S58.out OB.out)
  have LW : Hid (SL 8 evL w8 vw (evsOf rb)) := own_sl (own_later S58.out OW5.out)
  have NB : Hid (∀ g, vb.ownBlock = some g → g ≠ ga ∧ g ≠ tg) := fun g hg => by
    have h1 := own_block OB.out g hg
    have h2 := S58.out.size
    have h3 := HS4.out
    rcases hga3 with e | e
    · have h4 := own_block OA.out ga e
      omega
    · omega
  have NW : Hid (∀ g, vw.ownBlock = some g → g ≠ ga ∧ g ≠ tg) := fun g hg => by
    have h1 := own_block OW.out g hg
    have h2 := S3.out.size
    omega
  have hwt : w.heap.size ≤ tg := by have := B2.out.size; omega
  clear hga2 hga3 OA OA5 OA8 OB OW OW5 HY7 X1 X2 X5 Y4 Y5
  generalize hnn : (evsOf rb).length = nn at *
  go_wp2_with fail
  go_loopw [14] (fun i u => ∃ (k : Nat), k ≤ nn ∧ i = .int .i64 k ∧ Turned w.heap.size (w3.heap.size + 1 + 1) ga ga w w8 (.slice pva nn cva) nn u) (fun i _ => nn - (intOf i).toNat)
  case atStart => exact ⟨0, Nat.zero_le _, rfl, T8.out⟩
  case round =>
    obtain ⟨k, hk, rfl, hT⟩ := hrel
    obtain ⟨wo, hwo⟩ : ∃ wo, wo = wr := ⟨wr, rfl⟩
    subst hwo
    have HT : Hid (Turned w.heap.size (w3.heap.size + 1 + 1) ga ga w w8 (.slice pva nn cva) nn wo) := hT
    obtain ⟨⟨xs, hown⟩, _, _⟩ := hT
    by_cases hlt : k < nn
    · obtain ⟨g, rfl⟩ := own_some hown (by omega)
      have HGG : Hid (g = ga) := HGA.out g rfl
      obtain ⟨⟨t0v, t0⟩, t0f⟩ := own_cell hown (j := k * 8) (by omega)
      obtain ⟨⟨t1v, t1⟩, t1f⟩ := own_cell hown (j := k * 8 + 1) (by omega)
      obtain ⟨⟨t2v, t2⟩, t2f⟩ := own_cell hown (j := k * 8 + 2) (by omega)
      obtain ⟨⟨t3v, t3⟩, t3f⟩ := own_cell hown (j := k * 8 + 3) (by omega)
      obtain ⟨⟨t4v, t4⟩, t4f⟩ := own_cell hown (j := k * 8 + 4) (by omega)
      obtain ⟨⟨t5v, t5⟩, t5f⟩ := own_cell hown (j := k * 8 + 5) (by omega)
      obtain ⟨⟨t6v, t6⟩, t6f⟩ := own_cell hown (j := k * 8 + 6) (by omega)
      obtain ⟨⟨t7v, t7⟩, t7f⟩ := own_cell hown (j := k * 8 + 7) (by omega)
      clear hown
      go_wp2_with fail
      go_roundw
      case rel => exact ⟨k + 1, by omega, by go_num, HT.out.many (o := k * 8) (evL ev9) (by simp [evL]; omega) HGG.out (by have := HGG.out; omega)⟩
      case measure => simp [intOf]; omega
    · have : nn = k := by omega
      subst this
      have G0 : Hid (Grown w.heap.size (w3.heap.size + 1 + 1) ga ga w w8 (.slice pva nn cva) nn wo) := ⟨HT.out, fun g hg => .inl (HGA.out g hg)⟩
      clear hown HT T8 HGA
      go_wp2_with fail
      go_loopw [7, 15] (fun lv i u => ∃ (j : Nat) (pl : Option Addr) (cpl : Nat), j ≤ 5 ∧ i = .int .i64 j ∧ lv = .slice pl (nn + j) cpl ∧ Grown w.heap.size (w3.heap.size + 1 + 1) ga ga w w8 lv (nn + j) u) (fun _ i _ => 5 - (intOf i).toNat)
      case atStart => exact ⟨0, pva, cva, Nat.zero_le _, rfl, rfl, G0.out⟩
      case round =>
        obtain ⟨j, pl, cpl, hj5, rfl, rfl, hG⟩ := hrel
        obtain ⟨wb, hwb⟩ : ∃ wb, wb = wr := ⟨wr, rfl⟩
        subst hwb
        have HG : Hid (Grown w.heap.size (w3.heap.size + 1 + 1) ga ga w w8 (.slice pl (nn + j) cpl) (nn + j) wb) := hG
        obtain ⟨⟨⟨xs, hown⟩, hbt, _⟩, _⟩ := hG
        have hbs := hbt.1
        have HOWN : Hid (wb.ownsRow (w3.heap.size + 1 + 1) 33 8 (.slice pl (nn + j) cpl) (nn + j) xs) := hown
        clear hown hbt
        by_cases hlt : j < 5
        · obtain ⟨j0, hj', hj0, hj1, hj2⟩ := info_parts info33
          generalize hnj : nn + j = nj at *
          have hnj2 : nj ≤ 1048581 := by omega
          have HNJ : Hid (nn + j = nj) := hnj
          clear hnj
          go_wp2_with (at_builtin; refine wpList_append_lies _ rfl (.tmp 98) (.tmp 100) 22 rfl (w3.heap.size + 1 + 1) 33 j0 _ 8 64 Try.underlying22 hj' hj0 hj1 hj2 rfl (by decide) (.slice pl nj cpl) nj xs rfl
                        (own_later (below_alloc (Below.refl _ _) _) HOWN.out) ⟨wb.heap.size, 0, none⟩ 1 1 (evL ev9) rfl rfl (news8 _ _ _) (one8 _) (by decide) (by unfold maxLen; omega) (by omega) (by simp; omega) _ rfl ?_; intro g cpg w6 hown6 hgrow6 hat6 hlt6)
          have HG6 : Hid (Grown w.heap.size (w3.heap.size + 1 + 1) ga ga w w8 (.slice (some ⟨g, 0, none⟩) (nj + 1) cpg) (nj + 1) w6) := HG.out.next (below_alloc (Below.refl _ _) _) hown6 hgrow6 hat6 (by omega)
          clear hown6 hgrow6 hat6 hlt6
          go_wp2_with fail
          go_roundw
          case rel =>
            have e := HNJ.out
            refine ⟨j + 1, some ⟨g, 0, none⟩, cpg, by omega, by go_num, by rw [← Nat.add_assoc, e], ?_⟩
            rw [← Nat.add_assoc, e]
            exact HG6.out
          case measure => simp [intOf]; omega
        · have : j = 5 := by omega
          subst this
          have hgt : tg ≠ ga := by omega
          have M0 : Hid (Marks w.heap.size ga tg tr.length w w8 wb) := HG.out.marks M8.out hgt
          clear HG HOWN G0 hgt
          go_wp2_with fail
          go_loopw [16] (fun i u => ∃ (k : Nat), k ≤ tr.length ∧ i = .int .i64 k ∧ Marks w.heap.size ga tg tr.length w w8 u) (fun i _ => tr.length - (intOf i).toNat)
          case atStart => exact ⟨0, Nat.zero_le _, rfl, M0.out⟩
          case round =>
            obtain ⟨m, hm, rfl, hM⟩ := hrel
            obtain ⟨wc, hwc⟩ : ∃ wc, wc = wr := ⟨wr, rfl⟩
            subst hwc
            have HM : Hid (Marks w.heap.size ga tg tr.length w w8 wc) := hM
            obtain ⟨hbt, _, arr, ha, has⟩ := hM
            have hy8 := (Array.getElem?_eq_some_iff.1 Y8.out).1
            have hyc := (hbt.2 w3.heap.size hy8 (by omega) (by omega)).trans Y8.out
            obtain ⟨y0, y1, y2, yf⟩ := cell3 hyc
            clear hbt hyc y0 y1 yf
            by_cases hlm : m < tr.length
            · obtain ⟨⟨t0v, t0⟩, t0f⟩ := cellA ha (j := m * 5) (by omega)
              obtain ⟨⟨t1v, t1⟩, t1f⟩ := cellA ha (j := m * 5 + 1) (by omega)
              obtain ⟨⟨t2v, t2⟩, t2f⟩ := cellA ha (j := m * 5 + 2) (by omega)
              obtain ⟨⟨t3v, t3⟩, t3f⟩ := cellA ha (j := m * 5 + 3) (by omega)
              obtain ⟨⟨t4v, t4⟩, t4f⟩ := cellA ha (j := m * 5 + 4) (by omega)
              clear ha has
              go_wp2_with fail
              go_roundw
              case rel => exact ⟨m + 1, by omega, by go_num, HM.out.many (o := m * 5) [I 0, I 0, I (-9), I 0, I 0] (by simp; omega) hwt⟩
              case measure => simp [intOf]; omega
            · have : m = tr.length := by omega
              subst this
              clear ha has
              go_wp2_with fail
              refine (same_any _ _ (evsOf rb) _ (sl_but LB.out HM.out.1 (Nat.le_refl _) NB.out) (sl_but LW.out HM.out.1 (Nat.le_refl _) NW.out)).mono ?_
              rintro e w9 ⟨rfl, hb9⟩
              have B9 : Hid (Below w.heap.size w w9) := below_step HM.out.2.1 hb9
              clear hb9 y2
              go_wp2_with fail
              go_ret
              exact ⟨rfl, B9.out⟩

end Go.Proofs.Yteniopbmkooomaa
