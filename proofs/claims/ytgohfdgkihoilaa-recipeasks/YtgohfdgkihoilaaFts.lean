/- What the document's fates (35) does. -/
import Derived.Test.YtgohfdgkihoilaaFtsP
set_option linter.unusedSimpArgs false
set_option linter.unusedVariables false
namespace Go.Proofs.Ytgohfdgkihoilaa.Rcp
open Go Go.RowKit Go.Deep Go.Maps

noncomputable def gM (l : List Rc) (M : Nat → Bool) (k : Nat) : Int := if M k = true then VV l k else 0
theorem gM_range (l : List Rc) (M : Nat → Bool) (k : Nat) : 0 ≤ gM l M k ∧ gM l M k < 1000003 := by
  unfold gM
  split
  · exact val_range k
  · omega
noncomputable def sumG (l : List Rc) (M : Nat → Bool) (i t : Nat) : Int := vl l i + (((nd l i).take t).map (gM l M)).sum
theorem sumG_range {l : List Rc} (hR : RIGHT l) {M : Nat → Bool} {k : Nat} (hk : k < l.length) {t : Nat} : -1000 ≤ sumG l M k t ∧ sumG l M k t ≤ 20001040 := by
  have h1 := vl_range hR hk
  have h2 := nd_len hR hk
  have h3 := sum_range (gM l M) (gM_range l M) ((nd l k).take t)
  have h4 : (((nd l k).take t).length : Int) ≤ 20 := by rw [List.length_take]; omega
  unfold sumG
  omega
theorem sumG_succ {l : List Rc} {M : Nat → Bool} {k t x : Nat} (h : (nd l k)[t]? = some x) : sumG l M k (t + 1) = sumG l M k t + gM l M x := by
  unfold sumG
  rw [List.take_add_one, h]
  simp
  omega
/-- It is found that it can be built. -/
def Fnd (l : List Rc) (M : Nat → Bool) (i : Nat) : Prop := M i = false ∧ gives l i = true ∧ ∀ j ∈ nd l i, M j = true
theorem fnd_can {l : List Rc} {M : Nat → Bool} {i : Nat} (hs : ∀ k, M k = true → CC l k) (h : Fnd l M i) : CC l i := can_iff.2 ⟨h.2.1, fun j hj => hs j (h.2.2 j hj)⟩
theorem fnd_val {l : List Rc} {M : Nat → Bool} {i : Nat} (hs : ∀ k, M k = true → CC l k) (h : Fnd l M i) : sumG l M i (nd l i).length % 1000003 = VV l i := by
  have hv := val_eq (fnd_can hs h)
  rw [show VV l i = _ from hv]
  unfold sumG
  rw [List.take_length, List.map_congr_left (fun j hj => show gM l M j = VV l j by unfold gM; rw [if_pos (h.2.2 j hj)])]
theorem whole_all {l : List Rc} (hR : RIGHT l) {M : Nat → Bool} (hw : ∀ i, i < l.length → ¬ Fnd l M i) : ∀ k, k < l.length → CC l k → M k = true := by
  have : ∀ n k, k < l.length → (∃ v, gvF (nd l) (gives l) (vl l) n k = some v) → M k = true := by
    intro n
    induction n using Nat.strongRecOn with
    | ind n ih =>
      intro k hk hv
      have hc : CC l k := by obtain ⟨v, h⟩ := hv; exact ⟨n, v, h⟩
      cases hM : M k with
      | true => rfl
      | false =>
        refine absurd ⟨hM, (can_iff.1 hc).1, fun j hj => ?_⟩ (hw k hk)
        obtain ⟨n', hn', hv'⟩ := gv_one hv hj
        exact ih n' hn' j (nd_lt hR k hk j hj) hv'
  rintro k hk ⟨n, v, h⟩
  exact this n k hk ⟨v, h⟩
/-- One pass, as far as i. -/
structure Pass (l : List Rc) (M0 : Nat → Bool) (i : Nat) (more : Bool) (M : Nat → Bool) : Prop where
  sound : ∀ k, M k = true → CC l k
  no : more = false → (∀ k, M k = M0 k) ∧ ∀ j, j < i → ¬ Fnd l M0 j
  yes : more = true → cnt l.length (fun k => M k = false) < cnt l.length (fun k => M0 k = false)
  old : ∀ k, M0 k = true → M k = true

set_option maxHeartbeats 4000000 in
theorem fates35_any {Z : Nat → Prop} {w : World} {x0 : Value} {l : List Rc} (hl : RL Z w x0 l) (hZ : ∀ i, Z i → i < w.heap.size) (hR : RIGHT l) :
    Calls Try.prog 35 #[x0] w (Ret fun r w' => (∃ (cb gb : Nat) (M : Nat → Bool), r = .tuple #[.slice (some ⟨cb, 0, none⟩) l.length l.length, .slice (some ⟨gb, 0, none⟩) l.length l.length] ∧ w.heap.size ≤ cb ∧ w.heap.size ≤ gb ∧ w'.rowIs cb 4 l.length (fun k => .bool (M k)) ∧ w'.rowIs gb 3 l.length (fun k => I (VV l k)) ∧ ∀ k, k < l.length → (M k = true ↔ CC l k)) ∧ Kp (fun i => i < w.heap.size) w w') := by
  have h100 := short100 hR
  have hpos : 0 < l.length := hR.good.1
  have hv : ∃ b o cap, x0 = .slice (some ⟨b, o, none⟩) l.length cap := by
    obtain ⟨p, cap, rfl, -, h2⟩ := hl
    obtain ⟨blk, off, nv, rfl, -⟩ := h2 0 _ (getD_some hpos r0)
    exact ⟨blk, off, cap, rfl⟩
  obtain ⟨b, o, cap, rfl⟩ := hv
  refine in35 fun a hA => ?_
  rw [e35]
  refine wp_then (p35_0 hA) fun a0 w0 h => ?_
  obtain ⟨h0, rfl⟩ := h
  refine wp_then (p35_1 h100 h0) fun a1 w1 h => ?_
  obtain ⟨h1, rfl⟩ := h
  have hm1 := World.rowIs_made w0 (.bool false) l.length 4
  have kA : Kp (fun i => i < w0.heap.size) w0 (w0.alloc (.cells (madeCells #[.bool false] l.length) 4)) := Kp.alloc (fun _ h => h) _
  have sA : (w0.alloc (.cells (madeCells #[.bool false] l.length) 4)).heap.size = w0.heap.size + 1 := by simp
  generalize w0.alloc (.cells (madeCells #[.bool false] l.length) 4) = W at hm1 kA sA
  refine wp_then (p35_2 h100 h1) fun a2 w2 h => ?_
  obtain ⟨h2, rfl⟩ := h
  have hm2 := World.rowIs_made W (.int .i64 0) l.length 3
  have hm1' := hm1.alloc (.cells (madeCells #[.int .i64 0] l.length) 3)
  have kB : Kp (fun i => i < w0.heap.size) w0 (W.alloc (.cells (madeCells #[.int .i64 0] l.length) 3)) := kA.trans (Kp.alloc (fun j hj => by omega) _)
  have hgb : W.heap.size = w0.heap.size + 1 := sA
  rw [hgb] at h2 hm2
  generalize W.alloc (.cells (madeCells #[.int .i64 0] l.length) 3) = W2 at hm2 hm1' kB
  refine wp_then (p35_3 h2) fun a3 w3 h => ?_
  obtain ⟨h3, rfl⟩ := h
  refine wp_seq (wp_while (t := 18) (fun c a u => ∃ (more : Bool) (M : Nat → Bool), c = 2 * cnt l.length (fun k => M k = false) + (if more = true then 1 else 0) ∧ Fl 87 [(0, .slice (some ⟨b, o, none⟩) l.length cap), (4, .slice (some ⟨w0.heap.size, 0, none⟩) l.length l.length), (5, .slice (some ⟨w0.heap.size + 1, 0, none⟩) l.length l.length), (6, .bool more)] a ∧ u.rowIs w0.heap.size 4 l.length (fun k => .bool (M k)) ∧ u.rowIs (w0.heap.size + 1) 3 l.length (fun k => I (gM l M k)) ∧ (∀ k, M k = true → CC l k) ∧ (more = false → ∀ i, i < l.length → ¬ Fnd l M i) ∧ Kp (fun j => j < w0.heap.size) w0 u) _
    ⟨true, fun _ => false, rfl, h3, hm1', hm2.congr fun k hk => rfl, fun k hk => (by cases hk), fun h => (by cases h), kB⟩ ?_)
  clear h3 h2 h1 h0 hA hm1 hm2 hm1' kA kB
  rintro c a4 u ⟨more, M0, rfl, h4, hc4, hg4, hs4, hw4, ku⟩
  refine ⟨_, p35_4 h4, ?_⟩
  rintro a5 w5 ⟨h5, rfl⟩
  cases more with
  | false =>
    refine .inl ⟨h5.hf rfl, ?_⟩
    show Code.wp _ _ _ _ _
    refine wp_then (p35_21 h5.tl) fun a6 w6 h => ?_
    obtain ⟨h6, rfl⟩ := h
    have hall := whole_all hR (hw4 rfl)
    have hiff : ∀ k, k < l.length → (M0 k = true ↔ CC l k) := fun k hk => ⟨hs4 k, hall k hk⟩
    refine wp_ret (fin2 rfl h6 _ _ (.head _) (.tail _ (.head _)) ⟨⟨_, _, M0, rfl, Nat.le_refl _, by omega, hc4, hg4.congr fun k hk => ?_, hiff⟩, ku⟩)
    unfold gM
    by_cases h : M0 k = true
    · rw [if_pos h]
    · rw [if_neg h, show VV l k = 0 from val_no fun hc => h (hall k hk hc)]
  | true =>
    refine .inr ⟨h5.hd rfl, ?_⟩
    refine wp_block ?_
    refine wp_then (p35_5 h5.tl) fun a6 w6 h => ?_
    obtain ⟨h6, rfl⟩ := h
    refine wp_then (p35_6 h6) fun a7 w7 h => ?_
    obtain ⟨h7, rfl⟩ := h
    refine wp_while (t := 22) (fun c a u => ∃ (i : Nat) (more : Bool) (M : Nat → Bool), i ≤ l.length ∧ c = l.length - i ∧ Fl 87 [(0, .slice (some ⟨b, o, none⟩) l.length cap), (4, .slice (some ⟨w0.heap.size, 0, none⟩) l.length l.length), (5, .slice (some ⟨w0.heap.size + 1, 0, none⟩) l.length l.length), (6, .bool more), (7, I (i : Nat))] a ∧ u.rowIs w0.heap.size 4 l.length (fun k => .bool (M k)) ∧ u.rowIs (w0.heap.size + 1) 3 l.length (fun k => I (gM l M k)) ∧ Pass l M0 i more M ∧ Kp (fun j => j < w0.heap.size) w0 u) _
      ⟨0, false, M0, Nat.zero_le _, rfl, h7, hc4, hg4, ⟨hs4, fun _ => ⟨fun k => rfl, fun j hj => absurd hj (Nat.not_lt_zero _)⟩, fun h => (by cases h), fun k h => h⟩, ku⟩ ?_
    clear h7 h6 h5 h4 hc4 hg4 ku
    rintro c a8 u ⟨i, more, M, hi, rfl, h8, hc, hg, hP, ku⟩
    refine ⟨_, p35_7 h100 h8, ?_⟩
    rintro a9 w9 ⟨h9, rfl⟩
    by_cases hli : i < l.length
    · refine .inr ⟨h9.hd (by simp [hli]), ?_⟩
      have hlu := hl.kp (ku.mono hZ)
      obtain ⟨b', o', nv, e, -, -, hn, c0, -, c2, c3, -⟩ := hlu.at hli
      cases e
      have hn' := hn
      obtain ⟨q, nc, rfl, hqq, -⟩ := hn
      have hndl : (nd l i).length = (l.getD i r0).needs.length := by simp [nd]
      have hnn : (l.getD i r0).needs.length ≤ 20 := by have := nd_len hR hli; omega
      refine wp_seq (wp_block ?_)
      have first : q35_9.wp Try.prog (fun e a' w' => e = .normal ∧ ∃ al, (Fl 87 [(0, .slice (some ⟨b, o, none⟩) l.length cap), (4, .slice (some ⟨w0.heap.size, 0, none⟩) l.length l.length), (5, .slice (some ⟨w0.heap.size + 1, 0, none⟩) l.length l.length), (6, .bool more), (7, I (i : Nat)), (8, .bool al)] a' ∧ (al = true ↔ M i = false ∧ gives l i = true) ∧ w' = w9)) a9 w9 := by
        cases hMi : M i with
        | true =>
          refine wp_mono (p35_9_a h100 hli (by rw [hc.cell hli, hMi]) h9.tl) fun e a w h => ?_
          obtain ⟨he, h1, h2⟩ := h
          exact ⟨he, _, h1, by simp, h2⟩
        | false =>
          refine wp_mono (p35_9_b h100 hli (by rw [hc.cell hli, hMi]) c2 h9.tl) fun e a w h => ?_
          obtain ⟨he, h1, h2⟩ := h
          exact ⟨he, _, h1, by simp [gives], h2⟩
      refine wp_then first fun a10 w10 h => ?_
      obtain ⟨al0, h10, hal0, rfl⟩ := h
      refine wp_then (p35_10 h100 hli c3 h10) fun a11 w11 h => ?_
      obtain ⟨h11, rfl⟩ := h
      refine wp_seq (wp_then (p35_11 h11) fun a12 w12 h => ?_)
      obtain ⟨h12, rfl⟩ := h
      -- behind the needs
      have behind : ∀ {a' : Act} {al : Bool} {sm : Int}, Fl 87 [(0, .slice (some ⟨b, o, none⟩) l.length cap), (4, .slice (some ⟨w0.heap.size, 0, none⟩) l.length l.length), (5, .slice (some ⟨w0.heap.size + 1, 0, none⟩) l.length l.length), (6, .bool more), (7, I (i : Nat)), (8, .bool al), (9, I sm)] a' → (al = true ↔ Fnd l M i) → (al = true → sm = sumG l M i (nd l i).length) → (Code.seq q35_17 (.cond (.tmp 74) (.seq q35_18 (.seq q35_19 q35_20)) .skip)).wp Try.prog (fun e a'' w'' => e = .normal ∧ ∃ (more : Bool) (M : Nat → Bool), Fl 87 [(0, .slice (some ⟨b, o, none⟩) l.length cap), (4, .slice (some ⟨w0.heap.size, 0, none⟩) l.length l.length), (5, .slice (some ⟨w0.heap.size + 1, 0, none⟩) l.length l.length), (6, .bool more), (7, I (i : Nat))] a'' ∧ w''.rowIs w0.heap.size 4 l.length (fun k => .bool (M k)) ∧ w''.rowIs (w0.heap.size + 1) 3 l.length (fun k => I (gM l M k)) ∧ Pass l M0 (i + 1) more M ∧ Kp (fun j => j < w0.heap.size) w0 w'') a' w12 := by
        intro a' al sm hA' hal hsm
        refine wp_then (p35_17 hA') fun a13 w13 h => ?_
        obtain ⟨h13, rfl⟩ := h
        cases al with
        | false =>
          refine wp_cond_false (h13.hf rfl) (wp_skip ?_)
          refine ⟨rfl, more, M, h13.sub (by simp), hc, hg, ⟨hP.sound, fun hm => ⟨(hP.no hm).1, fun j hj => ?_⟩, hP.yes, hP.old⟩, ku⟩
          rcases Nat.lt_or_eq_of_le (Nat.le_of_lt_succ hj) with hj | rfl
          · exact (hP.no hm).2 j hj
          · intro hf
            have hMM : M = M0 := funext (hP.no hm).1
            have := hal.2 (by rw [hMM]; exact hf)
            cases this
        | true =>
          have hF := hal.1 rfl
          have hCi := fnd_can hP.sound hF
          have hsmv := hsm rfl
          have hsr := sumG_range (M := M) hR hli (t := (nd l i).length)
          rw [← hsmv] at hsr
          refine wp_cond_true (h13.hd rfl) ?_
          refine wp_then (p35_18 (b := b) (o := o) (n := l.length) (cap := cap) (cb := w0.heap.size) (gb := w0.heap.size + 1) (more := more) (i := i) (sm := sm) h100 hli (hc.cell hli) (hc.frozen i) (h13.sub (by simp))) fun a14 w14 h => ?_
          obtain ⟨h14, rfl⟩ := h
          have hc1 : (w13.setCell ⟨w0.heap.size, i, none⟩ (.bool true)).rowIs w0.heap.size 4 l.length (fun k => .bool (k == i || M k)) := (hc.set i (.bool true)).congr fun k hk => by
            by_cases e : k = i
            · simp [e]
            · simp [e]
          have hg1 := hg.setOther (a := ⟨w0.heap.size, i, none⟩) (show w0.heap.size + 1 ≠ w0.heap.size by omega) (.bool true)
          have ku1 : Kp (fun j => j < w0.heap.size) w0 (w13.setCell ⟨w0.heap.size, i, none⟩ (.bool true)) := ku.trans (Kp.setCell (Z := fun j => j < w0.heap.size) (p := ⟨w0.heap.size, i, none⟩) (show ¬ w0.heap.size < w0.heap.size from Nat.lt_irrefl _) _)
          generalize w13.setCell ⟨w0.heap.size, i, none⟩ (.bool true) = W5 at hc1 hg1 ku1
          refine wp_then (p35_19 h100 hli (hg1.cell hli) (hg1.frozen i) h14) fun a15 w15 h => ?_
          obtain ⟨h15, rfl⟩ := h
          rw [modE hsr.1 hsr.2, hsmv, fnd_val hP.sound hF]
          have hc2 := hc1.setOther (a := ⟨w0.heap.size + 1, i, none⟩) (show w0.heap.size ≠ w0.heap.size + 1 by omega) (I (VV l i))
          have hg2 : (W5.setCell ⟨w0.heap.size + 1, i, none⟩ (I (VV l i))).rowIs (w0.heap.size + 1) 3 l.length (fun k => I (gM l (fun k => k == i || M k) k)) := (hg1.set i (I (VV l i))).congr fun k hk => by
            unfold gM
            by_cases e : k = i
            · simp [e]
            · simp [e]
          have ku2 : Kp (fun j => j < w0.heap.size) w0 (W5.setCell ⟨w0.heap.size + 1, i, none⟩ (I (VV l i))) := ku1.trans (Kp.setCell (Z := fun j => j < w0.heap.size) (p := ⟨w0.heap.size + 1, i, none⟩) (show ¬ w0.heap.size + 1 < w0.heap.size by omega) _)
          refine wp_last (p35_20 h15) fun a16 w16 h => ?_
          obtain ⟨h16, rfl⟩ := h
          have hle : cnt l.length (fun k => M k = false) ≤ cnt l.length (fun k => M0 k = false) := cnt_le fun k _ h => by
            cases h0 : M0 k with
            | false => rfl
            | true => rw [hP.old k h0] at h; cases h
          refine ⟨rfl, true, fun k => k == i || M k, h16, hc2, hg2, ⟨fun k hk => ?_, fun h => (by cases h), fun _ => ?_, fun k hk => by simp [hP.old k hk]⟩, ku2⟩
          · simp at hk
            rcases hk with rfl | hk
            · exact hCi
            · exact hP.sound k hk
          · exact Nat.lt_of_lt_of_le (cnt_lt (fun k _ h => by simp at h; exact h.2) hli (by simp) hF.1) hle
      have cont : ∀ {a' : Act} {al : Bool} {sm : Int}, Fl 87 [(0, .slice (some ⟨b, o, none⟩) l.length cap), (4, .slice (some ⟨w0.heap.size, 0, none⟩) l.length l.length), (5, .slice (some ⟨w0.heap.size + 1, 0, none⟩) l.length l.length), (6, .bool more), (7, I (i : Nat)), (8, .bool al), (9, I sm)] a' → (al = true ↔ Fnd l M i) → (al = true → sm = sumG l M i (nd l i).length) → (Code.seq q35_17 (.cond (.tmp 74) (.seq q35_18 (.seq q35_19 q35_20)) .skip)).wp Try.prog (fun e a'' w'' => e = .normal ∧ q35_8.wp Try.prog (fun e a'' w'' => e = .normal ∧ ∃ n', n' < l.length - i ∧ ∃ (i : Nat) (more : Bool) (M : Nat → Bool), i ≤ l.length ∧ n' = l.length - i ∧ Fl 87 [(0, .slice (some ⟨b, o, none⟩) l.length cap), (4, .slice (some ⟨w0.heap.size, 0, none⟩) l.length l.length), (5, .slice (some ⟨w0.heap.size + 1, 0, none⟩) l.length l.length), (6, .bool more), (7, I (i : Nat))] a'' ∧ w''.rowIs w0.heap.size 4 l.length (fun k => .bool (M k)) ∧ w''.rowIs (w0.heap.size + 1) 3 l.length (fun k => I (gM l M k)) ∧ Pass l M0 i more M ∧ Kp (fun j => j < w0.heap.size) w0 w'') a'' w'') a' w12 := by
        intro a' al sm x1 x2 x3
        refine wp_mono (behind x1 x2 x3) fun e a w h => ?_
        obtain ⟨rfl, more', M', y1, y2, y3, y4, y5⟩ := h
        refine ⟨rfl, wp_last (p35_8 (by omega) y1) fun a17 w17 h => ?_⟩
        obtain ⟨h17, rfl⟩ := h
        exact ⟨rfl, l.length - (i + 1), by omega, i + 1, more', M', by omega, rfl, h17, y2, y3, y4, y5⟩
      refine wp_while (t := 53) (fun c a v => ∃ (k : Nat) (al : Bool) (sm : Int), k ≤ (l.getD i r0).needs.length ∧ c = (l.getD i r0).needs.length - k ∧ Fl 87 [(0, .slice (some ⟨b, o, none⟩) l.length cap), (4, .slice (some ⟨w0.heap.size, 0, none⟩) l.length l.length), (5, .slice (some ⟨w0.heap.size + 1, 0, none⟩) l.length l.length), (6, .bool more), (7, I (i : Nat)), (8, .bool al), (9, I sm), (10, I (k : Nat))] a ∧ (al = true ↔ (M i = false ∧ gives l i = true) ∧ ∀ j ∈ (nd l i).take k, M j = true) ∧ (al = false → ¬ Fnd l M i) ∧ sm = sumG l M i k ∧ v = w12) _
        ⟨0, al0, _, Nat.zero_le _, rfl, h12, by rw [hal0]; simp, fun h hf => (by have := hal0.2 ⟨hf.1, hf.2.1⟩; rw [h] at this; cases this), (by simp [sumG, vl]), rfl⟩ ?_
      clear h12 h11 h10 h9 h8 first
      rintro c a13 v ⟨k, al, sm, hk, rfl, h13, hal, hnf, rfl, rfl⟩
      have leave : ∀ {a' : Act}, Fl 87 [(0, .slice (some ⟨b, o, none⟩) l.length cap), (4, .slice (some ⟨w0.heap.size, 0, none⟩) l.length l.length), (5, .slice (some ⟨w0.heap.size + 1, 0, none⟩) l.length l.length), (6, .bool more), (7, I (i : Nat)), (8, .bool al), (9, I (sumG l M i k)), (10, I (k : Nat))] a' → (al = false ∨ k = (l.getD i r0).needs.length) → (Code.seq q35_17 (.cond (.tmp 74) (.seq q35_18 (.seq q35_19 q35_20)) .skip)).wp Try.prog (fun e a'' w'' => e = .normal ∧ q35_8.wp Try.prog (fun e a'' w'' => e = .normal ∧ ∃ n', n' < l.length - i ∧ ∃ (i : Nat) (more : Bool) (M : Nat → Bool), i ≤ l.length ∧ n' = l.length - i ∧ Fl 87 [(0, .slice (some ⟨b, o, none⟩) l.length cap), (4, .slice (some ⟨w0.heap.size, 0, none⟩) l.length l.length), (5, .slice (some ⟨w0.heap.size + 1, 0, none⟩) l.length l.length), (6, .bool more), (7, I (i : Nat))] a'' ∧ w''.rowIs w0.heap.size 4 l.length (fun k => .bool (M k)) ∧ w''.rowIs (w0.heap.size + 1) 3 l.length (fun k => I (gM l M k)) ∧ Pass l M0 i more M ∧ Kp (fun j => j < w0.heap.size) w0 w'') a'' w'') a' v := by
        intro a' hA' hx
        refine cont (al := al) (sm := sumG l M i k) (hA'.sub (by simp)) ?_ ?_
        · constructor
          · intro h
            have hke : k = (nd l i).length := by rcases hx with hx | hx; rw [h] at hx; cases hx; omega
            have := hal.1 h
            rw [hke, List.take_length] at this
            exact ⟨this.1.1, this.1.2, this.2⟩
          · intro hf
            cases al with
            | true => rfl
            | false => exact absurd hf (hnf rfl)
        · intro h
          have hke : k = (nd l i).length := by rcases hx with hx | hx; rw [h] at hx; cases hx; omega
          rw [hke]
      by_cases hlt : k < (l.getD i r0).needs.length
      · refine ⟨_, p35_12_a h100 hli hnn c0 hlt h13, ?_⟩
        rintro a14 w14 ⟨h14, rfl⟩
        cases hale : al with
        | false =>
          refine .inl ⟨h14.hf hale, ?_⟩
          show Code.wp _ _ _ _ _
          refine wp_mono (leave h14.tl (.inl hale)) fun e a w h => ?_
          obtain ⟨rfl, h⟩ := h
          refine wp_mono h fun e a w h => ?_
          obtain ⟨rfl, h⟩ := h
          exact h
        | true =>
          refine .inr ⟨h14.hd hale, ?_⟩
          obtain ⟨nb, no, rfl, -, hx⟩ := hn'.at hlt
          obtain ⟨x, hxe, hxl, hxm, -⟩ := needs_ok hR hli hlt
          rw [hxe] at hx
          have hnx : (nd l i)[k]? = some x := by unfold nd; rw [List.getElem?_map, getD_some hlt 0, hxe]; simp
          have htk : (nd l i).take (k + 1) = (nd l i).take k ++ [x] := by rw [List.take_add_one, hnx]; rfl
          refine wp_seq (wp_block ?_)
          refine wp_then (p35_14 h100 hli hnn c0 hlt hx h14.tl) fun a15 w15 h => ?_
          obtain ⟨h15, rfl⟩ := h
          refine wp_then (p35_15 (cx := M x) h100 hxl (hc.cell hxl) h15) fun a16 w16 h => ?_
          obtain ⟨h16, rfl⟩ := h
          refine wp_last (p35_16 h100 hxl (hg.cell hxl) (sumG_range hR hli) (gM_range l M x) h16) fun a17 w17 h => ?_
          obtain ⟨h17, rfl⟩ := h
          show Code.wp _ _ _ _ _
          refine wp_last (p35_13 (by omega) h17) fun a18 w18 h => ?_
          obtain ⟨h18, rfl⟩ := h
          refine ⟨(l.getD i r0).needs.length - (k + 1), by omega, k + 1, M x, _, by omega, rfl, h18, ?_, ?_, (sumG_succ hnx).symm, rfl⟩
          · have hp := hal.1 hale
            rw [htk]
            constructor
            · intro h
              refine ⟨hp.1, fun j hj => ?_⟩
              rcases List.mem_append.1 hj with hj | hj
              · exact hp.2 j hj
              · simp at hj; subst hj; exact h
            · intro h; exact h.2 x (by simp)
          · intro h hf
            have := hf.2.2 x hxm
            rw [h] at this; cases this
      · refine ⟨_, p35_12_b h100 hli hnn c0 (by omega) h13, ?_⟩
        rintro a14 w14 ⟨h14, rfl⟩
        refine .inl ⟨h14.hf rfl, ?_⟩
        show Code.wp _ _ _ _ _
        refine wp_mono (leave h14.tl (.inr (by omega))) fun e a w h => ?_
        obtain ⟨rfl, h⟩ := h
        refine wp_mono h fun e a w h => ?_
        obtain ⟨rfl, h⟩ := h
        exact h
    · refine .inl ⟨h9.hf (by simp [hli]), ?_⟩
      have hie : i = l.length := by omega
      subst hie
      refine ⟨2 * cnt l.length (fun k => M k = false) + (if more = true then 1 else 0), ?_, more, M, rfl, h9.sub (by simp), hc, hg, hP.sound, fun hm j hj hf => ?_, ku⟩
      · rw [if_pos rfl]
        cases more with
        | true => have := hP.yes rfl; simp; omega
        | false =>
          have hMM : M = M0 := funext (hP.no rfl).1
          rw [hMM]; simp
      · have hMM : M = M0 := funext (hP.no hm).1
        exact (hP.no hm).2 j hj (by rw [← hMM]; exact hf)
end Go.Proofs.Ytgohfdgkihoilaa.Rcp
