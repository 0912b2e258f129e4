/- The table of what reaches what (23). -/
import Derived.Test.YtgohfdgkihoilaaTabP
import Derived.Test.YtgohfdgkihoilaaWar
import Derived.Test.YtgohfdgkihoilaaAskB
set_option linter.unusedSimpArgs false
set_option linter.unusedVariables false
namespace Go.Proofs.Ytgohfdgkihoilaa.Rcp
open Go Go.RowKit Go.Deep Go.Maps

/-- A table of m rows of n bools, built here. -/
structure Tab (Z : Nat → Prop) (n m : Nat) (tv : Value) (rb : Nat → Nat) (T : Nat → Nat → Bool) (w : World) : Prop where
  out : OwnS Z w tv ((List.range m).map fun i => .slice (some ⟨rb i, 0, none⟩) n n)
  og : ∀ g, tv.ownBlock = some g → ∀ i, i < m → g ≠ rb i
  row : ∀ i, i < m → w.rowIs (rb i) 4 n (fun k => .bool (T i k))
  rz : ∀ i, i < m → ¬ Z (rb i)
  inj : ∀ i j, i < m → j < m → rb i = rb j → i = j
section
variable {Z Z' : Nat → Prop} {n m : Nat} {tv : Value} {rb : Nat → Nat} {T : Nat → Nat → Bool} {w w' : World}
theorem Tab.stay (h : Tab Z n m tv rb T w) (hb : ∀ i, i < w.heap.size → w'.heap[i]? = w.heap[i]?) : Tab Z n m tv rb T w' :=
  ⟨h.out.stay fun g hg => hb g (h.out.lt g hg), h.og, fun i hi => (h.row i hi).of_block (hb _ (h.row i hi).lt), h.rz, h.inj⟩
theorem Tab.kp (h : Tab Z n m tv rb T w) (k : Kp (fun i => i < w.heap.size) w w') : Tab Z n m tv rb T w' := h.stay k.block
theorem Tab.cells (h : Tab Z n m tv rb T w) (hm : 0 < m) : ∃ g ct, tv = .slice (some ⟨g, 0, none⟩) m ct ∧ ¬ Z g ∧ ∀ i, i < m → w.cell? ⟨g, i, none⟩ = some (.slice (some ⟨rb i, 0, none⟩) n n) := by
  obtain ⟨g, ct, e, hc⟩ := h.out.cells (by simpa using hm)
  have hl : ((List.range m).map fun i => (.slice (some ⟨rb i, 0, none⟩) n n : Value)).length = m := by simp
  rw [hl] at e
  subst e
  exact ⟨g, ct, rfl, h.out.2.2 g rfl, fun i hi => hc i _ (by simp [hi])⟩
theorem Tab.cell (h : Tab Z n m tv rb T w) {i k : Nat} (hi : i < m) (hk : k < n) : w.cell? ⟨rb i, k, none⟩ = some (.bool (T i k)) := (h.row i hi).cell hk
theorem Tab.congr {T' : Nat → Nat → Bool} (h : Tab Z n m tv rb T w) (e : ∀ i k, i < m → k < n → T i k = T' i k) : Tab Z n m tv rb T' w :=
  ⟨h.out, h.og, fun i hi => (h.row i hi).congr fun k hk => by rw [e i k hi hk], h.rz, h.inj⟩
/-- A cell is written. -/
theorem Tab.set (h : Tab Z n m tv rb T w) {i : Nat} (hi : i < m) (k : Nat) (c : Bool) (hw : w'.heap = (w.setCell ⟨rb i, k, none⟩ (.bool c)).heap) : Tab Z n m tv rb (fun a b => if a = i ∧ b = k then c else T a b) w' := by
  have e : ∀ j : Nat, w'.heap[j]? = (w.setCell ⟨rb i, k, none⟩ (.bool c)).heap[j]? := fun j => by rw [hw]
  refine ⟨h.out.stay fun g hg => (e g).trans (Below.heap_setCell _ _ _ _ (h.og g hg i hi)), h.og, fun j hj => ?_, h.rz, h.inj⟩
  by_cases hji : j = i
  · subst hji
    refine (((h.row j hj).set k (.bool c)).of_block (e _)).congr fun b hb => ?_
    by_cases hbk : b = k
    · simp [hbk]
    · simp [hbk]
  · refine ((h.row j hj).of_block ((e _).trans (Below.heap_setCell _ _ _ _ fun e => hji (h.inj j i hj hi e)))).congr fun b hb => ?_
    rw [if_neg (fun e => hji e.1)]
theorem Tab.kpSet (h : Tab Z n m tv rb T w) {i : Nat} (hi : i < m) (k : Nat) (c : Bool) (hw : w'.heap = (w.setCell ⟨rb i, k, none⟩ (.bool c)).heap) (h1 : w'.os = w.os) (h2 : w'.tape = w.tape) (h3 : w'.output = w.output) : Kp Z w w' :=
  ⟨h1, h2, h3, by rw [hw]; simp [World.setCell], fun j hj => by rw [hw]; exact Below.heap_setCell _ _ _ _ (fun e => h.rz i hi (by have e' : j = rb i := e; rw [← e']; exact hj))⟩
end
set_option maxHeartbeats 1000000 in
theorem table_any {Z : Nat → Prop} {w : World} {v : Value} {l : List Rc} (hl : RL Z w v l) (hZ : ∀ i, Z i → i < w.heap.size) (hR : RIGHT l) :
    Calls Try.prog 23 #[v] w (Ret fun tv w' => (∃ rb T, Tab (fun i => i < w.heap.size) l.length l.length tv rb T w' ∧ ∀ i k, i < l.length → k < l.length → (T i k = true ↔ Rch (nd l) i k)) ∧ Kp (fun i => i < w.heap.size) w w') := by
  have h100 := short100 hR
  have hpos : 0 < l.length := hR.good.1
  obtain ⟨b, o, nv0, hp0, -⟩ : ∃ b o nv, v = .slice (some ⟨b, o, none⟩) l.length nv ∧ True := by
    obtain ⟨p, cap, rfl, -, h2⟩ := hl
    obtain ⟨blk, off, nv, rfl, -⟩ := h2 0 _ (getD_some hpos r0)
    exact ⟨blk, off, cap, rfl, trivial⟩
  subst hp0
  refine in23 fun a hA => ?_
  rw [e23]
  refine wp_then (p23_0 hA) fun a0 w0 h => ?_
  obtain ⟨h0, rfl⟩ := h
  refine wp_then (p23_1 h0) fun a1 w1 h => ?_
  obtain ⟨h1, rfl⟩ := h
  refine wp_seq (wp_then (p23_2 h1) fun a2 w2 h => ?_)
  obtain ⟨h2, rfl⟩ := h
  refine wp_while (t := 13) (fun c a u => ∃ i tv rb, i ≤ l.length ∧ c = l.length - i ∧ Fl 93 [(0, .slice (some ⟨b, o, none⟩) l.length nv0), (3, tv), (4, I (i : Nat))] a ∧ Tab (fun i => i < w2.heap.size) l.length i tv rb (fun i k => decide (k ∈ nd l i)) u ∧ Kp (fun i => i < w2.heap.size) w2 u) _
    ⟨0, _, fun _ => 0, Nat.zero_le _, rfl, h2, ⟨OwnS.nil _ _, fun g hg => (by cases hg), fun i hi => absurd hi (Nat.not_lt_zero _), fun i hi => absurd hi (Nat.not_lt_zero _), fun i j hi => absurd hi (Nat.not_lt_zero _)⟩, Kp.refl _ _⟩ ?_
  clear h2 h1 h0 hA
  rintro c a3 u ⟨i, tv, rb, hi, rfl, h3, hT, hk⟩
  refine ⟨_, p23_3 h100 h3, ?_⟩
  rintro a4 w4 ⟨h4, rfl⟩
  by_cases hlt : i < l.length
  · refine .inr ⟨h4.hd (by simp [hlt]), ?_⟩
    obtain ⟨b', o', nv, e, hz, -, hn, c0, -⟩ := (hl.kp (hk.mono hZ)).at hlt
    cases e
    have hn' := hn
    obtain ⟨q, nc, rfl, hq, -⟩ := hn
    have hnl : (l.getD i r0).needs.length ≤ 20 := by have := nd_len hR hlt; simpa [nd] using this
    refine wp_seq (wp_block ?_)
    refine wp_then (p23_5 h100 h4.tl) fun a5 w5 h => ?_
    obtain ⟨h5, rfl⟩ := h
    refine wp_seq (wp_then (p23_6 h5) fun a6 w6 h => ?_)
    obtain ⟨h6, rfl⟩ := h
    have hmade := World.rowIs_made w4 (.bool false) l.length 4
    have kA : Kp (fun i => i < w4.heap.size) w4 (w4.alloc (.cells (madeCells #[.bool false] l.length) 4)) := Kp.alloc (fun _ h => h) _
    generalize hW : w4.alloc (.cells (madeCells #[.bool false] l.length) 4) = W at hmade kA
    refine wp_while (t := 26) (fun c a u => ∃ k : Nat, k ≤ (l.getD i r0).needs.length ∧ c = (l.getD i r0).needs.length - k ∧ Fl 93 [(0, .slice (some ⟨b, o, none⟩) l.length nv0), (3, tv), (4, I (i : Nat)), (5, .slice (some ⟨w4.heap.size, 0, none⟩) l.length l.length), (6, I (k : Nat))] a ∧
      u.rowIs w4.heap.size 4 l.length (fun x => .bool (decide (x ∈ (nd l i).take k))) ∧ Kp (fun i => i < w4.heap.size) w4 u) _ ⟨0, Nat.zero_le _, rfl, h6, hmade.congr (fun x hx => by simp), kA⟩ ?_
    clear h6 h5 hmade kA hW
    rintro c a7 u ⟨k, hkk, rfl, h7, hr7, hk7⟩
    have kz : Kp Z w4 u := hk7.mono fun i hi => Nat.lt_of_lt_of_le (hZ i hi) hk.size
    have d0 := kz.cell (p := ⟨b, o + i * 5, none⟩) hz c0
    refine ⟨_, p23_7 d0 hlt h100 hnl h7, ?_⟩
    rintro a8 w8 ⟨h8, rfl⟩
    by_cases hlk : k < (l.getD i r0).needs.length
    · refine .inr ⟨h8.hd (by simp only [decide_eq_true_eq]; exact hlk), ?_⟩
      obtain ⟨nb, no, rfl, -, hx⟩ := (hn'.kp kz).at hlk
      obtain ⟨x, hxe, hxl, hxm, -⟩ := needs_ok hR hlt hlk
      rw [hxe] at hx
      have hnx : (nd l i)[k]? = some x := by unfold nd; rw [List.getElem?_map, getD_some hlk 0, hxe]; simp
      refine wp_seq (wp_block ?_)
      refine wp_last (p23_9 d0 hlt h100 hnl hlk hx hxl (hr7.cell hxl) (hr7.frozen x) h8.tl) fun a9 w9 h => ?_
      obtain ⟨h9, rfl⟩ := h
      show Code.wp _ _ _ _ _
      refine wp_last (p23_8 (by omega) h9) fun a10 w10 h => ?_
      obtain ⟨h10, rfl⟩ := h
      refine ⟨(l.getD i r0).needs.length - (k + 1), by omega, k + 1, by omega, rfl, h10, (hr7.set x (.bool true)).congr fun y hy => ?_, hk7.trans (Kp.setCell (Z := fun i => i < w4.heap.size) (p := ⟨w4.heap.size, x, none⟩) (show ¬ w4.heap.size < w4.heap.size from Nat.lt_irrefl _) _)⟩
      rw [List.take_add_one, hnx]
      by_cases e : y = x
      · simp [e]
      · simp [e]
    · refine .inl ⟨h8.hf (by simp only [decide_eq_false_iff_not]; exact hlk), ?_⟩
      have hke : k = (l.getD i r0).needs.length := by omega
      have hT8 := hT.kp hk7
      have hlen : ((List.range i).map fun j => (.slice (some ⟨rb j, 0, none⟩) l.length l.length : Value)).length = i := by simp
      show Code.wp _ _ _ _ _
      refine wp_last (p23_10 (Z := fun j => j < w2.heap.size ∨ j = w4.heap.size ∨ ∃ t, t < i ∧ j = rb t) (xs := (List.range i).map fun j => .slice (some ⟨rb j, 0, none⟩) l.length l.length) (b := b) (o := o) (n := l.length) (cap := nv0) (tv := tv) (i := i) (rr := w4.heap.size)
        ⟨hT8.out.1, hT8.out.2.1, fun g hg hz => ?_⟩ (fun j hj => ?_) (by rw [hlen]; omega) (h8.sub (by simp))) fun a9 w9 h => ?_
      · rcases hz with hz | hz | ⟨t, ht, hz⟩
        · exact hT8.out.2.2 g hg hz
        · have := hT.out.lt g hg; omega
        · exact hT8.og g hg t ht hz
      · rcases hj with hj | rfl | ⟨t, ht, rfl⟩
        · exact Nat.lt_of_lt_of_le hj (Nat.le_trans hk.size hk7.size)
        · exact hr7.lt
        · exact (hT8.row t ht).lt
      obtain ⟨g, ct, h9, hO, hkZ, hblk, hloc, hsz⟩ := h
      show Code.wp _ _ _ _ _
      refine wp_last (p23_4 (by omega) h9) fun a10 w10 h => ?_
      obtain ⟨h10, rfl⟩ := h
      have hrow9 : w10.rowIs w4.heap.size 4 l.length (fun x => .bool (decide (x ∈ nd l i))) := by
        refine (hr7.of_block (hkZ.block _ (.inr (.inl rfl)))).congr fun x hx => ?_
        rw [hke, List.take_of_length_le (by simp [nd])]
      rw [hlen] at h10 hO
      refine ⟨l.length - (i + 1), by omega, i + 1, _, fun t => if t = i then w4.heap.size else rb t, by omega, rfl, h10, ⟨?_, fun g' hg' t ht => ?_, fun t ht => ?_, fun t ht => ?_, fun t t' ht ht' he => ?_⟩, ?_⟩
      · have e : ((List.range (i + 1)).map fun t => (.slice (some ⟨if t = i then w4.heap.size else rb t, 0, none⟩) l.length l.length : Value)) = ((List.range i).map fun t => .slice (some ⟨rb t, 0, none⟩) l.length l.length) ++ [.slice (some ⟨w4.heap.size, 0, none⟩) l.length l.length] := by
          rw [List.range_succ, List.map_append]
          congr 1
          · refine List.map_congr_left fun t ht => ?_
            rw [if_neg (by have := List.mem_range.1 ht; omega)]
          · simp
        rw [e]
        exact ⟨hO.1, hO.2.1, fun g hg hz => hO.2.2 g hg (.inl hz)⟩
      · have hn := hO.2.2 g' hg'
        by_cases e : t = i
        · rw [if_pos e]; exact fun e2 => hn (.inr (.inl e2))
        · rw [if_neg e]; exact fun e2 => hn (.inr (.inr ⟨t, by omega, e2⟩))
      · by_cases e : t = i
        · subst e
          rw [if_pos rfl]
          exact hrow9
        · rw [if_neg e]
          exact (hT8.row t (by omega)).of_block (hkZ.block _ (.inr (.inr ⟨t, by omega, rfl⟩)))
      · by_cases e : t = i
        · rw [if_pos e]; have := hk.size; omega
        · rw [if_neg e]; exact hT8.rz t (by omega)
      · have hlt' : ∀ t, t < i → rb t < w4.heap.size := fun t ht => (hT.row t ht).lt
        by_cases e : t = i
        · by_cases e' : t' = i
          · omega
          · rw [if_pos e, if_neg e'] at he; have := hlt' t' (by omega); omega
        · by_cases e' : t' = i
          · rw [if_neg e, if_pos e'] at he; have := hlt' t (by omega); omega
          · rw [if_neg e, if_neg e'] at he; exact hT8.inj t t' (by omega) (by omega) he
      · exact (hk.after hk7).trans (hkZ.mono fun j hj => .inl hj)
  · refine .inl ⟨h4.hf (by simp [hlt]), ?_⟩
    have hie : i = l.length := by omega
    subst hie
    show Code.wp _ _ _ _ _
    refine wp_seq (wp_then (p23_11 (b := b) (o := o) (n := l.length) (cap := nv0) (tv := tv) (h4.sub (by simp))) fun a5 w5 h => ?_)
    obtain ⟨h5, rfl⟩ := h
    obtain ⟨g, ct, rfl, hzg, -⟩ := hT.cells hpos
    refine wp_while (t := 46) (fun c a u => ∃ m T, m ≤ l.length ∧ c = l.length - m ∧ Fl 93 [(0, .slice (some ⟨b, o, none⟩) l.length nv0), (3, .slice (some ⟨g, 0, none⟩) l.length ct), (7, I (m : Nat))] a ∧ Tab (fun i => i < w2.heap.size) l.length l.length (.slice (some ⟨g, 0, none⟩) l.length ct) rb T u ∧ Wr (nd l) l.length m T ∧ Kp (fun i => i < w2.heap.size) w2 u) _
      ⟨0, _, Nat.zero_le _, rfl, h5, hT, ⟨fun i k _ _ h => .one (by simpa using h), fun i k _ _ h => by simpa using h.zero⟩, hk⟩ ?_
    clear h5 h4 h3 hT hk
    rintro c a6 u ⟨m, T, hm, rfl, h6, hT, hWr, hk⟩
    refine ⟨_, p23_12 h100 h6, ?_⟩
    rintro a7 w7 ⟨h7, rfl⟩
    by_cases hlm : m < l.length
    · refine .inr ⟨h7.hd (by simp [hlm]), ?_⟩
      refine wp_seq (wp_block ?_)
      refine wp_then (p23_14 h7.tl) fun a8 w8 h => ?_
      obtain ⟨h8, rfl⟩ := h
      refine wp_while (t := 52) (fun c a u => ∃ i T', i ≤ l.length ∧ c = l.length - i ∧ Fl 93 [(0, .slice (some ⟨b, o, none⟩) l.length nv0), (3, .slice (some ⟨g, 0, none⟩) l.length ct), (7, I (m : Nat)), (8, I (i : Nat))] a ∧ Tab (fun i => i < w2.heap.size) l.length l.length (.slice (some ⟨g, 0, none⟩) l.length ct) rb T' u ∧ Wm (nd l) l.length m T i 0 T' ∧ Kp (fun i => i < w2.heap.size) w2 u) _
        ⟨0, _, Nat.zero_le _, rfl, h8, hT, hWr.wm, hk⟩ ?_
      clear h8 h7 h6 hT hk
      rintro c a9 u ⟨i, T1, hi, rfl, h9, hT, hW1, hk⟩
      refine ⟨_, p23_15 h100 h9, ?_⟩
      rintro a10 w10 ⟨h10, rfl⟩
      by_cases hli : i < l.length
      · refine .inr ⟨h10.hd (by simp [hli]), ?_⟩
        refine wp_seq (wp_block ?_)
        refine wp_then (p23_17 h10.tl) fun a11 w11 h => ?_
        obtain ⟨h11, rfl⟩ := h
        refine wp_while (t := 67) (fun c a u => ∃ k T', k ≤ l.length ∧ c = l.length - k ∧ Fl 93 [(0, .slice (some ⟨b, o, none⟩) l.length nv0), (3, .slice (some ⟨g, 0, none⟩) l.length ct), (7, I (m : Nat)), (8, I (i : Nat)), (9, I (k : Nat))] a ∧ Tab (fun i => i < w2.heap.size) l.length l.length (.slice (some ⟨g, 0, none⟩) l.length ct) rb T' u ∧ Wm (nd l) l.length m T i k T' ∧ Kp (fun i => i < w2.heap.size) w2 u) _
          ⟨0, _, Nat.zero_le _, rfl, h11, hT, hW1, hk⟩ ?_
        clear h11 h10 h9 hT hk hW1
        rintro c a12 u ⟨k, T2, hkl, rfl, h12, hT, hW, hk⟩
        obtain ⟨g', ct', e, -, hcl⟩ := hT.cells hpos
        cases e
        have out : ∀ {a' : Act} {w' : World}, Fl 93 [(0, .slice (some ⟨b, o, none⟩) l.length nv0), (3, .slice (some ⟨g, 0, none⟩) l.length ct), (7, I (m : Nat)), (8, I (i : Nat)), (9, I (k : Nat))] a' → w' = u → (k = l.length ∨ T2 i m = false) →
            q23_16.wp Try.prog (fun e a' w' => e = .normal ∧ (∃ n', n' < l.length - i ∧ ∃ i T', i ≤ l.length ∧ n' = l.length - i ∧ Fl 93 [(0, .slice (some ⟨b, o, none⟩) l.length nv0), (3, .slice (some ⟨g, 0, none⟩) l.length ct), (7, I (m : Nat)), (8, I (i : Nat))] a' ∧ Tab (fun i => i < w2.heap.size) l.length l.length (.slice (some ⟨g, 0, none⟩) l.length ct) rb T' w' ∧ Wm (nd l) l.length m T i 0 T' ∧ Kp (fun i => i < w2.heap.size) w2 w')) a' w' := by
          intro a' w' hA he hex
          subst he
          refine wp_last (p23_16 (b := b) (o := o) (n := l.length) (cap := nv0) (tv := .slice (some ⟨g, 0, none⟩) l.length ct) (m := m) (i := i) (by omega) (hA.sub (by simp))) fun a14 w14 h => ?_
          obtain ⟨h14, rfl⟩ := h
          exact ⟨rfl, l.length - (i + 1), by omega, i + 1, T2, by omega, rfl, h14, hT, hW.next hlm hli hex, hk⟩
        by_cases hlk : k < l.length
        · refine ⟨_, p23_18_a (rm := 0) (z := true) (y := T2 i m) h100 hlk hli hlm (hcl i hli) (hT.cell hli hlm) h12, ?_⟩
          rintro a13 w13 ⟨h13, rfl⟩
          cases hTm : T2 i m with
          | false =>
            refine .inl ⟨h13.hf hTm, ?_⟩
            refine wp_mono (out h13.tl rfl (.inr hTm)) fun e a w h => ?_
            obtain ⟨rfl, h⟩ := h
            exact h
          | true =>
            refine .inr ⟨h13.hd hTm, ?_⟩
            refine wp_seq (wp_block ?_)
            have fin : ∀ {a' : Act} {w' : World} {cc : Bool}, cc = (T2 i k || T2 m k) → Fl 93 [(0, .slice (some ⟨b, o, none⟩) l.length nv0), (3, .slice (some ⟨g, 0, none⟩) l.length ct), (7, I (m : Nat)), (8, I (i : Nat)), (9, I (k : Nat))] a' → w'.heap = (w13.setCell ⟨rb i, k, none⟩ (.bool cc)).heap → w'.os = w13.os → w'.tape = w13.tape → w'.output = w13.output →
                q23_19.wp Try.prog (fun e a' w' => e = .normal ∧ (∃ n', n' < l.length - k ∧ ∃ k T', k ≤ l.length ∧ n' = l.length - k ∧ Fl 93 [(0, .slice (some ⟨b, o, none⟩) l.length nv0), (3, .slice (some ⟨g, 0, none⟩) l.length ct), (7, I (m : Nat)), (8, I (i : Nat)), (9, I (k : Nat))] a' ∧ Tab (fun i => i < w2.heap.size) l.length l.length (.slice (some ⟨g, 0, none⟩) l.length ct) rb T' w' ∧ Wm (nd l) l.length m T i k T' ∧ Kp (fun i => i < w2.heap.size) w2 w')) a' w' := by
              intro a' w' cc hcc hA hh h1 h2 h3
              refine wp_last (p23_19 (by omega) hA) fun a14 w14 h => ?_
              obtain ⟨h14, rfl⟩ := h
              subst hcc
              exact ⟨rfl, l.length - (k + 1), by omega, k + 1, _, by omega, rfl, h14, hT.set hli k _ hh, hW.set hlm hli hlk hTm, hk.trans (hT.kpSet hli k _ hh h1 h2 h3)⟩
            cases hTk : T2 i k with
            | true =>
              refine wp_last (wp_nrm (p23_20_a h100 hlk hli hlm (hcl i hli) (hcl m hlm) (by rw [hT.cell hli hlk, hTk]) ((hT.row i hli).frozen k) (hT.cell hlm hlk) h13.tl)) fun a14 w14 h => ?_
              obtain ⟨h14, hh, h1, h2, h3⟩ := h
              show Code.wp _ _ _ _ _
              refine wp_mono (fin (by rw [hTk]; rfl) h14 hh h1 h2 h3) fun e a w h => ?_
              obtain ⟨rfl, h⟩ := h
              exact h
            | false =>
              refine wp_last (wp_nrm (p23_20_b h100 hlk hli hlm (hcl i hli) (hcl m hlm) (by rw [hT.cell hli hlk, hTk]) ((hT.row i hli).frozen k) (hT.cell hlm hlk) h13.tl)) fun a14 w14 h => ?_
              obtain ⟨h14, hh, h1, h2, h3⟩ := h
              show Code.wp _ _ _ _ _
              refine wp_mono (fin (by rw [hTk]; rfl) h14 hh h1 h2 h3) fun e a w h => ?_
              obtain ⟨rfl, h⟩ := h
              exact h
        · refine ⟨_, p23_18_b (ri := 0) (rm := 0) (y := true) (z := true) h100 (by omega) h12, ?_⟩
          rintro a13 w13 ⟨h13, rfl⟩
          refine .inl ⟨h13.hf rfl, ?_⟩
          refine wp_mono (out h13.tl rfl (.inl (by omega))) fun e a w h => ?_
          obtain ⟨rfl, h⟩ := h
          exact h
      · refine .inl ⟨h10.hf (by simp [hli]), ?_⟩
        have hie : i = l.length := by omega
        subst hie
        show Code.wp _ _ _ _ _
        refine wp_last (p23_13 (b := b) (o := o) (n := l.length) (cap := nv0) (tv := .slice (some ⟨g, 0, none⟩) l.length ct) (m := m) (by omega) (h10.sub (by simp))) fun a11 w11 h => ?_
        obtain ⟨h11, rfl⟩ := h
        exact ⟨l.length - (m + 1), by omega, m + 1, T1, by omega, rfl, h11, hT, hW1.done hlm hWr, hk⟩
    · refine .inl ⟨h7.hf (by simp [hlm]), ?_⟩
      have hme : m = l.length := by omega
      subst hme
      show Code.wp _ _ _ _ _
      refine wp_then (p23_21 (b := b) (o := o) (n := l.length) (cap := nv0) (tv := .slice (some ⟨g, 0, none⟩) l.length ct) (h7.sub (by simp))) fun a8 w8 h => ?_
      obtain ⟨h8, rfl⟩ := h
      exact wp_ret (fin1 rfl h8 _ (.head _) ⟨⟨rb, T, hT, fun i k hi hk => hWr.all (nd_lt hR) hi hk⟩, hk⟩)
end Go.Proofs.Ytgohfdgkihoilaa.Rcp
