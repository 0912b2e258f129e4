/- Which keys are asked for (24). -/
import Derived.Test.YtgohfdgkihoilaaAsdP
import Derived.Test.YtgohfdgkihoilaaFat
set_option linter.unusedSimpArgs false
set_option linter.unusedVariables false
namespace Go.Proofs.Ytgohfdgkihoilaa.Rcp
open Go Go.RowKit Go.Deep Go.Maps

/-- What is marked, and what is to be done. -/
structure Wk (C : Nat → Prop) (N : Nat → List Nat) (n : Nat) (ks : List Nat) (M : Nat → Bool) (L : List Nat) : Prop where
  marks : ∀ k, M k = true → k < n ∧ Askd C N ks k
  todo : ∀ k ∈ L, k < n ∧ Askd C N ks k
  all : ∀ k ∈ ks, M k = true ∨ k ∈ L
  clo : ∀ j, M j = true → ∀ i ∈ upto C (N j), M i = true ∨ i ∈ L
theorem Wk.skip {C : Nat → Prop} {N : Nat → List Nat} {n : Nat} {ks : List Nat} {M : Nat → Bool} {k : Nat} {L : List Nat} (h : Wk C N n ks M (k :: L)) (hk : M k = true) : Wk C N n ks M L where
  marks := h.marks
  todo j hj := h.todo j (by simp [hj])
  all j hj := by
    rcases h.all j hj with h | h
    · exact .inl h
    · rcases List.mem_cons.1 h with rfl | h
      · exact .inl hk
      · exact .inr h
  clo j hj i hi := by
    rcases h.clo j hj i hi with h | h
    · exact .inl h
    · rcases List.mem_cons.1 h with rfl | h
      · exact .inl hk
      · exact .inr h
theorem Wk.mark {C : Nat → Prop} {N : Nat → List Nat} {n : Nat} {ks : List Nat} {M : Nat → Bool} {k : Nat} {L : List Nat} (hN : ∀ k, k < n → ∀ j ∈ N k, j < n) (h : Wk C N n ks M (k :: L)) : Wk C N n ks (fun i => i == k || M i) (L ++ upto C (N k)) := by
  have hk := h.todo k (by simp)
  have mv : ∀ i, M i = true ∨ i ∈ k :: L → ((i == k || M i) = true) ∨ i ∈ L ++ upto C (N k) := fun i hi => by
    rcases hi with hi | hi
    · exact .inl (by simp [hi])
    · rcases List.mem_cons.1 hi with rfl | hi
      · exact .inl (by simp)
      · exact .inr (by simp [hi])
  refine ⟨fun i hi => ?_, fun i hi => ?_, fun i hi => mv i (h.all i hi), fun j hj i hi => ?_⟩
  · simp at hi
    rcases hi with rfl | hi
    · exact hk
    · exact h.marks i hi
  · rcases List.mem_append.1 hi with hi | hi
    · exact h.todo i (by simp [hi])
    · exact ⟨hN k hk.1 i (upto_sub _ _ hi), .step hk.2 hi⟩
  · simp at hj
    rcases hj with rfl | hj
    · exact .inr (by simp [hi])
    · exact mv i (h.clo j hj i hi)
theorem Wk.done {C : Nat → Prop} {N : Nat → List Nat} {n : Nat} {ks : List Nat} {M : Nat → Bool} (h : Wk C N n ks M []) (k : Nat) : M k = true ↔ Askd C N ks k := by
  refine ⟨fun hk => (h.marks k hk).2, fun hk => ?_⟩
  induction hk with
  | base hk => exact (h.all _ hk).resolve_right (by simp)
  | step _ hk ih => exact (h.clo _ ih _ hk).resolve_right (by simp)
theorem valid_lt (l : List Rc) : ∀ (ks : List Int), ∀ k ∈ valid l ks, k < l.length
  | [], k, h => by cases h
  | x :: r, k, h => by
    unfold valid at h
    split at h
    · rcases List.mem_cons.1 h with rfl | h
      · omega
      · exact valid_lt l r k h
    · exact valid_lt l r k h
theorem valid_len (l : List Rc) : ∀ (ks : List Int), (valid l ks).length ≤ ks.length
  | [] => Nat.le_refl _
  | x :: r => by
    have := valid_len l r
    unfold valid
    split
    · simp; omega
    · simp; omega
theorem rowIs_kp {Z : Nat → Prop} {w w' : World} {b t n : Nat} {f : Nat → Value} (h : w.rowIs b t n f) (k : Kp Z w w') (hb : Z b) : w'.rowIs b t n f := h.of_block (k.block b hb)

set_option maxHeartbeats 2000000 in
theorem asked_any {Z : Nat → Prop} {w : World} {x0 x1 : Value} {l : List Rc} {keys : List Int} (hl : RL Z w x0 l) (hks : IL Z w x1 keys) (hZ : ∀ i, Z i → i < w.heap.size) (hR : RIGHT l) (h300 : keys.length ≤ 300) :
    Calls Try.prog 24 #[x0, x1] w (Ret fun r w' => (∃ (ob : Nat) (M : Nat → Bool), r = .slice (some ⟨ob, 0, none⟩) l.length l.length ∧ w.heap.size ≤ ob ∧ w'.rowIs ob 4 l.length (fun k => .bool (M k)) ∧ ∀ k, M k = true ↔ Askd (CC l) (nd l) (valid l keys) k) ∧ Kp (fun i => i < w.heap.size) w w') := by
  have h100 := short100 hR
  have hpos : 0 < l.length := hR.good.1
  have hN := nd_lt hR
  have hv : ∃ b o cap, x0 = .slice (some ⟨b, o, none⟩) l.length cap := by
    obtain ⟨p, cap, rfl, -, h2⟩ := hl
    obtain ⟨blk, off, nv, rfl, -⟩ := h2 0 _ (getD_some hpos r0)
    exact ⟨blk, off, cap, rfl⟩
  obtain ⟨b, o, cap, rfl⟩ := hv
  obtain ⟨kp, kc, rfl, -, -⟩ := id hks
  refine in24 fun a hA => ?_
  rw [e24]
  refine wp_then (p24_0 hA) fun a0 w0 h => ?_
  obtain ⟨h0, rfl⟩ := h
  refine wp_then (p24_1 h100 h0) fun a1 w1 h => ?_
  obtain ⟨h1, rfl⟩ := h
  have hmade := World.rowIs_made w0 (.bool false) l.length 4
  have kA : Kp (fun i => i < w0.heap.size) w0 (w0.alloc (.cells (madeCells #[.bool false] l.length) 4)) := Kp.alloc (fun _ h => h) _
  have sA : (w0.alloc (.cells (madeCells #[.bool false] l.length) 4)).heap.size = w0.heap.size + 1 := by simp
  generalize w0.alloc (.cells (madeCells #[.bool false] l.length) 4) = W at hmade kA sA
  refine wp_then (p24_2 h1) fun a2 w2 h => ?_
  obtain ⟨h2, rfl⟩ := h
  refine wp_seq (wp_then (p24_3 h2) fun a3 w3 h => ?_)
  obtain ⟨h3, rfl⟩ := h
  refine wp_while (t := 18) (fun c a u => ∃ i tq, i ≤ keys.length ∧ c = keys.length - i ∧ Fl 94 [(0, .slice (some ⟨b, o, none⟩) l.length cap), (1, .slice kp keys.length kc), (5, .slice (some ⟨w0.heap.size, 0, none⟩) l.length l.length), (6, tq), (7, I (i : Nat))] a ∧ QI (fun j => j < w3.heap.size) u tq ((valid l (keys.take i)).map Int.ofNat) ∧ Kp (fun j => j < w3.heap.size) w3 u) _
    ⟨0, _, Nat.zero_le _, rfl, h3, .inl ⟨rfl, rfl⟩, Kp.refl _ _⟩ ?_
  clear h3 h2 h1 h0 hA
  rintro c a4 u ⟨i, tq, hi, rfl, h4, hq, ku⟩
  refine ⟨_, p24_4 h300 h4, ?_⟩
  rintro a5 w5 ⟨h5, rfl⟩
  have k05 : Kp (fun j => j < w0.heap.size) w0 w5 := kA.trans (ku.mono fun j hj => by omega)
  by_cases hli : i < keys.length
  · refine .inr ⟨h5.hd (by simp [hli]), ?_⟩
    obtain ⟨kb, ko, rfl, -, hcx⟩ := (hks.kp (k05.mono hZ)).at hli
    have htk : keys.take (i + 1) = keys.take i ++ [keys.getD i 0] := by rw [List.take_add_one, getD_some hli 0]; rfl
    generalize keys.getD i 0 = x at hcx htk
    refine wp_seq (wp_block ?_)
    -- one key more
    have more : ∀ {a' : Act} {v' : World} {tq' : Value}, Fl 94 [(0, .slice (some ⟨b, o, none⟩) l.length cap), (1, .slice (some ⟨kb, ko, none⟩) keys.length kc), (5, .slice (some ⟨w0.heap.size, 0, none⟩) l.length l.length), (6, tq'), (7, I (i : Nat))] a' → QI (fun j => j < w3.heap.size) v' tq' ((valid l (keys.take (i + 1))).map Int.ofNat) → Kp (fun j => j < w3.heap.size) w3 v' →
        q24_5.wp Try.prog (fun e a'' w'' => e = .normal ∧ (∃ n', n' < keys.length - i ∧ ∃ i tq, i ≤ keys.length ∧ n' = keys.length - i ∧ Fl 94 [(0, .slice (some ⟨b, o, none⟩) l.length cap), (1, .slice (some ⟨kb, ko, none⟩) keys.length kc), (5, .slice (some ⟨w0.heap.size, 0, none⟩) l.length l.length), (6, tq), (7, I (i : Nat))] a'' ∧ QI (fun j => j < w3.heap.size) w'' tq ((valid l (keys.take i)).map Int.ofNat) ∧ Kp (fun j => j < w3.heap.size) w3 w'')) a' v' := by
      intro a' v' tq' hA' hq' hk'
      refine wp_last (p24_5 (by omega) hA') fun a6 w6 h => ?_
      obtain ⟨h6, rfl⟩ := h
      exact ⟨rfl, keys.length - (i + 1), by omega, i + 1, tq', by omega, rfl, h6, hq', hk'⟩
    by_cases hx0 : 0 ≤ x
    · refine wp_then (p24_6_b h300 hli hcx hx0 h5.tl) fun a6 w6 h => ?_
      obtain ⟨h6, rfl⟩ := h
      by_cases hxn : x < (l.length : Int)
      · refine wp_cond_true (h6.hd (by simp [hxn])) ?_
        have hlen : ((valid l (keys.take i)).map Int.ofNat).length ≤ 1000000 := by rw [List.length_map]; have := valid_len l (keys.take i); rw [List.length_take] at this; omega
        refine wp_last (p24_7 h300 hli hcx hq (fun j hj => Nat.lt_of_lt_of_le hj ku.size) hlen h6.tl) fun a7 w7 h => ?_
        obtain ⟨tq', h7, hq7, k7, -⟩ := h
        show Code.wp _ _ _ _ _
        have e : (valid l (keys.take (i + 1))).map Int.ofNat = (valid l (keys.take i)).map Int.ofNat ++ [x] := by
          rw [htk, valid_app, List.map_append]
          have e2 : valid l [x] = [x.toNat] := by simp only [valid]; rw [if_pos ⟨hx0, hxn⟩]
          rw [e2]
          congr 1
          show [Int.ofNat x.toNat] = [x]
          congr 1
          show ((x.toNat : Nat) : Int) = x
          omega
        refine wp_mono (more h7 (by rw [e]; exact hq7) (ku.trans k7)) fun e a w h => ?_
        obtain ⟨rfl, h⟩ := h
        exact h
      · refine wp_cond_false (h6.hf (by simp; omega)) (wp_skip ?_)
        show Code.wp _ _ _ _ _
        have e : valid l (keys.take (i + 1)) = valid l (keys.take i) := by
          rw [htk, valid_app]
          simp [valid, hxn]
        refine wp_mono (more h6.tl (by rw [e]; exact hq) ku) fun e a w h => ?_
        obtain ⟨rfl, h⟩ := h
        exact h
    · refine wp_then (p24_6_a h300 hli hcx (decide_eq_false hx0) h5.tl) fun a6 w6 h => ?_
      obtain ⟨h6, rfl⟩ := h
      refine wp_cond_false (h6.hf rfl) (wp_skip ?_)
      show Code.wp _ _ _ _ _
      have e : valid l (keys.take (i + 1)) = valid l (keys.take i) := by
        rw [htk, valid_app]
        simp [valid, hx0]
      refine wp_mono (more h6.tl (by rw [e]; exact hq) ku) fun e a w h => ?_
      obtain ⟨rfl, h⟩ := h
      exact h
  · refine .inl ⟨h5.hf (by simp [hli]), ?_⟩
    have hie : i = keys.length := by omega
    subst hie
    rw [List.take_length] at hq
    have hrow : w5.rowIs w0.heap.size 4 l.length (fun k => .bool false) := rowIs_kp hmade ku (by omega)
    have hq5 : QI (fun j => j < w0.heap.size ∨ j = w0.heap.size) w5 tq ((valid l keys).map Int.ofNat) := by
      rcases hq with h | ⟨g, off, cp, cur, e, hz, r⟩
      · exact .inl h
      · exact .inr ⟨g, off, cp, cur, e, fun h => hz (by show g < w3.heap.size; omega), r⟩
    show Code.wp _ _ _ _ _
    refine wp_seq (wp_while (t := 44) (fun c a u => ∃ (tq : Value) (M : Nat → Bool) (L : List Nat), c = 21 * cnt l.length (fun k => M k = false) + L.length ∧ c ≤ 2400 ∧ Fl 94 [(0, .slice (some ⟨b, o, none⟩) l.length cap), (1, .slice kp keys.length kc), (5, .slice (some ⟨w0.heap.size, 0, none⟩) l.length l.length), (6, tq)] a ∧ QI (fun j => j < w0.heap.size ∨ j = w0.heap.size) u tq (L.map Int.ofNat) ∧ u.rowIs w0.heap.size 4 l.length (fun k => .bool (M k)) ∧ Wk (CC l) (nd l) l.length (valid l keys) M L ∧ Kp (fun j => j < w0.heap.size) w0 u) _
      ⟨tq, fun _ => false, valid l keys, rfl, ?_, h5.sub (by simp), hq5, hrow, ⟨fun k hk => (by cases hk), fun k hk => ⟨valid_lt l _ k hk, .base hk⟩, fun k hk => .inr hk, fun j hj => (by cases hj)⟩, k05⟩ ?_)
    · have := cnt_le_m l.length (fun k => (fun _ => false : Nat → Bool) k = false)
      have := valid_len l keys
      omega
    clear h5 h4 hq hq5 hrow ku k05
    rintro c a6 u ⟨tq, M, L, rfl, hc, h6, hq, hrow, hW, ku⟩
    obtain ⟨tp, tc, rfl⟩ := hq.shape
    rw [List.length_map] at h6 hq
    refine ⟨_, p24_8 (by omega) h6, ?_⟩
    rintro a7 w7 ⟨h7, rfl⟩
    cases L with
    | nil =>
      refine .inl ⟨h7.hf (by simp), ?_⟩
      show Code.wp _ _ _ _ _
      refine wp_then (p24_19 (b := b) (o := o) (n := l.length) (cap := cap) (kv := .slice kp keys.length kc) (ob := w0.heap.size) (h7.sub (by simp))) fun a8 w8 h => ?_
      obtain ⟨h8, rfl⟩ := h
      exact wp_ret (fin1 rfl h8 _ (.head _) ⟨⟨w0.heap.size, M, rfl, Nat.le_refl _, hrow, hW.done⟩, ku⟩)
    | cons k L =>
      refine .inr ⟨h7.hd (by simp), ?_⟩
      refine wp_block ?_
      obtain ⟨g, off, cp, e, hcx, hq', hcp, hlc⟩ := QI.head (x := (k : Int)) (xs := L.map Int.ofNat) hq
      have hkn : k < l.length := (hW.todo k (by simp)).1
      rw [List.length_map] at e hq' hlc
      have e' : tp = some ⟨g, off, none⟩ ∧ tc = cp + 1 := by injection e with e1 e2 e3; exact ⟨e1, e3⟩
      obtain ⟨rfl, rfl⟩ := e'
      refine wp_then (p24_9 (tn := L.length) (by simp at hc; omega) hcx h7.tl) fun a8 w8 h => ?_
      obtain ⟨h8, rfl⟩ := h
      have popped : q24_10.wp Try.prog (fun e a' w' => e = .normal ∧ ∃ tq', (Fl 94 [(0, .slice (some ⟨b, o, none⟩) l.length cap), (1, .slice kp keys.length kc), (5, .slice (some ⟨w0.heap.size, 0, none⟩) l.length l.length), (6, tq'), (8, I (k : Nat))] a' ∧ QI (fun j => j < w0.heap.size ∨ j = w0.heap.size) w8 tq' (L.map Int.ofNat) ∧ w' = w8)) a8 w8 := by
        by_cases h0 : cp = 0
        · subst h0
          have hL0 : L = [] := List.eq_nil_of_length_eq_zero (by omega)
          subst hL0
          refine wp_mono (p24_10_b h8) fun e a w h => ?_
          obtain ⟨he, h1, h2⟩ := h
          refine ⟨he, _, h1, ?_, h2⟩
          rcases hq' with ⟨h, _⟩ | ⟨g', off', cap', cur, e, hz, hb, x1, x2, x3, x4⟩
          · cases h
          · cases e
            exact .inr ⟨g, off, 0, cur, rfl, hz, hb, by omega, Nat.le_refl _, by unfold maxLen; omega, fun i y hi => by simp at hi⟩
        · refine wp_mono (p24_10_a hlc hcp h0 h8) fun e a w h => ?_
          obtain ⟨he, h1, h2⟩ := h
          exact ⟨he, _, h1, hq', h2⟩
      refine wp_then popped fun a9 w9 h => ?_
      obtain ⟨tq, h9, hq9, rfl⟩ := h
      clear popped hq hq' hcx
      refine wp_seq (wp_then (p24_11 (y := M k) h100 hkn (hrow.cell hkn) h9) fun a10 w10 h => ?_)
      obtain ⟨h10, rfl⟩ := h
      cases hMk : M k with
      | true =>
        refine wp_cond_true (h10.hd hMk) (wp_exit ?_)
        show ∃ n', n' < 21 * cnt l.length (fun k => M k = false) + (k :: L).length ∧ ∃ (tq : Value) (M : Nat → Bool) (L : List Nat), n' = 21 * cnt l.length (fun k => M k = false) + L.length ∧ n' ≤ 2400 ∧ Fl 94 [(0, .slice (some ⟨b, o, none⟩) l.length cap), (1, .slice kp keys.length kc), (5, .slice (some ⟨w0.heap.size, 0, none⟩) l.length l.length), (6, tq)] a10 ∧ QI (fun j => j < w0.heap.size ∨ j = w0.heap.size) w10 tq (L.map Int.ofNat) ∧ w10.rowIs w0.heap.size 4 l.length (fun k => .bool (M k)) ∧ Wk (CC l) (nd l) l.length (valid l keys) M L ∧ Kp (fun j => j < w0.heap.size) w0 w10
        exact ⟨21 * cnt l.length (fun k => M k = false) + L.length, by simp, tq, M, L, rfl, by simp at hc; omega, h10.sub (by simp), hq9, hrow, hW.skip hMk, ku⟩
      | false =>
        refine wp_cond_false (h10.hf hMk) (wp_skip ?_)
        refine wp_then (p24_12 h100 hkn (hrow.cell hkn) (hrow.frozen k) h10.tl) fun a11 w11 h => ?_
        obtain ⟨h11, rfl⟩ := h
        have hrow1 : (w10.setCell ⟨w0.heap.size, k, none⟩ (.bool true)).rowIs w0.heap.size 4 l.length (fun i => .bool (i == k || M i)) := (hrow.set k (.bool true)).congr fun i hi => by
          by_cases e : i = k
          · simp [e]
          · simp [e]
        have hq1 : QI (fun j => j < w0.heap.size ∨ j = w0.heap.size) (w10.setCell ⟨w0.heap.size, k, none⟩ (.bool true)) tq (L.map Int.ofNat) := hq9.stay fun g hg => Below.heap_setCell _ _ _ _ (fun e => (hq9.lt g hg).2 (.inr e))
        have ku1 : Kp (fun j => j < w0.heap.size) w0 (w10.setCell ⟨w0.heap.size, k, none⟩ (.bool true)) := ku.trans (Kp.setCell (Z := fun j => j < w0.heap.size) (p := ⟨w0.heap.size, k, none⟩) (show ¬ w0.heap.size < w0.heap.size from Nat.lt_irrefl _) _)
        generalize w10.setCell ⟨w0.heap.size, k, none⟩ (.bool true) = W1 at hrow1 hq1 ku1
        refine wp_then (p24_13 h11) fun a12 w12 h => ?_
        obtain ⟨h12, rfl⟩ := h
        have hcnt : cnt l.length (fun i => (i == k || M i) = false) < cnt l.length (fun i => M i = false) := cnt_lt (fun i _ h => by simp at h; exact h.2) hkn (by simp) hMk
        have hnd20 := nd_len hR hkn
        have hndl : (nd l k).length = (l.getD k r0).needs.length := by simp [nd]
        -- the end, whichever way
        have fin : ∀ {a' : Act} {v' : World} {tq' : Value} {t : Nat}, Fl 94 [(0, .slice (some ⟨b, o, none⟩) l.length cap), (1, .slice kp keys.length kc), (5, .slice (some ⟨w0.heap.size, 0, none⟩) l.length l.length), (6, tq'), (8, I (k : Nat)), (9, I (t : Nat))] a' → QI (fun j => j < w0.heap.size ∨ j = w0.heap.size) v' tq' ((L ++ upto (CC l) (nd l k)).map Int.ofNat) → v'.rowIs w0.heap.size 4 l.length (fun i => .bool (i == k || M i)) → Kp (fun j => j < w0.heap.size) w0 v' → ∃ n', n' < 21 * cnt l.length (fun k => M k = false) + (k :: L).length ∧ ∃ (tq : Value) (M : Nat → Bool) (L : List Nat), n' = 21 * cnt l.length (fun k => M k = false) + L.length ∧ n' ≤ 2400 ∧ Fl 94 [(0, .slice (some ⟨b, o, none⟩) l.length cap), (1, .slice kp keys.length kc), (5, .slice (some ⟨w0.heap.size, 0, none⟩) l.length l.length), (6, tq)] a' ∧ QI (fun j => j < w0.heap.size ∨ j = w0.heap.size) v' tq (L.map Int.ofNat) ∧ v'.rowIs w0.heap.size 4 l.length (fun k => .bool (M k)) ∧ Wk (CC l) (nd l) l.length (valid l keys) M L ∧ Kp (fun j => j < w0.heap.size) w0 v' := by
          intro a' v' tq' t hA' hq' hr' hk'
          have hul : (upto (CC l) (nd l k)).length ≤ 20 := by
            refine Nat.le_trans ?_ hnd20
            generalize nd l k = ks
            induction ks with
            | nil => exact Nat.le_refl _
            | cons x r ih =>
              unfold upto
              split
              · simpa using ih
              · simp
          refine ⟨21 * cnt l.length (fun i => (i == k || M i) = false) + (L ++ upto (CC l) (nd l k)).length, ?_, tq', fun i => (i == k || M i), L ++ upto (CC l) (nd l k), rfl, ?_, hA'.sub (by simp), hq', hr', hW.mark hN, hk'⟩
          · simp only [List.length_append, List.length_cons]; omega
          · simp only [List.length_append, List.length_cons] at hc ⊢; omega
        refine wp_while (t := 64) (fun c a u => ∃ t tq, t ≤ (l.getD k r0).needs.length ∧ c = (l.getD k r0).needs.length - t ∧ Fl 94 [(0, .slice (some ⟨b, o, none⟩) l.length cap), (1, .slice kp keys.length kc), (5, .slice (some ⟨w0.heap.size, 0, none⟩) l.length l.length), (6, tq), (8, I (k : Nat)), (9, I (t : Nat))] a ∧ (∀ j ∈ (nd l k).take t, CC l j) ∧ QI (fun j => j < w0.heap.size ∨ j = w0.heap.size) u tq ((L ++ (nd l k).take t).map Int.ofNat) ∧ u.rowIs w0.heap.size 4 l.length (fun i => .bool (i == k || M i)) ∧ Kp (fun j => j < w0.heap.size) w0 u) _
          ⟨0, tq, Nat.zero_le _, rfl, h12, fun j hj => by simp at hj, by simpa using hq1, hrow1, ku1⟩ ?_
        clear h12 h11 h10 h9 h8 h7 hq1 hrow1 ku1 hq9 ku hrow
        rintro c a13 u ⟨t, tq, ht, rfl, h13, hCt, hq, hrow, ku⟩
        have hlu := hl.kp (ku.mono hZ)
        have hZu := (ku.mono hZ).lt hZ
        obtain ⟨b', o', nv, e, -, -, hn, c0, -⟩ := hlu.at hkn
        cases e
        have hn' := hn
        obtain ⟨q, nc, rfl, hqq, -⟩ := hn
        have hnn : (l.getD k r0).needs.length ≤ 20 := by omega
        refine ⟨_, p24_14 h100 c0 hkn hnn h13, ?_⟩
        rintro a14 w14 ⟨h14, rfl⟩
        by_cases hlt : t < (l.getD k r0).needs.length
        · refine .inr ⟨h14.hd (by simp only [decide_eq_true_eq]; exact hlt), ?_⟩
          obtain ⟨nb, no, rfl, -, hx⟩ := hn'.at hlt
          obtain ⟨x, hxe, hxl, hxm, -⟩ := needs_ok hR hkn hlt
          rw [hxe] at hx
          have hnx : (nd l k)[t]? = some x := by unfold nd; rw [List.getElem?_map, getD_some hlt 0, hxe]; simp
          have htk : (nd l k).take (t + 1) = (nd l k).take t ++ [x] := by rw [List.take_add_one, hnx]; rfl
          refine wp_seq (wp_block ?_)
          have hlenq : ((L ++ (nd l k).take t).map Int.ofNat).length ≤ 1000000 := by rw [List.length_map, List.length_append, List.length_take]; simp only [List.length_cons] at hc; omega
          refine wp_then (p24_16 h100 c0 hkn hnn hlt hx hq (fun j hj => by rcases hj with hj | rfl; exact Nat.lt_of_lt_of_le hj ku.size; exact hrow.lt) hlenq h14.tl) fun a15 w15 h => ?_
          obtain ⟨tq', h15, hq15, k15, -⟩ := h
          have hq16 : QI (fun j => j < w0.heap.size ∨ j = w0.heap.size) w15 tq' ((L ++ (nd l k).take (t + 1)).map Int.ofNat) := by
            rw [htk, ← List.append_assoc, List.map_append]
            exact hq15
          have hrow15 := rowIs_kp hrow k15 (.inr rfl)
          have ku15 := ku.trans (k15.mono fun j hj => .inl hj)
          have hl15 := hl.kp (ku15.mono hZ)
          have hZ15 := (ku15.mono hZ).lt hZ
          obtain ⟨b', o', nv, e, -, -, hn15, d0, -⟩ := hl15.at hkn
          cases e
          obtain ⟨q', nc', e, -, -⟩ := id hn15
          obtain ⟨is, his⟩ : ∃ is : Bool, is = true ↔ FateB l x := by
            by_cases h : FateB l x
            · exact ⟨true, by simp [h]⟩
            · exact ⟨false, by simp [h]⟩
          subst e
          have hd0 : w15.cell? ⟨b, o + k * 5, none⟩ = some (.slice (some ⟨nb, no, none⟩) (l.getD k r0).needs.length nc) := (k15.mono fun j hj => .inl hj : Kp (fun j => j < w0.heap.size) w14 w15).cell (p := ⟨b, o + k * 5, none⟩) (by obtain ⟨b'', o'', nv'', e'', hz'', -⟩ := hl.at hkn; cases e''; exact hZ _ hz'') c0
          have hx15 := ((hn'.kp ((k15.mono fun j hj => .inl (hZ j hj)))).at hlt)
          obtain ⟨nb', no', e, -, hx15⟩ := hx15
          cases e
          rw [hxe] at hx15
          refine wp_then (p24_17 (is := is) h100 hd0 hkn hnn hlt hx15 hl15 hZ15 (by omega) his h15) fun a16 w16 h => ?_
          obtain ⟨h16, k16⟩ := h
          refine wp_then (p24_18 h16) fun a17 w17 h => ?_
          obtain ⟨h17, rfl⟩ := h
          have hq17 := hq16.kp k16
          have hrow17 : w17.rowIs w0.heap.size 4 l.length (fun i => .bool (i == k || M i)) := hrow15.of_block (k16.block _ hrow15.lt)
          have ku17 := ku15.after k16
          have hCx : is = true ↔ CC l x := his.trans (fateB_nat hR hxl)
          cases is with
          | false =>
            refine wp_cond_true (h17.hd rfl) (wp_exit ?_)
            have hu : upto (CC l) (nd l k) = (nd l k).take (t + 1) := by
              have e : nd l k = (nd l k).take t ++ x :: (nd l k).drop (t + 1) := by
                conv => lhs; rw [← List.take_append_drop (t + 1) (nd l k), htk]
                simp
              conv => lhs; rw [e]
              rw [upto_stop _ _ _ hCt (fun h => by have := hCx.2 h; cases this), htk]
            exact fin h17.tl (by rw [hu]; exact hq17) hrow17 ku17
          | true =>
            refine wp_cond_false (h17.hf rfl) (wp_skip ?_)
            show Code.wp _ _ _ _ _
            refine wp_last (p24_15 (by omega) h17.tl) fun a18 w18 h => ?_
            obtain ⟨h18, rfl⟩ := h
            refine ⟨(l.getD k r0).needs.length - (t + 1), by omega, t + 1, tq', by omega, rfl, h18, fun j hj => ?_, hq17, hrow17, ku17⟩
            rw [htk] at hj
            rcases List.mem_append.1 hj with hj | hj
            · exact hCt j hj
            · simp at hj; subst hj; exact hCx.1 rfl
        · refine .inl ⟨h14.hf (by simp only [decide_eq_false_iff_not]; exact hlt), ?_⟩
          have hte : t = (nd l k).length := by omega
          have hall : (nd l k).take t = nd l k := by rw [hte, List.take_length]
          rw [hall] at hq hCt
          exact fin h14.tl (by rw [upto_all _ hCt]; exact hq) hrow ku
end Go.Proofs.Ytgohfdgkihoilaa.Rcp
