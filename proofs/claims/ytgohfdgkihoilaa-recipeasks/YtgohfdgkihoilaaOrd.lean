/- The law RecipeOrders (6). -/
import Derived.Test.YtgohfdgkihoilaaOrdP
set_option linter.unusedSimpArgs false
set_option linter.unusedVariables false
namespace Go.Proofs.Ytgohfdgkihoilaa.Rcp
open Go Go.RowKit Go.Deep Go.Maps

/-- What Order tells, in the words of the document. -/
structure Told (l : List Rc) (ks : List Nat) (td : List Nat) : Prop where
  ok : TdOk (nd l) td
  mem : ∀ k, k ∈ td ↔ Askd (CC l) (nd l) ks k ∧ CC l k
theorem told_of {l : List Rc} {keys : List Int} {td : List Nat} (hR : RIGHT l) (h : OrderIs l keys td) : Told l (valid l keys) td := by
  obtain ⟨s1, hA, rfl, hI⟩ := h.2 hR
  have hC : ∀ i, CC l i → ¬ Rch (nd l) i i := fun i hi => can_noring hi
  have hCN : ∀ i, CC l i → ∀ j ∈ nd l i, CC l j := fun i hi => (can_iff.1 hi).2
  have hb : ∀ k, s1.bg k = true ↔ Askd (CC l) (nd l) (valid l keys) k := fun k => by
    constructor
    · intro h
      rcases hA.begun k h with h | h
      · cases h
      · simpa [asks] using h
    · intro h
      induction h with
      | base h => exact hA.whole.1 _ (by simpa [asks] using h)
      | step _ h ih =>
        rcases hA.whole.2 _ ih with h' | h'
        · cases h'
        · exact h' _ h
  refine ⟨hA.tdOk hC hCN [] (fun a ha => by cases ha) (inv0 _) (fun p k h => by simp [s0] at h), fun k => ?_⟩
  rw [← hb]
  constructor
  · intro h; exact ⟨(hI.2 k h).2, (hI.2 k h).1⟩
  · intro h
    rcases hI.1 k h.1 h.2 with h | h
    · exact h
    · cases h
theorem Told.len {l : List Rc} {ks ks' td td' : List Nat} (h : Told l ks td) (h' : Told l ks' td') (hk : ∀ x, x ∈ ks ↔ x ∈ ks') : td.length = td'.length ∧ ∀ k, k ∈ td' → k ∈ td := by
  have hm : ∀ k, k ∈ td ↔ k ∈ td' := fun k => by rw [h.mem, h'.mem, askd_congr hk]
  refine ⟨Nat.le_antisymm (len_le_of_sub _ _ (fun p q k => h.ok.nodup) (fun x hx => (hm x).1 hx)) (len_le_of_sub _ _ (fun p q k => h'.ok.nodup) (fun x hx => (hm x).2 hx)), fun k hk => (hm k).2 hk⟩
theorem mem_valid (l : List Rc) : ∀ (ks : List Int) (k : Nat), k ∈ valid l ks ↔ ∃ x ∈ ks, 0 ≤ x ∧ x < l.length ∧ x.toNat = k
  | [], k => by simp [valid]
  | y :: r, k => by
    have ih := mem_valid l r k
    unfold valid
    by_cases hy : 0 ≤ y ∧ y < l.length
    · rw [if_pos hy, List.mem_cons, ih]
      constructor
      · rintro (rfl | ⟨x, hx, h⟩)
        · exact ⟨y, by simp, hy.1, hy.2, rfl⟩
        · exact ⟨x, by simp [hx], h⟩
      · rintro ⟨x, hx, h1, h2, h3⟩
        rcases List.mem_cons.1 hx with rfl | hx
        · exact .inl h3.symm
        · exact .inr ⟨x, hx, h1, h2, h3⟩
    · rw [if_neg hy, ih]
      constructor
      · rintro ⟨x, hx, h⟩; exact ⟨x, by simp [hx], h⟩
      · rintro ⟨x, hx, h1, h2, h3⟩
        rcases List.mem_cons.1 hx with rfl | hx
        · exact absurd ⟨h1, h2⟩ hy
        · exact ⟨x, hx, h1, h2, h3⟩
/-- Keys in another order. -/
def rot (keys : List Int) (tt i : Nat) : List Int := (List.range i).map fun j => keys.getD ((j + tt) % keys.length) 0
theorem rot_succ (keys : List Int) (tt i : Nat) : rot keys tt (i + 1) = rot keys tt i ++ [keys.getD ((i + tt) % keys.length) 0] := by unfold rot; rw [List.range_succ, List.map_append]; rfl
theorem rot_mem (keys : List Int) (tt : Nat) (x : Int) : x ∈ rot keys tt keys.length ↔ x ∈ keys := by
  unfold rot
  rw [List.mem_map]
  constructor
  · rintro ⟨j, hj, rfl⟩
    have hpos : 0 < keys.length := by have := List.mem_range.1 hj; omega
    exact List.mem_of_getElem? (getD_some (Nat.mod_lt _ hpos) 0)
  · intro hx
    obtain ⟨p, hp, rfl⟩ := List.mem_iff_getElem.1 hx
    have hpos : 0 < keys.length := by omega
    have hr := Nat.mod_lt tt hpos
    have hd := Nat.div_add_mod tt keys.length
    have key : ∃ j, j < keys.length ∧ (j + tt) % keys.length = p := by
      by_cases h : tt % keys.length ≤ p
      · refine ⟨p - tt % keys.length, by omega, ?_⟩
        rw [show p - tt % keys.length + tt = p + keys.length * (tt / keys.length) by omega, Nat.add_mul_mod_self_left, Nat.mod_eq_of_lt hp]
      · refine ⟨p + keys.length - tt % keys.length, by omega, ?_⟩
        rw [show p + keys.length - tt % keys.length + tt = p + keys.length * (tt / keys.length + 1) by rw [Nat.mul_add]; omega, Nat.add_mul_mod_self_left, Nat.mod_eq_of_lt hp]
    obtain ⟨j, hj, he⟩ := key
    refine ⟨j, List.mem_range.2 hj, ?_⟩
    rw [he, List.getD_eq_getElem?_getD, List.getElem?_eq_getElem hp]
    rfl
theorem rot_valid (l : List Rc) (keys : List Int) (tt : Nat) (k : Nat) : k ∈ valid l keys ↔ k ∈ valid l (rot keys tt keys.length) := by
  rw [mem_valid, mem_valid]
  constructor
  · rintro ⟨x, hx, h⟩; exact ⟨x, (rot_mem keys tt x).2 hx, h⟩
  · rintro ⟨x, hx, h⟩; exact ⟨x, (rot_mem keys tt x).1 hx, h⟩
theorem td_at {td : List Nat} {i : Nat} (h : i < td.length) : (td.map Int.ofNat).getD i 0 = (td.getD i 0 : Nat) ∧ td[i]? = some (td.getD i 0) := by
  refine ⟨?_, getD_some h 0⟩
  rw [List.getD_eq_getElem?_getD, List.getElem?_map, getD_some h 0]
  rfl

set_option maxHeartbeats 4000000 in
theorem orders_any {Z : Nat → Prop} {w : World} {x0 x1 : Value} {l : List Rc} {keys : List Int} {tn : Int} (hl : RL Z w x0 l) (hks : IL Z w x1 keys) (hZ : ∀ i, Z i → i < w.heap.size) (hwf : ∀ x ∈ keys, wfI x) :
    Calls Try.prog 6 #[x0, x1, I tn] w (Ret fun x w' => x = .bool true ∧ Kp (fun i => i < w.heap.size) w w') := by
  refine in6 fun a hA => ?_
  rw [e6]
  refine wp_then (p6_0 hA) fun a0 w0 h => ?_
  obtain ⟨h0, rfl⟩ := h
  refine wp_then (p6_1 h0) fun a1 w1 h => ?_
  obtain ⟨h1, k1⟩ := h
  refine wp_then (p6_2 (hl.kp (k1.mono hZ)) ((k1.mono hZ).lt hZ) h1) fun a2 w2 h => ?_
  obtain ⟨h2, k2⟩ := h
  have k02 := k1.after k2
  obtain ⟨kp, kc, rfl, hkn, -⟩ := id hks
  by_cases hR : RIGHT l
  case neg =>
    refine wp_seq (wp_then (p6_3_a (by simp; exact fun h => hR ((rightS_iff l).1 h)) h2) fun a3 w3 h => ?_)
    obtain ⟨h3, rfl⟩ := h
    refine wp_cond_true (h3.hd rfl) ?_
    refine wp_then (p6_4 h3.tl) fun a4 w4 h => ?_
    obtain ⟨h4, rfl⟩ := h
    exact wp_ret (fin1 rfl h4 (.bool true) (by simp) ⟨rfl, k02⟩)
  have hr0 : (rightS l != 0) = false := by rw [(rightS_iff l).2 hR]; rfl
  by_cases h300 : 300 < keys.length
  · refine wp_seq (wp_then (p6_3_b hr0 (by omega) h2) fun a3 w3 h => ?_)
    obtain ⟨h3, rfl⟩ := h
    refine wp_cond_true (h3.hd rfl) ?_
    refine wp_then (p6_4 h3.tl) fun a4 w4 h => ?_
    obtain ⟨h4, rfl⟩ := h
    exact wp_ret (fin1 rfl h4 (.bool true) (by simp) ⟨rfl, k02⟩)
  refine wp_seq (wp_then (p6_3_c hr0 (by simp; omega) h2) fun a3 w3 h => ?_)
  obtain ⟨h3, rfl⟩ := h
  refine wp_cond_false (h3.hf rfl) (wp_skip ?_)
  have h100 := short100 hR
  have hpos : 0 < l.length := hR.good.1
  have hN := nd_lt hR
  have hZ3 := (k02.mono hZ).lt hZ
  refine wp_then (p6_5 (x1 := .slice kp keys.length kc) (tn := tn) (hl.kp (k02.mono hZ)) hZ3 hR (h3.sub (by simp))) fun a4 w4 h => ?_
  obtain ⟨tv, h4, rb, T, hT, hTR, k4⟩ := h
  have k04 := k02.after k4
  refine wp_then (p6_6 (hl.kp (k04.mono hZ)) (hks.kp (k04.mono hZ)) ((k04.mono hZ).lt hZ) hR (by omega) h4) fun a5 w5 h => ?_
  obtain ⟨ob, h5, hob, M, hrowM, hM, k5⟩ := h
  have k05 := k04.after k5
  refine wp_then (p6_7 (hl.kp (k05.mono hZ)) (hks.kp (k05.mono hZ)) ((k05.mono hZ).lt hZ) hwf h5) fun a6 w6 h => ?_
  obtain ⟨ov, h6, td, hO, hord, htl, k6⟩ := h
  have k06 := k05.after k6
  have htd := told_of hR hord
  have hv : ∃ b o cap, x0 = .slice (some ⟨b, o, none⟩) l.length cap := by
    obtain ⟨p, cap, rfl, -, h2⟩ := hl
    obtain ⟨blk, off, nv, rfl, -⟩ := h2 0 _ (getD_some hpos r0)
    exact ⟨blk, off, cap, rfl⟩
  obtain ⟨b, o, cap, rfl⟩ := hv
  have hT6 := (hT.kp k5).kp k6
  have hrow6 : w6.rowIs ob 4 l.length (fun k => .bool (M k)) := hrowM.of_block (k6.block _ hrowM.lt)
  have hIL := hO.il (by rw [List.length_map]; omega)
  have hobk : ∀ i, ov.ownBlock = some i → i < w6.heap.size := fun i hi => hO.lt i hi
  obtain ⟨op, oc, rfl, -, -⟩ := id hIL
  obtain ⟨g, ct, rfl, -, -⟩ := hT6.cells hpos
  have htlen : (td.map Int.ofNat).length = td.length := by simp
  rw [htlen] at h6 hIL hobk
  refine wp_then (p6_8 h100 h6) fun a7 w7 h => ?_
  obtain ⟨h7, rfl⟩ := h
  have hmade := World.rowIs_made w6 (.bool false) l.length 4
  have kA : Kp (fun i => i < w6.heap.size) w6 (w6.alloc (.cells (madeCells #[.bool false] l.length) 4)) := Kp.alloc (fun _ h => h) _
  generalize w6.alloc (.cells (madeCells #[.bool false] l.length) 4) = W at hmade kA
  refine wp_seq (wp_then (p6_9 h7) fun a8 w8 h => ?_)
  obtain ⟨h8, rfl⟩ := h
  clear hO hT hrowM
  have mlt : ∀ k, k ∈ td → k < l.length := fun k hk => ((htd.mem k).1 hk).1.lt hN (valid_lt l keys)
  refine wp_while (t := 52) (fun c a u => ∃ i : Nat, i ≤ td.length ∧ c = td.length - i ∧ Fl 184 [(0, .slice (some ⟨b, o, none⟩) l.length cap), (1, .slice kp keys.length kc), (2, I tn), (9, .slice (some ⟨g, 0, none⟩) l.length ct), (10, .slice (some ⟨ob, 0, none⟩) l.length l.length), (11, .slice op td.length oc), (12, .slice (some ⟨w6.heap.size, 0, none⟩) l.length l.length), (13, I (i : Nat))] a ∧ u.rowIs w6.heap.size 4 l.length (fun k => .bool (decide (k ∈ td.take i))) ∧ Kp (fun j => j < w6.heap.size) w6 u) _
    ⟨0, Nat.zero_le _, rfl, h8, hmade.congr fun k hk => by simp, kA⟩ ?_
  clear h8 h7 h6 h5 h4 h3 h2 h1 h0 hA hmade kA
  rintro c a9 u ⟨i, hi, rfl, h9, hrow, ku⟩
  refine ⟨_, p6_10 htl h9, ?_⟩
  rintro a10 w10 ⟨h10, rfl⟩
  have hT10 := hT6.kp ku
  have hM10 : w10.rowIs ob 4 l.length (fun k => .bool (M k)) := hrow6.of_block (ku.block _ hrow6.lt)
  have hIL10 := hIL.kp (ku.mono hobk)
  by_cases hli : i < td.length
  · refine .inr ⟨h10.hd (by simp [hli]), ?_⟩
    refine wp_seq (wp_block ?_)
    obtain ⟨og, oq, rfl, -, hcx⟩ := hIL10.at (by rw [htlen]; exact hli)
    obtain ⟨e1, e2⟩ := td_at hli
    rw [e1] at hcx
    generalize td.getD i 0 = k at hcx e2
    have hkm : k ∈ td := List.mem_of_getElem? e2
    have hkn' := mlt k hkm
    have hMk : M k = true := (hM k).2 ((htd.mem k).1 hkm).1
    have hnk : k ∉ td.take i := (htd.ok i k e2).1
    obtain ⟨g', ct', e, -, hcl⟩ := hT10.cells hpos
    cases e
    refine wp_then (p6_12 htl hli hcx h10.tl) fun a11 w11 h => ?_
    obtain ⟨h11, rfl⟩ := h
    refine wp_seq (wp_then (p6_13 h100 hkn' (by rw [hrow.cell hkn']; simp [hnk]) (by rw [hM10.cell hkn', hMk]) h11) fun a12 w12 h => ?_)
    obtain ⟨h12, rfl⟩ := h
    refine wp_cond_false (h12.hf rfl) (wp_skip ?_)
    refine wp_seq (wp_then (p6_15 h12.tl) fun a13 w13 h => ?_)
    obtain ⟨h13, rfl⟩ := h
    refine wp_while (t := 83) (fun c a v => ∃ m : Nat, m ≤ l.length ∧ c = l.length - m ∧ Fl 184 [(0, .slice (some ⟨b, o, none⟩) l.length cap), (1, .slice kp keys.length kc), (2, I tn), (9, .slice (some ⟨g, 0, none⟩) l.length ct), (10, .slice (some ⟨ob, 0, none⟩) l.length l.length), (11, .slice (some ⟨og, oq, none⟩) td.length oc), (12, .slice (some ⟨w6.heap.size, 0, none⟩) l.length l.length), (13, I (i : Nat)), (14, I (k : Nat)), (15, I (m : Nat))] a ∧ v = w13) _ ⟨0, Nat.zero_le _, rfl, h13, rfl⟩ ?_
    clear h13 h12 h11 h10 h9
    rintro c a14 v ⟨m, hm, rfl, h14, rfl⟩
    refine ⟨_, p6_16 h100 h14, ?_⟩
    rintro a15 w15 ⟨h15, rfl⟩
    by_cases hlm : m < l.length
    · refine .inr ⟨h15.hd (by simp [hlm]), ?_⟩
      refine wp_seq (wp_block ?_)
      have test : q6_18.wp Try.prog (fun e a' w' => e = .normal ∧ (Fl 184 [(99, .bool false), (0, .slice (some ⟨b, o, none⟩) l.length cap), (1, .slice kp keys.length kc), (2, I tn), (9, .slice (some ⟨g, 0, none⟩) l.length ct), (10, .slice (some ⟨ob, 0, none⟩) l.length l.length), (11, .slice (some ⟨og, oq, none⟩) td.length oc), (12, .slice (some ⟨w6.heap.size, 0, none⟩) l.length l.length), (13, I (i : Nat)), (14, I (k : Nat)), (15, I (m : Nat))] a' ∧ w' = w15)) a15 w15 := by
        cases hTk : T k m with
        | false => exact p6_18_a h100 hkn' hlm (hcl k hkn') (by rw [hT10.cell hkn' hlm, hTk]) h15.tl
        | true =>
          have hmt := htd.ok.reach ((hTR k m hkn' hlm).1 hTk) i e2
          exact p6_18_b h100 hkn' hlm (hcl k hkn') (by rw [hT10.cell hkn' hlm, hTk]) (by rw [hrow.cell hlm]; simp [hmt]) h15.tl
      refine wp_then test fun a16 w16 h => ?_
      obtain ⟨h16, rfl⟩ := h
      refine wp_cond_false (h16.hf rfl) (wp_skip ?_)
      show Code.wp _ _ _ _ _
      refine wp_last (p6_17 (by omega) h16.tl) fun a17 w17 h => ?_
      obtain ⟨h17, rfl⟩ := h
      exact ⟨l.length - (m + 1), by omega, m + 1, by omega, rfl, h17, rfl⟩
    · refine .inl ⟨h15.hf (by simp [hlm]), ?_⟩
      show Code.wp _ _ _ _ _
      refine wp_last (p6_20 (b := b) (o := o) (n := l.length) (cap := cap) (g := g) (ct := ct) (wb := ob) (lb := w6.heap.size) (on := td.length) (oc := oc) (op := some ⟨og, oq, none⟩) (x1 := .slice kp keys.length kc) (tn := tn) (i := i) (k := k) h100 hkn' (hrow.cell hkn') (hrow.frozen k) (h15.sub (by simp))) fun a16 w16 h => ?_
      obtain ⟨h16, rfl⟩ := h
      show Code.wp _ _ _ _ _
      refine wp_last (p6_11 (by omega) h16) fun a17 w17 h => ?_
      obtain ⟨h17, rfl⟩ := h
      refine ⟨td.length - (i + 1), by omega, i + 1, by omega, rfl, h17, (hrow.set k (.bool true)).congr fun x hx => ?_, ku.trans (Kp.setCell (Z := fun j => j < w6.heap.size) (p := ⟨w6.heap.size, k, none⟩) (show ¬ w6.heap.size < w6.heap.size from Nat.lt_irrefl _) _)⟩
      rw [List.take_add_one, e2]
      by_cases e : x = k
      · simp [e]
      · simp [e]
  refine .inl ⟨h10.hf (by simp [hli]), ?_⟩
  have hie : i = td.length := by omega
  subst hie
  rw [List.take_length] at hrow
  show Code.wp _ _ _ _ _
  have k010 := k06.after ku
  have hl10 := hl.kp (k010.mono hZ)
  have hks10 := hks.kp (k010.mono hZ)
  have hZ10 := (k010.mono hZ).lt hZ
  refine wp_seq (wp_then (p6_21 (b := b) (o := o) (n := l.length) (cap := cap) (g := g) (ct := ct) (wb := ob) (lb := w6.heap.size) (on := td.length) (oc := oc) (op := op) (x1 := .slice kp keys.length kc) (tn := tn) (h10.sub (by simp))) fun a11 w11 h => ?_)
  obtain ⟨h11, rfl⟩ := h
  refine wp_while (t := 106) (fun c a u => ∃ i : Nat, i ≤ l.length ∧ c = l.length - i ∧ Fl 184 [(0, .slice (some ⟨b, o, none⟩) l.length cap), (1, .slice kp keys.length kc), (2, I tn), (9, .slice (some ⟨g, 0, none⟩) l.length ct), (10, .slice (some ⟨ob, 0, none⟩) l.length l.length), (11, .slice op td.length oc), (12, .slice (some ⟨w6.heap.size, 0, none⟩) l.length l.length), (16, I (i : Nat))] a ∧ Kp (fun j => j < w11.heap.size) w11 u) _ ⟨0, Nat.zero_le _, rfl, h11, Kp.refl _ _⟩ ?_
  clear h11 h10 h9 hT10 hIL10
  rintro c a12 u ⟨i, hi2, rfl, h12, kv⟩
  refine ⟨_, p6_22 h100 h12, ?_⟩
  rintro a13 w13 ⟨h13, rfl⟩
  have hrow13 : w13.rowIs w6.heap.size 4 l.length (fun k => .bool (decide (k ∈ td))) := hrow.of_block (kv.block _ hrow.lt)
  have hM13 : w13.rowIs ob 4 l.length (fun k => .bool (M k)) := hM10.of_block (kv.block _ hM10.lt)
  have hl13 := hl10.kp (kv.mono hZ10)
  have hZ13 := (kv.mono hZ10).lt hZ10
  by_cases hln : i < l.length
  · refine .inr ⟨h13.hd (by simp [hln]), ?_⟩
    refine wp_seq (wp_block ?_)
    obtain ⟨is, his⟩ : ∃ is : Bool, is = true ↔ FateB l i := by
      by_cases h : FateB l i
      · exact ⟨true, by simp [h]⟩
      · exact ⟨false, by simp [h]⟩
    have hisC := his.trans (fateB_nat hR hln)
    refine wp_then (p6_24 (is := is) hl13 hZ13 (by omega) his h13.tl) fun a14 w14 h => ?_
    obtain ⟨h14, k14⟩ := h
    have hrow14 : w14.rowIs w6.heap.size 4 l.length (fun k => .bool (decide (k ∈ td))) := hrow13.of_block (k14.block _ hrow13.lt)
    have hM14 : w14.rowIs ob 4 l.length (fun k => .bool (M k)) := hM13.of_block (k14.block _ hM13.lt)
    have test : q6_25.wp Try.prog (fun e a' w' => e = .normal ∧ (Fl 184 [(126, .bool false), (0, .slice (some ⟨b, o, none⟩) l.length cap), (1, .slice kp keys.length kc), (2, I tn), (9, .slice (some ⟨g, 0, none⟩) l.length ct), (10, .slice (some ⟨ob, 0, none⟩) l.length l.length), (11, .slice op td.length oc), (12, .slice (some ⟨w6.heap.size, 0, none⟩) l.length l.length), (16, I (i : Nat))] a' ∧ ∃ m, w' = w14.drewN m)) a14 w14 := by
      cases hMi : M i with
      | true =>
        have hA' := (hM i).1 hMi
        have e : decide (i ∈ td) = is := by
          rw [Bool.eq_iff_iff, decide_eq_true_iff, htd.mem, hisC]
          exact ⟨fun h => h.2, fun h => ⟨hA', h⟩⟩
        have hh := p6_25_a h100 hln (hrow14.cell hln) (by rw [hM14.cell hln, hMi]) h14
        rw [e, show (is != is) = false by simp] at hh
        exact hh
      | false =>
        have e : decide (i ∈ td) = false := by
          rw [decide_eq_false_iff_not, htd.mem]
          rintro ⟨h, _⟩
          have := (hM i).2 h
          rw [hMi] at this; cases this
        have hh := p6_25_b h100 hln (hrow14.cell hln) (by rw [hM14.cell hln, hMi]) h14
        rw [e, show (false != false) = false by simp] at hh
        exact hh
    refine wp_then test fun a15 w15 h => ?_
    obtain ⟨h15, m, rfl⟩ := h
    refine wp_cond_false (h15.hf rfl) (wp_skip ?_)
    show Code.wp _ _ _ _ _
    refine wp_last (p6_23 (by omega) h15.tl) fun a16 w16 h => ?_
    obtain ⟨h16, rfl⟩ := h
    exact ⟨l.length - (i + 1), by omega, i + 1, by omega, rfl, h16, (kv.after k14).trans (Kp.drewN _ _)⟩
  refine .inl ⟨h13.hf (by simp [hln]), ?_⟩
  show Code.wp _ _ _ _ _
  clear hl13 hM13
  refine wp_then (p6_27 (b := b) (o := o) (n := l.length) (cap := cap) (g := g) (ct := ct) (wb := ob) (lb := w6.heap.size) (on := td.length) (oc := oc) (op := op) (x1 := .slice kp keys.length kc) (tn := tn) (h13.sub (by simp))) fun a14 w14 h => ?_
  obtain ⟨h14, rfl⟩ := h
  refine wp_seq (wp_then (p6_28 h14) fun a15 w15 h => ?_)
  obtain ⟨h15, rfl⟩ := h
  have k015 := k010.after kv
  refine wp_while (t := 130) (fun c a u => ∃ i qv, i ≤ keys.length ∧ c = keys.length - i ∧ Fl 184 [(0, .slice (some ⟨b, o, none⟩) l.length cap), (1, .slice kp keys.length kc), (2, I tn), (9, .slice (some ⟨g, 0, none⟩) l.length ct), (10, .slice (some ⟨ob, 0, none⟩) l.length l.length), (11, .slice op td.length oc), (12, .slice (some ⟨w6.heap.size, 0, none⟩) l.length l.length), (19, qv), (20, I (i : Nat))] a ∧ OwnI (fun j => j < w15.heap.size) u qv (rot keys (bits .and .i64 tn 1023).toNat i) ∧ Kp (fun j => j < w15.heap.size) w15 u) _ ⟨0, _, Nat.zero_le _, rfl, h15, OwnI.nil _ _, Kp.refl _ _⟩ ?_
  clear h15 h14 h13 h12
  rintro c a16 u ⟨i, qv, hik, rfl, h16, hO, kq⟩
  refine ⟨_, p6_29 (by omega) h16, ?_⟩
  rintro a17 w17 ⟨h17, rfl⟩
  have k017 := k015.after kq
  by_cases hlk : i < keys.length
  · refine .inr ⟨h17.hd (by simp [hlk]), ?_⟩
    refine wp_seq (wp_block ?_)
    have hlt := Nat.mod_lt (i + (bits .and .i64 tn 1023).toNat) (show 0 < keys.length by omega)
    obtain ⟨kb, ko, rfl, -, hcx⟩ := (hks.kp (k017.mono hZ)).at hlt
    refine wp_last (p6_31 (by omega) hlk hcx hO (fun j hj => Nat.lt_of_lt_of_le hj kq.size) (by unfold rot; simp; omega) h17.tl) fun a18 w18 h => ?_
    obtain ⟨g2, c2, h18, hO18, k18, -⟩ := h
    show Code.wp _ _ _ _ _
    refine wp_last (p6_30 (by omega) h18) fun a19 w19 h => ?_
    obtain ⟨h19, rfl⟩ := h
    exact ⟨keys.length - (i + 1), by omega, i + 1, _, by omega, rfl, h19, by rw [rot_succ]; exact hO18, kq.trans k18⟩
  refine .inl ⟨h17.hf (by simp [hlk]), ?_⟩
  have hike : i = keys.length := by omega
  subst hike
  show Code.wp _ _ _ _ _
  have hl17 := hl.kp (k017.mono hZ)
  have hZ17 := (k017.mono hZ).lt hZ
  have hrlen : (rot keys (bits .and .i64 tn 1023).toNat keys.length).length ≤ 300 := by unfold rot; simp; omega
  have hIQ : IL (fun i => i < w17.heap.size) w17 qv (rot keys (bits .and .i64 tn 1023).toNat keys.length) := (hO.il (by omega)).mono fun i hi => hO.lt i hi
  have hrow17 : w17.rowIs w6.heap.size 4 l.length (fun k => .bool (decide (k ∈ td))) := hrow13.of_block (kq.block _ hrow13.lt)
  refine wp_then (p6_32 (x0 := .slice (some ⟨b, o, none⟩) l.length cap) (ov0 := .slice op td.length oc) (lv := .slice (some ⟨w6.heap.size, 0, none⟩) l.length l.length) (qv := qv) (hl17.mono hZ17) hIQ (fun _ h => h) (fun x hx => hwf x ((rot_mem keys _ x).1 hx)) (h17.sub (by simp))) fun a18 w18 h => ?_
  obtain ⟨av, h18, td2, hO2, hord2, htl2, k18⟩ := h
  have htd2 := told_of hR hord2
  have hlen := htd.len htd2 (fun x => rot_valid l keys _ x)
  have hIA := hO2.il (by rw [List.length_map]; omega)
  obtain ⟨ap, ac, rfl, -, -⟩ := id hIA
  have ht2 : (td2.map Int.ofNat).length = td2.length := by simp
  rw [ht2] at h18 hIA
  have hrow18 : w18.rowIs w6.heap.size 4 l.length (fun k => .bool (decide (k ∈ td))) := hrow17.of_block (k18.block _ hrow17.lt)
  refine wp_seq (wp_then (p6_33 hlen.1.symm htl h18) fun a19 w19 h => ?_)
  obtain ⟨h19, rfl⟩ := h
  refine wp_cond_false (h19.hf rfl) (wp_skip ?_)
  refine wp_seq (wp_then (p6_35 h19.tl) fun a20 w20 h => ?_)
  obtain ⟨h20, rfl⟩ := h
  refine wp_while (t := 157) (fun c a v => ∃ i : Nat, i ≤ td2.length ∧ c = td2.length - i ∧ Fl 184 [(0, .slice (some ⟨b, o, none⟩) l.length cap), (11, .slice op td.length oc), (12, .slice (some ⟨w6.heap.size, 0, none⟩) l.length l.length), (21, .slice ap td2.length ac), (22, I (i : Nat))] a ∧ v = w20) _ ⟨0, Nat.zero_le _, rfl, h20, rfl⟩ ?_
  clear h20 h19 h18 h17
  rintro c a21 v ⟨i, hi3, rfl, h21, rfl⟩
  refine ⟨_, p6_36 htl2 h21, ?_⟩
  rintro a22 w22 ⟨h22, rfl⟩
  by_cases hl2 : i < td2.length
  · refine .inr ⟨h22.hd (by simp [hl2]), ?_⟩
    refine wp_seq (wp_block ?_)
    obtain ⟨ag, aq, rfl, -, hcx⟩ := hIA.at (by rw [ht2]; exact hl2)
    obtain ⟨e1, e2⟩ := td_at hl2
    rw [e1] at hcx
    generalize td2.getD i 0 = k at hcx e2
    have hkt : k ∈ td := hlen.2 k (List.mem_of_getElem? e2)
    refine wp_then (p6_38 h100 htl2 hl2 hcx (mlt k hkt) (by rw [hrow18.cell (mlt k hkt)]; simp [hkt]) h22.tl) fun a23 w23 h => ?_
    obtain ⟨h23, rfl⟩ := h
    refine wp_cond_false (h23.hf rfl) (wp_skip ?_)
    show Code.wp _ _ _ _ _
    refine wp_last (p6_37 (by omega) h23.tl) fun a24 w24 h => ?_
    obtain ⟨h24, rfl⟩ := h
    exact ⟨td2.length - (i + 1), by omega, i + 1, by omega, rfl, h24, rfl⟩
  refine .inl ⟨h22.hf (by simp [hl2]), ?_⟩
  show Code.wp _ _ _ _ _
  refine wp_then (p6_40 (h22.sub (by simp))) fun a23 w23 h => ?_
  obtain ⟨h23, rfl⟩ := h
  exact wp_ret (fin1 rfl h23 (.bool true) (by simp) ⟨rfl, k017.after k18⟩)
end Go.Proofs.Ytgohfdgkihoilaa.Rcp
