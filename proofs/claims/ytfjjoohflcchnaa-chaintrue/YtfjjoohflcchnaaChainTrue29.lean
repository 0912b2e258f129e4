/- ChainTrue: who is told of a ring lies on one; no call takes longer than it may; whatever the schedule, the number of keys and the scripts. Part 29 of 36. (Joined, by program, of: La4b, GEnd, GIns, GWb, GNow.) -/
import Derived.Test.YtfjjoohflcchnaaChainTrue16
import Derived.Test.YtfjjoohflcchnaaChainTrue19
import Derived.Test.YtfjjoohflcchnaaChainTrue24
import Derived.Test.YtfjjoohflcchnaaChainTrue28
set_option linter.unusedSimpArgs false
set_option linter.unusedVariables false
namespace Go.Proofs.Ytfjjoohflcchnaa.Gen
open Go Go.Lift Go.Conc Go.RowKit


open Go.ConcN (upd upd_same upd_ne)
theorem cnt_le (cl : Nat → List Cl) (t : Nat) : ∀ (L : List Stp) (r : Rh), (L.foldl (rsH cl) r).cnt t ≤ r.cnt t + L.length
  | [], r => Nat.le_refl _
  | s :: L, r => by
    have h := cnt_le cl t L (rsH cl r s)
    have h2 : (rsH cl r s).cnt t ≤ r.cnt t + 1 := by
      unfold rsH
      by_cases e : t = s.th.toNat
      · subst e
        split
        · show upd _ _ _ _ ≤ _; rw [upd_same]; omega
        · show upd _ _ _ _ ≤ _; rw [upd_same]; omega
      · split
        · show upd _ _ _ _ ≤ _; rw [upd_ne _ _ e]; omega
        · show upd _ _ _ _ ≤ _; rw [upd_ne _ _ e]; omega
    simp only [List.foldl_cons, List.length_cons]
    omega
theorem rsH_cnt (cl : Nat → List Cl) (r : Rh) (s : Stp) {t : Nat} (ht : s.th = t) : (rsH cl r s).cnt = upd r.cnt t (if s.op = 9 then 0 else r.cnt t + 1) := by
  unfold rsH
  rw [ht]
  split <;> rfl
section
variable {n N b o cap M wb Z : Nat} {Q : Exit → Act → World → Prop} {a : Act} {u v : World}
/-- The steps. -/
theorem la4_steps {cl : Nat → List Cl} {L : List Stp} {p : Option Addr} {g T ct B : Nat} (hn1 : n ≤ 100) (hN : N ≤ 8) (hT : T = L.length) (hT4 : T ≤ 4000000) (hp : 0 < T → p = some ⟨g, 0, none⟩) (hgZ : 0 < T → g ≠ Z) (hBZ : B ≤ Z) (hst : StsR N n cl rh0 L) (hB : B ≤ u.heap.size)
    (hg : ∀ j x, (flat L)[j]? = some x → u.cell? ⟨g, j, none⟩ = some x) (hz : u.rowIs Z 3 N (fun _ => I 0)) (hA : Fl 262 [(1, I (n : Nat)), (2, .slice (some ⟨b, o, none⟩) N cap), (8, Pt wb 0), (9, .slice (some ⟨M, 0, none⟩) N N), (22, .slice (some ⟨Z, 0, none⟩) N N), (23, .slice p T ct)] a)
    (k : ∀ a' u', Fl 262 [(1, I (n : Nat)), (2, .slice (some ⟨b, o, none⟩) N cap), (8, Pt wb 0), (9, .slice (some ⟨M, 0, none⟩) N N), (22, .slice (some ⟨Z, 0, none⟩) N N), (23, .slice p T ct)] a' → Kq B u u' → Q .normal a' u') : (Code.seq q4_45 (.block 16 K4_16)).wp Try.prog Q a u := by
  refine wp_then (p4_45 (G := 0) hA) fun a1 w1 h => ?_
  obtain ⟨h1, rfl⟩ := h
  unfold K4_16
  refine wp_while (t := 218) (fun c a x => ∃ k, k ≤ T ∧ c = T - k ∧ Fl 262 [(1, I (n : Nat)), (2, .slice (some ⟨b, o, none⟩) N cap), (8, Pt wb 0), (9, .slice (some ⟨M, 0, none⟩) N N), (22, .slice (some ⟨Z, 0, none⟩) N N), (23, .slice p T ct), (24, I (k : Nat))] a ∧ (∀ j y, (flat L)[j]? = some y → x.cell? ⟨g, j, none⟩ = some y) ∧ x.rowIs Z 3 N (fun t => I (((repH cl (L.take k)).cnt t : Nat) : Int)) ∧ Kq B w1 x) _
    ⟨0, Nat.zero_le _, rfl, h1, hg, hz.congr (fun i _ => rfl), Kq.refl _ _⟩ ?_
  clear h1 hg hz hA
  rintro c a2 x ⟨j, hj, rfl, h2, hg, hz, hk⟩
  refine ⟨_, p4_46 (G := 0) h2, ?_⟩
  rintro a3 w3 ⟨h3, rfl⟩
  by_cases hlt : j < T
  · refine .inr ⟨h3.hd (by simp [hlt]), ?_⟩
    refine wp_seq (wp_block ?_)
    unfold K4_17
    have hp' := hp (by omega)
    have hgZ' := hgZ (by omega)
    subst hp'
    obtain ⟨s, hs⟩ : ∃ s, L[j]? = some s := ⟨_, List.getElem?_eq_getElem (by omega)⟩
    obtain ⟨f0, f1, f2, f3, f4⟩ := flat_get L j s hs
    obtain ⟨t, ht, htN, _, hcn, _⟩ := hst.at j s hs
    have hrep : (L.take (j + 1)).foldl (rsH cl) rh0 = rsH cl (repH cl (L.take j)) s := by
      rw [List.take_add_one, hs]
      exact repH_one cl (L.take j) s
    rw [hrep] at hcn
    rw [rsH_cnt cl _ s ht, upd_same] at hcn
    have hle : (repH cl (L.take j)).cnt t ≤ 4000000 := by
      have h5 := cnt_le cl t (L.take j) rh0
      have h6 : (L.take j).length ≤ L.length := by rw [List.length_take]; omega
      have h7 : rh0.cnt t = 0 := rfl
      have h8 : (repH cl (L.take j)).cnt t = ((L.take j).foldl (rsH cl) rh0).cnt t := rfl
      omega
    have f0' := hg _ _ f0
    rw [ht] at f0'
    refine wp_then (p4_48 (G := 0) hlt f0' (hg _ _ f1) (hg _ _ f2) (hg _ _ f3) (hg _ _ f4) h3.tl) fun a4 w4 h => ?_
    obtain ⟨h4, hw4⟩ := h
    have hc4 : ∀ (i : Nat) (y : Value), #[I (t : Nat), I s.ce, I s.op, I s.ol, I s.ne][i]? = some y → w4.cell? ⟨w3.heap.size, i, none⟩ = some y := fun i y hy => by
      rw [hw4]; exact cell_of (v := w3.alloc (.cells #[I (t : Nat), I s.ce, I s.op, I s.ol, I s.ne] 34)) (b := w3.heap.size) (by show (w3.heap.push _)[w3.heap.size]? = _; simp; exact ⟨rfl, rfl⟩) hy
    have hz4 : w4.rowIs Z 3 N (fun t => I (((repH cl (L.take j)).cnt t : Nat) : Int)) := hw4 ▸ hz.alloc _
    have hk4 : Kq w3.heap.size w3 w4 := hw4 ▸ Kq.alloc _ (Nat.le_refl _)
    have hg4 : ∀ j y, (flat L)[j]? = some y → w4.cell? ⟨g, j, none⟩ = some y := fun j y h => kq_all hk4 _ _ (hg j y h)
    have hxZ : w3.heap.size ≠ Z := by have := hz.lt; omega
    have hB3 : B ≤ w3.heap.size := Nat.le_trans hB hk.size
    clear hw4
    refine wp_seq ?_
    refine wp_then (p4_49 (G := 0) (hc4 0 _ rfl) htN h4) fun a5 w5 h => ?_
    obtain ⟨h5, rfl⟩ := h
    refine wp_cond_false (h5.hf rfl) (wp_skip ?_)
    show Code.wp _ _ _ _ _
    refine wp_then (p4_51 (G := 0) (hc4 0 _ rfl) htN (by omega) (hz4.cell htN) (hz4.frozen _) h5.tl) fun a6 w6 h => ?_
    obtain ⟨h6, hw6⟩ := h
    have hc6 : ∀ (i : Nat) (y : Value), #[I (t : Nat), I s.ce, I s.op, I s.ol, I s.ne][i]? = some y → w6.cell? ⟨w3.heap.size, i, none⟩ = some y := fun i y hy => by
      rw [hw6, World.cell?_of_block (w := w5) (Below.heap_setCell _ _ _ _ hxZ)]; exact hc4 i y hy
    have hz6 : w6.rowIs Z 3 N (fun x => if x = t then I (((repH cl (L.take j)).cnt t + 1 : Nat) : Int) else I (((repH cl (L.take j)).cnt x : Nat) : Int)) := hw6 ▸ hz4.set t _
    have hk6 : Kq B w5 w6 := hw6 ▸ Kq.set _ hBZ
    have hg6 : ∀ j y, (flat L)[j]? = some y → w6.cell? ⟨g, j, none⟩ = some y := fun j y h => by
      rw [hw6, World.cell?_of_block (w := w5) (Below.heap_setCell _ _ _ _ hgZ')]; exact hg4 j y h
    clear hw6
    refine wp_seq ?_
    refine wp_then (p4_52 (G := 0) (hc6 2 _ rfl) h6) fun a7 w7 h => ?_
    obtain ⟨h7, rfl⟩ := h
    have fin : ∀ {Q1 : Exit → Act → World → Prop} {a' : Act} {w' : World} {cnt : Nat}, Fl 262 [(1, I (n : Nat)), (2, .slice (some ⟨b, o, none⟩) N cap), (8, Pt wb 0), (9, .slice (some ⟨M, 0, none⟩) N N), (22, .slice (some ⟨Z, 0, none⟩) N N), (23, .slice (some ⟨g, 0, none⟩) T ct), (24, I (j : Nat)), (25, Pt w3.heap.size 0)] a' → w'.cell? ⟨w3.heap.size, 0, none⟩ = some (I (t : Nat)) → w'.cell? ⟨w3.heap.size, 2, none⟩ = some (I s.op) → w'.cell? ⟨Z, t, none⟩ = some (I (cnt : Nat)) → (s.op ≠ 10 → cnt ≤ n + 1) →
        (∀ a'', Fl 262 [(1, I (n : Nat)), (2, .slice (some ⟨b, o, none⟩) N cap), (8, Pt wb 0), (9, .slice (some ⟨M, 0, none⟩) N N), (22, .slice (some ⟨Z, 0, none⟩) N N), (23, .slice (some ⟨g, 0, none⟩) T ct), (24, I (j : Nat))] a'' → Q1 .normal a'' w') →
        (Code.seq q4_54 (.cond (.tmp 261) (.seq q4_55 .ret) .skip)).wp Try.prog Q1 a' w' := by
      intro Q1 a' w' cnt hA' d0 d2 dz hc hQ1
      by_cases h10 : s.op = 10
      · rw [h10] at d2
        refine wp_then (p4_54e (G := 0) (t := 0) (c := 0) d2 hA') fun a8 w8 h => ?_
        obtain ⟨h8, rfl⟩ := h
        exact wp_cond_false (h8.hf rfl) (wp_skip (hQ1 _ h8.tl))
      · refine wp_then (p4_54n (G := 0) hn1 d2 h10 d0 htN dz (hc h10) hA') fun a8 w8 h => ?_
        obtain ⟨h8, rfl⟩ := h
        exact wp_cond_false (h8.hf rfl) (wp_skip (hQ1 _ h8.tl))
    have last : ∀ {a' : Act} {w' : World}, Fl 262 [(1, I (n : Nat)), (2, .slice (some ⟨b, o, none⟩) N cap), (8, Pt wb 0), (9, .slice (some ⟨M, 0, none⟩) N N), (22, .slice (some ⟨Z, 0, none⟩) N N), (23, .slice (some ⟨g, 0, none⟩) T ct), (24, I (j : Nat))] a' → (∀ j y, (flat L)[j]? = some y → w'.cell? ⟨g, j, none⟩ = some y) → w'.rowIs Z 3 N (fun t => I (((repH cl (L.take (j + 1))).cnt t : Nat) : Int)) → Kq B w1 w' →
        q4_47.wp Try.prog (fun e a x => e = .normal ∧ ∃ n', n' < T - j ∧ ∃ k, k ≤ T ∧ n' = T - k ∧ Fl 262 [(1, I (n : Nat)), (2, .slice (some ⟨b, o, none⟩) N cap), (8, Pt wb 0), (9, .slice (some ⟨M, 0, none⟩) N N), (22, .slice (some ⟨Z, 0, none⟩) N N), (23, .slice (some ⟨g, 0, none⟩) T ct), (24, I (k : Nat))] a ∧ (∀ j y, (flat L)[j]? = some y → x.cell? ⟨g, j, none⟩ = some y) ∧ x.rowIs Z 3 N (fun t => I (((repH cl (L.take k)).cnt t : Nat) : Int)) ∧ Kq B w1 x) a' w' := by
      intro a' w' hA' q1 q2 q3
      refine wp_last (p4_47 (G := 0) (by omega) hA') fun a9 w9 h => ?_
      obtain ⟨h9, rfl⟩ := h
      exact ⟨rfl, T - (j + 1), by omega, j + 1, by omega, rfl, h9, q1, q2, q3⟩
    have hk7 : Kq B w1 w7 := hk.trans ((hk4.le hB3).trans hk6)
    have hnext : ∀ x, ((repH cl (L.take (j + 1))).cnt x) = if x = t then (if s.op = 9 then 0 else (repH cl (L.take j)).cnt t + 1) else (repH cl (L.take j)).cnt x := fun x => by
      have : repH cl (L.take (j + 1)) = rsH cl (repH cl (L.take j)) s := hrep
      rw [this, rsH_cnt cl _ s ht]
      by_cases e : x = t
      · subst e; rw [upd_same, if_pos rfl]
      · rw [upd_ne _ _ e, if_neg e]
    by_cases h9 : s.op = 9
    · refine wp_cond_true (h7.hd (by simp [h9])) ?_
      refine wp_last (p4_53 (G := 0) (c := (((repH cl (L.take j)).cnt t + 1 : Nat) : Int)) (hc6 0 _ rfl) htN (by rw [hz6.cell htN, if_pos rfl]) (hz6.frozen _) h7.tl) fun a8 w8 h => ?_
      obtain ⟨h8, hw8⟩ := h
      have hc8 : ∀ (i : Nat) (y : Value), #[I (t : Nat), I s.ce, I s.op, I s.ol, I s.ne][i]? = some y → w8.cell? ⟨w3.heap.size, i, none⟩ = some y := fun i y hy => by
        rw [hw8, World.cell?_of_block (w := w7) (Below.heap_setCell _ _ _ _ hxZ)]; exact hc6 i y hy
      have hz8 : w8.rowIs Z 3 N (fun t => I (((repH cl (L.take (j + 1))).cnt t : Nat) : Int)) := (hw8 ▸ hz6.set t _ : w8.rowIs Z 3 N _).congr fun x hx => by
        rw [hnext x, if_pos h9]
        by_cases e : x = t
        · rw [if_pos e, if_pos e]
        · rw [if_neg e, if_neg e, if_neg e]
      have hk8 : Kq B w7 w8 := hw8 ▸ Kq.set _ hBZ
      have hg8 : ∀ j y, (flat L)[j]? = some y → w8.cell? ⟨g, j, none⟩ = some y := fun j y h => by
        rw [hw8, World.cell?_of_block (w := w7) (Below.heap_setCell _ _ _ _ hgZ')]; exact hg6 j y h
      show Code.wp _ _ _ _ _
      refine fin (cnt := 0) h8 (hc8 0 _ rfl) (hc8 2 _ rfl) (by rw [hz8.cell htN, hnext t, if_pos rfl, if_pos h9]) (fun _ => by omega) fun a9 h9' => ?_
      show Code.wp _ _ _ _ _
      refine wp_mono (last h9' hg8 hz8 (hk7.trans hk8)) fun e a w h => ?_
      obtain ⟨rfl, h⟩ := h
      exact h
    · refine wp_cond_false (h7.hf (by simp [h9])) (wp_skip ?_)
      show Code.wp _ _ _ _ _
      rw [if_neg h9] at hcn
      refine fin (cnt := (repH cl (L.take j)).cnt t + 1) h7.tl (hc6 0 _ rfl) (hc6 2 _ rfl) (by rw [hz6.cell htN, if_pos rfl]) hcn fun a9 h9' => ?_
      show Code.wp _ _ _ _ _
      refine wp_mono (last h9' hg6 (hz6.congr fun x hx => ?_) hk7) fun e a w h => ?_
      · rw [hnext x, if_neg h9]
        by_cases e : x = t
        · rw [if_pos e, if_pos e]
        · rw [if_neg e, if_neg e]
      · obtain ⟨rfl, h⟩ := h
        exact h
  · refine .inl ⟨h3.hf (by simp [hlt]), ?_⟩
    exact k _ _ (h3.sub (by simp)) hk
end

noncomputable def T4 : Code := .seq (.seq q4_4 (.cond ( .tmp 41 ) (.seq q4_5 .ret) .skip)) (.seq (.seq q4_6 (.cond ( .tmp 59 ) (.seq q4_7 .ret) .skip)) (.seq q4_8 (.seq (.seq q4_9 (.block 0 K4_0)) (.seq (.seq q4_13 (.block 2 K4_2)) (.seq (.seq q4_22 (.block 6 K4_6)) (.seq (.seq q4_32 (.block 12 K4_12)) (.seq q4_43 (.seq q4_44 (.seq (.seq q4_45 (.block 16 K4_16)) (.seq q4_56 .ret))))))))))
theorem fine_T4 : fineCode Try.prog true LV T4 := fineCode_askS callV extT (by kernel_rfl)
/-- Play has refused. -/
theorem tail4_no {a : Act} {v : World} {E : Int} (hE : ¬ E = 0) (hA : Fl 262 [(7, .bool true), (10, I E)] a) : T4.wp Try.prog (fun e a' w' => e = .ret ∧ Fl 262 [(6, .bool true)] a' ∧ Kq v.heap.size v w') a v := by
  unfold T4
  refine wp_seq (wp_then (p4_4n hE hA) fun a1 w1 h => ?_)
  obtain ⟨h1, rfl⟩ := h
  refine wp_cond_true (h1.hd rfl) ?_
  refine wp_then (p4_5 h1.tl) fun a2 w2 h => ?_
  obtain ⟨h2, rfl⟩ := h
  exact wp_ret ⟨rfl, h2, Kq.refl _ _⟩
set_option maxHeartbeats 1000000 in
/-- Play has answered. -/
theorem tail4_yes {n N b o cap M : Nat} {a : Act} {v : World} {S : TS} {A ln cp rb ro : Nat → Nat} {pc : Nat → Option Addr} {cl : Nat → List Cl} {l : Nat → Ph} {L : List Stp} (hn0 : 0 < n) (hn1 : n ≤ 100) (hN : N ≤ 8) (h64 : ∀ j, j < N → ln j ≤ 64)
    (hS : SL N b o ln cp rb ro pc cl v) (hL : AL N M A ln l v) (hR : Rep zn S v) (hsk : S.stk = false) (htr : S.tr = flat L) (hSn : S.n = L.length) (hs4 : S.n ≤ 4000000) (hst : StsR N n cl rh0 L)
    (hans : ∀ i, i < N → ∀ (k : Nat) (q : Int × Int), (l i).ans[k]? = some q → q.2 ≠ 0 → ∃ c, (cl i)[k]? = some c ∧ Rc (Ed N n cl) (keyH n c.ca) (keyH n c.ca))
    (hA : Fl 262 [(7, .bool true), (10, I 0), (1, I (n : Nat)), (2, .slice (some ⟨b, o, none⟩) N cap), (8, Pt S.wb 0), (9, .slice (some ⟨M, 0, none⟩) N N)] a) : T4.wp Try.prog (fun e a' w' => e = .ret ∧ Fl 262 [(6, .bool true)] a' ∧ Kq v.heap.size v w') a v := by
  unfold T4
  refine wp_seq (wp_then (p4_4 (G := 0) hA) fun a1 w1 h => ?_)
  obtain ⟨h1, rfl⟩ := h
  refine wp_cond_false (h1.hf rfl) (wp_skip ?_)
  show Code.wp _ _ _ _ _
  refine wp_seq (wp_then (p4_6 (G := 0) hR rfl hsk hn0 hn1 h1.tl) fun a2 w2 h => ?_)
  obtain ⟨h2, rfl⟩ := h
  refine wp_cond_false (h2.hf rfl) (wp_skip ?_)
  show Code.wp _ _ _ _ _
  refine wp_then (p4_8 (G := 0) hn1 h2.tl) fun a3 w3 h => ?_
  obtain ⟨h3, hw3⟩ := h
  have hk3 : Kq w2.heap.size w2 w3 := hw3 ▸ Kq.alloc _ (Nat.le_refl _)
  have hs3 : w3.heap.size = w2.heap.size + 1 := by rw [hw3, size_alloc]
  have hr3 : w3.rowIs w2.heap.size 79 n (fun _ => .slice none 0 0) := hw3 ▸ World.rowIs_made w2 (.slice none 0 0) n 79
  clear hw3
  refine wp_seq (la4_rows (N := N) (b := b) (o := o) (cap := cap) (M := M) (wb := S.wb) (G := w2.heap.size) hn1 hs3 hr3 (h3.sub (by simp)) fun a4 w4 h4 hT4 hs4' hk4 => ?_)
  refine wp_seq (la4_edges (v := w2) hn0 hn1 hN h64 rfl hS hT4 (by omega) (hk3.trans hk4) h4 fun a5 w5 T5 h5 hT5 hs5 hk5 hE5 => ?_)
  refine wp_seq (la4_ways (v := w2) (E := Ed N n cl) hn1 hT5 hs5 hk5 hE5 h5 fun a6 w6 T6 h6 hT6 hs6 hk6 hW6 => ?_)
  have hEn : ∀ i j, Ed N n cl i j → i < n ∧ j < n := by
    rintro i j ⟨t, ht, c, hc, hp, rfl, rfl⟩
    exact ⟨keyH_lt hn0 _, keyH_lt hn0 _⟩
  refine wp_seq (la4_ans (v := w2) hn0 hn1 hN h64 rfl hS hL hT6 hs6 hk6 (fun i hi k q c hq hc hy => ?_) h6 fun a7 w7 h7 hs7 hk7 => ?_)
  · obtain ⟨c', hc', hrc⟩ := hans i hi k q hq hy
    rw [hc] at hc'
    cases hc'
    exact hW6 _ _ (keyH_lt hn0 _) (keyH_lt hn0 _) (hrc.pth hEn)
  show Code.wp _ _ _ _ _
  refine wp_then (p4_43 hN h7) fun a8 w8 h => ?_
  obtain ⟨h8, hw8⟩ := h
  have hk8 : Kq w7.heap.size w7 w8 := hw8 ▸ Kq.alloc _ (Nat.le_refl _)
  have hs8 : w8.heap.size = w7.heap.size + 1 := by rw [hw8, size_alloc]
  have hr8 : w8.rowIs w7.heap.size 3 N (fun _ => I 0) := hw8 ▸ World.rowIs_made w7 (I 0) N 3
  clear hw8
  have hkv : Kq w2.heap.size w2 w8 := hk7.trans (hk8.le (by omega))
  have gR : Grows w2 w8 := hkv.grows (Nat.le_refl _)
  refine wp_then (p4_44 (G := 0) (n := n) (N := N) (b := b) (o := o) (cap := cap) (M := M) (wb := S.wb) (Z := w7.heap.size) (S := S) (hR.grows gR.size gR.old) rfl (by omega) (by rw [htr]; exact flat_one L) (h8.sub (by simp))) fun a9 w9 h => ?_
  obtain ⟨p, g, ct, h9, hp, htc, g9⟩ := h
  rw [htr] at htc
  refine wp_seq (la4_steps (B := w2.heap.size) (L := L) hn1 hN hSn hs4 (fun h => (hp h).1) (fun h => by have := (hp h).2; omega) (by omega) hst (by have := g9.size; omega) htc (hr8.of_block (g9.old _ (by omega))) h9 fun a10 w10 h10 hk10 => ?_)
  show Code.wp _ _ _ _ _
  refine wp_then (p4_56 (h10.sub (by simp))) fun a11 w11 h => ?_
  obtain ⟨h11, rfl⟩ := h
  refine wp_ret ⟨rfl, h11, hkv.trans (Kq.trans ⟨g9.os, g9.output, g9.size, fun k hk => g9.old k (by omega)⟩ hk10)⟩
end Go.Proofs.Ytfjjoohflcchnaa.Gen

namespace Go.Proofs.Ytfjjoohflcchnaa.Gen
open Go Go.Lift Go.Conc Go.RowKit

/-- Code that returns, walked alone. -/
theorem goesI_retZ {Ch : Nat → Prop} {Stop : Goroutine → World → Prop} {main : Bool} {f : FuncId} {c : Code} {act : Act} {more : List Item} {cs : List Frame} {v w : World} {Q : Act → World → Prop} (hvw : Rel zn v w) (hn : NoRow Ch v) (hc : fineCode Try.prog true LV c) (ha : act.defers = [])
    (hwp : ∀ τ, c.wp Try.prog (fun e a w' => e = .ret ∧ Q a w') act (onTape v τ 0))
    (h : ∀ a' v' w' todo, Q a' v' → a'.defers = [] → Rel zn v' w' → NoRow Ch v' → GoesI Try.prog main (DT (ScZ zn) Ch) Stop (G { (base f).at a' todo with mode := .returning } cs) w') :
    GoesI Try.prog main (DT (ScZ zn) Ch) Stop (G ((base f).at act (.code c :: more)) cs) w := by
  have hfin := lift_code (P := Try.prog) (z := zn) (wr := true) (L := LV) (D := DT (ScZ zn) Ch) (I := NoRow Ch) (main := main) (b := base f) (k := more) (cs := cs) hE fineV noRow_keeps (fun v v' w w' es hi hr ho he => dt_of_z v v' w w' es hi hr ho he) hvw hc ha (by simp [base]) hn
    (Q := fun e a w' => e = .ret ∧ Q a w') hwp (fun e a w hq => .inr hq.1)
  refine hfin.then ?_
  rintro g w' ⟨a', v', hr, hiv, hd, ⟨⟨hq, _⟩, _⟩ | ⟨⟨_, hQ⟩, todo, rfl⟩⟩
  · cases hq
  · exact h a' v' w' todo hQ hd hr hiv

theorem _root_.Go.Proofs.Ytfjjoohflcchnaa.Grows.toAt {W v w : World} (h : Grows W v) (hr : Rel zn v w) (d : Nat) : Grows W (w.at d) := by
  have e : (w.at d).heap = v.heap := hr.eq
  exact ⟨by rw [e]; exact h.size, fun b hb => by rw [e]; exact h.old b hb, hr.os.trans h.os, hr.output.trans h.output⟩
theorem _root_.Go.Proofs.Ytfjjoohflcchnaa.Grows.andThen {W v w : World} (h : Grows W v) (k : Grows v w) : Grows W w := ⟨Nat.le_trans h.size k.size, fun b hb => by rw [k.old b (by have := h.size; omega), h.old b hb], k.os.trans h.os, k.output.trans h.output⟩
def PostT (W : World) (r : Value) (w' : World) : Prop := r = .bool true ∧ Grows W w'
end Go.Proofs.Ytfjjoohflcchnaa.Gen

namespace Go.Proofs.Ytfjjoohflcchnaa.Gen
open Go Go.Lift Go.Conc Go.RowKit

def InR (x : Int) : Prop := -9223372036854775808 ≤ x ∧ x < 9223372036854775808
def Cl.ok (c : Cl) : Prop := InR c.cb ∧ InR c.cc
/-- Where a list of ints lies that came in. -/
structure InI (W : World) (p : Option Addr) (b o : Nat) (xs : List Int) : Prop where
  at_ : 0 < xs.length → p = some ⟨b, o, none⟩
  cell : ∀ k x, xs[k]? = some x → W.cell? ⟨b, o + k, none⟩ = some (I x)
  inr : ∀ x ∈ xs, InR x
  len : xs.length ≤ 17592186043904
theorem InI.grows {W W' : World} {p : Option Addr} {b o : Nat} {xs : List Int} (h : InI W p b o xs) (g : Grows W W') : InI W' p b o xs :=
  ⟨h.at_, fun k x hk => g.cell (h.cell k x hk), h.inr, h.len⟩
/-- Where scripts lie that came in. -/
structure InS (W : World) (p : Option Addr) (b o n : Nat) (pc : Nat → Option Addr) (ln cp rb : Nat → Nat) (cl : Nat → List Cl) : Prop where
  at_ : 0 < n → p = some ⟨b, o, none⟩
  row : ∀ k, k < n → W.cell? ⟨b, o + k, none⟩ = some (.slice (pc k) (ln k) (cp k))
  len : ∀ j, j < n → (cl j).length = ln j
  pq : ∀ j, j < n → 0 < ln j → pc j = some ⟨rb j, roOf (pc j), none⟩
  call : ∀ j, j < n → ∀ (k : Nat) (c : Cl), (cl j)[k]? = some c → W.cell? ⟨rb j, roOf (pc j) + k * 4, none⟩ = some (I c.po) ∧ W.cell? ⟨rb j, roOf (pc j) + k * 4 + 1, none⟩ = some (I c.ca) ∧ W.cell? ⟨rb j, roOf (pc j) + k * 4 + 2, none⟩ = some (I c.cb) ∧ W.cell? ⟨rb j, roOf (pc j) + k * 4 + 3, none⟩ = some (I c.cc)
  ok : ∀ j, j < n → ∀ c ∈ cl j, InR c.ca ∧ c.ok
  n : n ≤ 17592186043904
theorem InS.grows {W W' : World} {p : Option Addr} {b o n : Nat} {pc : Nat → Option Addr} {ln cp rb : Nat → Nat} {cl : Nat → List Cl} (h : InS W p b o n pc ln cp rb cl) (g : Grows W W') : InS W' p b o n pc ln cp rb cl :=
  ⟨h.at_, fun k hk => g.cell (h.row k hk), h.len, h.pq, fun j hj k c hc => by
    have := h.call j hj k c hc
    exact ⟨g.cell this.1, g.cell this.2.1, g.cell this.2.2.1, g.cell this.2.2.2⟩, h.ok, h.n⟩

theorem lens_scrs (mc : Mc) (fid : FuncId) (caps : Array Value) (pk : Nat → Option Obj) (N n : Nat) (K : List (Nat × Int)) (pc : Nat → Option Addr) (ln cp rb : Nat → Nat) (cl : Nat → List Cl) (hl : ∀ j, j < n → (cl j).length ≤ 64) : lens (scrs mc fid caps pk N n K pc ln cp rb cl) ≤ 64 * n := by
  unfold lens scrs
  rw [List.map_map]
  have : ∀ (m j : Nat), j + m ≤ n → ((List.range' j m).map ((fun s : Scr mc => s.calls.length) ∘ scrOf mc fid caps pk N n (K.map (·.1)) pc ln cp rb cl)).sum ≤ 64 * m := by
    intro m
    induction m with
    | zero => intro j _; simp
    | succ m ih =>
      intro j hj
      rw [List.range'_succ, List.map_cons, List.sum_cons]
      have h1 := ih (j + 1) (by omega)
      have h2 : ((fun s : Scr mc => s.calls.length) ∘ scrOf mc fid caps pk N n (K.map (·.1)) pc ln cp rb cl) j ≤ 64 := hl j (by omega)
      omega
  exact this n 0 (by omega)
theorem scrs_len (mc : Mc) (fid : FuncId) (caps : Array Value) (pk : Nat → Option Obj) (N n : Nat) (K : List (Nat × Int)) (pc : Nat → Option Addr) (ln cp rb : Nat → Nat) (cl : Nat → List Cl) : (scrs mc fid caps pk N n K pc ln cp rb cl).length = n := by simp [scrs]
/-- The world is new: the scripts lie there for Play. -/
theorem asked_of {W v : World} {p : Option Addr} {b o n : Nat} {pc : Nat → Option Addr} {ln cp rb : Nat → Nat} {cl : Nat → List Cl} (h : InS W p b o n pc ln cp rb cl) {xs : List Int} {wb bk : Nat} {sc : Value} (hn : IsNew W xs wb bk sc v) (h64 : ∀ j, j < n → ln j ≤ 64) (h0 : 0 < n) : Asked v (newS wb bk W.heap.size sc xs) n b o pc ln cp rb cl := by
  have g := h.grows hn.old
  have far : ∀ (a : Addr) (x : Value), W.cell? a = some x → ¬ Own (newS wb bk W.heap.size sc xs) [] a.block := fun a x ha ho => by
    have := hn.new _ (.inl ho)
    have := World.block_lt_of_cell? _ _ ha
    omega
  refine ⟨fun j hj => ⟨h.len j hj, h64 j hj⟩, g.row, far _ _ (h.row 0 h0), fun j hj hl => ⟨h.pq j hj hl, ?_⟩, g.call, fun j hj c hc => (h.ok j hj c hc).1⟩
  obtain ⟨c, hc⟩ : ∃ c, (cl j)[0]? = some c := ⟨_, List.getElem?_eq_getElem (by rw [h.len j hj]; exact hl)⟩
  exact far _ _ (h.call j hj 0 c hc).1

end Go.Proofs.Ytfjjoohflcchnaa.Gen

namespace Go.Proofs.Ytfjjoohflcchnaa.Gen
open Go Go.Lift Go.Conc Go.RowKit
/-! ### The world stays where it is -/
theorem going_wb (S : TS) (i : Nat) (t : Thr) : (going S i t).wb = S.wb := by
  unfold going
  first
    | rfl
    | (unfold picked; split <;> rfl)
    | (split <;> rfl)
theorem pturn_wb {mc : Mc} {p p' : PSt} (h : pturn mc p = some p') : p'.S.wb = p.S.wb := by
  unfold pturn at h
  split at h
  · split at h
    · cases h; rfl
    · cases h
  · cases h
    exact (resume_sta _ _ _ _ _).wb.trans (going_wb _ _ _)
theorem turns_wb {mc : Mc} {m : Nat} {p p' : PSt} (h : Turns mc m p p') : p'.S.wb = p.S.wb := by
  induction h with
  | stop _ => rfl
  | step h1 _ ih => exact ih.trans (pturn_wb h1)
theorem hires_wb {mc : Mc} {k : Nat} {ss : List (Scr mc)} {S S' : TS} {l l' : Nat → Ph} (h : Hires mc k ss S l S' l') : S'.wb = S.wb := by
  induction h with
  | nil => rfl
  | cons tv tb gc _ ih => exact ih.trans (flow_sta _ _ _ _ _ _ _).wb

end Go.Proofs.Ytfjjoohflcchnaa.Gen

namespace Go.Proofs.Ytfjjoohflcchnaa.Gen
open Go Go.Lift Go.Conc Go.RowKit
variable {mc : Mc}

/-- It goes on from a world v0 (state S0, cells K0), and is in a world v: state S (σ, but for the trace's place), cells κ; Mo is its own. -/
structure Now (X : Fix mc) (z : Nat → Option Nat) (cont : Addr → Value) (Ch : Nat → Prop) (S0 : TS) (K0 : List (Nat × Int)) (v0 : World) (Mo0 Mo : Nat → Option Obj) (σ : TS) (κ : List (Nat × Int)) (S : TS) (v w : World) (t : Thr) : Prop where
  at_ : At X z cont Ch S κ v w t
  evo : EvoP (fun b => Mo0 b ≠ none) z S0 K0 v0 S κ v
  nv : nv S = σ
  bk : S.bk = S0.bk
  mo : Has Mo v
  far : ∀ b, Mo b ≠ none → ¬ Own S κ b
  new : ∀ b, Mo b ≠ none → Mo0 b ≠ none ∨ v0.heap.size ≤ b
  row : ∀ b o, Mo b = some o → ∃ c e f, o = .cells c e f

section
variable {X : Fix mc} {z : Nat → Option Nat} {cont : Addr → Value} {Ch : Nat → Prop} {Stop : Goroutine → World → Prop} {cu : Value → Goroutine} {S0 : TS} {K0 : List (Nat × Int)} {v0 : World} {Mo0 Mo : Nat → Option Obj} {σ : TS} {κ : List (Nat × Int)} {S : TS} {v w : World} {t : Thr} {H : Nx → (Nat → Option Obj) → Goroutine → Prop}

theorem Now.good (N : Now X z cont Ch S0 K0 v0 Mo0 Mo σ κ S v w t) {x : Nx} (hx : ∀ e y, x ≠ .ans e y) : Good v0 Mo0 x Mo := ⟨hx, N.new, N.row⟩

/-- It goes on. -/
theorem Now.on (N : Now X z cont Ch S0 K0 v0 Mo0 Mo σ κ S v w t) {S' σ' : TS} {κ' : List (Nat × Int)} {v' w' : World} {t' : Thr} (e : Evo z S κ v S' κ' v') (r : Rel z v' w') (n : NoRow Ch v') (hS : Gen.nv S' = σ') (ht : S'.thr[X.i]? = some t') (htb : t'.tb = X.tb) (hgc : t'.gc = X.gc) (hbk : S'.bk = S.bk) (hok : KOk mc κ') : Now X z cont Ch S0 K0 v0 Mo0 Mo σ' κ' S' v' w' t' := by
  have kp : ∀ b, b < v.heap.size → ¬ Own S κ b → v'.heap[b]? = v.heap[b]? ∧ ¬ Own S' κ' b := fun b hb ho => (Evo.toP (Pr := fun _ => False) e).keeps hb ho (fun h => h)
  have km : ∀ (M : Nat → Option Obj), Has M v → (∀ b, M b ≠ none → ¬ Own S κ b) → Has M v' ∧ ∀ b, M b ≠ none → ¬ Own S' κ' b := fun M hM hf => by
    have h1 : ∀ b o, M b = some o → v'.heap[b]? = v.heap[b]? ∧ ¬ Own S' κ' b := fun b o hb => kp b (Array.getElem?_eq_some_iff.1 (hM b o hb)).1 (hf b (by rw [hb]; simp))
    refine ⟨fun b o hb => by rw [(h1 b o hb).1]; exact hM b o hb, fun b hb => ?_⟩
    obtain ⟨o, ho⟩ := Option.ne_none_iff_exists'.1 hb
    exact (h1 b o ho).2
  have k1 := km X.pk N.at_.pk N.at_.far
  have k2 := km Mo N.mo N.far
  exact ⟨⟨r, n, e.mem, ht, htb, hgc, ⟨e.blks.trans N.at_.kb.1, hok⟩, N.at_.z, N.at_.cont, k1.1, k1.2⟩, N.evo.trans (Evo.toP e), hS, hbk.trans N.bk, k2.1, k2.2, N.new, N.row⟩
/-- .. with nothing changed. -/
theorem Now.same (N : Now X z cont Ch S0 K0 v0 Mo0 Mo σ κ S v w t) {v' w' : World} (r : Rel z v' w') (n : NoRow Ch v') (e1 : v'.heap = v.heap) (e2 : v'.os = v.os) (e3 : v'.output = v.output) : Now X z cont Ch S0 K0 v0 Mo0 Mo σ κ S v' w' t :=
  N.on (N.at_.mem.grows ⟨by rw [e1]; exact Nat.le_refl _, fun b _ => by rw [e1], e2, e3⟩) r n N.nv N.at_.thr N.at_.tb N.at_.gc rfl N.at_.kb.2
/-- A call goes on from its seat. -/
theorem Now.here (A : At X z cont Ch S κ v w t) (hm : Has Mo v) (hf : ∀ b, Mo b ≠ none → ¬ Own S κ b) (hr : ∀ b o, Mo b = some o → ∃ c e f, o = .cells c e f) : Now X z cont Ch S κ v Mo Mo (Gen.nv S) κ S v w t :=
  ⟨A, Evo.toP (A.mem.grows ⟨Nat.le_refl _, fun _ _ => rfl, rfl, rfl⟩), rfl, rfl, hm, hf, fun b hb => .inl hb, hr⟩
theorem Now.cell (N : Now X z cont Ch S0 K0 v0 Mo0 Mo σ κ S v w t) {j cb : Nat} (h : X.kb[j]? = some cb) : κ[j]? = some (cb, (cellAt κ j).2) ∧ cellAt κ j = (cb, (cellAt κ j).2) := by
  rw [← N.at_.kb.1, List.getElem?_map, Option.map_eq_some_iff] at h
  obtain ⟨p, h1, rfl⟩ := h
  have : cellAt κ j = p := by unfold cellAt; rw [h1]; rfl
  rw [this]
  exact ⟨h1, rfl⟩

/-- A turn. -/
theorem ob_turn {op : Int} {j : Nat} {q : Q} (hob : Ob X H z cont Ch Stop cu S0 K0 v0 Mo0 σ κ (.turn op j q)) (N : Now X z cont Ch S0 K0 v0 Mo0 Mo σ κ S v w t) (g : Goroutine) (w' : World) (hg : GiveT z cont X.h S.bk t.gc (H (.turn op j q) Mo) (Then z Ch S κ v (waiting S X.i t 1 op j) κ) g w') : Stop g w' := by
  refine hob.seat 1 op j (.inl ⟨⟨q, rfl⟩, rfl⟩) g w' Mo (N.good (fun _ _ h => by cases h)) ?_
  rw [N.at_.gc, N.bk] at hg
  refine atGive_mono (fun hF => ?_) hg
  obtain ⟨v', r, n, e⟩ := hF
  have N' := N.on e r n rfl (t' := { t with st := 1, op := op, ce := j, se := _ }) (List.getElem?_set_self (List.getElem?_eq_some_iff.1 N.at_.thr).1) N.at_.tb N.at_.gc rfl N.at_.kb.2
  refine ⟨v', _, r, n, ?_, N'.evo, N'.mo, N'.far⟩
  rw [← N.nv, show thrI (Gen.nv S) X.i = t from thrI_of N.at_.thr]
  rfl
end
end Go.Proofs.Ytfjjoohflcchnaa.Gen
