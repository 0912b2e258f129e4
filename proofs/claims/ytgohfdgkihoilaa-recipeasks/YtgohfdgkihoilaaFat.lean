/- The law RecipeFates (5). -/
import Derived.Test.YtgohfdgkihoilaaFatP
set_option linter.unusedSimpArgs false
set_option linter.unusedVariables false
namespace Go.Proofs.Ytgohfdgkihoilaa.Rcp
open Go Go.RowKit Go.Deep Go.Maps

theorem ringsTo_more (l : List Rc) (j : Nat) : ∀ d, ∃ t, ringsTo l (j + d) = ringsTo l j ++ t ∧ ∀ x ∈ t, (j : Int) ≤ x
  | 0 => ⟨[], by simp, fun x hx => by cases hx⟩
  | d + 1 => by
    obtain ⟨t, ht, hx⟩ := ringsTo_more l j d
    by_cases h : Rch (nd l) (j + d) (j + d)
    · refine ⟨t ++ [((j + d : Nat) : Int)], ?_, fun x hx' => ?_⟩
      · rw [show j + (d + 1) = (j + d) + 1 by omega, ringsTo_yes h, ht, List.append_assoc]
      · rcases List.mem_append.1 hx' with hx' | hx'
        · exact hx x hx'
        · simp at hx'; omega
    · exact ⟨t, by rw [show j + (d + 1) = (j + d) + 1 by omega, ringsTo_no h, ht], hx⟩
/-- What stands at the place of those below i. -/
theorem ring_at {l : List Rc} {i n : Nat} (hi : i < n) : (Rch (nd l) i i → (ringsTo l n)[(ringsTo l i).length]? = some (i : Int)) ∧ (∀ x, (ringsTo l n)[(ringsTo l i).length]? = some x → (x == (i : Int)) = true → Rch (nd l) i i) := by
  obtain ⟨t, ht, hx⟩ := ringsTo_more l (i + 1) (n - (i + 1))
  rw [show i + 1 + (n - (i + 1)) = n by omega] at ht
  constructor
  · intro h
    rw [ht, ringsTo_yes h]
    simp
  · intro x hxe hxi
    refine Classical.byContradiction fun h => ?_
    rw [ht, ringsTo_no h, List.getElem?_append_right (Nat.le_refl _), Nat.sub_self] at hxe
    have := hx x (List.mem_of_getElem? hxe)
    have : x = (i : Int) := by simpa using hxi
    omega
theorem level_le {l : List Rc} (hR : RIGHT l) {a b : Nat} (h : Rch (nd l) a b) : a < l.length → (l.getD b r0).level ≤ (l.getD a r0).level := by
  have one : ∀ a b, a < l.length → b ∈ nd l a → (l.getD b r0).level ≤ (l.getD a r0).level := fun a b ha hb => by
    have hm : l.getD a r0 ∈ l := List.mem_of_getElem? (getD_some ha r0)
    obtain ⟨n, hn, rfl⟩ := List.mem_map.1 hb
    exact ((hR.good.2 _ hm).2 n hn).2.2
  induction h with
  | one h => exact fun ha => one _ _ ha h
  | step h _ ih => exact fun ha => Int.le_trans (ih (nd_lt hR _ ha _ h)) (one _ _ ha h)
theorem fateV_nat {l : List Rc} (hR : RIGHT l) {x : Nat} (hx : x < l.length) : fateV l x = VV l x := by
  unfold fateV
  rw [if_pos ⟨hR, by omega, by omega⟩]
  simp
theorem fateB_nat {l : List Rc} (hR : RIGHT l) {x : Nat} (hx : x < l.length) : FateB l x ↔ CC l x := by
  unfold FateB
  constructor
  · intro h; simpa using h.2.2.2
  · intro h; exact ⟨hR, by omega, by omega, by simpa using h⟩
theorem tmod_zero (s : Int) : (s - s % 1000003).tmod 1000003 = 0 := by
  have : s - s % 1000003 = 1000003 * (s / 1000003) := by omega
  rw [this]
  exact Int.mul_tmod_right _ _

noncomputable def T5 : Code := (.seq q5_16 (.seq (.seq q5_17 (.block 2 K5_2)) (.seq q5_24 (.seq q5_25 (.seq (.seq q5_26 (.block 4 K5_4)) (.seq q5_31 (.cond ( .tmp 189 ) (.seq q5_32 .ret) .skip)))))))
noncomputable def R5 : Code := (.seq (.seq q5_12 (.cond ( .tmp 58 ) (.seq q5_13 .ret) .skip)) (.seq (.seq q5_14 (.cond ( .tmp 59 ) q5_15 .skip)) (.seq q5_16 (.seq (.seq q5_17 (.block 2 K5_2)) (.seq q5_24 (.seq q5_25 (.seq (.seq q5_26 (.block 4 K5_4)) (.seq q5_31 (.cond ( .tmp 189 ) (.seq q5_32 .ret) .skip)))))))))
section
variable {Z ZT : Nat → Prop} {u : World} {l : List Rc} {b o cap g ct rc i at_ : Nat} {rp : Option Addr} {rb : Nat → Nat} {T : Nat → Nat → Bool} {inn : Bool} {Q : Exit → Act → World → Prop}
set_option maxHeartbeats 2000000 in
theorem tail5 (hR : RIGHT l) (hl : RL Z u (.slice (some ⟨b, o, none⟩) l.length cap) l) (hZ : ∀ i, Z i → i < u.heap.size) (hT : Tab ZT l.length l.length (.slice (some ⟨g, 0, none⟩) l.length ct) rb T u) (hTR : ∀ i k, i < l.length → k < l.length → (T i k = true ↔ Rch (nd l) i k)) (hli : i < l.length)
    (hinn : inn = true ↔ Rch (nd l) i i) {a : Act} (hA : Fl 194 [(0, .slice (some ⟨b, o, none⟩) l.length cap), (5, .slice (some ⟨g, 0, none⟩) l.length ct), (6, .slice rp (ringsTo l l.length).length rc), (7, I (at_ : Nat)), (8, I (i : Nat)), (9, .bool inn)] a) (hK : ∀ a' w', Fl 194 [(0, .slice (some ⟨b, o, none⟩) l.length cap), (5, .slice (some ⟨g, 0, none⟩) l.length ct), (6, .slice rp (ringsTo l l.length).length rc), (7, I (at_ : Nat)), (8, I (i : Nat))] a' → Kp (fun i => i < u.heap.size) u w' → Q .normal a' w') : T5.wp Try.prog Q a u := by
  have h100 := short100 hR
  have hpos : 0 < l.length := hR.good.1
  have hrl : (ringsTo l l.length).length ≤ 100 := Nat.le_trans (ringsTo_len l _) h100
  obtain ⟨g', ct', e, -, hcl⟩ := hT.cells hpos
  cases e
  have hact : ∀ k, k < l.length → u.cell? ⟨b, o + k * 5 + 2, none⟩ = some (I (l.getD k r0).act) ∧ u.cell? ⟨b, o + k * 5 + 1, none⟩ = some (I (l.getD k r0).level) ∧ u.cell? ⟨b, o + k * 5 + 3, none⟩ = some (I (l.getD k r0).value) := fun k hk => by
    obtain ⟨b', o', nv, e, -, -, -, -, c1, c2, c3, -⟩ := hl.at hk
    cases e
    exact ⟨c2, c1, c3⟩
  have hgv : ∀ k, gives l k = ((l.getD k r0).act == 0) := fun k => rfl
  -- the first word on it
  have first : q5_16.wp Try.prog (fun e a' w' => e = .normal ∧ ∃ can, (Fl 194 [(0, .slice (some ⟨b, o, none⟩) l.length cap), (5, .slice (some ⟨g, 0, none⟩) l.length ct), (6, .slice rp (ringsTo l l.length).length rc), (7, I (at_ : Nat)), (8, I (i : Nat)), (9, .bool inn), (10, .bool can)] a' ∧ (can = true ↔ gives l i = true ∧ ¬ Rch (nd l) i i) ∧ w' = u)) a u := by
    cases hg : ((l.getD i r0).act == 0) with
    | true =>
      refine wp_mono (p5_16_a h100 hrl (hact i hli).1 hli hg hA) fun e a w h => ?_
      obtain ⟨he, h1, h2⟩ := h
      refine ⟨he, _, h1, ?_, h2⟩
      rw [hgv, hg, ← hinn]
      cases inn <;> simp
    | false =>
      refine wp_mono (p5_16_b h100 hrl (hact i hli).1 hli hg hA) fun e a w h => ?_
      obtain ⟨he, h1, h2⟩ := h
      refine ⟨he, _, h1, ?_, h2⟩
      rw [hgv, hg]
      simp
  refine wp_then first fun a1 w1 h => ?_
  obtain ⟨can0, h1, hcan0, rfl⟩ := h
  refine wp_seq (wp_then (p5_17 h1) fun a2 w2 h => ?_)
  obtain ⟨h2, rfl⟩ := h
  refine wp_while (t := 75) (fun c a v => ∃ k can, k ≤ l.length ∧ c = l.length - k ∧ Fl 194 [(0, .slice (some ⟨b, o, none⟩) l.length cap), (5, .slice (some ⟨g, 0, none⟩) l.length ct), (6, .slice rp (ringsTo l l.length).length rc), (7, I (at_ : Nat)), (8, I (i : Nat)), (9, .bool inn), (10, .bool can), (11, I (k : Nat))] a ∧ (can = true ↔ (gives l i = true ∧ ¬ Rch (nd l) i i) ∧ ∀ j, j < k → Rch (nd l) i j → gives l j = true ∧ ¬ Rch (nd l) j j) ∧ Kp (fun i => i < w2.heap.size) w2 v ∧ v.heap = w2.heap) _
    ⟨0, can0, Nat.zero_le _, rfl, h2, ⟨fun h => ⟨hcan0.1 h, fun j hj => absurd hj (Nat.not_lt_zero _)⟩, fun h => hcan0.2 h.1⟩, Kp.refl _ _, rfl⟩ ?_
  clear h2 h1 first hA hcan0
  rintro c a3 v ⟨k, can, hkl, rfl, h3, hcan, kv, hvh⟩
  have cv : ∀ {p : Addr} {x : Value}, w2.cell? p = some x → v.cell? p = some x := fun {p x} h => by unfold World.cell? at h ⊢; rw [hvh]; exact h
  refine ⟨_, p5_18 h100 hrl h3, ?_⟩
  rintro a4 w4 ⟨h4, rfl⟩
  by_cases hlk : k < l.length
  · refine .inr ⟨h4.hd (by simp [hlk]), ?_⟩
    refine wp_seq (wp_block ?_)
    refine wp_then (p5_20 h100 hrl hli (cv (hcl i hli)) hlk (cv (hT.cell hli hlk)) h4.tl) fun a5 w5 h => ?_
    obtain ⟨h5, rfl⟩ := h
    -- one key more
    have more : ∀ {a' : Act} {v' : World} {can' : Bool}, Fl 194 [(0, .slice (some ⟨b, o, none⟩) l.length cap), (5, .slice (some ⟨g, 0, none⟩) l.length ct), (6, .slice rp (ringsTo l l.length).length rc), (7, I (at_ : Nat)), (8, I (i : Nat)), (9, .bool inn), (10, .bool can'), (11, I (k : Nat))] a' → (can' = true ↔ can = true ∧ (Rch (nd l) i k → gives l k = true ∧ ¬ Rch (nd l) k k)) → (∃ m, v' = w5.drewN m) →
        q5_19.wp Try.prog (fun e a'' w'' => e = .normal ∧ (∃ n', n' < l.length - k ∧ ∃ k can, k ≤ l.length ∧ n' = l.length - k ∧ Fl 194 [(0, .slice (some ⟨b, o, none⟩) l.length cap), (5, .slice (some ⟨g, 0, none⟩) l.length ct), (6, .slice rp (ringsTo l l.length).length rc), (7, I (at_ : Nat)), (8, I (i : Nat)), (9, .bool inn), (10, .bool can), (11, I (k : Nat))] a'' ∧ (can = true ↔ (gives l i = true ∧ ¬ Rch (nd l) i i) ∧ ∀ j, j < k → Rch (nd l) i j → gives l j = true ∧ ¬ Rch (nd l) j j) ∧ Kp (fun i => i < w2.heap.size) w2 w'' ∧ w''.heap = w2.heap)) a' v' := by
      rintro a' v' can' hA hc ⟨m, rfl⟩
      refine wp_last (p5_19 (by omega) hA) fun a6 w6 h => ?_
      obtain ⟨h6, rfl⟩ := h
      refine ⟨rfl, l.length - (k + 1), by omega, k + 1, can', by omega, rfl, h6, ?_, kv.trans (Kp.drewN _ _), hvh⟩
      rw [hc, hcan]
      constructor
      · rintro ⟨⟨x1, x2⟩, x3⟩
        refine ⟨x1, fun j hj hr => ?_⟩
        rcases Nat.lt_or_eq_of_le (Nat.le_of_lt_succ hj) with hj | rfl
        · exact x2 j hj hr
        · exact x3 hr
      · rintro ⟨x1, x2⟩
        exact ⟨⟨x1, fun j hj hr => x2 j (by omega) hr⟩, x2 k (by omega)⟩
    cases hTk : T i k with
    | false =>
      refine wp_cond_false (h5.hf hTk) (wp_skip ?_)
      have hn : ¬ Rch (nd l) i k := fun h => by have := (hTR i k hli hlk).2 h; rw [hTk] at this; cases this
      show Code.wp _ _ _ _ _
      refine wp_mono (more h5.tl ⟨fun h => ⟨h, fun h' => absurd h' hn⟩, fun h => h.1⟩ ⟨0, rfl⟩) fun e a w h => ?_
      obtain ⟨rfl, h⟩ := h
      exact h
    | true =>
      have hr : Rch (nd l) i k := (hTR i k hli hlk).1 hTk
      refine wp_cond_true (h5.hd hTk) ?_
      have step : q5_21.wp Try.prog (fun e a' w' => e = .normal ∧ ∃ can', (Fl 194 [(0, .slice (some ⟨b, o, none⟩) l.length cap), (5, .slice (some ⟨g, 0, none⟩) l.length ct), (6, .slice rp (ringsTo l l.length).length rc), (7, I (at_ : Nat)), (8, I (i : Nat)), (9, .bool inn), (10, .bool can'), (11, I (k : Nat))] a' ∧ (can' = true ↔ can = true ∧ (Rch (nd l) i k → gives l k = true ∧ ¬ Rch (nd l) k k)) ∧ w' = w5)) a5 w5 := by
        cases can with
        | false =>
          refine wp_mono (p5_21_a h100 hrl h5.tl) fun e a w h => ?_
          obtain ⟨he, h1, h2⟩ := h
          exact ⟨he, _, h1, by simp, h2⟩
        | true =>
          cases hg : ((l.getD k r0).act == 0) with
          | false =>
            refine wp_mono (p5_21_b h100 hrl hlk (cv (hcl k hlk)) (cv (hT.cell hlk hlk)) (cv (hact k hlk).1) hg h5.tl) fun e a w h => ?_
            obtain ⟨he, h1, h2⟩ := h
            refine ⟨he, _, h1, ?_, h2⟩
            rw [hgv, hg]
            simp [hr]
          | true =>
            refine wp_mono (p5_21_c h100 hrl hlk (cv (hcl k hlk)) (cv (hT.cell hlk hlk)) (cv (hact k hlk).1) hg h5.tl) fun e a w h => ?_
            obtain ⟨he, h1, h2⟩ := h
            refine ⟨he, _, h1, ?_, h2⟩
            rw [hgv, hg, ← hTR k k hlk hlk]
            cases T k k <;> simp [hr]
      refine wp_then step fun a6 w6 h => ?_
      obtain ⟨can', h6, hc', rfl⟩ := h
      have lev : q5_22.wp Try.prog (fun e a' w' => e = .normal ∧ (Fl 194 [(123, .bool false), (0, .slice (some ⟨b, o, none⟩) l.length cap), (5, .slice (some ⟨g, 0, none⟩) l.length ct), (6, .slice rp (ringsTo l l.length).length rc), (7, I (at_ : Nat)), (8, I (i : Nat)), (9, .bool inn), (10, .bool can'), (11, I (k : Nat))] a' ∧ ∃ m, w' = w6.drewN m)) a6 w6 := by
        cases hTki : T k i with
        | false => exact p5_22_a h100 hrl hli hlk (cv (hcl k hlk)) (by rw [cv (hT.cell hlk hli), hTki]) h6
        | true =>
          have e : (l.getD i r0).level = (l.getD k r0).level := Int.le_antisymm (level_le hR ((hTR k i hlk hli).1 hTki) hlk) (level_le hR hr hli)
          have hh := p5_22_b h100 hrl hli hlk (cv (hcl k hlk)) (by rw [cv (hT.cell hlk hli), hTki]) (cv (hact i hli).2.1) (cv (hact k hlk).2.1) h6
          rw [e, show ((l.getD k r0).level != (l.getD k r0).level) = false by simp] at hh
          exact hh
      refine wp_then lev fun a7 w7 h => ?_
      obtain ⟨h7, hm7⟩ := h
      refine wp_cond_false (h7.hf rfl) (wp_skip ?_)
      show Code.wp _ _ _ _ _
      refine wp_mono (more h7.tl hc' hm7) fun e a w h => ?_
      obtain ⟨rfl, h⟩ := h
      exact h
  · refine .inl ⟨h4.hf (by simp [hlk]), ?_⟩
    have hke : k = l.length := by omega
    subst hke
    have hN := nd_lt hR
    have hcan' : can = true ↔ CC l i := by
      rw [hcan, show CC l i ↔ _ from can_just hN hli]
      constructor
      · rintro ⟨⟨x1, x2⟩, x3⟩
        exact ⟨x1, x2, fun j hj => x3 j (hj.lt hN hli) hj⟩
      · rintro ⟨x1, x2, x3⟩
        exact ⟨⟨x1, x2⟩, fun j _ hj => x3 j hj⟩
    have hl4 := hl.kp (kv.mono hZ)
    have hZ4 := (kv.mono hZ).lt hZ
    show Code.wp _ _ _ _ _
    refine wp_then (p5_24 (b := b) (o := o) (n := l.length) (cap := cap) (g := g) (ct := ct) (rn := (ringsTo l l.length).length) (rc := rc) (rp := rp) (at_ := at_) (i := i) (inn := inn) (can := can) (is := can) hl4 hZ4 (by omega) (hcan'.trans (fateB_nat hR hli).symm) (h4.sub (by simp))) fun a5 w5 h => ?_
    obtain ⟨h5, k5⟩ := h
    rw [fateV_nat hR hli] at h5
    have kv5 := kv.after k5
    have hl5 := hl.kp (kv5.mono hZ)
    have cells5 : w5.cell? ⟨b, o + i * 5 + 3, none⟩ = some (I (l.getD i r0).value) := by
      obtain ⟨b', o', nv, e, -, -, -, -, c1, c2, c3, -⟩ := hl5.at hli
      cases e
      exact c3
    refine wp_then (p5_25 h100 hrl hli cells5 h5) fun a6 w6 h => ?_
    obtain ⟨h6, rfl⟩ := h
    refine wp_seq (wp_then (p5_26 h6) fun a7 w7 h => ?_)
    obtain ⟨h7, rfl⟩ := h
    have hnl : (l.getD i r0).needs.length ≤ 20 := by have := nd_len hR hli; simpa [nd] using this
    refine wp_while (t := 142) (fun c a v => ∃ k : Nat, k ≤ (l.getD i r0).needs.length ∧ c = (l.getD i r0).needs.length - k ∧ Fl 194 [(0, .slice (some ⟨b, o, none⟩) l.length cap), (5, .slice (some ⟨g, 0, none⟩) l.length ct), (6, .slice rp (ringsTo l l.length).length rc), (7, I (at_ : Nat)), (8, I (i : Nat)), (9, .bool inn), (10, .bool can), (12, .bool can), (13, I (VV l i)), (14, I (sumTo l i k)), (15, I (k : Nat))] a ∧ Kp (fun i => i < w2.heap.size) w2 v) _
      ⟨0, Nat.zero_le _, rfl, by rw [sumTo_zero]; exact h7, kv5⟩ ?_
    clear h7 h6 h5 h4 cv
    rintro c a8 v ⟨k, hkk, rfl, h8, k8⟩
    have hl8 := hl.kp (k8.mono hZ)
    have hZ8 := (k8.mono hZ).lt hZ
    obtain ⟨b', o', nv, e, -, -, hn, c0, -⟩ := hl8.at hli
    cases e
    have hn' := hn
    obtain ⟨q, nc, rfl, hq, -⟩ := hn
    refine ⟨_, p5_27 h100 hrl hli hnl c0 h8, ?_⟩
    rintro a9 w9 ⟨h9, rfl⟩
    by_cases hlk : k < (l.getD i r0).needs.length
    · refine .inr ⟨h9.hd (by simp only [decide_eq_true_eq]; exact hlk), ?_⟩
      obtain ⟨nb, no, rfl, -, hx⟩ := hn'.at hlk
      obtain ⟨x, hxe, hxl, hxm, -⟩ := needs_ok hR hli hlk
      rw [hxe] at hx
      have hnx : (nd l i)[k]? = some x := by unfold nd; rw [List.getElem?_map, getD_some hlk 0, hxe]; simp
      refine wp_seq (wp_block ?_)
      refine wp_then (p5_29 h100 hrl hli hnl hlk c0 hx hl8 hZ8 (by omega) h9.tl) fun a10 w10 h => ?_
      obtain ⟨h10, k10⟩ := h
      rw [fateV_nat hR hxl] at h10
      refine wp_last (p5_30 (sumTo_range hR hli) (val_range x) h10) fun a11 w11 h => ?_
      obtain ⟨h11, rfl⟩ := h
      show Code.wp _ _ _ _ _
      refine wp_last (p5_28 (by omega) h11) fun a12 w12 h => ?_
      obtain ⟨h12, rfl⟩ := h
      rw [← sumTo_succ hnx] at h12
      exact ⟨(l.getD i r0).needs.length - (k + 1), by omega, k + 1, by omega, rfl, h12, k8.after k10⟩
    · refine .inl ⟨h9.hf (by simp only [decide_eq_false_iff_not]; exact hlk), ?_⟩
      have hndl : (nd l i).length = (l.getD i r0).needs.length := by simp [nd]
      have hke : k = (nd l i).length := by omega
      have hsr := sumTo_range hR hli (t := k)
      show Code.wp _ _ _ _ _
      cases can with
      | true =>
        have hv := val_eq (hcan'.1 rfl)
        have hvr : 0 ≤ VV l i ∧ VV l i < 1000003 := val_range i
        have hz : (sumTo l i k - VV l i).tmod 1000003 = 0 := by
          rw [hke, sumTo_all, show VV l i = _ from hv]
          exact tmod_zero _
        refine wp_then (p5_31_a (b := b) (o := o) (n := l.length) (cap := cap) (g := g) (ct := ct) (rn := (ringsTo l l.length).length) (rc := rc) (rp := rp) (at_ := at_) (i := i) (inn := inn) (nv := VV l i) (sm := sumTo l i k) hvr.1 (by have := hvr.2; omega) hz hsr (h9.sub (by simp))) fun a10 w10 h => ?_
        obtain ⟨h10, rfl⟩ := h
        exact wp_cond_false (h10.hf rfl) (wp_skip (hK _ _ h10.tl k8))
      | false =>
        have hv0 : VV l i = 0 := val_no fun h => by have := hcan'.2 h; cases this
        rw [hv0] at h9
        refine wp_then (p5_31_b (b := b) (o := o) (n := l.length) (cap := cap) (g := g) (ct := ct) (rn := (ringsTo l l.length).length) (rc := rc) (rp := rp) (at_ := at_) (i := i) (inn := inn) (sm := sumTo l i k) (h9.sub (by simp))) fun a10 w10 h => ?_
        obtain ⟨h10, rfl⟩ := h
        exact wp_cond_false (h10.hf rfl) (wp_skip (hK _ _ h10.tl k8))

theorem round5 (hR : RIGHT l) (hl : RL Z u (.slice (some ⟨b, o, none⟩) l.length cap) l) (hZ : ∀ i, Z i → i < u.heap.size) (hT : Tab ZT l.length l.length (.slice (some ⟨g, 0, none⟩) l.length ct) rb T u) (hTR : ∀ i k, i < l.length → k < l.length → (T i k = true ↔ Rch (nd l) i k)) (hli : i < l.length)
    (hinn : inn = true ↔ Rch (nd l) i i) (hat : at_ = (ringsTo l i).length) {a : Act} (hA : Fl 194 [(0, .slice (some ⟨b, o, none⟩) l.length cap), (5, .slice (some ⟨g, 0, none⟩) l.length ct), (6, .slice rp (ringsTo l l.length).length rc), (7, I (at_ : Nat)), (8, I (i : Nat)), (9, .bool inn)] a) (hK : ∀ a' w', Fl 194 [(0, .slice (some ⟨b, o, none⟩) l.length cap), (5, .slice (some ⟨g, 0, none⟩) l.length ct), (6, .slice rp (ringsTo l l.length).length rc), (7, I ((ringsTo l (i + 1)).length : Nat)), (8, I (i : Nat))] a' → Kp (fun i => i < u.heap.size) u w' → Q .normal a' w') : R5.wp Try.prog Q a u := by
  have h100 := short100 hR
  have hpos : 0 < l.length := hR.good.1
  have hrl : (ringsTo l l.length).length ≤ 100 := Nat.le_trans (ringsTo_len l _) h100
  have hTi : T i i = inn := Bool.eq_iff_iff.2 ((hTR i i hli hli).trans hinn.symm)
  obtain ⟨g', ct', e, -, hcl⟩ := hT.cells hpos
  cases e
  refine wp_seq (wp_then (p5_12 h100 hrl hli (hcl i hli) (hT.cell hli hli) hA) fun a1 w1 h => ?_)
  obtain ⟨h1, rfl⟩ := h
  refine wp_cond_false (h1.hf (by rw [hTi]; simp)) (wp_skip ?_)
  refine wp_seq (wp_then (p5_14 h1.tl) fun a2 w2 h => ?_)
  obtain ⟨h2, rfl⟩ := h
  cases inn with
  | true =>
    refine wp_cond_true (h2.hd rfl) ?_
    refine wp_last (p5_15 (by rw [hat]; exact Nat.le_trans (ringsTo_len l i) (by omega)) h2.tl) fun a3 w3 h => ?_
    obtain ⟨h3, rfl⟩ := h
    refine tail5 (at_ := at_ + 1) hR hl hZ hT hTR hli hinn h3 fun a' w' hf hk => hK a' w' ?_ hk
    rw [ringsTo_yes (hinn.1 rfl), List.length_append, ← hat]
    exact hf
  | false =>
    refine wp_cond_false (h2.hf rfl) (wp_skip ?_)
    refine tail5 (at_ := at_) hR hl hZ hT hTR hli hinn h2.tl fun a' w' hf hk => hK a' w' ?_ hk
    rw [ringsTo_no (fun h => by have := hinn.2 h; cases this), ← hat]
    exact hf
end

set_option maxHeartbeats 2000000 in
theorem fates_any {Z : Nat → Prop} {w : World} {x0 : Value} {l : List Rc} (hl : RL Z w x0 l) (hZ : ∀ i, Z i → i < w.heap.size) :
    Calls Try.prog 5 #[x0] w (Ret fun x w' => x = .bool true ∧ Kp (fun i => i < w.heap.size) w w') := by
  refine in5 fun a hA => ?_
  rw [e5]
  refine wp_then (p5_0 hA) fun a0 w0 h => ?_
  obtain ⟨h0, rfl⟩ := h
  refine wp_then (p5_1 h0) fun a1 w1 h => ?_
  obtain ⟨h1, k1⟩ := h
  refine wp_then (p5_2 (hl.kp (k1.mono hZ)) (k1.mono hZ |>.lt hZ) h1) fun a2 w2 h => ?_
  obtain ⟨h2, k2⟩ := h
  have k02 := k1.after k2
  refine wp_seq (wp_then (p5_3 h2) fun a3 w3 h => ?_)
  obtain ⟨h3, rfl⟩ := h
  by_cases hR : RIGHT l
  · refine wp_cond_false (h3.hf (by rw [(rightS_iff l).2 hR]; rfl)) (wp_skip ?_)
    have h100 := short100 hR
    have hpos : 0 < l.length := hR.good.1
    have hZ3 := (k02.mono hZ).lt hZ
    refine wp_then (p5_5 (hl.kp (k02.mono hZ)) hZ3 hR (h3.sub (by simp))) fun a4 w4 h => ?_
    obtain ⟨tv, h4, rb, T, hT, hTR, k4⟩ := h
    have k04 := k02.after k4
    refine wp_then (p5_6 (hl.kp (k04.mono hZ)) ((k04.mono hZ).lt hZ) hR h4) fun a5 w5 h => ?_
    obtain ⟨rv, h5, hO, k5⟩ := h
    have k05 := k04.after k5
    have hT5 := hT.kp k5
    have hl5 := hl.kp (k05.mono hZ)
    have hrl : (ringsTo l l.length).length ≤ 100 := Nat.le_trans (ringsTo_len l _) h100
    have hIL := hO.il (Nat.le_trans hrl (by omega))
    have hob : ∀ i, rv.ownBlock = some i → i < w5.heap.size := fun i hi => hO.lt i hi
    clear hT hO
    have hv : ∃ b o cap, x0 = .slice (some ⟨b, o, none⟩) l.length cap := by
      obtain ⟨p, cap, rfl, -, h2⟩ := hl
      obtain ⟨blk, off, nv, rfl, -⟩ := h2 0 _ (getD_some hpos r0)
      exact ⟨blk, off, cap, rfl⟩
    obtain ⟨b, o, cap, rfl⟩ := hv
    obtain ⟨g, ct, rfl, -, -⟩ := hT5.cells hpos
    have hrv : ∃ rp rc, rv = .slice rp (ringsTo l l.length).length rc := by obtain ⟨rp, rc, e, -⟩ := hIL; exact ⟨rp, rc, e⟩
    obtain ⟨rp, rc, rfl⟩ := hrv
    refine wp_then (p5_7 h5) fun a6 w6 h => ?_
    obtain ⟨h6, rfl⟩ := h
    refine wp_seq (wp_then (p5_8 h6) fun a7 w7 h => ?_)
    obtain ⟨h7, rfl⟩ := h
    have hN := nd_lt hR
    refine wp_while (t := 35) (fun c a u => ∃ i : Nat, i ≤ l.length ∧ c = l.length - i ∧ Fl 194 [(0, .slice (some ⟨b, o, none⟩) l.length cap), (5, .slice (some ⟨g, 0, none⟩) l.length ct), (6, .slice rp (ringsTo l l.length).length rc), (7, I ((ringsTo l i).length : Nat)), (8, I (i : Nat))] a ∧ Kp (fun i => i < w7.heap.size) w7 u) _
      ⟨0, Nat.zero_le _, rfl, h7, Kp.refl _ _⟩ ?_
    clear h7 h6 h5 h4 h3 h2 h1 h0 hA
    rintro c a8 u ⟨i, hi, rfl, h8, ku⟩
    refine ⟨_, p5_9 h100 hrl h8, ?_⟩
    rintro a9 w9 ⟨h9, rfl⟩
    by_cases hli : i < l.length
    · refine .inr ⟨h9.hd (by simp [hli]), ?_⟩
      refine wp_seq (wp_block ?_)
      have hT9 := hT5.kp ku
      have hl9 := hl5.kp (ku.mono fun i hi => Nat.lt_of_lt_of_le (hZ i hi) k05.size)
      have hIL9 := hIL.kp (ku.mono hob)
      obtain ⟨g', ct', e, -, hcl⟩ := hT9.cells hpos
      cases e
      obtain ⟨inn, hinn⟩ : ∃ inn : Bool, inn = true ↔ Rch (nd l) i i := by
        by_cases h : Rch (nd l) i i
        · exact ⟨true, by simp [h]⟩
        · exact ⟨false, by simp [h]⟩
      have hTi : T i i = inn := Bool.eq_iff_iff.2 ((hTR i i hli hli).trans hinn.symm)
      have hra := ring_at (l := l) hli
      by_cases hat : (ringsTo l i).length < (ringsTo l l.length).length
      · obtain ⟨rg, ro, rfl, -, hcx⟩ := hIL9.at hat
        have hx := getD_some hat 0
        generalize (ringsTo l l.length).getD (ringsTo l i).length 0 = x at hcx hx
        refine wp_then (p5_11_a h100 hrl hat hcx h9.tl) fun a10 w10 h => ?_
        obtain ⟨h10, rfl⟩ := h
        have he : (x == (i : Int)) = inn := by
          refine Bool.eq_iff_iff.2 ⟨fun h => hinn.2 (hra.2 x hx h), fun h => ?_⟩
          have := hra.1 (hinn.1 h)
          rw [hx] at this
          cases this
          simp
        rw [he] at h10
        refine round5 hR hl9 ((ku.mono fun i hi => Nat.lt_of_lt_of_le (hZ i hi) k05.size).lt fun i hi => Nat.lt_of_lt_of_le (hZ i hi) k05.size) hT9 hTR hli hinn rfl h10 fun a' w' hf hk => ?_
        show Code.wp _ _ _ _ _
        refine wp_last (p5_10 (by omega) hf) fun a11 w11 h => ?_
        obtain ⟨h11, rfl⟩ := h
        exact ⟨l.length - (i + 1), by omega, i + 1, by omega, rfl, h11, ku.after hk⟩
      · refine wp_then (p5_11_b h100 hrl (by omega) h9.tl) fun a10 w10 h => ?_
        obtain ⟨h10, rfl⟩ := h
        have he : false = inn := by
          cases hb : inn with
          | false => rfl
          | true =>
            have := hra.1 (hinn.1 hb)
            exact absurd (List.getElem?_eq_some_iff.1 this).1 hat
        rw [he] at h10
        refine round5 hR hl9 ((ku.mono fun i hi => Nat.lt_of_lt_of_le (hZ i hi) k05.size).lt fun i hi => Nat.lt_of_lt_of_le (hZ i hi) k05.size) hT9 hTR hli hinn rfl h10 fun a' w' hf hk => ?_
        show Code.wp _ _ _ _ _
        refine wp_last (p5_10 (by omega) hf) fun a11 w11 h => ?_
        obtain ⟨h11, rfl⟩ := h
        exact ⟨l.length - (i + 1), by omega, i + 1, by omega, rfl, h11, ku.after hk⟩
    · refine .inl ⟨h9.hf (by simp [hli]), ?_⟩
      have hie : i = l.length := by omega
      subst hie
      show Code.wp _ _ _ _ _
      refine wp_then (p5_33 (b := b) (o := o) (n := l.length) (cap := cap) (g := g) (ct := ct) (rn := (ringsTo l l.length).length) (rc := rc) (rp := rp) (at_ := (ringsTo l l.length).length) h100 hrl (h9.sub (by simp))) fun a10 w10 h => ?_
      obtain ⟨h10, rfl⟩ := h
      exact wp_ret (fin1 rfl h10 _ (.head _) ⟨by simp, k05.after ku⟩)
  · refine wp_cond_true (h3.hd (by simp; exact fun h => hR ((rightS_iff l).1 h))) ?_
    refine wp_then (p5_4 (h3.sub (by simp))) fun a4 w4 h => ?_
    obtain ⟨h4, rfl⟩ := h
    exact wp_ret (fin1 rfl h4 (.bool true) (by simp) ⟨rfl, k02⟩)
end Go.Proofs.Ytgohfdgkihoilaa.Rcp
