/-
  What an adder can answer, one behind the other: adds.
-/
import Derived.Test.YteniopbmkooomaaWays2
import Derived.Test.YteniopbmkooomaaRowM
namespace Go.Proofs.Yteniopbmkooomaa
open Go.RowKit Hi Go.Deep Go.Maps

theorem take_int {S : List Int} {j : Nat} (h : j < S.length) : S.take (j + 1) = S.take j ++ [S.getD j 0] := by
  rw [List.take_add_one, List.getElem?_eq_getElem h, List.getD_eq_getElem?_getD, List.getElem?_eq_getElem h]; rfl
theorem next_up {S : List Int} {j : Nat} (h : j < S.length) (f : Int → List Int) : (S.take (j + 1)).flatMap f = (S.take j).flatMap f ++ f (S.getD j 0) := by
  rw [take_int h, List.flatMap_append]; simp
theorem news1d (w : World) (v : Int) (t : TypeId) : ∀ j u, [I v][j]? = some u → (w.alloc (.cells #[I v] t)).drew.cell? ((⟨w.heap.size, 0, none⟩ : Addr).add j) = some u := news1 w v t rfl
theorem grown_keep {W w7 : World} {v : Value} {B : Nat} (hg : W.grownBy w7 v.ownBlock) (hB : ∀ q, v.ownBlock = some q → B ≤ q) {b o : Nat} (hb : b < B) (hl : b < W.heap.size) {c : Value} (hc : W.cell? ⟨b, o, none⟩ = some c) : w7.cell? ⟨b, o, none⟩ = some c := by
  rw [hg.cell_far ⟨b, o, none⟩ (by simpa using hl) (fun e => by have := hB b (by simpa using e.symm); omega)]; exact hc
theorem si_single {w : World} {blk : Nat} {z : Int} (h : w.cell? ⟨blk, 0, none⟩ = some (I z)) : SI w (.slice (some ⟨blk, 0, none⟩) 1 1) [z] :=
  ⟨_, _, rfl, Nat.le_refl _, by unfold maxLen; omega, fun i a hi => by
    cases i with
    | zero =>
      simp at hi; subst hi
      refine ⟨blk, 0, rfl, World.block_lt_of_cell? _ _ h, fun j u hj => ?_⟩
      cases j with
      | zero => simp [encI] at hj; subst hj; simpa using h
      | succ j => simp [encI] at hj
    | succ i => simp at hi⟩
theorem ans_iff {x : Ev} {v : Int} : x.ans = (0, v) ↔ x.code = 0 ∧ x.val = v := by unfold Ev.ans; simp

set_option maxHeartbeats 16000000 in
set_option maxRecDepth 100000 in
theorem adds_any (st : Int) (v : Value) (r : List Ev) (w : World) (h : SL 8 evL w v r) (h12 : r.length ≤ 12) :
    Calls Try.prog 21 #[I st, v] w fun e w' => e = .returned (.bool (decide (0 < (addsUp st r r.length).length))) ∧ Below w.heap.size w w' := by
  obtain ⟨p, cap, rfl, hc, hm, h3⟩ := h
  have HSL : Hid (∀ i, i < r.length → ∃ blk off, p = some ⟨blk, off, none⟩ ∧ blk < w.heap.size ∧ w.rangeAt blk (off + i * 8) (evC (r.getD i ev0)).toList) := fun i hi => h3 i _ (getD_some hi ev0)
  unfold maxLen at hm
  obtain ⟨j0, hj', hj0, hj1, hj2⟩ := info_parts info3
  clear h3
  go_enter Try.func21, Try.ntmps21
  go_wp2_with fail
  go_loopw [5, 6] (fun t i u => ∃ (k : Nat) (sp : Option Addr) (sc : Nat), k ≤ r.length ∧ i = .int .i64 k ∧ t = .slice sp (addsUp st r k).length sc ∧ SI u (.slice sp (addsUp st r k).length sc) (addsUp st r k) ∧ Below w.heap.size w u) (fun _ i _ => r.length - (intOf i).toNat)
  case atStart => exact ⟨0, _, 1, Nat.zero_le _, rfl, rfl, si_single (World.cell?_alloc_at _ _ _ _ rfl), below_alloc (Below.refl _ _) _⟩
  case round =>
    obtain ⟨k, sp, sc, hk, rfl, rfl, hsi, hb⟩ := hrel
    obtain ⟨wo, hwo⟩ : ∃ wo, wo = wr := ⟨wr, rfl⟩
    subst hwo
    have HB : Hid (Below w.heap.size w wo) := hb
    have HSI : Hid (SI wo (.slice sp (addsUp st r k).length sc) (addsUp st r k)) := hsi
    have hsz : w.heap.size ≤ wo.heap.size := hb.size
    clear hsi hb
    by_cases hlt : k < r.length
    · obtain ⟨blk, off, rfl, hlb, hr⟩ := HSL.out k hlt
      have hld := range_later HB.out hr hlb
      have HN : Hid (addsUp st r (k + 1) = (addsUp st r k).flatMap (addStep (r.getD k ev0))) := rfl
      have hlen := addsUp_len st r k
      have hp12 : 2 ^ k ≤ 2 ^ 12 := Nat.pow_le_pow_right (by omega) (by omega)
      generalize r.getD k ev0 = x at hld HN
      generalize hS : addsUp st r k = S at HSI HN hlen
      have HS : Hid (addsUp st r k = S) := hS
      have HEV : Hid (wo.rangeAt blk (off + k * 8) (evC x).toList) := hld
      have hS4 : S.length ≤ 4096 := by omega
      have hlbo : blk < wo.heap.size := by omega
      clear hr hlb hld hlen hp12
      go_wp2_with fail
      go_loopw [7, 8] (fun t i u => ∃ (j : Nat) (pl : Option Addr) (cpl : Nat), j ≤ S.length ∧ i = .int .i64 j ∧ t = .slice pl ((S.take j).flatMap (addStep x)).length cpl ∧ u.ownsRow wo.heap.size 3 1 (.slice pl ((S.take j).flatMap (addStep x)).length cpl) ((S.take j).flatMap (addStep x)).length (((S.take j).flatMap (addStep x)).map I) ∧ Below wo.heap.size wo u) (fun _ i _ => S.length - (intOf i).toNat)
      case atStart => exact ⟨0, none, 0, Nat.zero_le _, rfl, rfl, ⟨rfl, .inl ⟨rfl, rfl⟩⟩, Below.refl _ _⟩
      case round =>
        obtain ⟨j, pl, cpl, hj, rfl, rfl, hown, hb⟩ := hrel
        have HBI : Hid (Below wo.heap.size wo wr) := hb
        have hszi : wo.heap.size ≤ wr.heap.size := hb.size
        by_cases hjl : j < S.length
        · obtain ⟨sb, so, rfl, hsb, hcell⟩ := si_at HSI.out (by omega)
          have hzc := kcell' hb hsb (hcell j hjl)
          have hev := range_later hb HEV.out hlbo
          have v1 : wr.cell? ⟨blk, off + k * 8 + 1, none⟩ = some (I x.op) := hev 1 _ rfl
          have v2 : wr.cell? ⟨blk, off + k * 8 + 2, none⟩ = some (I x.a) := hev 2 _ rfl
          have v6 : wr.cell? ⟨blk, off + k * 8 + 6, none⟩ = some (I x.code) := hev 6 _ rfl
          have v7 : wr.cell? ⟨blk, off + k * 8 + 6 + 1, none⟩ = some (I x.val) := hev 7 _ rfl
          have hup := next_up hjl (addStep x)
          generalize hz : S.getD j 0 = z at hzc hup
          have HUP : Hid ((S.take (j + 1)).flatMap (addStep x) = (S.take j).flatMap (addStep x) ++ addStep x z) := hup
          generalize hR : (S.take j).flatMap (addStep x) = R at hown HUP
          have hRl : R.length ≤ 8192 := by
            rw [← hR]
            have := flat_two (addStep_len x) (S.take j)
            have : (S.take j).length ≤ S.length := by rw [List.length_take]; exact Nat.min_le_right _ _
            omega
          have HOWN : Hid (wr.ownsRow wo.heap.size 3 1 (.slice pl R.length cpl) R.length (R.map I)) := hown
          have hgb := own_block hown
          have lb : blk < wr.heap.size := by omega
          have lsb : sb < wr.heap.size := by omega
          clear hcell hev hup hz hR hown hb
          by_cases hcode : x.code = 0
          · by_cases hvz : x.val = z
            · by_cases hvm : x.val = -1
              · by_cases ho1 : x.op = 1
                · have ho2 : ¬ x.op = 2 := by omega
                  have HADD : Hid (addStep x z = [wrap64 (z + x.a)]) := by
                    show addStep x z = [wrap64 (z + x.a)]
                    unfold addStep
                    rw [if_pos ⟨ans_iff.2 ⟨hcode, hvz⟩, by omega⟩, if_neg (fun h => by have h1 := ans_iff.1 h.1; have h2 := h.2; omega)]
                    rfl
                  have q0 : (x.code == 0) = true := by simpa using hcode
                  have qz : (x.val == z) = true := by simpa using hvz
                  have qm : (x.val == -1) = true := by simpa using hvm
                  have q1 : (x.op == 1) = true := by simpa using ho1
                  have q2 : (x.op == 2) = false := by simpa using ho2
                  go_wp2_with fail
                  go_quiet (fail)
                  refine (show ∀ W, (Below wr.heap.size wr W) → Exit.then _ _ Exit.normal _ W from fun W hW => ?_) _ (below_drewN (Below.refl _ _) _)
                  have HBW : Hid (Below wr.heap.size wr W) := hW
                  have HOW : Hid (W.ownsRow wo.heap.size 3 1 (.slice pl R.length cpl) R.length (R.map I)) := own_later hW HOWN.out
                  have u1 := kcell' hW lb v1
                  have u2 := kcell' hW lb v2
                  have u6 := kcell' hW lb v6
                  have u7 := kcell' hW lb v7
                  have uz := kcell' hW lsb hzc
                  have hszw : wr.heap.size ≤ W.heap.size := hW.size
                  clear v1 v2 v6 v7 hzc hW
                  go_wp2_with fail
                  go_region_law (
                    (refine step_append_lies _ rfl (.tmp 50) (.tmp 61) 47 rfl wo.heap.size 3 j0 _ 1 8 Try.underlying47 hj' hj0 hj1 hj2 rfl (by decide) (.slice pl R.length cpl) R.length (R.map I) rfl
                        (by first | exact own_later (below_alloc (Below.refl _ W).drew _) HOW.out | exact own_later (below_alloc (Below.refl _ W) _).drew HOW.out) ⟨W.heap.size, 0, none⟩ 1 1 [I (IntKind.i64.wrap (z + x.a))] rfl rfl (news1d W _ 3) (one_ints [_]) (by decide) (by unfold maxLen; omega) (by omega) (by simp; omega) _ rfl ?_
                     intro ga cpa w7 hown7 hgrow7 hat7 hlt7
                     have HG7 : Hid (W.grownBy w7 (Value.slice pl R.length cpl).ownBlock) := by first | exact grown_pre (below_alloc (Below.refl _ W).drew _) hgrow7 | exact grown_pre (below_alloc (Below.refl _ W) _).drew hgrow7
                     clear hgrow7 hat7 hlt7))
                  all_goals
                    have HO7 : Hid (w7.ownsRow wo.heap.size 3 1 (.slice (some ⟨ga, 0, none⟩) (R.length + 1) cpa) (R.length + 1) (R.map I ++ [I (IntKind.i64.wrap (z + x.a))])) := hown7
                    have hB7 : Below wo.heap.size wo w7 := (HBI.out.trans (HBW.out.mono hszi)).grown HG7.out (by omega) (fun q hq => by have := hgb q hq; omega)
                    have HB7 : Hid (Below wo.heap.size wo w7) := hB7
                    have hz7 : wo.heap.size ≤ w7.heap.size := hB7.size
                    have hga := own_block hown7 ga rfl
                    have y1 : w7.cell? ⟨blk, off + k * 8 + 1, none⟩ = some (I x.op) := grown_keep HG7.out (fun q hq => (hgb q hq).1) hlbo (by omega) u1
                    have y6 : w7.cell? ⟨blk, off + k * 8 + 6, none⟩ = some (I x.code) := grown_keep HG7.out (fun q hq => (hgb q hq).1) hlbo (by omega) u6
                    have y7 : w7.cell? ⟨blk, off + k * 8 + 6 + 1, none⟩ = some (I x.val) := grown_keep HG7.out (fun q hq => (hgb q hq).1) hlbo (by omega) u7
                    have yz : w7.cell? ⟨sb, so + j, none⟩ = some (I z) := grown_keep HG7.out (fun q hq => (hgb q hq).1) hsb (by omega) uz
                    clear hown7 hB7 u1 u2 u6 u7 uz
                    go_wp2_with fail
                    go_roundw
                    case rel =>
                      have e : (S.take (j + 1)).flatMap (addStep x) = R ++ [wrap64 (z + x.a)] := by rw [HUP.out, HADD.out]
                      refine ⟨j + 1, some ⟨ga, 0, none⟩, cpa, by omega, by go_num, by rw [e, List.length_append]; rfl, ?_, HB7.out⟩
                      rw [e, List.length_append, List.map_append, ← IntWalk.i64_left]; exact HO7.out
                    case measure => simp [intOf]; omega
                · by_cases ho2 : x.op = 2
                  · have HADD : Hid (addStep x z = [wrap64 (z + x.a), z]) := by
                      show addStep x z = [wrap64 (z + x.a), z]
                      unfold addStep
                      rw [if_pos ⟨ans_iff.2 ⟨hcode, hvz⟩, by omega⟩, if_pos ⟨ans_iff.2 ⟨hcode, hvm⟩, ho2⟩]
                      rfl
                    have q0 : (x.code == 0) = true := by simpa using hcode
                    have qz : (x.val == z) = true := by simpa using hvz
                    have qm : (x.val == -1) = true := by simpa using hvm
                    have q1 : (x.op == 1) = false := by simpa using ho1
                    have q2 : (x.op == 2) = true := by simpa using ho2
                    go_wp2_with fail
                    go_quiet (fail)
                    refine (show ∀ W, (Below wr.heap.size wr W) → Exit.then _ _ Exit.normal _ W from fun W hW => ?_) _ (below_drewN (Below.refl _ _) _)
                    have HBW : Hid (Below wr.heap.size wr W) := hW
                    have HOW : Hid (W.ownsRow wo.heap.size 3 1 (.slice pl R.length cpl) R.length (R.map I)) := own_later hW HOWN.out
                    have u1 := kcell' hW lb v1
                    have u2 := kcell' hW lb v2
                    have u6 := kcell' hW lb v6
                    have u7 := kcell' hW lb v7
                    have uz := kcell' hW lsb hzc
                    have hszw : wr.heap.size ≤ W.heap.size := hW.size
                    clear v1 v2 v6 v7 hzc hW
                    go_wp2_with fail
                    go_region_law (
                      (refine step_append_lies _ rfl (.tmp 50) (.tmp 61) 47 rfl wo.heap.size 3 j0 _ 1 8 Try.underlying47 hj' hj0 hj1 hj2 rfl (by decide) (.slice pl R.length cpl) R.length (R.map I) rfl
                          (by first | exact own_later (below_alloc (Below.refl _ W).drew _) HOW.out | exact own_later (below_alloc (Below.refl _ W) _).drew HOW.out) ⟨W.heap.size, 0, none⟩ 1 1 [I (IntKind.i64.wrap (z + x.a))] rfl rfl (news1d W _ 3) (one_ints [_]) (by decide) (by unfold maxLen; omega) (by omega) (by simp; omega) _ rfl ?_
                       intro ga cpa w7 hown7 hgrow7 hat7 hlt7
                       have HG7 : Hid (W.grownBy w7 (Value.slice pl R.length cpl).ownBlock) := by first | exact grown_pre (below_alloc (Below.refl _ W).drew _) hgrow7 | exact grown_pre (below_alloc (Below.refl _ W) _).drew hgrow7
                       clear hgrow7 hat7 hlt7))
                    all_goals
                      have HO7 : Hid (w7.ownsRow wo.heap.size 3 1 (.slice (some ⟨ga, 0, none⟩) (R.length + 1) cpa) (R.length + 1) (R.map I ++ [I (IntKind.i64.wrap (z + x.a))])) := hown7
                      have hB7 : Below wo.heap.size wo w7 := (HBI.out.trans (HBW.out.mono hszi)).grown HG7.out (by omega) (fun q hq => by have := hgb q hq; omega)
                      have HB7 : Hid (Below wo.heap.size wo w7) := hB7
                      have hz7 : wo.heap.size ≤ w7.heap.size := hB7.size
                      have hga := own_block hown7 ga rfl
                      have y1 : w7.cell? ⟨blk, off + k * 8 + 1, none⟩ = some (I x.op) := grown_keep HG7.out (fun q hq => (hgb q hq).1) hlbo (by omega) u1
                      have y6 : w7.cell? ⟨blk, off + k * 8 + 6, none⟩ = some (I x.code) := grown_keep HG7.out (fun q hq => (hgb q hq).1) hlbo (by omega) u6
                      have y7 : w7.cell? ⟨blk, off + k * 8 + 6 + 1, none⟩ = some (I x.val) := grown_keep HG7.out (fun q hq => (hgb q hq).1) hlbo (by omega) u7
                      have yz : w7.cell? ⟨sb, so + j, none⟩ = some (I z) := grown_keep HG7.out (fun q hq => (hgb q hq).1) hsb (by omega) uz
                      clear hown7 hB7 u1 u2 u6 u7 uz
                      go_wp2_with (first | (at_builtin; refine wpList_append_lies _ rfl (.tmp 78) (.tmp 83) 47 rfl wo.heap.size 3 j0 _ 1 8 Try.underlying47 hj' hj0 hj1 hj2 rfl (by decide) (.slice (some ⟨ga, 0, none⟩) (R.length + 1) cpa) (R.length + 1) (R.map I ++ [I (IntKind.i64.wrap (z + x.a))]) ?_ (own_later (below_alloc (Below.refl _ _) _) HO7.out) ⟨w7.heap.size, 0, none⟩ 1 1 [I z] rfl rfl (news1 _ _ _ rfl) (one_ints [z]) (by decide) (by unfold maxLen; omega) (by omega) (by simp; omega) _ rfl ?_; rfl; intro g cpg w8 hown8 hgrow8 hat8 hlt8))
                      have HO8 : Hid (w8.ownsRow wo.heap.size 3 1 (.slice (some ⟨g, 0, none⟩) (R.length + 1 + 1) cpg) (R.length + 1 + 1) (R.map I ++ [I (IntKind.i64.wrap (z + x.a))] ++ [I z])) := hown8
                      have HB8 : Hid (Below wo.heap.size wo w8) := (below_alloc HB7.out _).grown hgrow8 (by simp; omega) (fun q hq => by have : ga = q := Option.some.inj hq; omega)
                      clear hown8 hgrow8 hat8 hlt8
                      go_wp2_with fail
                      go_roundw
                      case rel =>
                        have e : (S.take (j + 1)).flatMap (addStep x) = R ++ [wrap64 (z + x.a)] ++ [z] := by rw [HUP.out, HADD.out]; simp
                        refine ⟨j + 1, some ⟨g, 0, none⟩, cpg, by omega, by go_num, by rw [e, List.length_append, List.length_append]; rfl, ?_, HB8.out⟩
                        rw [e, List.length_append, List.length_append, List.map_append, List.map_append, ← IntWalk.i64_left]; exact HO8.out
                      case measure => simp [intOf]; omega
                  · have HADD : Hid (addStep x z = []) := by
                      show addStep x z = []
                      unfold addStep
                      rw [if_neg (fun h => by have h1 := ans_iff.1 h.1; have h2 := h.2; omega), if_neg (fun h => by have h1 := ans_iff.1 h.1; have h2 := h.2; omega)]
                      rfl
                    have q0 : (x.code == 0) = true := by simpa using hcode
                    have qz : (x.val == z) = true := by simpa using hvz
                    have qm : (x.val == -1) = true := by simpa using hvm
                    have q1 : (x.op == 1) = false := by simpa using ho1
                    have q2 : (x.op == 2) = false := by simpa using ho2
                    go_wp2_with fail
                    go_quiet (fail)
                    refine (show ∀ W, (Below wr.heap.size wr W) → Exit.then _ _ Exit.normal _ W from fun W hW => ?_) _ (below_drewN (Below.refl _ _) _)
                    have HBW : Hid (Below wr.heap.size wr W) := hW
                    have HOW : Hid (W.ownsRow wo.heap.size 3 1 (.slice pl R.length cpl) R.length (R.map I)) := own_later hW HOWN.out
                    have u1 := kcell' hW lb v1
                    have u2 := kcell' hW lb v2
                    have u6 := kcell' hW lb v6
                    have u7 := kcell' hW lb v7
                    have uz := kcell' hW lsb hzc
                    have hszw : wr.heap.size ≤ W.heap.size := hW.size
                    clear v1 v2 v6 v7 hzc hW
                    go_wp2_with fail
                    go_roundw
                    case rel =>
                      have e : (S.take (j + 1)).flatMap (addStep x) = R := by rw [HUP.out, HADD.out, List.append_nil]
                      exact ⟨j + 1, pl, cpl, by omega, by go_num, by rw [e], by rw [e]; exact HOW.out, HBI.out.trans (HBW.out.mono hszi)⟩
                    case measure => simp [intOf]; omega
              · by_cases ho1 : x.op = 1
                · have ho2 : ¬ x.op = 2 := by omega
                  have HADD : Hid (addStep x z = [wrap64 (z + x.a)]) := by
                    show addStep x z = [wrap64 (z + x.a)]
                    unfold addStep
                    rw [if_pos ⟨ans_iff.2 ⟨hcode, hvz⟩, by omega⟩, if_neg (fun h => by have h1 := ans_iff.1 h.1; have h2 := h.2; omega)]
                    rfl
                  have q0 : (x.code == 0) = true := by simpa using hcode
                  have qz : (x.val == z) = true := by simpa using hvz
                  have qm : (x.val == -1) = false := by simpa using hvm
                  have q1 : (x.op == 1) = true := by simpa using ho1
                  have q2 : (x.op == 2) = false := by simpa using ho2
                  go_wp2_with fail
                  go_quiet (fail)
                  refine (show ∀ W, (Below wr.heap.size wr W) → Exit.then _ _ Exit.normal _ W from fun W hW => ?_) _ (below_drewN (Below.refl _ _) _)
                  have HBW : Hid (Below wr.heap.size wr W) := hW
                  have HOW : Hid (W.ownsRow wo.heap.size 3 1 (.slice pl R.length cpl) R.length (R.map I)) := own_later hW HOWN.out
                  have u1 := kcell' hW lb v1
                  have u2 := kcell' hW lb v2
                  have u6 := kcell' hW lb v6
                  have u7 := kcell' hW lb v7
                  have uz := kcell' hW lsb hzc
                  have hszw : wr.heap.size ≤ W.heap.size := hW.size
                  clear v1 v2 v6 v7 hzc hW
                  go_wp2_with fail
                  go_region_law (
                    (refine step_append_lies _ rfl (.tmp 50) (.tmp 61) 47 rfl wo.heap.size 3 j0 _ 1 8 Try.underlying47 hj' hj0 hj1 hj2 rfl (by decide) (.slice pl R.length cpl) R.length (R.map I) rfl
                        (by first | exact own_later (below_alloc (Below.refl _ W).drew _) HOW.out | exact own_later (below_alloc (Below.refl _ W) _).drew HOW.out) ⟨W.heap.size, 0, none⟩ 1 1 [I (IntKind.i64.wrap (z + x.a))] rfl rfl (news1d W _ 3) (one_ints [_]) (by decide) (by unfold maxLen; omega) (by omega) (by simp; omega) _ rfl ?_
                     intro ga cpa w7 hown7 hgrow7 hat7 hlt7
                     have HG7 : Hid (W.grownBy w7 (Value.slice pl R.length cpl).ownBlock) := by first | exact grown_pre (below_alloc (Below.refl _ W).drew _) hgrow7 | exact grown_pre (below_alloc (Below.refl _ W) _).drew hgrow7
                     clear hgrow7 hat7 hlt7))
                  all_goals
                    have HO7 : Hid (w7.ownsRow wo.heap.size 3 1 (.slice (some ⟨ga, 0, none⟩) (R.length + 1) cpa) (R.length + 1) (R.map I ++ [I (IntKind.i64.wrap (z + x.a))])) := hown7
                    have hB7 : Below wo.heap.size wo w7 := (HBI.out.trans (HBW.out.mono hszi)).grown HG7.out (by omega) (fun q hq => by have := hgb q hq; omega)
                    have HB7 : Hid (Below wo.heap.size wo w7) := hB7
                    have hz7 : wo.heap.size ≤ w7.heap.size := hB7.size
                    have hga := own_block hown7 ga rfl
                    have y1 : w7.cell? ⟨blk, off + k * 8 + 1, none⟩ = some (I x.op) := grown_keep HG7.out (fun q hq => (hgb q hq).1) hlbo (by omega) u1
                    have y6 : w7.cell? ⟨blk, off + k * 8 + 6, none⟩ = some (I x.code) := grown_keep HG7.out (fun q hq => (hgb q hq).1) hlbo (by omega) u6
                    have y7 : w7.cell? ⟨blk, off + k * 8 + 6 + 1, none⟩ = some (I x.val) := grown_keep HG7.out (fun q hq => (hgb q hq).1) hlbo (by omega) u7
                    have yz : w7.cell? ⟨sb, so + j, none⟩ = some (I z) := grown_keep HG7.out (fun q hq => (hgb q hq).1) hsb (by omega) uz
                    clear hown7 hB7 u1 u2 u6 u7 uz
                    go_wp2_with fail
                    go_roundw
                    case rel =>
                      have e : (S.take (j + 1)).flatMap (addStep x) = R ++ [wrap64 (z + x.a)] := by rw [HUP.out, HADD.out]
                      refine ⟨j + 1, some ⟨ga, 0, none⟩, cpa, by omega, by go_num, by rw [e, List.length_append]; rfl, ?_, HB7.out⟩
                      rw [e, List.length_append, List.map_append, ← IntWalk.i64_left]; exact HO7.out
                    case measure => simp [intOf]; omega
                · by_cases ho2 : x.op = 2
                  · have HADD : Hid (addStep x z = [wrap64 (z + x.a)]) := by
                      show addStep x z = [wrap64 (z + x.a)]
                      unfold addStep
                      rw [if_pos ⟨ans_iff.2 ⟨hcode, hvz⟩, by omega⟩, if_neg (fun h => by have h1 := ans_iff.1 h.1; have h2 := h.2; omega)]
                      rfl
                    have q0 : (x.code == 0) = true := by simpa using hcode
                    have qz : (x.val == z) = true := by simpa using hvz
                    have qm : (x.val == -1) = false := by simpa using hvm
                    have q1 : (x.op == 1) = false := by simpa using ho1
                    have q2 : (x.op == 2) = true := by simpa using ho2
                    go_wp2_with fail
                    go_quiet (fail)
                    refine (show ∀ W, (Below wr.heap.size wr W) → Exit.then _ _ Exit.normal _ W from fun W hW => ?_) _ (below_drewN (Below.refl _ _) _)
                    have HBW : Hid (Below wr.heap.size wr W) := hW
                    have HOW : Hid (W.ownsRow wo.heap.size 3 1 (.slice pl R.length cpl) R.length (R.map I)) := own_later hW HOWN.out
                    have u1 := kcell' hW lb v1
                    have u2 := kcell' hW lb v2
                    have u6 := kcell' hW lb v6
                    have u7 := kcell' hW lb v7
                    have uz := kcell' hW lsb hzc
                    have hszw : wr.heap.size ≤ W.heap.size := hW.size
                    clear v1 v2 v6 v7 hzc hW
                    go_wp2_with fail
                    go_region_law (
                      (refine step_append_lies _ rfl (.tmp 50) (.tmp 61) 47 rfl wo.heap.size 3 j0 _ 1 8 Try.underlying47 hj' hj0 hj1 hj2 rfl (by decide) (.slice pl R.length cpl) R.length (R.map I) rfl
                          (by first | exact own_later (below_alloc (Below.refl _ W).drew _) HOW.out | exact own_later (below_alloc (Below.refl _ W) _).drew HOW.out) ⟨W.heap.size, 0, none⟩ 1 1 [I (IntKind.i64.wrap (z + x.a))] rfl rfl (news1d W _ 3) (one_ints [_]) (by decide) (by unfold maxLen; omega) (by omega) (by simp; omega) _ rfl ?_
                       intro ga cpa w7 hown7 hgrow7 hat7 hlt7
                       have HG7 : Hid (W.grownBy w7 (Value.slice pl R.length cpl).ownBlock) := by first | exact grown_pre (below_alloc (Below.refl _ W).drew _) hgrow7 | exact grown_pre (below_alloc (Below.refl _ W) _).drew hgrow7
                       clear hgrow7 hat7 hlt7))
                    all_goals
                      have HO7 : Hid (w7.ownsRow wo.heap.size 3 1 (.slice (some ⟨ga, 0, none⟩) (R.length + 1) cpa) (R.length + 1) (R.map I ++ [I (IntKind.i64.wrap (z + x.a))])) := hown7
                      have hB7 : Below wo.heap.size wo w7 := (HBI.out.trans (HBW.out.mono hszi)).grown HG7.out (by omega) (fun q hq => by have := hgb q hq; omega)
                      have HB7 : Hid (Below wo.heap.size wo w7) := hB7
                      have hz7 : wo.heap.size ≤ w7.heap.size := hB7.size
                      have hga := own_block hown7 ga rfl
                      have y1 : w7.cell? ⟨blk, off + k * 8 + 1, none⟩ = some (I x.op) := grown_keep HG7.out (fun q hq => (hgb q hq).1) hlbo (by omega) u1
                      have y6 : w7.cell? ⟨blk, off + k * 8 + 6, none⟩ = some (I x.code) := grown_keep HG7.out (fun q hq => (hgb q hq).1) hlbo (by omega) u6
                      have y7 : w7.cell? ⟨blk, off + k * 8 + 6 + 1, none⟩ = some (I x.val) := grown_keep HG7.out (fun q hq => (hgb q hq).1) hlbo (by omega) u7
                      have yz : w7.cell? ⟨sb, so + j, none⟩ = some (I z) := grown_keep HG7.out (fun q hq => (hgb q hq).1) hsb (by omega) uz
                      clear hown7 hB7 u1 u2 u6 u7 uz
                      go_wp2_with fail
                      go_roundw
                      case rel =>
                        have e : (S.take (j + 1)).flatMap (addStep x) = R ++ [wrap64 (z + x.a)] := by rw [HUP.out, HADD.out]
                        refine ⟨j + 1, some ⟨ga, 0, none⟩, cpa, by omega, by go_num, by rw [e, List.length_append]; rfl, ?_, HB7.out⟩
                        rw [e, List.length_append, List.map_append, ← IntWalk.i64_left]; exact HO7.out
                      case measure => simp [intOf]; omega
                  · have HADD : Hid (addStep x z = []) := by
                      show addStep x z = []
                      unfold addStep
                      rw [if_neg (fun h => by have h1 := ans_iff.1 h.1; have h2 := h.2; omega), if_neg (fun h => by have h1 := ans_iff.1 h.1; have h2 := h.2; omega)]
                      rfl
                    have q0 : (x.code == 0) = true := by simpa using hcode
                    have qz : (x.val == z) = true := by simpa using hvz
                    have qm : (x.val == -1) = false := by simpa using hvm
                    have q1 : (x.op == 1) = false := by simpa using ho1
                    have q2 : (x.op == 2) = false := by simpa using ho2
                    go_wp2_with fail
                    go_quiet (fail)
                    refine (show ∀ W, (Below wr.heap.size wr W) → Exit.then _ _ Exit.normal _ W from fun W hW => ?_) _ (below_drewN (Below.refl _ _) _)
                    have HBW : Hid (Below wr.heap.size wr W) := hW
                    have HOW : Hid (W.ownsRow wo.heap.size 3 1 (.slice pl R.length cpl) R.length (R.map I)) := own_later hW HOWN.out
                    have u1 := kcell' hW lb v1
                    have u2 := kcell' hW lb v2
                    have u6 := kcell' hW lb v6
                    have u7 := kcell' hW lb v7
                    have uz := kcell' hW lsb hzc
                    have hszw : wr.heap.size ≤ W.heap.size := hW.size
                    clear v1 v2 v6 v7 hzc hW
                    go_wp2_with fail
                    go_roundw
                    case rel =>
                      have e : (S.take (j + 1)).flatMap (addStep x) = R := by rw [HUP.out, HADD.out, List.append_nil]
                      exact ⟨j + 1, pl, cpl, by omega, by go_num, by rw [e], by rw [e]; exact HOW.out, HBI.out.trans (HBW.out.mono hszi)⟩
                    case measure => simp [intOf]; omega
            · by_cases hvm : x.val = -1
              · by_cases ho2 : x.op = 2
                · have ho1 : ¬ x.op = 1 := by omega
                  have HADD : Hid (addStep x z = [z]) := by
                    show addStep x z = [z]
                    unfold addStep
                    rw [if_neg (fun h => by have h1 := ans_iff.1 h.1; have h2 := h.2; omega), if_pos ⟨ans_iff.2 ⟨hcode, hvm⟩, ho2⟩]
                    rfl
                  have q0 : (x.code == 0) = true := by simpa using hcode
                  have qz : (x.val == z) = false := by simpa using hvz
                  have qm : (x.val == -1) = true := by simpa using hvm
                  have q1 : (x.op == 1) = false := by simpa using ho1
                  have q2 : (x.op == 2) = true := by simpa using ho2
                  go_wp2_with fail
                  go_quiet (fail)
                  refine (show ∀ W, (Below wr.heap.size wr W) → Exit.then _ _ Exit.normal _ W from fun W hW => ?_) _ (below_drewN (Below.refl _ _) _)
                  have HBW : Hid (Below wr.heap.size wr W) := hW
                  have HOW : Hid (W.ownsRow wo.heap.size 3 1 (.slice pl R.length cpl) R.length (R.map I)) := own_later hW HOWN.out
                  have u1 := kcell' hW lb v1
                  have u2 := kcell' hW lb v2
                  have u6 := kcell' hW lb v6
                  have u7 := kcell' hW lb v7
                  have uz := kcell' hW lsb hzc
                  have hszw : wr.heap.size ≤ W.heap.size := hW.size
                  clear v1 v2 v6 v7 hzc hW
                  go_wp2_with (first | (at_builtin; refine wpList_append_lies _ rfl (.tmp 78) (.tmp 83) 47 rfl wo.heap.size 3 j0 _ 1 8 Try.underlying47 hj' hj0 hj1 hj2 rfl (by decide) (.slice pl R.length cpl) R.length (R.map I) ?_ (own_later (below_alloc (Below.refl _ _) _) HOW.out) ⟨W.heap.size, 0, none⟩ 1 1 [I z] rfl rfl (news1 _ _ _ rfl) (one_ints [z]) (by decide) (by unfold maxLen; omega) (by omega) (by simp; omega) _ rfl ?_; rfl; intro g cpg w8 hown8 hgrow8 hat8 hlt8))
                  have HO8 : Hid _ := hown8
                  have HB8 : Hid (Below wo.heap.size wo w8) := (below_alloc (HBI.out.trans (HBW.out.mono hszi)) _).grown hgrow8 (by simp; omega) (fun q hq => by have := hgb q hq; omega)
                  clear hown8 hgrow8 hat8 hlt8
                  go_wp2_with fail
                  go_roundw
                  case rel =>
                    have e : (S.take (j + 1)).flatMap (addStep x) = R ++ [z] := by rw [HUP.out, HADD.out]
                    refine ⟨j + 1, some ⟨g, 0, none⟩, cpg, by omega, by go_num, by rw [e, List.length_append]; rfl, ?_, HB8.out⟩
                    rw [e, List.length_append, List.map_append]; exact HO8.out
                  case measure => simp [intOf]; omega
                · have HADD : Hid (addStep x z = []) := by
                    show addStep x z = []
                    unfold addStep
                    rw [if_neg (fun h => by have h1 := ans_iff.1 h.1; have h2 := h.2; omega), if_neg (fun h => by have h1 := ans_iff.1 h.1; have h2 := h.2; omega)]
                    rfl
                  have q0 : (x.code == 0) = true := by simpa using hcode
                  have qz : (x.val == z) = false := by simpa using hvz
                  have qm : (x.val == -1) = true := by simpa using hvm
                  have q2 : (x.op == 2) = false := by simpa using ho2
                  go_wp2_with fail
                  go_quiet (fail)
                  refine (show ∀ W, (Below wr.heap.size wr W) → Exit.then _ _ Exit.normal _ W from fun W hW => ?_) _ (below_drewN (Below.refl _ _) _)
                  have HBW : Hid (Below wr.heap.size wr W) := hW
                  have HOW : Hid (W.ownsRow wo.heap.size 3 1 (.slice pl R.length cpl) R.length (R.map I)) := own_later hW HOWN.out
                  have u1 := kcell' hW lb v1
                  have u2 := kcell' hW lb v2
                  have u6 := kcell' hW lb v6
                  have u7 := kcell' hW lb v7
                  have uz := kcell' hW lsb hzc
                  have hszw : wr.heap.size ≤ W.heap.size := hW.size
                  clear v1 v2 v6 v7 hzc hW
                  go_wp2_with fail
                  go_roundw
                  case rel =>
                    have e : (S.take (j + 1)).flatMap (addStep x) = R := by rw [HUP.out, HADD.out, List.append_nil]
                    exact ⟨j + 1, pl, cpl, by omega, by go_num, by rw [e], by rw [e]; exact HOW.out, HBI.out.trans (HBW.out.mono hszi)⟩
                  case measure => simp [intOf]; omega
              · have HADD : Hid (addStep x z = []) := by
                  show addStep x z = []
                  unfold addStep
                  rw [if_neg (fun h => by have h1 := ans_iff.1 h.1; have h2 := h.2; omega), if_neg (fun h => by have h1 := ans_iff.1 h.1; have h2 := h.2; omega)]
                  rfl
                have q0 : (x.code == 0) = true := by simpa using hcode
                have qz : (x.val == z) = false := by simpa using hvz
                have qm : (x.val == -1) = false := by simpa using hvm
                go_wp2_with fail
                go_quiet (fail)
                refine (show ∀ W, (Below wr.heap.size wr W) → Exit.then _ _ Exit.normal _ W from fun W hW => ?_) _ (below_drewN (Below.refl _ _) _)
                have HBW : Hid (Below wr.heap.size wr W) := hW
                have HOW : Hid (W.ownsRow wo.heap.size 3 1 (.slice pl R.length cpl) R.length (R.map I)) := own_later hW HOWN.out
                have u1 := kcell' hW lb v1
                have u2 := kcell' hW lb v2
                have u6 := kcell' hW lb v6
                have u7 := kcell' hW lb v7
                have uz := kcell' hW lsb hzc
                have hszw : wr.heap.size ≤ W.heap.size := hW.size
                clear v1 v2 v6 v7 hzc hW
                go_wp2_with fail
                go_roundw
                case rel =>
                  have e : (S.take (j + 1)).flatMap (addStep x) = R := by rw [HUP.out, HADD.out, List.append_nil]
                  exact ⟨j + 1, pl, cpl, by omega, by go_num, by rw [e], by rw [e]; exact HOW.out, HBI.out.trans (HBW.out.mono hszi)⟩
                case measure => simp [intOf]; omega
          · have HADD : Hid (addStep x z = []) := by
              show addStep x z = []
              unfold addStep
              rw [if_neg (fun h => by have h1 := ans_iff.1 h.1; have h2 := h.2; omega), if_neg (fun h => by have h1 := ans_iff.1 h.1; have h2 := h.2; omega)]
              rfl
            have q0 : (x.code == 0) = false := by simpa using hcode
            go_wp2_with fail
            go_quiet (fail)
            refine (show ∀ W, (Below wr.heap.size wr W) → Exit.then _ _ Exit.normal _ W from fun W hW => ?_) _ (below_drewN (Below.refl _ _) _)
            have HBW : Hid (Below wr.heap.size wr W) := hW
            have HOW : Hid (W.ownsRow wo.heap.size 3 1 (.slice pl R.length cpl) R.length (R.map I)) := own_later hW HOWN.out
            have u1 := kcell' hW lb v1
            have u2 := kcell' hW lb v2
            have u6 := kcell' hW lb v6
            have u7 := kcell' hW lb v7
            have uz := kcell' hW lsb hzc
            have hszw : wr.heap.size ≤ W.heap.size := hW.size
            clear v1 v2 v6 v7 hzc hW
            go_wp2_with fail
            go_roundw
            case rel =>
              have e : (S.take (j + 1)).flatMap (addStep x) = R := by rw [HUP.out, HADD.out, List.append_nil]
              exact ⟨j + 1, pl, cpl, by omega, by go_num, by rw [e], by rw [e]; exact HOW.out, HBI.out.trans (HBW.out.mono hszi)⟩
            case measure => simp [intOf]; omega
        · have : j = S.length := by omega
          subst this
          have ht : S.take S.length = S := List.take_length
          rw [ht] at hown
          have HOWN : Hid (wr.ownsRow wo.heap.size 3 1 (.slice pl ((S.take S.length).flatMap (addStep x)).length cpl) (S.flatMap (addStep x)).length ((S.flatMap (addStep x)).map I)) := by rw [ht]; exact hown
          clear hown hb ht
          go_wp2_with fail
          go_roundw
          case rel =>
            have ht : S.take S.length = S := List.take_length
            have ho := HOWN.out
            rw [ht] at ho
            refine ⟨k + 1, pl, cpl, by omega, by go_num, by rw [HN.out, ht], ?_, HB.out.trans (HBI.out.mono hsz)⟩
            rw [HN.out]
            exact own_si ho
          case measure => simp [intOf]; omega
    · have : k = r.length := by omega
      subst this
      go_wp2_with fail
      go_ret
      exact ⟨rfl, HB.out⟩

end Go.Proofs.Yteniopbmkooomaa
