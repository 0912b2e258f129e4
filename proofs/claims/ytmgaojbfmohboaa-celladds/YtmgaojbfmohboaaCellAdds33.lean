/- The statement CellAdds of the package butlerlaw02 (cell), in full form: for every input the law answers true, and its arguments read behind the call as before; no conditions. Part 33 of 36. (Joined, by program, of: Add4b, Add4c, Add4d, Add4e, Add4f.) -/
import Derived.Test.YtmgaojbfmohboaaCellAdds32

/- The law CellAdds (4): it makes its scripts, walked alone. -/
set_option linter.unusedSimpArgs false
set_option linter.unusedVariables false
namespace Go.Proofs.Ytmgaojbfmohboaa
open Go Go.Lift Go.Conc Go.RowKit

theorem info39 : (Try.prog.info? 39).map (fun i => (i.zero, i.size, i.bytes)) = some (some (.agg #[I 0, I 0, I 0, I 0]), 4, 32) := by kernel_rfl
theorem info37 : (Try.prog.info? 37).map (fun i => (i.zero, i.size, i.bytes)) = some (some (.slice none 0 0), 1, 24) := by kernel_rfl
/-- The numbers of thread j. -/
def azOf (za : Nat → List Int) (j : Nat) : List Nat := (za j).map incr
theorem total_succ (az : Nat → List Nat) (k : Nat) : total az (k + 1) = total az k + (az k).sum := by
  unfold total
  rw [List.range_succ, List.map_append, List.sum_append]
  simp
theorem take_sum_succ {l : List Nat} {k m : Nat} (h : l[k]? = some m) : (l.take (k + 1)).sum = (l.take k).sum + m := by
  rw [List.take_add_one, h, List.sum_append]
  simp

set_option maxHeartbeats 8000000 in
set_option maxRecDepth 100000 in
theorem e46_wp {v : World} {s0 : Value} {start : Int} {p : Option Addr} {b o n cap : Nat} {qa : Nat → Option Addr} {ca ib io : Nat → Nat} {za : Nat → List Int} {a : Act} (hI : InA v p b o n qa ca ib io za) (hn : 0 < n ∧ n ≤ 8) (hst : InR start) (hF : Fram 191 [(0, s0), (1, I start), (2, .slice p n cap), (7, .bool true), (8, .slice none 0 0), (9, I start)] a) :
    e46.wp Try.prog (fun e a w' => (e = .ret ∧ a.tmps.getD 6 undef = .bool true ∧ Grows v w') ∨ (e = .normal ∧ (∀ j, j < n → (za j).length < 64) ∧ ∃ V8 V, Fram 191 [(0, s0), (1, I start), (2, .slice p n cap), (7, .bool true), (8, V8), (9, I (wrap64 (start + total (azOf za) n)))] a ∧ Built v (azOf za) n V8 V w')) a v := by
  have hp := hI.at_ hn.1
  subst hp
  have HI : Hid (InA v (some ⟨b, o, none⟩) b o n qa ca ib io za) := ⟨hI⟩
  have H0 : Hid (Built v (azOf za) 0 (.slice none 0 0) (fun _ => undef) v ∧ start = wrap64 (start + total (azOf za) 0)) := ⟨⟨⟨World.ownsRow_nil _ _ _ _, fun j hj => by omega, fun j hj => by omega, fun i j hi => by omega, ⟨Nat.le_refl _, fun _ _ => rfl, rfl, rfl⟩⟩, by
    unfold InR at hst
    show start = wrap64 (start + ((0 : Nat) : Int))
    unfold wrap64
    omega⟩⟩
  have HN : Hid (0 < n ∧ n ≤ 8) := ⟨hn⟩
  obtain ⟨f0, f1, f2, f7, f8, f9, -⟩ := hF.at_
  obtain ⟨u, rfl, hg⟩ := litN hF.size hF.defers
  have u0 := (hg 0).symm.trans f0
  have u1 := (hg 1).symm.trans f1
  have u2 := (hg 2).symm.trans f2
  have u7 := (hg 7).symm.trans f7
  have u8 := (hg 8).symm.trans f8
  have u9 := (hg 9).symm.trans f9
  clear hg hF f0 f1 f2 f7 f8 f9 hI hst hn
  obtain ⟨j4, hj4, hj40, hj41, hj42⟩ := info_parts info39
  obtain ⟨j1, hj1, hj10, hj11, hj12⟩ := info_parts info37
  show Code.wp Try.prog (seq1 (seq2 (seq2 (seq2 (seq2 (seq2 B4)))))) _ _ _
  unfold B4 Try.f4 seq2 seq1
  simp only [Option.getD_some, lis, Nat.reduceAdd, u0, u1, u2, u7, u8, u9]
  clear u0 u1 u2 u7 u8 u9
  go_wp2_with fail
  go_loopw [8, 9, 10] (fun V8 sm i w => ∃ k : Nat, k ≤ n ∧ i = .int .i64 k ∧ sm = I (wrap64 (start + total (azOf za) k)) ∧ (∀ j, j < k → (za j).length < 64) ∧ ∃ V, Built v (azOf za) k V8 V w) (fun _ _ i _ => n - (intOf i).toNat)
  case atStart => exact ⟨0, Nat.zero_le _, rfl, by rw [← H0.out.2], fun j hj => by omega, _, H0.out.1⟩
  case round =>
    obtain ⟨k, hk, rfl, rfl, h64, V, hB⟩ := hrel
    by_cases hlt : k < n
    · have hlt' : (k : Int) < (n : Int) := by omega
      obtain ⟨wo, hwo⟩ : ∃ wo, wo = wr := ⟨wr, rfl⟩
      subst hwo
      have HA : Hid (InA wo (some ⟨b, o, none⟩) b o n qa ca ib io za) := ⟨HI.out.stn (P := fun _ => True) hB.old⟩
      have hrow := HA.out.row k hlt
      have HB : Hid (Built v (azOf za) k u8 V wo) := ⟨hB⟩
      have H64 : Hid (∀ j, j < k → (za j).length < 64) := ⟨h64⟩
      clear h64 hB
      by_cases hge : (64 : Int) ≤ ((za k).length : Int)
      · go_wp2_with fail
        exact HB.out.old
      · have hl64 : (za k).length < 64 := by omega
        have HL : Hid ((za k).length < 64) := ⟨hl64⟩
        clear hl64
        go_wp2_with fail
        go_loopw [9, 11, 12] (fun sm Vl i w => ∃ kk : Nat, kk ≤ (za k).length ∧ i = .int .i64 kk ∧ sm = I (wrap64 (start + ((total (azOf za) k + ((azOf za k).take kk).sum : Nat) : Int))) ∧ Being v (azOf za) k u8 V Vl kk w) (fun _ _ i _ => (za k).length - (intOf i).toNat)
        case atStart => exact ⟨0, Nat.zero_le _, rfl, rfl, ⟨HB.out, World.ownsRow_nil _ _ _ _, (fun b hb => nomatch hb), (fun j hj b hb e => nomatch e)⟩⟩
        case round =>
          obtain ⟨kk, hkk, rfl, rfl, hBe⟩ := hrel
          have hrow' := (HI.out.stn (P := fun _ => True) hBe.built.old).row k hlt
          by_cases hlt2 : kk < (za k).length
          · obtain ⟨x, hx⟩ : ∃ x, (za k)[kk]? = some x := ⟨_, List.getElem?_eq_getElem hlt2⟩
            have hcell := (HI.out.stn (P := fun _ => True) hBe.built.old).cell k hlt kk x hx
            have hqa := HI.out.qa k hlt (by omega)
            rw [hqa] at hrow'
            have hlt2' : (kk : Int) < ((za k).length : Int) := by omega
            obtain ⟨m, hbit, hm⟩ : ∃ m : Nat, bits .and .i64 x 1023 = (m : Int) ∧ m ≤ 1023 := by
              have := incr_and x
              exact ⟨(bits .and .i64 x 1023).toNat, by omega, by omega⟩
            have hinc : (azOf za k)[kk]? = some (m + 1) := by
              unfold azOf
              rw [List.getElem?_map, hx]
              show some (incr x) = some (m + 1)
              unfold incr
              rw [hbit]
              congr 1
              omega
            have HE : Hid (Being v (azOf za) k u8 V u11 kk wr ∧ (azOf za k)[kk]? = some (m + 1)) := ⟨⟨hBe, hinc⟩⟩
            have HO : Hid ((wr.alloc (.cells #[I 5, I 0, I (1 + (m : Int)), I 0] 39)).ownsRow v.heap.size 39 4 u11 kk (calls4 (((azOf za k).take kk).map addCl))) := ⟨own_stay (fun b hb => by
              show (wr.heap.push _)[b]? = _
              rw [Array.getElem?_push, if_neg (by have := (own_low hBe.cur hb).2; omega)]) hBe.cur⟩
            have HS : Hid (v.heap.size ≤ wr.heap.size) := ⟨hBe.built.old.size⟩
            have hcl : (calls4 (((azOf za k).take kk).map addCl)).length = kk * 4 := hBe.cur.1
            have HM : Hid (kk < 64) := ⟨by have := HL.out; omega⟩
            clear hBe hinc hx hqa hcl
            go_wp2_with (first
              | (refine wpList_append_lies _ rfl (.tmp 73) (.tmp 76) 37 rfl v.heap.size 39 j4 _ 4 32 Try.underlying37 hj4 hj40 hj41 hj42 rfl (by decide) u11 kk (calls4 (((azOf za k).take kk).map addCl)) rfl HO.out ⟨wr.heap.size, 0, none⟩ 1 1 [I 5, I 0, I (1 + (m : Int)), I 0] rfl rfl (fun j u hj => World.news_of_block Array.getElem?_push_size j u hj) (fun u hu => by simp at hu; rcases hu with rfl | rfl | rfl | rfl <;> rfl) (by decide) (by have := HM.out; unfold maxLen; omega) (by have := HM.out; omega) (by have := HS.out; show v.heap.size ≤ (wr.heap.push _).size; simp; omega) _ rfl ?_
                 intro g cpg w6 hown6 hgrow6 hat6 hlt6))
            have em : (1 + (m : Int)) = ((m + 1 : Nat) : Int) := by omega
            rw [em] at hown6
            refine ⟨⟨kk + 1, by omega, by go_num, ?_, HE.out.1.next hgrow6 HE.out.2 hown6 hat6⟩, by simp [intOf]; omega⟩
            rw [take_sum_succ HE.out.2, wrap_add]
            have e : (start + (((total (azOf za) k : Nat) : Int) + (((azOf za k).take kk).sum : Nat)) + (1 + (m : Int))) = start + ((total (azOf za) k + (((azOf za k).take kk).sum + (m + 1)) : Nat) : Int) := by omega
            rw [e]
          · have hkl : kk = (za k).length := by omega
            subst hkl
            have hlen : (azOf za k).length = (za k).length := by unfold azOf; simp
            obtain ⟨pl, cpl, hul⟩ := own_form hBe.cur
            subst hul
            have HE : Hid (Being v (azOf za) k u8 V (.slice pl (za k).length cpl) (azOf za k).length wr) := ⟨by rw [hlen]; exact hBe⟩
            have HO : Hid ((wr.alloc (.cells #[.slice pl (za k).length cpl] 37)).ownsRow v.heap.size 37 1 u8 k ((List.range k).map V)) := ⟨own_stay (fun b hb => by
              show (wr.heap.push _)[b]? = _
              rw [Array.getElem?_push, if_neg (by have := (own_low hBe.built.outer hb).2; omega)]) hBe.built.outer⟩
            have HS : Hid (v.heap.size ≤ wr.heap.size ∧ k < 8) := ⟨hBe.built.old.size, by have := HN.out; omega⟩
            have HT : Hid (((azOf za k).take (za k).length).sum = (azOf za k).sum) := ⟨by rw [← hlen, List.take_length]⟩
            clear hBe hlen
            go_wp2_with (first
              | (refine wpList_append_lies _ rfl (.tmp 78) (.tmp 80) 23 rfl v.heap.size 37 j1 _ 1 24 Try.underlying23 hj1 hj10 hj11 hj12 rfl (by decide) u8 k ((List.range k).map V) rfl HO.out ⟨wr.heap.size, 0, none⟩ 1 1 [.slice pl (za k).length cpl] rfl rfl (fun j u hj => World.news_of_block Array.getElem?_push_size j u hj) (fun u hu => by have := List.mem_singleton.1 hu; subst this; rfl) (by decide) (by have := HS.out; unfold maxLen; omega) (by have := HS.out; omega) (by have := HS.out; show v.heap.size ≤ (wr.heap.push _).size; simp; omega) _ rfl ?_
                 intro g cpg w6 hown6 hgrow6 hat6 hlt6))
            have hk8 := HS.out.2
            have ek : wrap64 ((k : Int) + 1) = ((k + 1 : Nat) : Int) := by unfold wrap64; omega
            rw [ek]
            refine ⟨⟨k + 1, by omega, rfl, ?_, fun j hj => ?_, _, Built.next HE.out hgrow6 hown6 hat6⟩, by simp [intOf]; omega⟩
            · rw [total_succ, HT.out]
              have e : (start + (((total (azOf za) k : Nat) : Int) + ((azOf za k).sum : Nat))) = start + ((total (azOf za) k + (azOf za k).sum : Nat) : Int) := by omega
              rw [e]
            · rcases Nat.lt_or_ge j k with h | h
              · exact H64.out j h
              · have : j = k := by omega
                subst this
                exact HL.out
    · have hkn : k = n := by omega
      subst hkn
      have HB : Hid (Built v (azOf za) k u8 V wr ∧ ∀ j, j < k → (za j).length < 64) := ⟨⟨hB, h64⟩⟩
      clear hB h64
      go_wp2_with fail
      exact ⟨HB.out.2, u8, ⟨rfl, rfl, rfl, rfl, rfl, rfl, rfl, rfl, trivial⟩, V, HB.out.1⟩
end Go.Proofs.Ytmgaojbfmohboaa

/- The law CellAdds (4): the last call of its first script, walked alone; the scripts lie there for Play. -/
set_option linter.unusedSimpArgs false
set_option linter.unusedVariables false
namespace Go.Proofs.Ytmgaojbfmohboaa
open Go Go.Lift Go.Conc Go.RowKit

def vpc : Value → Option Addr
  | .slice p _ _ => p
  | _ => none
def vcp : Value → Nat
  | .slice _ _ c => c
  | _ => 0
theorem add_zero_at (g i : Nat) : (⟨g, 0, none⟩ : Addr).add i = ⟨g, i, none⟩ := by unfold Addr.add; split <;> simp_all
theorem addS_ok {start : Int} {az : Nat → List Nat} {j : Nat} (hst : InR start) (h : ∀ m ∈ az j, m ≤ 1024) : ∀ c ∈ addS start az j, InR c.ca ∧ c.ok := fun c hc => by
  unfold addS at hc
  rcases List.mem_append.1 hc with hc | hc
  · obtain ⟨m, hm, rfl⟩ := List.mem_map.1 hc
    have := h m hm
    unfold addCl Cl.ok InR
    simp only
    omega
  · split at hc
    · have := List.mem_singleton.1 hc
      subst this
      exact ⟨by unfold untCl InR; simp, wrap_in _, by unfold untCl InR; simp⟩
    · cases hc
theorem inS_of {u : World} {H og n : Nat} {start : Int} {az : Nat → List Nat} {V : Nat → Value} (hst : InR start) (hn : n ≤ 8) (haz : ∀ j, j < n → ∀ m ∈ az j, m ≤ 1024) (hrow : ∀ k, k < n → u.cell? ⟨og, k, none⟩ = some (V k)) (hown : ∀ j, j < n → u.ownsRow H 39 4 (V j) (addS start az j).length (calls4 (addS start az j))) :
    InS u (some ⟨og, 0, none⟩) og 0 n (fun j => vpc (V j)) (fun j => (addS start az j).length) (fun j => vcp (V j)) (fun j => ((V j).ownBlock).getD 0) (addS start az) := by
  have form : ∀ j, j < n → V j = .slice (vpc (V j)) (addS start az j).length (vcp (V j)) ∧ (0 < (addS start az j).length → ∃ g, V j = .slice (some ⟨g, 0, none⟩) (addS start az j).length (vcp (V j))) := fun j hj => by
    rcases (hown j hj).2 with ⟨e, e0⟩ | ⟨g, cap, cur, e, _⟩
    · rw [e, e0]
      exact ⟨rfl, fun h => by omega⟩
    · rw [e]
      exact ⟨rfl, fun _ => ⟨g, rfl⟩⟩
  refine ⟨fun _ => rfl, fun k hk => ?_, fun _ _ => rfl, fun j hj h0 => ?_, fun j hj k c hc => ?_, fun j hj => addS_ok hst (haz j hj), by omega⟩
  · rw [Nat.zero_add, hrow k hk]
    exact congrArg some (form k hk).1
  · obtain ⟨g, hg⟩ := (form j hj).2 h0
    rw [hg]
    rfl
  · have h0 : 0 < (addS start az j).length := by have := (List.getElem?_eq_some_iff.1 hc).1; omega
    obtain ⟨g, hg⟩ := (form j hj).2 h0
    have hc4 := calls4_get _ k c hc
    have hcell : ∀ i x, (calls4 (addS start az j))[i]? = some x → u.cell? ⟨g, i, none⟩ = some x := fun i x hx => by
      have h9 := hown j hj
      rw [hg] at h9
      have := h9.cells (g := g) rfl i x hx
      rw [add_zero_at] at this
      exact this
    rw [hg]
    show u.cell? ⟨g, 0 + k * 4, none⟩ = _ ∧ u.cell? ⟨g, 0 + k * 4 + 1, none⟩ = _ ∧ u.cell? ⟨g, 0 + k * 4 + 2, none⟩ = _ ∧ u.cell? ⟨g, 0 + k * 4 + 3, none⟩ = _
    rw [Nat.zero_add]
    exact ⟨hcell _ _ hc4.1, hcell _ _ hc4.2.1, hcell _ _ hc4.2.2.1, hcell _ _ hc4.2.2.2⟩

set_option maxHeartbeats 8000000 in
set_option maxRecDepth 100000 in
theorem e419_wp {v w : World} {s0 X2 V8 : Value} {start sm : Int} {n : Nat} {az : Nat → List Nat} {V : Nat → Value} {a : Act} (hB : Built v az n V8 V w) (hn : 0 < n ∧ n ≤ 8) (hst : InR start) (haz : ∀ j, j < n → ∀ m ∈ az j, m ≤ 1024) (h64 : ∀ j, j < n → (az j).length < 64) (hF : Fram 191 [(0, s0), (1, I start), (2, X2), (7, .bool true), (8, V8), (9, I sm)] a) :
    e419.wp Try.prog (fun e a w' => e = .normal ∧ ∃ og ocap pc cp rb, Fram 191 [(0, s0), (1, I start), (2, X2), (7, .bool true), (8, .slice (some ⟨og, 0, none⟩) n ocap), (9, I sm)] a ∧ InS w' (some ⟨og, 0, none⟩) og 0 n pc (fun j => (addS start az j).length) cp rb (addS start az) ∧ v.heap.size ≤ og ∧ Grows v w') a w := by
  obtain ⟨og, ocap, cur, e8, hog, hcur, hle, _, hsz, htake⟩ : ∃ g cap cur, V8 = .slice (some ⟨g, 0, none⟩) n cap ∧ v.heap.size ≤ g ∧ w.heap[g]? = some (.cells cur 37 (0, 0)) ∧ n ≤ cap ∧ cap ≤ maxLen ∧ cur.size = cap * 1 ∧ cur.toList.take (n * 1) = (List.range n).map V := by
    rcases hB.outer.2 with ⟨_, e⟩ | h
    · omega
    · exact h
  subst e8
  have hcell : ∀ k, k < n → cur[k]? = some (V k) := fun k hk => by
    have : (cur.toList.take (n * 1))[k]? = some (V k) := by rw [htake]; simp [hk]
    rw [List.getElem?_take_of_lt (by omega)] at this
    simpa using this
  have c0 : w.cell? ⟨og, 0, none⟩ = some (V 0) := by simp [World.cell?, hcur, hcell 0 hn.1]
  obtain ⟨p0, cp0, e0⟩ := own_form (hB.inner 0 hn.1)
  have hO0 := hB.inner 0 hn.1
  have h80 := hB.ap8 0 hn.1
  have hap0 := fun j hj (hne : j ≠ 0) => hB.ap j 0 hj hn.1 hne
  rw [e0] at c0 hO0 h80 hap0
  have hlog : og < w.heap.size := (Array.getElem?_eq_some_iff.1 hcur).1
  have HO : Hid ((w.alloc (.cells #[I 6, I 0, I (wrap64 (start - 1)), I 0] 39)).ownsRow v.heap.size 39 4 (.slice p0 (az 0).length cp0) (az 0).length (calls4 ((az 0).map addCl))) := ⟨own_stay (fun b hb => by
    show (w.heap.push _)[b]? = _
    rw [Array.getElem?_push, if_neg (by have := (own_low hO0 hb).2; omega)]) hO0⟩
  have HL : Hid ((az 0).length < 64 ∧ v.heap.size ≤ w.heap.size) := ⟨⟨h64 0 hn.1, hB.old.size⟩⟩
  have HFIN : Hid (∀ w6 w' g cpg, (w.alloc (.cells #[I 6, I 0, I (wrap64 (start - 1)), I 0] 39)).grownBy w6 (Value.slice p0 (az 0).length cp0).ownBlock → w6.ownsRow v.heap.size 39 4 (.slice (some ⟨g, 0, none⟩) ((az 0).length + 1) cpg) ((az 0).length + 1) (calls4 ((az 0).map addCl) ++ [I 6, I 0, I (wrap64 (start - 1)), I 0]) → ((Value.slice p0 (az 0).length cp0).ownBlock = some g ∨ g = (w.alloc (.cells #[I 6, I 0, I (wrap64 (start - 1)), I 0] 39)).heap.size) → w' = w6.setCell ⟨og, 0, none⟩ (.slice (some ⟨g, 0, none⟩) ((az 0).length + 1) cpg) → (w6.cell? ⟨og, 0, none⟩ = some (.slice p0 (az 0).length cp0) ∧ w6.frozen? ⟨og, 0, none⟩ = false) ∧ (∃ pc cp rb, InS w' (some ⟨og, 0, none⟩) og 0 n pc (fun j => (addS start az j).length) cp rb (addS start az)) ∧ Grows v w') := ⟨fun w6 w' g cpg hg hown hat hw' => by
    have st := stn_append hg
    have hsz1 : (w.alloc (.cells #[I 6, I 0, I (wrap64 (start - 1)), I 0] 39)).heap.size = w.heap.size + 1 := by show (w.heap.push _).size = _; simp
    have hog6 : w6.heap[og]? = some (.cells cur 37 (0, 0)) := by rw [st.blk og hlog (fun hp => h80 og hp rfl)]; exact hcur
    have hgog : g ≠ og := fun e => by
      rcases hat with h1 | h1
      · rw [e] at h1; exact h80 og h1 rfl
      · omega
    have hw6 : w'.heap[og]? = some (.cells (cur.setIfInBounds 0 (.slice (some ⟨g, 0, none⟩) ((az 0).length + 1) cpg)) 37 (0, 0)) := by rw [hw']; exact heap_setCell_same hog6 _
    have hne : ∀ b, b ≠ og → w'.heap[b]? = w6.heap[b]? := fun b hb => by rw [hw', Below.heap_setCell _ _ _ _ hb]
    refine ⟨⟨by simp [World.cell?, hog6, hcell 0 hn.1, e0], by simp [World.frozen?, hog6]⟩, ⟨_, _, _, inS_of (H := v.heap.size) (V := fun j => if j = 0 then .slice (some ⟨g, 0, none⟩) ((az 0).length + 1) cpg else V j) hst hn.2 haz (fun k hk => ?_) (fun j hj => ?_)⟩, ⟨by rw [hw']; have := hB.old.size; have := st.size; simp [World.setCell]; omega, fun b hb => ?_, by rw [hw']; exact st.os.trans hB.old.os, by rw [hw']; exact st.out.trans hB.old.output⟩⟩
    · unfold World.cell?
      rw [show w'.heap[og]? = _ from hw6]
      by_cases e : k = 0
      · subst e
        rw [if_pos rfl]
        have : 0 < cur.size := by have := (Array.getElem?_eq_some_iff.1 (hcell 0 hn.1)).1; exact this
        simp [this]
      · rw [if_neg e]
        simp only [Option.isSome_none, Bool.false_eq_true, if_false]
        rw [Array.getElem?_setIfInBounds_ne (fun h => e h.symm)]
        exact hcell k hk
    · by_cases e : j = 0
      · subst e
        rw [if_pos rfl]
        have ea : addS start az 0 = (az 0).map addCl ++ [untCl start] := rfl
        rw [ea, calls4_app, List.length_append, List.length_map]
        exact own_stay (fun b hb => by cases hb; exact hne g hgog) hown
      · rw [if_neg e]
        have ea : addS start az j = (az j).map addCl := by unfold addS; rw [if_neg e, List.append_nil]
        rw [ea, List.length_map]
        have o1 := st.own (hB.inner j hj) (fun b hb hp => hap0 j hj e b hb hp)
        exact own_stay (fun b hb => hne b (fun h => hB.ap8 j hj b hb (by rw [h]; rfl))) o1
    · rw [hne b (by omega), st.blk b (by have := hB.old.size; omega) (fun hp => by have := (own_low hO0 hp).1; omega)]
      exact hB.old.old b hb⟩
  have HOG : Hid (v.heap.size ≤ og) := ⟨hog⟩
  have hn0 : (0 : Int) < (n : Int) := by omega
  have hn1 : 0 < n := hn.1
  obtain ⟨f0, f1, f2, f7, f8, f9, -⟩ := hF.at_
  obtain ⟨u, rfl, hg⟩ := litN hF.size hF.defers
  have u0 := (hg 0).symm.trans f0
  have u1 := (hg 1).symm.trans f1
  have u2 := (hg 2).symm.trans f2
  have u7 := (hg 7).symm.trans f7
  have u8 := (hg 8).symm.trans f8
  have u9 := (hg 9).symm.trans f9
  clear hg hF f0 f1 f2 f7 f8 f9 hB hcell hcur htake hsz hO0 h80 hap0 hle hst haz h64 hog hn
  obtain ⟨j4, hj4, hj40, hj41, hj42⟩ := info_parts info39
  show Code.wp Try.prog (seq1 (seq2 (seq2 (seq2 (seq2 (seq2 (seq2 B4))))))) _ _ _
  unfold B4 Try.f4 seq2 seq1
  simp only [Option.getD_some, lis, Nat.reduceAdd, u0, u1, u2, u7, u8, u9]
  clear u0 u1 u2 u7 u8 u9
  go_wp2_with (first
    | (refine wpList_append_lies _ rfl (.tmp 85) (.tmp 89) 37 rfl v.heap.size 39 j4 _ 4 32 Try.underlying37 hj4 hj40 hj41 hj42 rfl (by decide) (.slice p0 (az 0).length cp0) (az 0).length (calls4 ((az 0).map addCl)) rfl HO.out ⟨w.heap.size, 0, none⟩ 1 1 [I 6, I 0, I (wrap64 (start - 1)), I 0] rfl rfl (fun j u hj => World.news_of_block Array.getElem?_push_size j u hj) (fun u hu => by simp at hu; rcases hu with rfl | rfl | rfl | rfl <;> rfl) (by decide) (by have := HL.out; unfold maxLen; omega) (by have := HL.out; omega) (by have := HL.out; show v.heap.size ≤ (w.heap.push _).size; simp; omega) _ rfl ?_
       intro g cpg w6 hown6 hgrow6 hat6 hlt6
       obtain ⟨⟨k1, k2⟩, hfin⟩ := HFIN.out w6 _ g cpg hgrow6 hown6 hat6 rfl))
  exact ⟨og, ⟨ocap, ⟨rfl, rfl, rfl, rfl, rfl, rfl, rfl, rfl, trivial⟩⟩, hfin.1, HOG.out⟩
end Go.Proofs.Ytmgaojbfmohboaa

/- The law CellAdds (4): behind its Play, walked alone: what was seen, and that no number stands there twice. -/
set_option linter.unusedSimpArgs false
set_option linter.unusedVariables false
namespace Go.Proofs.Ytmgaojbfmohboaa
open Go Go.Lift Go.Conc Go.RowKit

noncomputable def q422 : Code := seq1 P4
noncomputable def q424 : Code := seq1 (seq2 P4)
noncomputable def q425 : Code := seq1 (seq2 (seq2 P4))
noncomputable def q434 : Code := seq1 (seq2 (seq2 (seq2 P4)))
noncomputable def q442 : Code := seq1 (seq2 (seq2 (seq2 (seq2 P4))))
noncomputable def q443 : Code := seq1 (seq2 (seq2 (seq2 (seq2 (seq2 P4)))))
noncomputable def q444 : Code := seq1 (seq2 (seq2 (seq2 (seq2 (seq2 (seq2 P4))))))
noncomputable def q449 : Code := seq1 (seq2 (seq2 (seq2 (seq2 (seq2 (seq2 (seq2 P4)))))))
theorem eP4 : P4 = .seq q422 (.seq q424 (.seq q425 (.seq q434 (.seq q442 (.seq q443 (.seq q444 (.seq q449 .ret))))))) := by kernel_rfl
theorem fineq22 : fineCode Try.prog true LO q422 := fineCode_ask callO extT (by kernel_rfl)
theorem fineq24 : fineCode Try.prog true LO q424 := fineCode_ask callO extT (by kernel_rfl)
theorem fineq25 : fineCode Try.prog true LO q425 := fineCode_ask callO extT (by kernel_rfl)
theorem fineq34 : fineCode Try.prog true LO q434 := fineCode_ask callO extT (by kernel_rfl)
theorem fineq42 : fineCode Try.prog true LO q442 := fineCode_ask callO extT (by kernel_rfl)
theorem fineq43 : fineCode Try.prog true LO q443 := fineCode_ask callO extT (by kernel_rfl)
theorem fineq44 : fineCode Try.prog true LO q444 := fineCode_ask callO extT (by kernel_rfl)
theorem fineq49 : fineCode Try.prog true LO q449 := fineCode_ask callO extT (by kernel_rfl)

/-- Where the answers lie. -/
structure Ans (v : World) (M n og : Nat) (Ab ln : Nat → Nat) (pc : Nat → Option Addr) (cp : Nat → Nat) (vals : Nat → List Int) : Prop where
  row : ∀ j, j < n → v.cell? ⟨M, j, none⟩ = some (.slice (some ⟨Ab j, 0, none⟩) (ln j) (ln j))
  scr : ∀ j, j < n → v.cell? ⟨og, j, none⟩ = some (.slice (pc j) (ln j) (cp j))
  val : ∀ j, j < n → ∀ (k : Nat) (x : Int), (vals j)[k]? = some x → v.cell? ⟨Ab j, k * 2 + 1, none⟩ = some (I x)
  len : ∀ j, j < n → (vals j).length ≤ ln j ∧ ln j ≤ 64
theorem Ans.grows {v v' : World} {M n og : Nat} {Ab ln : Nat → Nat} {pc : Nat → Option Addr} {cp : Nat → Nat} {vals : Nat → List Int} (h : Ans v M n og Ab ln pc cp vals) (g : Grows v v') : Ans v' M n og Ab ln pc cp vals :=
  ⟨fun j hj => g.cell (h.row j hj), fun j hj => g.cell (h.scr j hj), fun j hj k x hx => g.cell (h.val j hj k x hx), h.len⟩

abbrev slots4 (start sm : Int) (X2 X8 : Value) (wb M n : Nat) : List (Nat × Value) := [(1, I start), (2, X2), (8, X8), (9, I sm), (14, Pt wb 0), (15, .slice (some ⟨M, 0, none⟩) n n)]

set_option maxHeartbeats 4000000 in
set_option maxRecDepth 100000 in
theorem q422_wp {v : World} {start sm : Int} {X2 : Value} {wb M n og ocap : Nat} {a : Act} (hF : Fram 191 ((16, I 0) :: slots4 start sm X2 (.slice (some ⟨og, 0, none⟩) n ocap) wb M n) a) :
    q422.wp Try.prog (fun e a w' => e = .normal ∧ Fram 191 (slots4 start sm X2 (.slice (some ⟨og, 0, none⟩) n ocap) wb M n) a ∧ w'.heap = v.heap ∧ w'.os = v.os ∧ w'.output = v.output) a v := by
  obtain ⟨f16, f1, f2, f8, f9, f14, f15, -⟩ := hF.at_
  obtain ⟨u, rfl, hg⟩ := litN hF.size hF.defers
  have u1 := (hg 1).symm.trans f1
  have u2 := (hg 2).symm.trans f2
  have u8 := (hg 8).symm.trans f8
  have u9 := (hg 9).symm.trans f9
  have u14 := (hg 14).symm.trans f14
  have u15 := (hg 15).symm.trans f15
  have u16 := (hg 16).symm.trans f16
  clear hg hF f1 f2 f8 f9 f14 f15 f16
  show Code.wp Try.prog (seq1 (seq2 (seq2 (seq2 (seq2 (seq2 (seq2 (seq2 U4)))))))) _ _ _
  unfold U4 B4 Try.f4 seq2 seq1
  simp only [Option.getD_some, lis, Nat.reduceAdd, u1, u2, u8, u9, u14, u15, u16]
  clear u1 u2 u8 u9 u14 u15 u16
  go_wp2_with fail
  exact ⟨rfl, rfl, rfl, rfl, rfl, rfl, rfl, rfl, trivial⟩
set_option maxHeartbeats 4000000 in
set_option maxRecDepth 100000 in
theorem q424_wp {v : World} {start sm : Int} {X2 X8 : Value} {wb M n : Nat} {a : Act} (hF : Fram 191 (slots4 start sm X2 X8 wb M n) a) :
    q424.wp Try.prog (fun e a w' => e = .normal ∧ Fram 191 ((17, .slice none 0 0) :: slots4 start sm X2 X8 wb M n) a ∧ w'.heap = v.heap ∧ w'.os = v.os ∧ w'.output = v.output) a v := by
  obtain ⟨f1, f2, f8, f9, f14, f15, -⟩ := hF.at_
  obtain ⟨u, rfl, hg⟩ := litN hF.size hF.defers
  have u1 := (hg 1).symm.trans f1
  have u2 := (hg 2).symm.trans f2
  have u8 := (hg 8).symm.trans f8
  have u9 := (hg 9).symm.trans f9
  have u14 := (hg 14).symm.trans f14
  have u15 := (hg 15).symm.trans f15
  clear hg hF f1 f2 f8 f9 f14 f15
  show Code.wp Try.prog (seq1 (seq2 (seq2 (seq2 (seq2 (seq2 (seq2 (seq2 (seq2 U4))))))))) _ _ _
  unfold U4 B4 Try.f4 seq2 seq1
  simp only [Option.getD_some, lis, Nat.reduceAdd, u1, u2, u8, u9, u14, u15]
  clear u1 u2 u8 u9 u14 u15
  go_wp2_with fail
  exact ⟨rfl, rfl, rfl, rfl, rfl, rfl, rfl, rfl, rfl, trivial⟩

/-- All that is seen of the first k threads. -/
def seenOf (vals : Nat → List Int) (k : Nat) : List Int := (List.range k).flatMap vals
theorem seenOf_succ (vals : Nat → List Int) (k : Nat) : seenOf vals (k + 1) = seenOf vals k ++ vals k := by
  unfold seenOf
  rw [List.range_succ, List.flatMap_append]
  simp
theorem seenOf_le (vals : Nat → List Int) (h : ∀ j, (vals j).length ≤ 64) : ∀ k, (seenOf vals k).length ≤ 64 * k
  | 0 => by simp [seenOf]
  | k + 1 => by
    rw [seenOf_succ, List.length_append]
    have := seenOf_le vals h k
    have := h k
    omega
/-- What was seen so far. -/
structure Seen (v : World) (sv : Value) (l : List Int) (u : World) : Prop where
  own : u.ownsRow v.heap.size 3 1 sv l.length (l.map I)
  old : Grows v u
theorem Seen.next {v u u' : World} {sv : Value} {l : List Int} {x : Int} {g cap : Nat} {o : Obj} (h : Seen v sv l u) (hg : (u.alloc o).grownBy u' sv.ownBlock) (hown : u'.ownsRow v.heap.size 3 1 (.slice (some ⟨g, 0, none⟩) (l.length + 1) cap) (l.length + 1) (l.map I ++ [I x])) : Seen v (.slice (some ⟨g, 0, none⟩) (l.length + 1) cap) (l ++ [x]) u' := by
  have st := stn_append hg
  refine ⟨by rw [List.length_append, List.map_append]; exact hown, ⟨Nat.le_trans h.old.size st.size, fun b hb => ?_, st.os.trans h.old.os, st.out.trans h.old.output⟩⟩
  rw [st.blk b (by have := h.old.size; omega) (fun hp => by have := (own_low h.own hp).1; omega)]
  exact h.old.old b hb

set_option maxHeartbeats 8000000 in
set_option maxRecDepth 100000 in
theorem q425_wp {v : World} {start sm : Int} {p : Option Addr} {b o n cap wb M og ocap : Nat} {qa : Nat → Option Addr} {ca ib io : Nat → Nat} {za : Nat → List Int} {Ab ln : Nat → Nat} {pc : Nat → Option Addr} {cp : Nat → Nat} {vals : Nat → List Int} {a : Act} (hI : InA v p b o n qa ca ib io za) (hn : 0 < n ∧ n ≤ 8) (hA : Ans v M n og Ab ln pc cp vals) (hvl : ∀ j, j < n → (vals j).length = (za j).length) (hv64 : ∀ j, (vals j).length ≤ 64)
    (hF : Fram 191 ((17, .slice none 0 0) :: slots4 start sm (.slice p n cap) (.slice (some ⟨og, 0, none⟩) n ocap) wb M n) a) :
    q425.wp Try.prog (fun e a w' => e = .normal ∧ ∃ sv, Fram 191 ((17, sv) :: slots4 start sm (.slice p n cap) (.slice (some ⟨og, 0, none⟩) n ocap) wb M n) a ∧ Seen v sv (seenOf vals n) w') a v := by
  have hp := hI.at_ hn.1
  subst hp
  have HI : Hid (InA v (some ⟨b, o, none⟩) b o n qa ca ib io za) := ⟨hI⟩
  have HA : Hid (Ans v M n og Ab ln pc cp vals) := ⟨hA⟩
  have HN : Hid ((0 < n ∧ n ≤ 8) ∧ (∀ j, j < n → (vals j).length = (za j).length) ∧ ∀ j, (vals j).length ≤ 64) := ⟨⟨hn, hvl, hv64⟩⟩
  have H0 : Hid (Seen v (.slice none 0 0) (seenOf vals 0) v) := ⟨⟨World.ownsRow_nil _ _ _ _, ⟨Nat.le_refl _, fun _ _ => rfl, rfl, rfl⟩⟩⟩
  obtain ⟨f17, f1, f2, f8, f9, f14, f15, -⟩ := hF.at_
  obtain ⟨u, rfl, hg⟩ := litN hF.size hF.defers
  have u1 := (hg 1).symm.trans f1
  have u2 := (hg 2).symm.trans f2
  have u8 := (hg 8).symm.trans f8
  have u9 := (hg 9).symm.trans f9
  have u14 := (hg 14).symm.trans f14
  have u15 := (hg 15).symm.trans f15
  have u17 := (hg 17).symm.trans f17
  clear hg hF f1 f2 f8 f9 f14 f15 f17 hI hA hn hvl hv64
  obtain ⟨j3, hj3, hj30, hj31, hj32⟩ := info_parts info3
  show Code.wp Try.prog (seq1 (seq2 (seq2 (seq2 (seq2 (seq2 (seq2 (seq2 (seq2 (seq2 U4)))))))))) _ _ _
  unfold U4 B4 Try.f4 seq2 seq1
  simp only [Option.getD_some, lis, Nat.reduceAdd, u1, u2, u8, u9, u14, u15, u17]
  clear u1 u2 u8 u9 u14 u15 u17
  go_wp2_with fail
  go_loopw [17, 18] (fun sv i w => ∃ k : Nat, k ≤ n ∧ i = .int .i64 k ∧ Seen v sv (seenOf vals k) w) (fun _ i _ => n - (intOf i).toNat)
  case atStart => exact ⟨0, Nat.zero_le _, rfl, H0.out⟩
  case round =>
    obtain ⟨k, hk, rfl, hS⟩ := hrel
    by_cases hlt : k < n
    · have hlt' : (k : Int) < (n : Int) := by omega
      obtain ⟨wo, hwo⟩ : ∃ wo, wo = wr := ⟨wr, rfl⟩
      subst hwo
      have r1 := (HA.out.grows hS.old).row k hlt
      have r2 := (HA.out.grows hS.old).scr k hlt
      have HS : Hid (Seen v u17 (seenOf vals k) wo) := ⟨hS⟩
      clear hS
      go_wp2_with fail
      go_quiet (fail)
      go_wp2_with fail
      go_loopw [17, 19] (fun sv i w => ∃ kk : Nat, kk ≤ (za k).length ∧ i = .int .i64 kk ∧ Seen v sv (seenOf vals k ++ (vals k).take kk) w) (fun _ i _ => (za k).length - (intOf i).toNat)
      case atStart => exact ⟨0, Nat.zero_le _, rfl, by rw [List.take_zero, List.append_nil]; exact ⟨HS.out.own, ⟨HS.out.old.size, HS.out.old.old, HS.out.old.os, HS.out.old.output⟩⟩⟩
      case round =>
        obtain ⟨kk, hkk, rfl, hSe⟩ := hrel
        have hrow' := (HI.out.stn (P := fun _ => True) hSe.old).row k hlt
        by_cases hlt2 : kk < (za k).length
        · have hlt2' : (kk : Int) < ((za k).length : Int) := by omega
          obtain ⟨x, hx⟩ : ∃ x, (vals k)[kk]? = some x := ⟨_, List.getElem?_eq_getElem (by rw [HN.out.2.1 k hlt]; exact hlt2)⟩
          have s1 := (HA.out.grows hSe.old).row k hlt
          have s2 := (HA.out.grows hSe.old).val k hlt kk x hx
          have hll : kk < ln k := by have := (HA.out.len k hlt).1; rw [HN.out.2.1 k hlt] at this; omega
          have hll' : (kk : Int) < (ln k : Int) := by omega
          have HE : Hid (Seen v u17 (seenOf vals k ++ (vals k).take kk) wr ∧ (vals k)[kk]? = some x) := ⟨⟨hSe, hx⟩⟩
          have HO : Hid ((wr.alloc (.cells #[I x] 3)).ownsRow v.heap.size 3 1 u17 (seenOf vals k ++ (vals k).take kk).length ((seenOf vals k ++ (vals k).take kk).map I)) := ⟨own_stay (fun b hb => by
            show (wr.heap.push _)[b]? = _
            rw [Array.getElem?_push, if_neg (by have := (own_low hSe.own hb).2; omega)]) hSe.own⟩
          have HM : Hid ((seenOf vals k ++ (vals k).take kk).length ≤ 1000 ∧ v.heap.size ≤ wr.heap.size) := ⟨⟨by
            have h1 := seenOf_le vals HN.out.2.2 k
            have h2 := HN.out.2.2 k
            have h3 := HN.out.1
            rw [List.length_append, List.length_take]
            omega, hSe.old.size⟩⟩
          have hk64 : kk < 64 := by have := HN.out.2.2 k; rw [HN.out.2.1 k hlt] at this; omega
          have HK : Hid (kk + 1 ≤ (za k).length ∧ (za k).length - (kk + 1) < (za k).length - kk ∧ wrap64 ((kk : Int) + 1) = ((kk + 1 : Nat) : Int)) := ⟨⟨hlt2, by omega, by unfold wrap64; omega⟩⟩
          clear hk64
          clear hSe hx
          go_wp2_with (first
            | (refine wpList_append_lies _ rfl (.tmp 137) (.tmp 146) 22 rfl v.heap.size 3 j3 _ 1 8 Try.underlying22 hj3 hj30 hj31 hj32 rfl (by decide) u17 (seenOf vals k ++ (vals k).take kk).length ((seenOf vals k ++ (vals k).take kk).map I) rfl HO.out ⟨wr.heap.size, 0, none⟩ 1 1 [I x] rfl rfl (fun j u hj => World.news_of_block Array.getElem?_push_size j u hj) (fun u hu => by have := List.mem_singleton.1 hu; subst this; rfl) (by decide) (by have := HM.out; unfold maxLen; omega) (by have := HM.out; omega) (by have := HM.out; show v.heap.size ≤ (wr.heap.push _).size; simp; omega) _ rfl ?_
               intro g cpg w6 hown6 hgrow6 hat6 hlt6))
          rw [HK.out.2.2]
          have hnx := HE.out.1.next hgrow6 hown6
          rw [List.length_append, List.length_take, List.append_assoc] at hnx
          refine ⟨⟨kk + 1, HK.out.1, rfl, ?_⟩, HK.out.2.1⟩
          rw [List.take_add_one, HE.out.2]
          exact hnx
        · have hkl : kk = (za k).length := by omega
          subst hkl
          have HE : Hid (Seen v u17 (seenOf vals (k + 1)) wr) := ⟨by
            rw [seenOf_succ]
            rw [← HN.out.2.1 k hlt, List.take_length] at hSe
            exact hSe⟩
          have hk8 : k < 8 := by have := HN.out.1; omega
          have HK : Hid (k + 1 ≤ n ∧ n - (k + 1) < n - k ∧ wrap64 ((k : Int) + 1) = ((k + 1 : Nat) : Int)) := ⟨⟨hlt, by omega, by unfold wrap64; omega⟩⟩
          clear hSe hk8 hkk hlt2
          go_wp2_with fail
          rw [HK.out.2.2]
          exact ⟨⟨k + 1, HK.out.1, rfl, HE.out⟩, HK.out.2.1⟩
    · have hkn : k = n := by omega
      subst hkn
      have HS : Hid (Seen v u17 (seenOf vals k) wr) := ⟨hS⟩
      clear hS
      go_wp2_with fail
      exact ⟨u17, ⟨rfl, rfl, rfl, rfl, rfl, rfl, rfl, rfl, rfl, trivial⟩, HS.out⟩
end Go.Proofs.Ytmgaojbfmohboaa

/- The law CellAdds (4): behind its Play, walked alone: that no number stands there twice. -/
set_option linter.unusedSimpArgs false
set_option linter.unusedVariables false
namespace Go.Proofs.Ytmgaojbfmohboaa
open Go Go.Lift Go.Conc Go.RowKit

theorem ints_form {w : World} {base : Nat} {sv : Value} {l : List Int} (h : w.ownsRow base 3 1 sv l.length (l.map I)) : ∃ p g cap, sv = .slice p l.length cap ∧ (0 < l.length → p = some ⟨g, 0, none⟩) ∧ ∀ (k : Nat) (x : Int), l[k]? = some x → w.cell? ⟨g, k, none⟩ = some (I x) := by
  rcases Nat.eq_zero_or_pos l.length with h0 | h0
  · obtain ⟨p, cap, e⟩ := own_form h
    exact ⟨p, 0, cap, e, fun h => by omega, fun k x hk => by have := (List.getElem?_eq_some_iff.1 hk).1; omega⟩
  · obtain ⟨g, cap, e, _, _⟩ := ints_cell h (List.getElem?_eq_getElem h0)
    refine ⟨_, g, cap, e, fun _ => rfl, fun k x hk => ?_⟩
    obtain ⟨g', cap', e', hc, _⟩ := ints_cell h hk
    rw [e] at e'
    cases e'
    exact hc

set_option maxHeartbeats 8000000 in
set_option maxRecDepth 100000 in
/-- No number stands there twice. -/
theorem q434_wp {v w : World} {start sm : Int} {X2 X8 sv : Value} {wb M n : Nat} {l : List Int} {a : Act} (hS : Seen v sv l w) (hl : l.length ≤ 1000) (hne : ∀ (i k : Nat) (x y : Int), k < i → l[i]? = some x → l[k]? = some y → x ≠ y)
    (hF : Fram 191 ((17, sv) :: slots4 start sm X2 X8 wb M n) a) :
    q434.wp Try.prog (fun e a w' => e = .normal ∧ Fram 191 (slots4 start sm X2 X8 wb M n) a ∧ w'.heap = w.heap ∧ w'.os = w.os ∧ w'.output = w.output) a w := by
  obtain ⟨p, g, cap, e, hp, hc⟩ := ints_form hS.own
  subst e
  have HC : Hid (∀ (k : Nat) (x : Int), l[k]? = some x → w.cell? ⟨g, k, none⟩ = some (I x)) := ⟨hc⟩
  have HP : Hid (0 < l.length → p = some ⟨g, 0, none⟩) := ⟨hp⟩
  have HD : Hid (∀ (i k : Nat) (x y : Int), k < i → l[i]? = some x → l[k]? = some y → x ≠ y) := ⟨hne⟩
  obtain ⟨f17, f1, f2, f8, f9, f14, f15, -⟩ := hF.at_
  obtain ⟨u, rfl, hg⟩ := litN hF.size hF.defers
  have u1 := (hg 1).symm.trans f1
  have u2 := (hg 2).symm.trans f2
  have u8 := (hg 8).symm.trans f8
  have u9 := (hg 9).symm.trans f9
  have u14 := (hg 14).symm.trans f14
  have u15 := (hg 15).symm.trans f15
  have u17 := (hg 17).symm.trans f17
  clear hg hF f1 f2 f8 f9 f14 f15 f17 hS hc hp hne
  show Code.wp Try.prog (seq1 (seq2 (seq2 (seq2 (seq2 (seq2 (seq2 (seq2 (seq2 (seq2 (seq2 U4))))))))))) _ _ _
  unfold U4 B4 Try.f4 seq2 seq1
  simp only [Option.getD_some, lis, Nat.reduceAdd, u1, u2, u8, u9, u14, u15, u17]
  clear u1 u2 u8 u9 u14 u15 u17
  go_wp2_with fail
  go_loopw [20] (fun i w' => ∃ k : Nat, k ≤ l.length ∧ i = .int .i64 k ∧ w'.heap = w.heap ∧ w'.os = w.os ∧ w'.output = w.output) (fun i _ => l.length - (intOf i).toNat)
  case atStart => exact ⟨0, Nat.zero_le _, rfl, rfl, rfl, rfl⟩
  case round =>
    obtain ⟨i, hi, rfl, hh, ho, hu⟩ := hrel
    by_cases hlt : i < l.length
    · have hlt' : (i : Int) < (l.length : Int) := by omega
      have hpp := HP.out (by omega)
      subst hpp
      obtain ⟨x, hx⟩ : ∃ x, l[i]? = some x := ⟨_, List.getElem?_eq_getElem hlt⟩
      have HX : Hid (l[i]? = some x) := ⟨hx⟩
      have HW : Hid (wr.heap = w.heap ∧ wr.os = w.os ∧ wr.output = w.output) := ⟨⟨hh, ho, hu⟩⟩
      clear hh ho hu hx
      go_wp2_with fail
      go_loopw [21] (fun j w' => ∃ k : Nat, k ≤ i ∧ j = .int .i64 k ∧ w'.heap = w.heap ∧ w'.os = w.os ∧ w'.output = w.output) (fun j _ => i - (intOf j).toNat)
      case atStart => exact ⟨0, Nat.zero_le _, rfl, HW.out⟩
      case round =>
        obtain ⟨k, hk, rfl, hh, ho, hu⟩ := hrel
        by_cases hlt2 : k < i
        · have hlt2' : (k : Int) < (i : Int) := by omega
          obtain ⟨y, hy⟩ : ∃ y, l[k]? = some y := ⟨_, List.getElem?_eq_getElem (by omega)⟩
          have c1 : wr.cell? ⟨g, i, none⟩ = some (I x) := by rw [World.cell?_of_block (w := w) (w' := wr) (by rw [hh])]; exact HC.out i x HX.out
          have c2 : wr.cell? ⟨g, k, none⟩ = some (I y) := by rw [World.cell?_of_block (w := w) (w' := wr) (by rw [hh])]; exact HC.out k y hy
          have hxy : (x == y) = false := by simpa using HD.out i k x y hlt2 HX.out hy
          have hkl : k < l.length := by omega
          have hkl' : (k : Int) < (l.length : Int) := by omega
          have HV : Hid (wr.heap = w.heap ∧ wr.os = w.os ∧ wr.output = w.output) := ⟨⟨hh, ho, hu⟩⟩
          clear hh ho hu hy
          have HK : Hid (k + 1 ≤ i ∧ i - (k + 1) < i - k) := ⟨⟨hlt2, by omega⟩⟩
          go_wp2_with fail
          go_quiet (fail)
          go_wp2_with fail
          exact ⟨⟨k + 1, HK.out.1, rfl, HV.out⟩, HK.out.2⟩
        · have hki : k = i := by omega
          subst hki
          have HV : Hid (wr.heap = w.heap ∧ wr.os = w.os ∧ wr.output = w.output) := ⟨⟨hh, ho, hu⟩⟩
          have HK : Hid (k + 1 ≤ l.length ∧ l.length - (k + 1) < l.length - k ∧ wrap64 ((k : Int) + 1) = ((k + 1 : Nat) : Int)) := ⟨⟨hlt, by omega, by unfold wrap64; omega⟩⟩
          clear hh ho hu hk hlt2
          go_wp2_with fail
          first
            | exact ⟨⟨k + 1, HK.out.1, rfl, HV.out⟩, HK.out.2.1⟩
            | (rw [HK.out.2.2]; exact ⟨⟨k + 1, HK.out.1, rfl, HV.out⟩, HK.out.2.1⟩)
    · have hil : i = l.length := by omega
      subst hil
      have HV : Hid (wr.heap = w.heap ∧ wr.os = w.os ∧ wr.output = w.output) := ⟨⟨hh, ho, hu⟩⟩
      clear hh ho hu
      go_wp2_with fail
      exact ⟨⟨rfl, rfl, rfl, rfl, rfl, rfl, rfl, rfl, trivial⟩, HV.out⟩
end Go.Proofs.Ytmgaojbfmohboaa

/- The law CellAdds (4): its end, walked alone: the last Add has left the sum of all. -/
set_option linter.unusedSimpArgs false
set_option linter.unusedVariables false
namespace Go.Proofs.Ytmgaojbfmohboaa
open Go Go.Lift Go.Conc Go.RowKit

noncomputable def Z4 : Code := seq2 (seq2 (seq2 (seq2 P4)))
theorem eP4z : P4 = .seq q422 (.seq q424 (.seq q425 (.seq q434 Z4))) := by kernel_rfl
theorem fineZ4 : fineCode Try.prog true LO Z4 := fineCode_ask callO extT (by kernel_rfl)
theorem lastAdd_take {start : Int} {L : List Stp} {k : Nat} {s : Stp} (h : L[k]? = some s) : lastAdd start (L.take (k + 1)) = if s.op = 5 then s.ne else lastAdd start (L.take k) := by
  rw [List.take_add_one, h, lastAdd_app]
  rfl

set_option maxHeartbeats 8000000 in
set_option maxRecDepth 100000 in
theorem z4_wp {v : World} {S : TS} {start sm : Int} {X2 X8 : Value} {M n : Nat} {a : Act} (h : Rep zn S v) (L : List Stp) (htr : S.tr = flat L) (hn : S.n = L.length) (hn1 : S.n ≤ 1000000) (hlast : lastAdd start L = sm) (hF : Fram 191 (slots4 start sm X2 X8 S.wb M n) a) :
    Z4.wp Try.prog (fun e a w' => e = .ret ∧ a.tmps.getD 6 undef = .bool true ∧ Grows v w') a v := by
  have H9 : Hid (Calls Try.prog 9 #[Pt S.wb 0] v (fun e w' => ∃ r, e = .returned r ∧ ∃ p tg cap, r = .slice p L.length cap ∧ (0 < L.length → p = some ⟨tg, 0, none⟩ ∧ v.heap.size ≤ tg) ∧ (∀ j u, (flat L)[j]? = some u → w'.cell? ⟨tg, j, none⟩ = some u) ∧ Grows v w')) := ⟨by
    have := (body9A (z := zn) (S := S) (v := v) h (by omega) (by rw [htr]; exact flat_one L)).calls Try.func9 rfl
    rw [hn, htr] at this
    exact this⟩
  have hLl : (L.length : Int) < 9223372036854775808 := by omega
  have HL : Hid (L.length ≤ 1000000 ∧ lastAdd start L = sm) := ⟨⟨by omega, hlast⟩⟩
  obtain ⟨f1, f2, f8, f9, f14, f15, -⟩ := hF.at_
  obtain ⟨u, rfl, hg⟩ := litN hF.size hF.defers
  have u1 := (hg 1).symm.trans f1
  have u2 := (hg 2).symm.trans f2
  have u8 := (hg 8).symm.trans f8
  have u9 := (hg 9).symm.trans f9
  have u14 := (hg 14).symm.trans f14
  have u15 := (hg 15).symm.trans f15
  clear hg hF f1 f2 f8 f9 f14 f15 h htr hn hn1 hlast
  show Code.wp Try.prog (seq2 (seq2 (seq2 (seq2 (seq2 (seq2 (seq2 (seq2 (seq2 (seq2 (seq2 U4))))))))))) _ _ _
  unfold U4 B4 Try.f4 seq2
  simp only [Option.getD_some, lis, Nat.reduceAdd, u1, u2, u8, u9, u14, u15]
  clear u1 u2 u8 u9 u14 u15
  go_wp2_with (first
    | (go_at_call 9; refine H9.out.mono ?_; rintro e w7 ⟨_, rfl, p9, tg, cap9, rfl, hp9, htr9, hgr9⟩))
  have HP : Hid ((0 < L.length → p9 = some ⟨tg, 0, none⟩) ∧ (∀ j u, (flat L)[j]? = some u → w7.cell? ⟨tg, j, none⟩ = some u) ∧ Grows v w7) := ⟨⟨fun h0 => (hp9 h0).1, htr9, hgr9⟩⟩
  clear hp9 htr9 hgr9 H9
  go_loopw [23, 24] (fun la i w => ∃ k : Nat, k ≤ L.length ∧ i = .int .i64 k ∧ la = I (lastAdd start (L.take k)) ∧ w = w7) (fun _ i _ => L.length - (intOf i).toNat)
  case atStart => exact ⟨0, Nat.zero_le _, rfl, rfl, rfl⟩
  case round =>
    obtain ⟨k, hk, rfl, rfl, rfl⟩ := hrel
    by_cases hlt : k < L.length
    · have hlt' : (k : Int) < (L.length : Int) := by omega
      obtain ⟨s, hs⟩ : ∃ s, L[k]? = some s := ⟨_, List.getElem?_eq_getElem hlt⟩
      obtain ⟨_, _, g2, _, g4⟩ := flat_get L k s hs
      have t2 := HP.out.2.1 _ _ g2
      have t4 := HP.out.2.1 _ _ g4
      have hp := HP.out.1 (by omega)
      subst hp
      have hst := lastAdd_take (start := start) hs
      have HK : Hid (k + 1 ≤ L.length ∧ L.length - (k + 1) < L.length - k ∧ wrap64 ((k : Int) + 1) = ((k + 1 : Nat) : Int)) := ⟨⟨hlt, by omega, by have := HL.out.1; unfold wrap64; omega⟩⟩
      clear g2 g4 hs
      by_cases h5 : s.op = 5
      · rw [if_pos h5] at hst
        have HS : Hid (lastAdd start (L.take (k + 1)) = s.ne) := ⟨hst⟩
        have b5 : (s.op == 5) = true := by simp [h5]
        clear hst h5
        go_wp2_with fail
        exact ⟨⟨k + 1, HK.out.1, rfl, by rw [HS.out], trivial⟩, HK.out.2.1⟩
      · rw [if_neg h5] at hst
        have HS : Hid (lastAdd start (L.take (k + 1)) = lastAdd start (L.take k)) := ⟨hst⟩
        have b5 : (s.op == 5) = false := by simp [h5]
        clear hst h5
        go_wp2_with fail
        exact ⟨⟨k + 1, HK.out.1, rfl, by rw [HS.out], trivial⟩, HK.out.2.1⟩
    · have hkl : k = L.length := by omega
      subst hkl
      have hl : lastAdd start (L.take L.length) = sm := by rw [List.take_length]; exact HL.out.2
      rw [hl]
      clear hl
      go_wp2_with fail
      exact HP.out.2.2
end Go.Proofs.Ytmgaojbfmohboaa
