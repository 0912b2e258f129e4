/- CellAdds returns true, whatever the schedule, the start and the numbers, and leaves what it was given as it was: of the law's statement as given, with no condition of our own. Part 32 of 34. (Joined, by program, of: Add4d, Add4e, Add4f, Aw1, Lift29, Aw2.) -/
import Derived.Test.YtfjjoohflcchnaaCellAdds06
import Derived.Test.YtfjjoohflcchnaaCellAdds29
import Derived.Test.YtfjjoohflcchnaaCellAdds31
import Derived.KernelRfl
set_option linter.unusedSimpArgs false
set_option linter.unusedVariables false
namespace Go.Proofs.Ytfjjoohflcchnaa
open Go Go.Lift Go.Conc Go.RowKit

noncomputable def q422 : Code := seq1 P4
noncomputable def q424 : Code := seq1 (seq2 P4)
noncomputable def q425 : Code := seq1 (seq2 (seq2 P4))
noncomputable def q434 : Code := seq1 (seq2 (seq2 (seq2 P4)))
theorem fineq22 : fineCode Try.prog true LO q422 := fineCode_ask callO extT (by kernel_rfl)
theorem fineq24 : fineCode Try.prog true LO q424 := fineCode_ask callO extT (by kernel_rfl)
theorem fineq25 : fineCode Try.prog true LO q425 := fineCode_ask callO extT (by kernel_rfl)
theorem fineq34 : fineCode Try.prog true LO q434 := fineCode_ask callO extT (by kernel_rfl)
/-- Where the answers lie. -/
structure Ans (v : World) (M n og : Nat) (Ab ln : Nat → Nat) (pc : Nat → Option Addr) (cp : Nat → Nat) (vals : Nat → List Int) : Prop where
  row : ∀ j, j < n → v.cell? ⟨M, j, none⟩ = some (.slice (some ⟨Ab j, 0, none⟩) (ln j) (ln j))
  scr : ∀ j, j < n → v.cell? ⟨og, j, none⟩ = some (.slice (pc j) (ln j) (cp j))
  val : ∀ j, j < n → ∀ (k : Nat) (x : Int), (vals j)[k]? = some x → v.cell? ⟨Ab j, k * 2 + 1, none⟩ = some (I x)
  len : ∀ j, j < n → (vals j).length ≤ ln j ∧ ln j ≤ 64
theorem Ans.grows {v v' : World} {M n og : Nat} {Ab ln : Nat → Nat} {pc : Nat → Option Addr} {cp : Nat → Nat} {vals : Nat → List Int} (h : Ans v M n og Ab ln pc cp vals) (g : Grows v v') : Ans v' M n og Ab ln pc cp vals :=
  ⟨fun j hj => g.cell (h.row j hj), fun j hj => g.cell (h.scr j hj), fun j hj k x hx => g.cell (h.val j hj k x hx), h.len⟩

abbrev slots4 (start sm : Int) (X2 X8 : Value) (wb M n : Nat) : List (Nat × Value) := [(1, I start), (2, X2), (8, X8), (9, I sm), (14, Pt wb 0), (15, .slice (some ⟨M, 0, none⟩) n n)]

set_option maxHeartbeats 4000000 in
set_option maxRecDepth 100000 in
theorem q422_wp {v : World} {start sm : Int} {X2 : Value} {wb M n og ocap : Nat} {a : Act} (hF : Fram 191 ((16, I 0) :: slots4 start sm X2 (.slice (some ⟨og, 0, none⟩) n ocap) wb M n) a) :
    q422.wp Try.prog (fun e a w' => e = .normal ∧ Fram 191 (slots4 start sm X2 (.slice (some ⟨og, 0, none⟩) n ocap) wb M n) a ∧ w'.heap = v.heap ∧ w'.os = v.os ∧ w'.output = v.output) a v := by
  obtain ⟨f16, f1, f2, f8, f9, f14, f15, -⟩ := hF.at_
  obtain ⟨u, rfl, hg⟩ := litN hF.size hF.defers
  have u1 := (hg 1).symm.trans f1
  have u2 := (hg 2).symm.trans f2
  have u8 := (hg 8).symm.trans f8
  have u9 := (hg 9).symm.trans f9
  have u14 := (hg 14).symm.trans f14
  have u15 := (hg 15).symm.trans f15
  have u16 := (hg 16).symm.trans f16
  clear hg hF f1 f2 f8 f9 f14 f15 f16
  show Code.wp Try.prog (seq1 (seq2 (seq2 (seq2 (seq2 (seq2 (seq2 (seq2 U4)))))))) _ _ _
  unfold U4 B4 Try.f4 seq2 seq1
  simp only [Option.getD_some, lis, Nat.reduceAdd, u1, u2, u8, u9, u14, u15, u16]
  clear u1 u2 u8 u9 u14 u15 u16
  go_wp2_with fail
  exact ⟨rfl, rfl, rfl, rfl, rfl, rfl, rfl, rfl, trivial⟩
set_option maxHeartbeats 4000000 in
set_option maxRecDepth 100000 in
theorem q424_wp {v : World} {start sm : Int} {X2 X8 : Value} {wb M n : Nat} {a : Act} (hF : Fram 191 (slots4 start sm X2 X8 wb M n) a) :
    q424.wp Try.prog (fun e a w' => e = .normal ∧ Fram 191 ((17, .slice none 0 0) :: slots4 start sm X2 X8 wb M n) a ∧ w'.heap = v.heap ∧ w'.os = v.os ∧ w'.output = v.output) a v := by
  obtain ⟨f1, f2, f8, f9, f14, f15, -⟩ := hF.at_
  obtain ⟨u, rfl, hg⟩ := litN hF.size hF.defers
  have u1 := (hg 1).symm.trans f1
  have u2 := (hg 2).symm.trans f2
  have u8 := (hg 8).symm.trans f8
  have u9 := (hg 9).symm.trans f9
  have u14 := (hg 14).symm.trans f14
  have u15 := (hg 15).symm.trans f15
  clear hg hF f1 f2 f8 f9 f14 f15
  show Code.wp Try.prog (seq1 (seq2 (seq2 (seq2 (seq2 (seq2 (seq2 (seq2 (seq2 U4))))))))) _ _ _
  unfold U4 B4 Try.f4 seq2 seq1
  simp only [Option.getD_some, lis, Nat.reduceAdd, u1, u2, u8, u9, u14, u15]
  clear u1 u2 u8 u9 u14 u15
  go_wp2_with fail
  exact ⟨rfl, rfl, rfl, rfl, rfl, rfl, rfl, rfl, rfl, trivial⟩

/-- All that is seen of the first k threads. -/
def seenOf (vals : Nat → List Int) (k : Nat) : List Int := (List.range k).flatMap vals
theorem seenOf_succ (vals : Nat → List Int) (k : Nat) : seenOf vals (k + 1) = seenOf vals k ++ vals k := by
  unfold seenOf
  rw [List.range_succ, List.flatMap_append]
  simp
theorem seenOf_le (vals : Nat → List Int) (h : ∀ j, (vals j).length ≤ 64) : ∀ k, (seenOf vals k).length ≤ 64 * k
  | 0 => by simp [seenOf]
  | k + 1 => by
    rw [seenOf_succ, List.length_append]
    have := seenOf_le vals h k
    have := h k
    omega
/-- What was seen so far. -/
structure Seen (v : World) (sv : Value) (l : List Int) (u : World) : Prop where
  own : u.ownsRow v.heap.size 3 1 sv l.length (l.map I)
  old : Grows v u
theorem Seen.next {v u u' : World} {sv : Value} {l : List Int} {x : Int} {g cap : Nat} {o : Obj} (h : Seen v sv l u) (hg : (u.alloc o).grownBy u' sv.ownBlock) (hown : u'.ownsRow v.heap.size 3 1 (.slice (some ⟨g, 0, none⟩) (l.length + 1) cap) (l.length + 1) (l.map I ++ [I x])) : Seen v (.slice (some ⟨g, 0, none⟩) (l.length + 1) cap) (l ++ [x]) u' := by
  have st := stn_append hg
  refine ⟨by rw [List.length_append, List.map_append]; exact hown, ⟨Nat.le_trans h.old.size st.size, fun b hb => ?_, st.os.trans h.old.os, st.out.trans h.old.output⟩⟩
  rw [st.blk b (by have := h.old.size; omega) (fun hp => by have := (own_low h.own hp).1; omega)]
  exact h.old.old b hb

set_option maxHeartbeats 8000000 in
set_option maxRecDepth 100000 in
theorem q425_wp {v : World} {start sm : Int} {p : Option Addr} {b o n cap wb M og ocap : Nat} {qa : Nat → Option Addr} {ca ib io : Nat → Nat} {za : Nat → List Int} {Ab ln : Nat → Nat} {pc : Nat → Option Addr} {cp : Nat → Nat} {vals : Nat → List Int} {a : Act} (hI : InA v p b o n qa ca ib io za) (hn : 0 < n ∧ n ≤ 8) (hA : Ans v M n og Ab ln pc cp vals) (hvl : ∀ j, j < n → (vals j).length = (za j).length) (hv64 : ∀ j, (vals j).length ≤ 64)
    (hF : Fram 191 ((17, .slice none 0 0) :: slots4 start sm (.slice p n cap) (.slice (some ⟨og, 0, none⟩) n ocap) wb M n) a) :
    q425.wp Try.prog (fun e a w' => e = .normal ∧ ∃ sv, Fram 191 ((17, sv) :: slots4 start sm (.slice p n cap) (.slice (some ⟨og, 0, none⟩) n ocap) wb M n) a ∧ Seen v sv (seenOf vals n) w') a v := by
  have hp := hI.at_ hn.1
  subst hp
  have HI : Hid (InA v (some ⟨b, o, none⟩) b o n qa ca ib io za) := ⟨hI⟩
  have HA : Hid (Ans v M n og Ab ln pc cp vals) := ⟨hA⟩
  have HN : Hid ((0 < n ∧ n ≤ 8) ∧ (∀ j, j < n → (vals j).length = (za j).length) ∧ ∀ j, (vals j).length ≤ 64) := ⟨⟨hn, hvl, hv64⟩⟩
  have H0 : Hid (Seen v (.slice none 0 0) (seenOf vals 0) v) := ⟨⟨World.ownsRow_nil _ _ _ _, ⟨Nat.le_refl _, fun _ _ => rfl, rfl, rfl⟩⟩⟩
  obtain ⟨f17, f1, f2, f8, f9, f14, f15, -⟩ := hF.at_
  obtain ⟨u, rfl, hg⟩ := litN hF.size hF.defers
  have u1 := (hg 1).symm.trans f1
  have u2 := (hg 2).symm.trans f2
  have u8 := (hg 8).symm.trans f8
  have u9 := (hg 9).symm.trans f9
  have u14 := (hg 14).symm.trans f14
  have u15 := (hg 15).symm.trans f15
  have u17 := (hg 17).symm.trans f17
  clear hg hF f1 f2 f8 f9 f14 f15 f17 hI hA hn hvl hv64
  obtain ⟨j3, hj3, hj30, hj31, hj32⟩ := info_parts info3
  show Code.wp Try.prog (seq1 (seq2 (seq2 (seq2 (seq2 (seq2 (seq2 (seq2 (seq2 (seq2 U4)))))))))) _ _ _
  unfold U4 B4 Try.f4 seq2 seq1
  simp only [Option.getD_some, lis, Nat.reduceAdd, u1, u2, u8, u9, u14, u15, u17]
  clear u1 u2 u8 u9 u14 u15 u17
  go_wp2_with fail
  go_loopw [17, 18] (fun sv i w => ∃ k : Nat, k ≤ n ∧ i = .int .i64 k ∧ Seen v sv (seenOf vals k) w) (fun _ i _ => n - (intOf i).toNat)
  case atStart => exact ⟨0, Nat.zero_le _, rfl, H0.out⟩
  case round =>
    obtain ⟨k, hk, rfl, hS⟩ := hrel
    by_cases hlt : k < n
    · have hlt' : (k : Int) < (n : Int) := by omega
      obtain ⟨wo, hwo⟩ : ∃ wo, wo = wr := ⟨wr, rfl⟩
      subst hwo
      have r1 := (HA.out.grows hS.old).row k hlt
      have r2 := (HA.out.grows hS.old).scr k hlt
      have HS : Hid (Seen v u17 (seenOf vals k) wo) := ⟨hS⟩
      clear hS
      go_wp2_with fail
      go_quiet (fail)
      go_wp2_with fail
      go_loopw [17, 19] (fun sv i w => ∃ kk : Nat, kk ≤ (za k).length ∧ i = .int .i64 kk ∧ Seen v sv (seenOf vals k ++ (vals k).take kk) w) (fun _ i _ => (za k).length - (intOf i).toNat)
      case atStart => exact ⟨0, Nat.zero_le _, rfl, by rw [List.take_zero, List.append_nil]; exact ⟨HS.out.own, ⟨HS.out.old.size, HS.out.old.old, HS.out.old.os, HS.out.old.output⟩⟩⟩
      case round =>
        obtain ⟨kk, hkk, rfl, hSe⟩ := hrel
        have hrow' := (HI.out.stn (P := fun _ => True) hSe.old).row k hlt
        by_cases hlt2 : kk < (za k).length
        · have hlt2' : (kk : Int) < ((za k).length : Int) := by omega
          obtain ⟨x, hx⟩ : ∃ x, (vals k)[kk]? = some x := ⟨_, List.getElem?_eq_getElem (by rw [HN.out.2.1 k hlt]; exact hlt2)⟩
          have s1 := (HA.out.grows hSe.old).row k hlt
          have s2 := (HA.out.grows hSe.old).val k hlt kk x hx
          have hll : kk < ln k := by have := (HA.out.len k hlt).1; rw [HN.out.2.1 k hlt] at this; omega
          have hll' : (kk : Int) < (ln k : Int) := by omega
          have HE : Hid (Seen v u17 (seenOf vals k ++ (vals k).take kk) wr ∧ (vals k)[kk]? = some x) := ⟨⟨hSe, hx⟩⟩
          have HO : Hid ((wr.alloc (.cells #[I x] 3)).ownsRow v.heap.size 3 1 u17 (seenOf vals k ++ (vals k).take kk).length ((seenOf vals k ++ (vals k).take kk).map I)) := ⟨own_stay (fun b hb => by
            show (wr.heap.push _)[b]? = _
            rw [Array.getElem?_push, if_neg (by have := (own_low hSe.own hb).2; omega)]) hSe.own⟩
          have HM : Hid ((seenOf vals k ++ (vals k).take kk).length ≤ 1000 ∧ v.heap.size ≤ wr.heap.size) := ⟨⟨by
            have h1 := seenOf_le vals HN.out.2.2 k
            have h2 := HN.out.2.2 k
            have h3 := HN.out.1
            rw [List.length_append, List.length_take]
            omega, hSe.old.size⟩⟩
          have hk64 : kk < 64 := by have := HN.out.2.2 k; rw [HN.out.2.1 k hlt] at this; omega
          have HK : Hid (kk + 1 ≤ (za k).length ∧ (za k).length - (kk + 1) < (za k).length - kk ∧ wrap64 ((kk : Int) + 1) = ((kk + 1 : Nat) : Int)) := ⟨⟨hlt2, by omega, by unfold wrap64; omega⟩⟩
          clear hk64
          clear hSe hx
          go_wp2_with (first
            | (refine wpList_append_lies _ rfl (.tmp 137) (.tmp 146) 22 rfl v.heap.size 3 j3 _ 1 8 Try.underlying22 hj3 hj30 hj31 hj32 rfl (by decide) u17 (seenOf vals k ++ (vals k).take kk).length ((seenOf vals k ++ (vals k).take kk).map I) rfl HO.out ⟨wr.heap.size, 0, none⟩ 1 1 [I x] rfl rfl (fun j u hj => World.news_of_block Array.getElem?_push_size j u hj) (fun u hu => by have := List.mem_singleton.1 hu; subst this; rfl) (by decide) (by have := HM.out; unfold maxLen; omega) (by have := HM.out; omega) (by have := HM.out; show v.heap.size ≤ (wr.heap.push _).size; simp; omega) _ rfl ?_
               intro g cpg w6 hown6 hgrow6 hat6 hlt6))
          rw [HK.out.2.2]
          have hnx := HE.out.1.next hgrow6 hown6
          rw [List.length_append, List.length_take, List.append_assoc] at hnx
          refine ⟨⟨kk + 1, HK.out.1, rfl, ?_⟩, HK.out.2.1⟩
          rw [List.take_add_one, HE.out.2]
          exact hnx
        · have hkl : kk = (za k).length := by omega
          subst hkl
          have HE : Hid (Seen v u17 (seenOf vals (k + 1)) wr) := ⟨by
            rw [seenOf_succ]
            rw [← HN.out.2.1 k hlt, List.take_length] at hSe
            exact hSe⟩
          have hk8 : k < 8 := by have := HN.out.1; omega
          have HK : Hid (k + 1 ≤ n ∧ n - (k + 1) < n - k ∧ wrap64 ((k : Int) + 1) = ((k + 1 : Nat) : Int)) := ⟨⟨hlt, by omega, by unfold wrap64; omega⟩⟩
          clear hSe hk8 hkk hlt2
          go_wp2_with fail
          rw [HK.out.2.2]
          exact ⟨⟨k + 1, HK.out.1, rfl, HE.out⟩, HK.out.2.1⟩
    · have hkn : k = n := by omega
      subst hkn
      have HS : Hid (Seen v u17 (seenOf vals k) wr) := ⟨hS⟩
      clear hS
      go_wp2_with fail
      exact ⟨u17, ⟨rfl, rfl, rfl, rfl, rfl, rfl, rfl, rfl, rfl, trivial⟩, HS.out⟩
end Go.Proofs.Ytfjjoohflcchnaa

namespace Go.Proofs.Ytfjjoohflcchnaa
open Go Go.Lift Go.Conc Go.RowKit

theorem ints_form {w : World} {base : Nat} {sv : Value} {l : List Int} (h : w.ownsRow base 3 1 sv l.length (l.map I)) : ∃ p g cap, sv = .slice p l.length cap ∧ (0 < l.length → p = some ⟨g, 0, none⟩) ∧ ∀ (k : Nat) (x : Int), l[k]? = some x → w.cell? ⟨g, k, none⟩ = some (I x) := by
  rcases Nat.eq_zero_or_pos l.length with h0 | h0
  · obtain ⟨p, cap, e⟩ := own_form h
    exact ⟨p, 0, cap, e, fun h => by omega, fun k x hk => by have := (List.getElem?_eq_some_iff.1 hk).1; omega⟩
  · obtain ⟨g, cap, e, _, _⟩ := ints_cell h (List.getElem?_eq_getElem h0)
    refine ⟨_, g, cap, e, fun _ => rfl, fun k x hk => ?_⟩
    obtain ⟨g', cap', e', hc, _⟩ := ints_cell h hk
    rw [e] at e'
    cases e'
    exact hc

set_option maxHeartbeats 8000000 in
set_option maxRecDepth 100000 in
/-- No number stands there twice. -/
theorem q434_wp {v w : World} {start sm : Int} {X2 X8 sv : Value} {wb M n : Nat} {l : List Int} {a : Act} (hS : Seen v sv l w) (hl : l.length ≤ 1000) (hne : ∀ (i k : Nat) (x y : Int), k < i → l[i]? = some x → l[k]? = some y → x ≠ y)
    (hF : Fram 191 ((17, sv) :: slots4 start sm X2 X8 wb M n) a) :
    q434.wp Try.prog (fun e a w' => e = .normal ∧ Fram 191 (slots4 start sm X2 X8 wb M n) a ∧ w'.heap = w.heap ∧ w'.os = w.os ∧ w'.output = w.output) a w := by
  obtain ⟨p, g, cap, e, hp, hc⟩ := ints_form hS.own
  subst e
  have HC : Hid (∀ (k : Nat) (x : Int), l[k]? = some x → w.cell? ⟨g, k, none⟩ = some (I x)) := ⟨hc⟩
  have HP : Hid (0 < l.length → p = some ⟨g, 0, none⟩) := ⟨hp⟩
  have HD : Hid (∀ (i k : Nat) (x y : Int), k < i → l[i]? = some x → l[k]? = some y → x ≠ y) := ⟨hne⟩
  obtain ⟨f17, f1, f2, f8, f9, f14, f15, -⟩ := hF.at_
  obtain ⟨u, rfl, hg⟩ := litN hF.size hF.defers
  have u1 := (hg 1).symm.trans f1
  have u2 := (hg 2).symm.trans f2
  have u8 := (hg 8).symm.trans f8
  have u9 := (hg 9).symm.trans f9
  have u14 := (hg 14).symm.trans f14
  have u15 := (hg 15).symm.trans f15
  have u17 := (hg 17).symm.trans f17
  clear hg hF f1 f2 f8 f9 f14 f15 f17 hS hc hp hne
  show Code.wp Try.prog (seq1 (seq2 (seq2 (seq2 (seq2 (seq2 (seq2 (seq2 (seq2 (seq2 (seq2 U4))))))))))) _ _ _
  unfold U4 B4 Try.f4 seq2 seq1
  simp only [Option.getD_some, lis, Nat.reduceAdd, u1, u2, u8, u9, u14, u15, u17]
  clear u1 u2 u8 u9 u14 u15 u17
  go_wp2_with fail
  go_loopw [20] (fun i w' => ∃ k : Nat, k ≤ l.length ∧ i = .int .i64 k ∧ w'.heap = w.heap ∧ w'.os = w.os ∧ w'.output = w.output) (fun i _ => l.length - (intOf i).toNat)
  case atStart => exact ⟨0, Nat.zero_le _, rfl, rfl, rfl, rfl⟩
  case round =>
    obtain ⟨i, hi, rfl, hh, ho, hu⟩ := hrel
    by_cases hlt : i < l.length
    · have hlt' : (i : Int) < (l.length : Int) := by omega
      have hpp := HP.out (by omega)
      subst hpp
      obtain ⟨x, hx⟩ : ∃ x, l[i]? = some x := ⟨_, List.getElem?_eq_getElem hlt⟩
      have HX : Hid (l[i]? = some x) := ⟨hx⟩
      have HW : Hid (wr.heap = w.heap ∧ wr.os = w.os ∧ wr.output = w.output) := ⟨⟨hh, ho, hu⟩⟩
      clear hh ho hu hx
      go_wp2_with fail
      go_loopw [21] (fun j w' => ∃ k : Nat, k ≤ i ∧ j = .int .i64 k ∧ w'.heap = w.heap ∧ w'.os = w.os ∧ w'.output = w.output) (fun j _ => i - (intOf j).toNat)
      case atStart => exact ⟨0, Nat.zero_le _, rfl, HW.out⟩
      case round =>
        obtain ⟨k, hk, rfl, hh, ho, hu⟩ := hrel
        by_cases hlt2 : k < i
        · have hlt2' : (k : Int) < (i : Int) := by omega
          obtain ⟨y, hy⟩ : ∃ y, l[k]? = some y := ⟨_, List.getElem?_eq_getElem (by omega)⟩
          have c1 : wr.cell? ⟨g, i, none⟩ = some (I x) := by rw [World.cell?_of_block (w := w) (w' := wr) (by rw [hh])]; exact HC.out i x HX.out
          have c2 : wr.cell? ⟨g, k, none⟩ = some (I y) := by rw [World.cell?_of_block (w := w) (w' := wr) (by rw [hh])]; exact HC.out k y hy
          have hxy : (x == y) = false := by simpa using HD.out i k x y hlt2 HX.out hy
          have hkl : k < l.length := by omega
          have hkl' : (k : Int) < (l.length : Int) := by omega
          have HV : Hid (wr.heap = w.heap ∧ wr.os = w.os ∧ wr.output = w.output) := ⟨⟨hh, ho, hu⟩⟩
          clear hh ho hu hy
          have HK : Hid (k + 1 ≤ i ∧ i - (k + 1) < i - k) := ⟨⟨hlt2, by omega⟩⟩
          go_wp2_with fail
          go_quiet (fail)
          go_wp2_with fail
          exact ⟨⟨k + 1, HK.out.1, rfl, HV.out⟩, HK.out.2⟩
        · have hki : k = i := by omega
          subst hki
          have HV : Hid (wr.heap = w.heap ∧ wr.os = w.os ∧ wr.output = w.output) := ⟨⟨hh, ho, hu⟩⟩
          have HK : Hid (k + 1 ≤ l.length ∧ l.length - (k + 1) < l.length - k ∧ wrap64 ((k : Int) + 1) = ((k + 1 : Nat) : Int)) := ⟨⟨hlt, by omega, by unfold wrap64; omega⟩⟩
          clear hh ho hu hk hlt2
          go_wp2_with fail
          first
            | exact ⟨⟨k + 1, HK.out.1, rfl, HV.out⟩, HK.out.2.1⟩
            | (rw [HK.out.2.2]; exact ⟨⟨k + 1, HK.out.1, rfl, HV.out⟩, HK.out.2.1⟩)
    · have hil : i = l.length := by omega
      subst hil
      have HV : Hid (wr.heap = w.heap ∧ wr.os = w.os ∧ wr.output = w.output) := ⟨⟨hh, ho, hu⟩⟩
      clear hh ho hu
      go_wp2_with fail
      exact ⟨⟨rfl, rfl, rfl, rfl, rfl, rfl, rfl, rfl, trivial⟩, HV.out⟩
end Go.Proofs.Ytfjjoohflcchnaa

namespace Go.Proofs.Ytfjjoohflcchnaa
open Go Go.Lift Go.Conc Go.RowKit

noncomputable def Z4 : Code := seq2 (seq2 (seq2 (seq2 P4)))
theorem eP4z : P4 = .seq q422 (.seq q424 (.seq q425 (.seq q434 Z4))) := by kernel_rfl
theorem fineZ4 : fineCode Try.prog true LO Z4 := fineCode_ask callO extT (by kernel_rfl)
theorem lastAdd_take {start : Int} {L : List Stp} {k : Nat} {s : Stp} (h : L[k]? = some s) : lastAdd start (L.take (k + 1)) = if s.op = 5 then s.ne else lastAdd start (L.take k) := by
  rw [List.take_add_one, h, lastAdd_app]
  rfl

set_option maxHeartbeats 8000000 in
set_option maxRecDepth 100000 in
theorem z4_wp {v : World} {S : TS} {start sm : Int} {X2 X8 : Value} {M n : Nat} {a : Act} (h : Rep zn S v) (L : List Stp) (htr : S.tr = flat L) (hn : S.n = L.length) (hn1 : S.n ≤ 1000000) (hlast : lastAdd start L = sm) (hF : Fram 191 (slots4 start sm X2 X8 S.wb M n) a) :
    Z4.wp Try.prog (fun e a w' => e = .ret ∧ a.tmps.getD 6 undef = .bool true ∧ Grows v w') a v := by
  have H9 : Hid (Calls Try.prog 20 #[Pt S.wb 0] v (fun e w' => ∃ r, e = .returned r ∧ ∃ p tg cap, r = .slice p L.length cap ∧ (0 < L.length → p = some ⟨tg, 0, none⟩ ∧ v.heap.size ≤ tg) ∧ (∀ j u, (flat L)[j]? = some u → w'.cell? ⟨tg, j, none⟩ = some u) ∧ Grows v w')) := ⟨by
    have := (body9A (z := zn) (S := S) (v := v) h (by omega) (by rw [htr]; exact flat_one L)).calls Try.func20 rfl
    rw [hn, htr] at this
    exact this⟩
  have hLl : (L.length : Int) < 9223372036854775808 := by omega
  have HL : Hid (L.length ≤ 1000000 ∧ lastAdd start L = sm) := ⟨⟨by omega, hlast⟩⟩
  obtain ⟨f1, f2, f8, f9, f14, f15, -⟩ := hF.at_
  obtain ⟨u, rfl, hg⟩ := litN hF.size hF.defers
  have u1 := (hg 1).symm.trans f1
  have u2 := (hg 2).symm.trans f2
  have u8 := (hg 8).symm.trans f8
  have u9 := (hg 9).symm.trans f9
  have u14 := (hg 14).symm.trans f14
  have u15 := (hg 15).symm.trans f15
  clear hg hF f1 f2 f8 f9 f14 f15 h htr hn hn1 hlast
  show Code.wp Try.prog (seq2 (seq2 (seq2 (seq2 (seq2 (seq2 (seq2 (seq2 (seq2 (seq2 (seq2 U4))))))))))) _ _ _
  unfold U4 B4 Try.f4 seq2
  simp only [Option.getD_some, lis, Nat.reduceAdd, u1, u2, u8, u9, u14, u15]
  clear u1 u2 u8 u9 u14 u15
  go_wp2_with (first
    | (go_at_call 20; refine H9.out.mono ?_; rintro e w7 ⟨_, rfl, p9, tg, cap9, rfl, hp9, htr9, hgr9⟩))
  have HP : Hid ((0 < L.length → p9 = some ⟨tg, 0, none⟩) ∧ (∀ j u, (flat L)[j]? = some u → w7.cell? ⟨tg, j, none⟩ = some u) ∧ Grows v w7) := ⟨⟨fun h0 => (hp9 h0).1, htr9, hgr9⟩⟩
  clear hp9 htr9 hgr9 H9
  go_loopw [23, 24] (fun la i w => ∃ k : Nat, k ≤ L.length ∧ i = .int .i64 k ∧ la = I (lastAdd start (L.take k)) ∧ w = w7) (fun _ i _ => L.length - (intOf i).toNat)
  case atStart => exact ⟨0, Nat.zero_le _, rfl, rfl, rfl⟩
  case round =>
    obtain ⟨k, hk, rfl, rfl, rfl⟩ := hrel
    by_cases hlt : k < L.length
    · have hlt' : (k : Int) < (L.length : Int) := by omega
      obtain ⟨s, hs⟩ : ∃ s, L[k]? = some s := ⟨_, List.getElem?_eq_getElem hlt⟩
      obtain ⟨_, _, g2, _, g4⟩ := flat_get L k s hs
      have t2 := HP.out.2.1 _ _ g2
      have t4 := HP.out.2.1 _ _ g4
      have hp := HP.out.1 (by omega)
      subst hp
      have hst := lastAdd_take (start := start) hs
      have HK : Hid (k + 1 ≤ L.length ∧ L.length - (k + 1) < L.length - k ∧ wrap64 ((k : Int) + 1) = ((k + 1 : Nat) : Int)) := ⟨⟨hlt, by omega, by have := HL.out.1; unfold wrap64; omega⟩⟩
      clear g2 g4 hs
      by_cases h5 : s.op = 5
      · rw [if_pos h5] at hst
        have HS : Hid (lastAdd start (L.take (k + 1)) = s.ne) := ⟨hst⟩
        have b5 : (s.op == 5) = true := by simp [h5]
        clear hst h5
        go_wp2_with fail
        exact ⟨⟨k + 1, HK.out.1, rfl, by rw [HS.out], trivial⟩, HK.out.2.1⟩
      · rw [if_neg h5] at hst
        have HS : Hid (lastAdd start (L.take (k + 1)) = lastAdd start (L.take k)) := ⟨hst⟩
        have b5 : (s.op == 5) = false := by simp [h5]
        clear hst h5
        go_wp2_with fail
        exact ⟨⟨k + 1, HK.out.1, rfl, by rw [HS.out], trivial⟩, HK.out.2.1⟩
    · have hkl : k = L.length := by omega
      subst hkl
      have hl : lastAdd start (L.take L.length) = sm := by rw [List.take_length]; exact HL.out.2
      rw [hl]
      clear hl
      go_wp2_with fail
      exact HP.out.2.2
end Go.Proofs.Ytfjjoohflcchnaa

namespace Go.Proofs.Ytfjjoohflcchnaa
open Go Go.Lift Go.Conc Go.RowKit
open Go.ConcN (upd upd_same upd_ne)

theorem turns_det {nk : Nat} : ∀ {m m' : Nat} {p p1 p2 : PSt}, Turns nk m p p1 → Turns nk m' p p2 → p1 = p2
  | _, _, _, _, _, .stop h, .stop h' => rfl
  | _, _, _, _, _, .stop h, .step h' _ => by rw [h] at h'; cases h'
  | _, _, _, _, _, .step h _, .stop h' => by rw [h] at h'; cases h'
  | _, _, _, _, _, .step h t, .step h' t' => by
    rw [h] at h'
    cases h'
    exact turns_det t t'

def cl5 : Cl := ⟨5, 0, 1, 0⟩
/-- The world ahead of the hiring. -/
def awS (wb bk base : Nat) (sc cv : Value) : TS := nv { cellsS (newS wb bk base sc [1]) cv 1 with ran := true }
def awP (wb bk base : Nat) (sc cv : Value) (tv0 : Value) (tb0 gc0 : Nat) (tv1 : Value) (tb1 gc1 : Nat) (cb : Nat) (l0 : Nat → Ph) : PSt :=
  ⟨(flow 1 1 [cl5] 0 false [(0, 0)] (hiredS (flow 0 1 [cl5] 0 false [(0, 0)] (hiredS (awS wb bk base sc cv) tv0 tb0 gc0)).1 tv1 tb1 gc1)).1, [(cb, 0)], upd (upd l0 0 (flow 0 1 [cl5] 0 false [(0, 0)] (hiredS (awS wb bk base sc cv) tv0 tb0 gc0)).2) 1 (flow 1 1 [cl5] 0 false [(0, 0)] (hiredS (flow 0 1 [cl5] 0 false [(0, 0)] (hiredS (awS wb bk base sc cv) tv0 tb0 gc0)).1 tv1 tb1 gc1)).2⟩
def pt (p : PSt) : PSt := (pturn 1 p).getD p
section
variable (wb bk base : Nat) (sc cv : Value) (tv0 : Value) (tb0 gc0 : Nat) (tv1 : Value) (tb1 gc1 : Nat) (cb : Nat) (l0 : Nat → Ph)
theorem aw1 : (pturn 1 (awP wb bk base sc cv tv0 tb0 gc0 tv1 tb1 gc1 cb l0)).isSome = true := by kernel_rfl
theorem aw2 : (pturn 1 (pt (awP wb bk base sc cv tv0 tb0 gc0 tv1 tb1 gc1 cb l0))).isSome = true := by kernel_rfl
theorem aw3 : (pturn 1 (pt (pt (awP wb bk base sc cv tv0 tb0 gc0 tv1 tb1 gc1 cb l0)))).isNone = true := by kernel_rfl
theorem aw4 : (pt (pt (awP wb bk base sc cv tv0 tb0 gc0 tv1 tb1 gc1 cb l0))).S.tr = [I 0, I (-1), I 9, I 0, I 0, I 1, I (-1), I 9, I 0, I 0, I 1, I 0, I 5, I 0, I 1, I 1, I (-1), I 10, I 0, I 0, I 0, I 0, I 5, I 1, I 2, I 0, I (-1), I 10, I 0, I 0] := by kernel_rfl
theorem aw5 : (pt (pt (awP wb bk base sc cv tv0 tb0 gc0 tv1 tb1 gc1 cb l0))).S.n = 6 := by kernel_rfl
theorem aw6 : ((pt (pt (awP wb bk base sc cv tv0 tb0 gc0 tv1 tb1 gc1 cb l0))).l 0).ans = [(0, 2)] ∧ ((pt (pt (awP wb bk base sc cv tv0 tb0 gc0 tv1 tb1 gc1 cb l0))).l 1).ans = [(0, 1)] := ⟨by kernel_rfl, by kernel_rfl⟩
theorem aw_turns : Turns 1 2 (awP wb bk base sc cv tv0 tb0 gc0 tv1 tb1 gc1 cb l0) (pt (pt (awP wb bk base sc cv tv0 tb0 gc0 tv1 tb1 gc1 cb l0))) := by
  have h1 := aw1 wb bk base sc cv tv0 tb0 gc0 tv1 tb1 gc1 cb l0
  have h2 := aw2 wb bk base sc cv tv0 tb0 gc0 tv1 tb1 gc1 cb l0
  have h3 := aw3 wb bk base sc cv tv0 tb0 gc0 tv1 tb1 gc1 cb l0
  have e : ∀ p : PSt, (pturn 1 p).isSome = true → pturn 1 p = some (pt p) := fun p h => by
    unfold pt
    cases hp : pturn 1 p with
    | none => rw [hp] at h; cases h
    | some x => rfl
  refine .step (e _ h1) (.step (e _ h2) (.stop ?_))
  cases hp : pturn 1 (pt (pt (awP wb bk base sc cv tv0 tb0 gc0 tv1 tb1 gc1 cb l0))) with
  | none => rfl
  | some x => rw [hp] at h3; cases h3
end
end Go.Proofs.Ytfjjoohflcchnaa

namespace Go.Lift
open Go.Conc
section
variable {P : Program} {wr : Bool}
theorem calm_listForIn_mem {α σ : Type} {f : α → σ → Sem (ForInStep σ)} : ∀ (l : List α) (s : σ), (∀ a ∈ l, ∀ s, calm P wr (f a s)) → calm P wr (forIn l s f)
  | [], s, _ => by rw [List.forIn_nil]; exact calm_pure _
  | a :: l, s, h => by
    rw [List.forIn_cons]
    refine calm_bind (h a (List.mem_cons_self ..) s) fun x => ?_
    cases x with
    | done b => exact calm_pure _
    | yield b => exact calm_listForIn_mem l b (fun a' ha => h a' (List.mem_cons_of_mem _ ha))
theorem calm_arrayForIn_mem {α σ : Type} {f : α → σ → Sem (ForInStep σ)} (l : Array α) (s : σ) (h : ∀ a ∈ l, ∀ s, calm P wr (f a s)) : calm P wr (forIn l s f) := by
  rw [← Array.forIn_toList]
  exact calm_listForIn_mem _ _ (fun a ha => h a (by simpa using ha))
theorem calm_equalIn_flat {t : TypeId} (ht : flatT P t = true) (d : Nat) (x y : Value) : calm P wr (Op.equalIn (d + 1) t x y) := by
  unfold Op.equalIn
  refine calm_und fun d hd => ?_
  unfold flatT at ht
  rw [hd] at ht
  split
  all_goals first | (exfalso; revert ht; simp; done) | repeat' (first | with_reducible (first | exact calm_viewAt _ | exact calm_numberAt _ | exact calm_asNumber _ _ | exact calm_behindNumber _ | exact calm_noView _ | exact calm_byteOf _ | exact calm_partAt _ _ _ | exact calm_fieldPlace _ _ | exact calm_typeStr _ | exact calm_alloc _ | exact calm_box _ _ | exact calm_build _ _ | exact calm_buildSlice _ _ _ | exact calm_loadAt _ _ | exact calm_fieldAt _ _ _ | exact calm_indexAt _ _ _ | exact calm_sliceBound _ _ _ | exact calm_sliceBounds _ _ _ _ _ _ | exact calm_slice _ _ _ _ _ | exact calm_sliceAt _ _ _ _ _ | exact calm_makeChan _ _ | exact calm_makeSlice _ _ _ | exact calm_field _ _ _ | exact calm_index _ _ _ | exact calm_extract _ _ | exact calm_len _ _ _ | exact calm_cap _ _ _ | exact calm_lenOf _ | exact calm_firstCells _ _ _ | exact calm_holdsCells _ _ | exact calm_intArith _ _ _ _ | exact calm_intDiv _ _ _ _ | exact calm_intBits _ _ _ _ | exact calm_intCmp _ _ _ | exact calm_shift _ _ _ _ _ | exact calm_stringOp _ _ _ | exact calm_floatArith _ _ _ _ | exact calm_floatCmp _ _ _ _ | exact calm_twoPlaces _ _ | exact calm_addrSub _ _ _ | exact calm_addrCmp _ _ _ | exact calm_addrMod _ _ _ | exact calm_unsafeAdd _ _ _ | exact calm_movedNumber _ _ _ | exact calm_movedPointer _ _ _ | exact calm_unary _ _ | exact calm_floatToFloat _ _ _ | exact calm_pure _ | exact calm_stuck _ | exact calm_unsupported _ | exact calm_goPanic _ | exact calm_runtimePanic _ | exact calm_boundsPanic _ _ _ _ | exact calm_program | exact calm_shape _ | exact calm_getObj _ | exact calm_newObj _ | exact calm_choose _ | exact calm_load _ _ | exact calm_askRoom _ | exact calm_typeInfo _ | exact calm_underlying _ | exact calm_zeroValue _ | exact calm_sizeOf _ | exact calm_isAgg _ | exact calm_elemOf _ | exact calm_newRow _ _ | exact calm_newVar _ _ | exact calm_asIntOf _ | exact calm_asInt _ | exact calm_asBool _ | exact calm_asAgg _ | exact calm_asAddr _ | exact calm_sureAddr _ | exact calm_loadCells _ _ | exact calm_loadVar _ _ | exact calm_part _ _ _ | exact calm_markRoom | exact calm_markExtern _ | (refine calm_arrayForIn (fun _ _ => ?_) _ _) | (refine calm_rangeForIn (fun _ _ => ?_) _ _) | apply calm_map | refine calm_bind ?_ (fun _ => ?_)) | split | dsimp only)
theorem calm_equal_struct {t : TypeId} {fields : Array Field} (ht : P.underlying t = some (.struct fields)) (hf : ∀ f ∈ fields, flatT P f.type = true) (x y : Value) : calm P wr (Op.equal t x y) := by
  show calm P wr (Op.equalIn (9998 + 1 + 1) t x y)
  unfold Op.equalIn
  refine calm_und fun d hd => ?_
  rw [ht] at hd
  cases hd
  cases x <;> try exact calm_stuck _
  cases y <;> try exact calm_stuck _
  rename_i xs ys
  simp only
  refine calm_bind calm_program fun p => ?_
  split
  · refine calm_bind (calm_unsupported _) fun _ => ?_
    refine calm_bind (calm_arrayForIn_mem _ _ fun f hff s => ?_) fun s => ?_
    · split
      · refine calm_bind (calm_part _ _ _) fun a => calm_bind (calm_part _ _ _) fun b => calm_bind (calm_equalIn_flat (hf f hff) 9998 a b) fun c => ?_
        split <;> exact calm_pure _
      · exact calm_pure _
    · split <;> exact calm_pure _
  · skip
    refine calm_bind (calm_arrayForIn_mem _ _ fun f hff s => ?_) fun s => ?_
    · split
      · refine calm_bind (calm_part _ _ _) fun a => calm_bind (calm_part _ _ _) fun b => calm_bind (calm_equalIn_flat (hf f hff) 9998 a b) fun c => ?_
        split <;> exact calm_pure _
      · exact calm_pure _
    · split <;> exact calm_pure _
end
end Go.Lift

namespace Go.Proofs.Ytfjjoohflcchnaa
open Go Go.Lift Go.Conc Go.RowKit

noncomputable def B6 : Code := Try.f17.body.getD .skip
noncomputable def b60 : Code := seq1 B6
noncomputable def b61 : Code := seq1 (seq2 B6)
noncomputable def b62 : Code := seq1 (seq2 (seq2 B6))
noncomputable def b63 : Code := seq1 (seq2 (seq2 (seq2 B6)))
noncomputable def b64 : Code := seq1 (seq2 (seq2 (seq2 (seq2 B6))))
noncomputable def b65 : Code := seq1 (seq2 (seq2 (seq2 (seq2 (seq2 B6)))))
theorem eB6 : B6 = .seq b60 (.seq b61 (.seq b62 (.seq b63 (.seq b64 (.seq b65 .ret))))) := by kernel_rfl
theorem fine60 : fineCode Try.prog true LO b60 := fineCode_ask callO extT (by kernel_rfl)
theorem fine61 : fineCode Try.prog true LO b61 := fineCode_ask callO extT (by kernel_rfl)
theorem fine62 : fineCode Try.prog true LO b62 := fineCode_ask callO extT (by kernel_rfl)
theorem fine64 : fineCode Try.prog true LO b64 := fineCode_ask callO extT (by kernel_rfl)
noncomputable def ops65 : Array Oper := opsOf b65
theorem size65 : ops65.size = 52 := by kernel_rfl
theorem all65 : ((List.range 52).all fun i => i == 49 || ((ops65[i]?).map fun o => plainOp Try.prog true o.op || askCall plainO plainXs o.op).getD false) = true := by kernel_rfl
theorem op65 : (ops65[49]?).map (fun o => o.op) = some (.binOp .eql 34 (.tmp 68) (.tmp 69) 34) := by kernel_rfl
theorem und34 : ∃ fields, Try.prog.underlying 34 = some (.struct fields) ∧ ∀ f ∈ fields, flatT Try.prog f.type = true := by
  have h : (match Try.prog.underlying 34 with | some (.struct fs) => fs.all (fun f => flatT Try.prog f.type) | _ => false) = true := by kernel_rfl
  split at h
  · rename_i fs e
    exact ⟨fs, e, fun f hf => (Array.all_eq_true_iff_forall_mem.1 h) f hf⟩
  · cases h
set_option maxRecDepth 100000 in
theorem fineEq {o : Oper} (h : o.op = .binOp .eql 34 (.tmp 68) (.tmp 69) 34) : fineOp Try.prog true LO o := by
  obtain ⟨fields, hu, hf⟩ := und34
  obtain ⟨dst, op, type, pos, after, guard⟩ := o
  simp only at h
  subst h
  refine fun a => ?_
  have hq : calm Try.prog true (Op.equal 34 (a.eval (.tmp 68)) (a.eval (.tmp 69))) := calm_equal_struct hu hf _ _
  have he : execOp a.eval { dst := dst, op := .binOp .eql 34 (.tmp 68) (.tmp 69) 34, type := type, pos := pos, after := after, guard := guard } = (do eqGuard .eql 34 (.tmp 68) (.tmp 69) (a.eval (.tmp 68)) (a.eval (.tmp 69)); binOp .eql 34 (a.eval (.tmp 68)) (a.eval (.tmp 69)) : Sem Value).bind fun v => Sem.pure (Next.value v) := rfl
  rw [he]
  exact ⟨calm_sbind (calm_bind (calm_eqGuard _ _ _ _ _ _) fun _ => calm_binOp _ _ _ _ (fun _ => hq)) fun _ => trivial, fun w x w' h => .inl (val_out h)⟩
theorem fine65 : fineCode Try.prog true LO b65 := by
  have e : b65 = .region 5 ops65 false := by kernel_rfl
  rw [e]
  intro o ho
  obtain ⟨i, hi⟩ := Array.mem_iff_getElem?.1 ho
  have hlt : i < 52 := by have := (Array.getElem?_eq_some_iff.1 hi).1; rw [size65] at this; exact this
  by_cases h9 : i = 49
  · subst h9
    have := op65
    rw [hi] at this
    exact fineEq (Option.some.inj this)
  · have := List.all_eq_true.1 all65 i (List.mem_range.2 hlt)
    rw [hi] at this
    simp only [Option.map_some, Option.getD_some, Bool.or_eq_true_iff, beq_iff_eq, h9, false_or] at this
    exact fineOp_ask callO extT (Bool.or_eq_true_iff.2 this)

set_option maxHeartbeats 2000000 in
set_option maxRecDepth 100000 in
theorem b60_wp {v : World} :
    b60.wp Try.prog (fun e a w' => e = .normal ∧ a = { tmps := #[.bool false] ++ Array.replicate 71 undef, defers := [] } ∧ w'.heap = v.heap ∧ w'.os = v.os ∧ w'.output = v.output)
      { tmps := Array.replicate 72 undef, defers := [] } v := by
  show Code.wp Try.prog (seq1 (Try.f17.body.getD .skip)) _ _ _
  unfold Try.f17 seq1
  simp only [Option.getD_some, Array.replicate_succ, Array.replicate_zero, List.push_toArray, List.append_toArray, List.nil_append, List.cons_append]
  go_wp2_with fail
  try exact ⟨rfl, rfl, rfl⟩

set_option maxHeartbeats 2000000 in
set_option maxRecDepth 100000 in
theorem b61_wp {v : World} :
    b61.wp Try.prog (fun e a w' => e = .normal ∧ ∃ wb bk sc, a = { tmps := #[.bool false, Pt wb 0, undef, undef, undef, undef, .slice (some ⟨v.heap.size, 0, none⟩) 1 1, Pt wb 0] ++ Array.replicate 64 undef, defers := [] } ∧ IsNew (v.alloc (.cells #[I 1] 3)) [1] wb bk sc w')
      { tmps := #[.bool false] ++ Array.replicate 71 undef, defers := [] } v := by
  have h7 := (body7 (v := v.alloc (.cells #[I 1] 3)) v.heap.size 0 1 [1] (by decide) (by decide) (fun k x hk => by
    match k, hk with
    | 0, hk =>
      cases hk
      unfold World.cell?
      rw [show (v.alloc (.cells #[I 1] 3)).heap[v.heap.size]? = some (.cells #[I 1] 3) from Array.getElem?_push_size]
      rfl
    | k + 1, hk => simp at hk)).calls Try.func18 rfl
  have H7 : Hid (Calls Try.prog 18 #[.slice (some ⟨v.heap.size, 0, none⟩) 1 1] (v.alloc (.cells #[I 1] 3)) _) := ⟨h7⟩
  clear h7
  show Code.wp Try.prog (seq1 (seq2 (Try.f17.body.getD .skip))) _ _ _
  unfold Try.f17 seq1 seq2
  simp only [Option.getD_some, Array.replicate_succ, Array.replicate_zero, List.push_toArray, List.append_toArray, List.nil_append, List.cons_append]
  go_wp2_with (first
    | (go_at_call 18; refine H7.out.mono ?_; rintro e w1 ⟨_, rfl, wb, bk, sc, rfl, hnew⟩))
  exact ⟨bk, sc, hnew⟩

set_option maxHeartbeats 2000000 in
set_option maxRecDepth 100000 in
theorem b62_wp {v : World} (wb sb0 : Nat) :
    b62.wp Try.prog (fun e a w' => e = .normal ∧ a = { tmps := #[.bool false, Pt wb 0, .slice (some ⟨v.heap.size, 0, none⟩) 1 1, undef, undef, undef, .slice (some ⟨sb0, 0, none⟩) 1 1, Pt wb 0, .agg #[I 5, I 0, I 1, I 0], .slice (some ⟨v.heap.size, 0, none⟩) 1 1] ++ Array.replicate 62 undef, defers := [] } ∧ w'.heap = v.heap.push (.cells #[I 5, I 0, I 1, I 0] 39) ∧ w'.os = v.os ∧ w'.output = v.output)
      { tmps := #[.bool false, Pt wb 0, undef, undef, undef, undef, .slice (some ⟨sb0, 0, none⟩) 1 1, Pt wb 0] ++ Array.replicate 64 undef, defers := [] } v := by
  show Code.wp Try.prog (seq1 (seq2 (seq2 (Try.f17.body.getD .skip)))) _ _ _
  unfold Try.f17 seq1 seq2
  simp only [Option.getD_some, Array.replicate_succ, Array.replicate_zero, List.push_toArray, List.append_toArray, List.nil_append, List.cons_append]
  go_wp2_with fail
  try exact ⟨rfl, rfl, rfl⟩

set_option maxHeartbeats 2000000 in
set_option maxRecDepth 100000 in
theorem b64_wp {v : World} {S : TS} (h : Rep zn S v) (h0 : 0 < S.n) (hn : S.n * 40 ≤ 140737488355328) (h1 : ∀ u ∈ S.tr, u.oneCell' = true) (u2 u3 u4 u6 u7 u8 u9 u10 u11 u12 u13 u14 u15 u16 u17 u18 : Value) :
    b64.wp Try.prog (fun e a w' => e = .normal ∧ ∃ g cap, a = { tmps := #[.bool false, Pt S.wb 0, u2, u3, u4, .slice (some ⟨g, 0, none⟩) S.n cap, u6, u7, u8, u9, u10, u11, u12, u13, u14, u15, u16, u17, u18, Pt S.wb 0, .slice (some ⟨g, 0, none⟩) S.n cap] ++ Array.replicate 51 undef, defers := [] } ∧ w'.ownsRow v.heap.size 34 5 (.slice (some ⟨g, 0, none⟩) S.n cap) S.n S.tr ∧ Grows v w')
      { tmps := #[.bool false, Pt S.wb 0, u2, u3, u4, undef, u6, u7, u8, u9, u10, u11, u12, u13, u14, u15, u16, u17, u18] ++ Array.replicate 53 undef, defers := [] } v := by
  have H9 : Hid _ := ⟨(body9 h h0 hn h1).calls Try.func20 rfl⟩
  clear h h0 hn h1
  show Code.wp Try.prog (seq1 (seq2 (seq2 (seq2 (seq2 (Try.f17.body.getD .skip)))))) _ _ _
  unfold Try.f17 seq1 seq2
  simp only [Option.getD_some, Array.replicate_succ, Array.replicate_zero, List.push_toArray, List.append_toArray, List.nil_append, List.cons_append]
  go_wp2_with (first
    | (go_at_call 20; refine H9.out.mono ?_; rintro e w1 ⟨_, rfl, g, cap, rfl, hown, hgr, -⟩))
  exact ⟨g, cap, ⟨rfl, rfl⟩, hown⟩

set_option maxHeartbeats 4000000 in
set_option maxRecDepth 100000 in
theorem b65_wp {v : World} (M A0 A1 g cap : Nat) (m0 : v.cell? ⟨M, 0, none⟩ = some (.slice (some ⟨A0, 0, none⟩) 1 1)) (m1 : v.cell? ⟨M, 1, none⟩ = some (.slice (some ⟨A1, 0, none⟩) 1 1)) (x0 : v.cell? ⟨A0, 1, none⟩ = some (I 2)) (x1 : v.cell? ⟨A1, 1, none⟩ = some (I 1))
    (g0 : v.cell? ⟨g, 10, none⟩ = some (I 1)) (g1 : v.cell? ⟨g, 11, none⟩ = some (I 0)) (g2 : v.cell? ⟨g, 12, none⟩ = some (I 5)) (g3 : v.cell? ⟨g, 13, none⟩ = some (I 0)) (g4 : v.cell? ⟨g, 14, none⟩ = some (I 1)) (u1 u2 u6 u7 u8 u9 u10 u11 u12 u13 u14 u15 u16 u17 u18 u19 u20 : Value) :
    b65.wp Try.prog (fun e a w' => e = .normal ∧ a.tmps.getD 0 undef = .bool true ∧ w'.heap = v.heap ∧ w'.os = v.os ∧ w'.output = v.output)
      { tmps := #[.bool false, u1, u2, .slice (some ⟨M, 0, none⟩) 2 2, I 0, .slice (some ⟨g, 0, none⟩) 6 cap, u6, u7, u8, u9, u10, u11, u12, u13, u14, u15, u16, u17, u18, u19, u20] ++ Array.replicate 51 undef, defers := [] } v := by
  show Code.wp Try.prog (seq1 (seq2 (seq2 (seq2 (seq2 (seq2 (Try.f17.body.getD .skip))))))) _ _ _
  unfold Try.f17 seq1 seq2
  simp only [Option.getD_some, Array.replicate_succ, Array.replicate_zero, List.push_toArray, List.append_toArray, List.nil_append, List.cons_append]
  go_wp2_with fail
end Go.Proofs.Ytfjjoohflcchnaa
