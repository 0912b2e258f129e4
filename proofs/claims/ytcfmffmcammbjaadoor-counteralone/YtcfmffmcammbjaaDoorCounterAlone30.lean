/- CounterAlone, whatever the shards, the numbers and the ids: a counter of no world, added to by free threads; behind each Add its Sum is the sum of the shards' amounts, each within 32 bits with a sign; the law answers true and its input reads as it did. Part 30 of 35. (Joined, by program, of: CtH, GEnd, La15a, La15b.) -/
import Derived.Test.YtcfmffmcammbjaaDoorCounterAlone22
import Derived.Test.YtcfmffmcammbjaaDoorCounterAlone25
import Derived.Test.YtcfmffmcammbjaaDoorCounterAlone27
import Derived.Test.YtcfmffmcammbjaaDoorCounterAlone29
import Derived.Deep.RegionWith

/- counter.New (54) of no world, main alone. -/
set_option linter.unusedSimpArgs false
set_option linter.unusedVariables false
namespace Go.Proofs.YtcfmffmcammbjaaDoor.Gen
open Go Go.Lift Go.Conc Go.RowKit

/-- How many shards. -/
def shN (n : Int) : Nat := if n < 1 then 1 else if 16 < n then 16 else n.toNat
theorem shN_pos (n : Int) : 0 < shN n ∧ shN n ≤ 16 := by unfold shN; split; omega; split <;> omega
theorem shN_max (n : Int) : (Builtin.max_ #[3, 3] 3 #[I n, I 1]) = pure (I (if (1 : Int) > n then 1 else n)) := rfl
theorem shN_min (n : Int) : (Builtin.min_ #[3, 3] 3 #[I (if (1 : Int) > n then 1 else n), I 16]) = pure (I (shN n)) := by
  show (pure (Value.int .i64 (if (16 : Int) < (if (1 : Int) > n then 1 else n) then 16 else (if (1 : Int) > n then 1 else n))) : Sem Value) = _
  have : (if (16 : Int) < (if (1 : Int) > n then 1 else n) then 16 else (if (1 : Int) > n then 1 else n)) = (shN n : Int) := by
    unfold shN
    by_cases h1 : n < 1
    · simp [h1]
    · by_cases h2 : 16 < n
      · simp [h1, h2]
      · simp only [gt_iff_lt, h1, h2, if_false]; omega
  rw [this]
def kbN (N k : Nat) : List (Nat × Int) := (List.range k).map fun j => (N + 2 + j, 0)
theorem kbN_len (N k : Nat) : (kbN N k).length = k := by simp [kbN]
theorem kbN_succ (N k : Nat) : kbN N (k + 1) = kbN N k ++ [(N + 2 + k, 0)] := by simp [kbN, List.range_succ]
/-- Behind k shards. -/
structure NwC (v : World) (s N k : Nat) (u : World) : Prop where
  row : u.heap[N]? = some (objP s (kbN N k))
  ctr : u.heap[N + 1]? = some (.cells #[.slice (some ⟨N, 0, none⟩) s s] 136 (0, 0))
  cel : ∀ j, j < k → u.heap[N + 2 + j]? = some (.cells #[I 0, I 0] 149 (0, 0))
  size : u.heap.size = N + 2 + k
  old : ∀ b, b < N → u.heap[b]? = v.heap[b]?
  os : u.os = v.os
  out : u.output = v.output
theorem NwC.same {v u u' : World} {s N k : Nat} (h : NwC v s N k u) (e1 : u'.heap = u.heap) (e2 : u'.os = u.os) (e3 : u'.output = u.output) : NwC v s N k u' :=
  ⟨by rw [e1]; exact h.row, by rw [e1]; exact h.ctr, fun j hj => by rw [e1]; exact h.cel j hj, by rw [e1]; exact h.size, fun b hb => by rw [e1]; exact h.old b hb, e2.trans h.os, e3.trans h.out⟩
theorem NwC.next {v u u' : World} {s N k : Nat} (h : NwC v s N k u) (hk : k < s) (e1 : u'.heap = u.heap.push (.cells #[I 0, I 0] 149 (0, 0))) (e2 : u'.os = u.os) (e3 : u'.output = u.output) : NwC v s N (k + 1) (u'.setCell ⟨N, k, none⟩ (Pt u.heap.size 0)) := by
  have oth : ∀ b, b ≠ N → (u'.setCell ⟨N, k, none⟩ (Pt u.heap.size 0)).heap[b]? = u'.heap[b]? := fun b hb => Below.heap_setCell _ _ _ _ hb
  have at_ : ∀ b, b < u.heap.size → u'.heap[b]? = u.heap[b]? := fun b hb => by rw [e1, Array.getElem?_push, if_neg (by omega)]
  have hs := h.size
  refine ⟨?_, ?_, fun j hj => ?_, ?_, fun b hb => ?_, ?_, ?_⟩
  · have h0 : u'.heap[N]? = some (.cells (rowP s (kbN N k)).toArray 102 (0, 0)) := by rw [at_ N (by omega)]; exact h.row
    have := heap_setCell_same (o := k) h0 (Pt u.heap.size 0)
    rw [this]
    have h1 := rowP_next (s := s) (K := kbN N k) (N + 2 + k, 0) (by rw [kbN_len]; exact hk)
    rw [kbN_len] at h1
    rw [hs, h1, ← kbN_succ]
    rfl
  · rw [oth _ (by omega), at_ _ (by omega)]; exact h.ctr
  · rw [oth _ (by omega)]
    by_cases e : j = k
    · subst e
      rw [e1, ← hs, Array.getElem?_push_size]
    · rw [at_ _ (by omega)]; exact h.cel j (by omega)
  · have : (u'.setCell ⟨N, k, none⟩ (Pt u.heap.size 0)).heap.size = u'.heap.size := by simp [World.setCell]
    rw [this, e1, Array.size_push]; omega
  · rw [oth _ (by omega), at_ _ (by omega)]; exact h.old b hb
  · exact e2.trans h.os
  · exact e3.trans h.out
theorem NwC.fcs {v u : World} {s : Nat} (h : NwC v s v.heap.size s u) (h0 : 0 < s) (h1 : s ≤ 16) : Fcs u (v.heap.size + 1) v.heap.size s ((List.range s).map fun j => v.heap.size + 2 + j) (List.replicate s 0) := by
  refine ⟨⟨cell_of h.ctr rfl, fun j hj => ⟨v.heap.size + 2 + j, by simp [hj], cell_of h.row ?_⟩, h0, h1⟩, by simp, by simp, fun j cb x e1 e2 => ?_, ?_, by omega, fun cb hcb => ?_⟩
  · unfold rowP kbN
    simp [hj]
  · by_cases hj : j < s
    · simp [hj] at e1 e2
      rw [← e1, ← e2]; exact h.cel j hj
    · simp [hj] at e1
  · refine List.pairwise_map.2 (List.Pairwise.imp ?_ List.nodup_range)
    intro a b hab; omega
  · obtain ⟨j, _, rfl⟩ := List.mem_map.1 hcb
    omega

set_option maxHeartbeats 4000000 in
set_option maxRecDepth 100000 in
theorem body54n (v : World) (n : Int) : Body Tryd.f54 #[.pointer none, I n] v (fun r v' => r = Pt (v.heap.size + 1) 0 ∧ NwC v (shN n) v.heap.size (shN n) v') := by
  intro code hb
  obtain rfl := Option.some.inj hb
  clear hb
  have hmx := shN_max n
  have hmn := shN_min n
  obtain ⟨h0, h1⟩ := shN_pos n
  generalize (if (1 : Int) > n then 1 else n) = M at hmx hmn
  generalize shN n = s at hmn h0 h1 ⊢
  have hmk := make_ptrs s (by omega)
  rw [made_rowP] at hmk
  simp only [Tryd.ntmps54, List.size_toArray, List.length_cons, List.length_nil, Nat.reduceAdd, Nat.reduceSub, Array.replicate_succ, Array.replicate_zero, List.push_toArray, List.append_toArray, List.nil_append, List.cons_append]
  go_wp2_with fail
  go_loopw [18] (fun i u => ∃ (k : Nat), k ≤ s ∧ i = .int .i64 k ∧ NwC v s v.heap.size k u) (fun i _ => s - (intOf i).toNat)
  case atStart =>
    refine ⟨0, Nat.zero_le _, rfl, ?_, ?_, fun j hj => by omega, ?_, fun b hb => ?_, rfl, rfl⟩
    · show ((v.heap.push (objP s [])).push _)[v.heap.size]? = _
      rw [Array.getElem?_push, if_neg (by simp), Array.getElem?_push_size]
      rfl
    · show ((v.heap.push (objP s [])).push _)[v.heap.size + 1]? = _
      rw [show v.heap.size + 1 = (v.heap.push (objP s [])).size by simp, Array.getElem?_push_size]
    · show ((v.heap.push (objP s [])).push _).size = _
      simp
    · show ((v.heap.push (objP s [])).push _)[b]? = _
      rw [Array.getElem?_push, if_neg (by simp; omega), Array.getElem?_push, if_neg (by omega)]
  case round =>
    obtain ⟨k, hk, rfl, hO⟩ := hrel
    have HOB : Hid (NwC v s v.heap.size k wr) := ⟨hO⟩
    by_cases hlt : k < s
    · have c1 : wr.cell? ⟨v.heap.size + 1, 0, none⟩ = some (.slice (some ⟨v.heap.size, 0, none⟩) s s) := cell_of hO.ctr rfl
      have hks : (k : Int) < (s : Int) := by omega
      clear hO
      generalize hNN : v.heap.size = N at HOB c1
      go_wp2_with fail
      go_region_held3 (fun u => u.cell? ⟨N + 1, 0, none⟩ = some (.slice (some ⟨N, 0, none⟩) s s))
        (first | assumption | (simp [go_sem, *]; done))
        (first
          | (go_at_call 63; refine ((body10n wr.drew 0).calls Tryd.func63 rfl).mono ?_; rintro e w1 ⟨_, rfl, rfl, q1, q2, q3⟩
             have HO2 : Hid (w1.heap = wr.heap.push (.cells #[I 0, I 0] 149) ∧ w1.os = wr.os ∧ w1.output = wr.output) := ⟨q1, q2, q3⟩
             have hN : w1.heap[N]? = some (objP s (kbN N k)) := by rw [HO2.out.1, Array.getElem?_push, if_neg (by have := HOB.out.size; omega)]; exact HOB.out.row
             have hN1 : w1.heap[N + 1]? = some (.cells #[.slice (some ⟨N, 0, none⟩) s s] 136 (0, 0)) := by rw [HO2.out.1, Array.getElem?_push, if_neg (by have := HOB.out.size; omega)]; exact HOB.out.ctr
             have c2 : w1.cell? ⟨N + 1, 0, none⟩ = some (.slice (some ⟨N, 0, none⟩) s s) := cell_of hN1 rfl
             obtain ⟨c3, c4⟩ := objP_at hN (kbN_len N k) hlt
             clear q1 q2 q3 hN hN1))
      go_wp2_with fail
      go_roundw
      case rel =>
        refine ⟨k + 1, by omega, by go_num, ?_⟩
        exact HOB.out.next hlt HO2.out.1 HO2.out.2.1 HO2.out.2.2
      case measure => simp [intOf]; omega
    · have : k = s := by omega
      subst this
      go_wp2_with fail
      go_ret
      exact ⟨_, rfl, rfl, HOB.out⟩
end Go.Proofs.YtcfmffmcammbjaaDoor.Gen

/- A law's last stretch: a lone walk to its return; and its end. -/
set_option linter.unusedSimpArgs false
set_option linter.unusedVariables false
namespace Go.Proofs.YtcfmffmcammbjaaDoor.Gen
open Go Go.Lift Go.Conc Go.RowKit

/-- Code that returns, walked alone. -/
theorem goesI_retZ {Ch : Nat → Prop} {Stop : Goroutine → World → Prop} {main : Bool} {f : FuncId} {c : Code} {act : Act} {more : List Item} {cs : List Frame} {v w : World} {Q : Act → World → Prop} (hvw : Rel zn v w) (hn : NoRow Ch v) (hc : fineCode Tryd.prog true LV c) (ha : act.defers = [])
    (hwp : ∀ τ, c.wp Tryd.prog (fun e a w' => e = .ret ∧ Q a w') act (onTape v τ 0))
    (h : ∀ a' v' w' todo, Q a' v' → a'.defers = [] → Rel zn v' w' → NoRow Ch v' → GoesI Tryd.prog main (DT (ScZ zn) Ch) Stop (G { (base f).at a' todo with mode := .returning } cs) w') :
    GoesI Tryd.prog main (DT (ScZ zn) Ch) Stop (G ((base f).at act (.code c :: more)) cs) w := by
  have hfin := lift_code (P := Tryd.prog) (z := zn) (wr := true) (L := LV) (D := DT (ScZ zn) Ch) (I := NoRow Ch) (main := main) (b := base f) (k := more) (cs := cs) hE fineV noRow_keeps (fun v v' w w' es hi hr ho he => dt_of_z v v' w w' es hi hr ho he) hvw hc ha (by simp [base]) hn
    (Q := fun e a w' => e = .ret ∧ Q a w') hwp (fun e a w hq => .inr hq.1)
  refine hfin.then ?_
  rintro g w' ⟨a', v', hr, hiv, hd, ⟨⟨hq, _⟩, _⟩ | ⟨⟨_, hQ⟩, todo, rfl⟩⟩
  · cases hq
  · exact h a' v' w' todo hQ hd hr hiv

theorem _root_.Go.Proofs.YtcfmffmcammbjaaDoor.Grows.toAt {W v w : World} (h : Grows W v) (hr : Rel zn v w) (d : Nat) : Grows W (w.at d) := by
  have e : (w.at d).heap = v.heap := hr.eq
  exact ⟨by rw [e]; exact h.size, fun b hb => by rw [e]; exact h.old b hb, hr.os.trans h.os, hr.output.trans h.output⟩
theorem _root_.Go.Proofs.YtcfmffmcammbjaaDoor.Grows.andThen {W v w : World} (h : Grows W v) (k : Grows v w) : Grows W w := ⟨Nat.le_trans h.size k.size, fun b hb => by rw [k.old b (by have := h.size; omega), h.old b hb], k.os.trans h.os, k.output.trans h.output⟩
def PostT (W : World) (r : Value) (w' : World) : Prop := r = .bool true ∧ Grows W w'
end Go.Proofs.YtcfmffmcammbjaaDoor.Gen

/- The law CounterAlone (15): its pieces, main alone. (Made by wip/tools/mkla15.py.) -/
set_option linter.unusedSimpArgs false
set_option linter.unusedVariables false
namespace Go.Proofs.YtcfmffmcammbjaaDoor.Gen
open Go Go.Lift Go.Conc Go.RowKit

noncomputable def LB15 : Code := Tryd.f15.body.getD .skip
noncomputable def C15 : Code := seq1 (seq2 (seq2 (seq2 (seq2 (seq2 (seq2 LB15))))))
noncomputable def L15 : Code := loopC (blockC (seq2 C15))
noncomputable def I15 : Code := blockC (seq1 (seq2 L15))
noncomputable def T15 : Code := seq2 (seq2 (seq2 (seq2 (seq2 (seq2 (seq2 LB15))))))
noncomputable def y1 : Code := seq1 (seq2 LB15)
noncomputable def y2 : Code := seq1 (seq2 (seq2 LB15))
noncomputable def y3 : Code := seq1 (seq2 (seq2 (seq2 LB15)))
noncomputable def y5 : Code := seq1 (seq2 (seq2 (seq2 (seq2 LB15))))
noncomputable def y6 : Code := seq1 (seq2 (seq2 (seq2 (seq2 (seq2 LB15)))))
noncomputable def y7 : Code := seq1 C15
noncomputable def p8 : Code := seq1 (seq1 L15)
noncomputable def p9 : Code := seq2 (seq2 L15)
noncomputable def p10 : Code := seq1 I15
noncomputable def p11 : Code := seq1 (seq2 I15)
noncomputable def p13 : Code := seq1 (seq2 (seq2 I15))
noncomputable def p14 : Code := seq1 (seq2 (seq2 (seq2 I15)))
noncomputable def p15 : Code := seq1 (seq2 (seq2 (seq2 (seq2 I15))))
noncomputable def p16 : Code := seq1 (seq2 (seq2 (seq2 (seq2 (seq2 I15)))))
noncomputable def p17 : Code := seq1 (seq2 (seq2 (seq2 (seq2 (seq2 (seq2 I15))))))
noncomputable def p21 : Code := seq1 (seq2 (seq2 (seq2 (seq2 (seq2 (seq2 (seq2 I15)))))))
noncomputable def p22 : Code := seq2 (seq2 (seq2 (seq2 (seq2 (seq2 (seq2 (seq2 I15)))))))
noncomputable def P15 : Code := .seq y2 (.seq y3 (.seq y5 (.seq y6 (.seq (.seq y7 (.block 0 (.loop L15))) T15))))
theorem eLB15 : LB15 = .seq (seq1 LB15) (.seq y1 P15) := by kernel_rfl
theorem eL15 : L15 = .seq (.seq p8 (.cond (.tmp 34) .skip (.exit 0))) (.seq (.block 1 I15) p9) := by kernel_rfl
theorem eI15 : I15 = .seq p10 (.seq p11 (.seq p13 (.seq p14 (.seq p15 (.seq p16 (.seq p17 (.seq p21 p22))))))) := by kernel_rfl
theorem fine_y2 : fineCode Tryd.prog true LV y2 := fineCode_askS callV extT (by kernel_rfl)
theorem fine_y3 : fineCode Tryd.prog true LV y3 := fineCode_askS callV extT (by kernel_rfl)
theorem fine_y5 : fineCode Tryd.prog true LV y5 := fineCode_askS callV extT (by kernel_rfl)
theorem fine_y6 : fineCode Tryd.prog true LV y6 := fineCode_askS callV extT (by kernel_rfl)
theorem fine_y7 : fineCode Tryd.prog true LV y7 := fineCode_askS callV extT (by kernel_rfl)
theorem fine_p8 : fineCode Tryd.prog true LV p8 := fineCode_askS callV extT (by kernel_rfl)
theorem fine_p9 : fineCode Tryd.prog true LV p9 := fineCode_askS callV extT (by kernel_rfl)
theorem fine_p10 : fineCode Tryd.prog true LV p10 := fineCode_askS callV extT (by kernel_rfl)
theorem fine_p11 : fineCode Tryd.prog true LV p11 := fineCode_askS callV extT (by kernel_rfl)
theorem fine_p13 : fineCode Tryd.prog true LV p13 := fineCode_askS callV extT (by kernel_rfl)
theorem fine_p15 : fineCode Tryd.prog true LV p15 := fineCode_askS callV extT (by kernel_rfl)
theorem fine_p16 : fineCode Tryd.prog true LV p16 := fineCode_askS callV extT (by kernel_rfl)
theorem fine_p17 : fineCode Tryd.prog true LV p17 := fineCode_askS callV extT (by kernel_rfl)
theorem fine_p22 : fineCode Tryd.prog true LV p22 := fineCode_askS callV extT (by kernel_rfl)
theorem fine_T15 : fineCode Tryd.prog true LV T15 := fineCode_askS callV extT (by kernel_rfl)
set_option maxHeartbeats 4000000 in
set_option maxRecDepth 100000 in
theorem p8_wp {v : World} {a : Act} {l1 l2 : Value} {c s ab i : Nat} {p : Option Addr} {n cap : Nat} (hl : l1 = .slice p n cap) (hA : Fl 90 [(1, l1), (2, l2), (8, Pt c 0), (9, I (s : Int)), (10, .slice (some ⟨ab, 0, none⟩) s s), (11, I (i : Int))] a) : p8.wp Tryd.prog (fun e a' w' => e = .normal ∧ Fl 90 [(1, l1), (2, l2), (8, Pt c 0), (9, I (s : Int)), (10, .slice (some ⟨ab, 0, none⟩) s s), (11, I (i : Int)), (34, .bool (decide ((i : Int) < (n : Int))))] a' ∧ w'.heap = v.heap ∧ w'.os = v.os ∧ w'.output = v.output) a v := by
  obtain ⟨hsz, hd, hp⟩ := hA
  obtain ⟨u, rfl, hg⟩ := litN hsz hd
  simp only [List.forall_mem_cons, hg] at hp
  obtain ⟨u1, u2, u8, u9, u10, u11, -⟩ := hp
  clear hg hsz hd
  subst hl
  unfold p8 L15 C15 LB15 Tryd.f15 seq2 seq1 blockC loopC
  simp only [Option.getD_some, lits, Nat.reduceAdd, u1, u2, u8, u9, u10, u11]
  clear u1 u2 u8 u9 u10 u11
  go_wp2_with fail
  first
    | exact ⟨rfl, rfl, by
        intro p hp
        simp only [List.mem_cons, List.not_mem_nil, or_false] at hp
        rcases hp with rfl | rfl | rfl | rfl | rfl | rfl | rfl <;> rfl⟩
    | exact ⟨⟨rfl, rfl, by
        intro p hp
        simp only [List.mem_cons, List.not_mem_nil, or_false] at hp
        rcases hp with rfl | rfl | rfl | rfl | rfl | rfl | rfl <;> rfl⟩, rfl⟩
    | exact ⟨⟨rfl, rfl, by
        intro p hp
        simp only [List.mem_cons, List.not_mem_nil, or_false] at hp
        rcases hp with rfl | rfl | rfl | rfl | rfl | rfl | rfl <;> rfl⟩, rfl, rfl⟩
    | exact ⟨⟨rfl, rfl, by
        intro p hp
        simp only [List.mem_cons, List.not_mem_nil, or_false] at hp
        rcases hp with rfl | rfl | rfl | rfl | rfl | rfl | rfl <;> rfl⟩, rfl, rfl, rfl⟩
    | exact ⟨⟨rfl, rfl, by
        intro p hp
        simp only [List.mem_cons, List.not_mem_nil, or_false] at hp
        rcases hp with rfl | rfl | rfl | rfl | rfl | rfl | rfl <;> rfl⟩, rfl, rfl, rfl, rfl⟩
    | exact ⟨⟨rfl, rfl, by
        intro p hp
        simp only [List.mem_cons, List.not_mem_nil, or_false] at hp
        rcases hp with rfl | rfl | rfl | rfl | rfl | rfl | rfl <;> rfl⟩, rfl, rfl, rfl, rfl, rfl⟩

set_option maxHeartbeats 4000000 in
set_option maxRecDepth 100000 in
theorem p9_wp {v : World} {a : Act} {l1 l2 : Value} {c s ab i : Nat} (h9 : wrap64 ((i : Int) + 1) = ((i + 1 : Nat) : Int)) (hA : Fl 90 [(1, l1), (2, l2), (8, Pt c 0), (9, I (s : Int)), (10, .slice (some ⟨ab, 0, none⟩) s s), (11, I (i : Int))] a) : p9.wp Tryd.prog (fun e a' w' => e = .normal ∧ Fl 90 [(1, l1), (2, l2), (8, Pt c 0), (9, I (s : Int)), (10, .slice (some ⟨ab, 0, none⟩) s s), (11, I ((i + 1 : Nat) : Int))] a' ∧ w'.heap = v.heap ∧ w'.os = v.os ∧ w'.output = v.output) a v := by
  obtain ⟨hsz, hd, hp⟩ := hA
  obtain ⟨u, rfl, hg⟩ := litN hsz hd
  simp only [List.forall_mem_cons, hg] at hp
  obtain ⟨u1, u2, u8, u9, u10, u11, -⟩ := hp
  clear hg hsz hd
  unfold p9 L15 C15 LB15 Tryd.f15 seq2 seq1 blockC loopC
  simp only [Option.getD_some, lits, Nat.reduceAdd, u1, u2, u8, u9, u10, u11]
  clear u1 u2 u8 u9 u10 u11
  go_wp2_with fail
  exact ⟨rfl, rfl, by
    intro p hp
    simp only [List.mem_cons, List.not_mem_nil, or_false] at hp
    rcases hp with rfl | rfl | rfl | rfl | rfl | rfl
    · rfl
    · rfl
    · rfl
    · rfl
    · rfl
    · exact congrArg I (by omega)⟩

set_option maxHeartbeats 4000000 in
set_option maxRecDepth 100000 in
theorem p10_wp {v : World} {a : Act} {l1 l2 : Value} {c s ab i : Nat}  (hA : Fl 90 [(1, l1), (2, l2), (8, Pt c 0), (9, I (s : Int)), (10, .slice (some ⟨ab, 0, none⟩) s s), (11, I (i : Int))] a) : p10.wp Tryd.prog (fun e a' w' => e = .normal ∧ Fl 90 [(1, l1), (2, l2), (8, Pt c 0), (9, I (s : Int)), (10, .slice (some ⟨ab, 0, none⟩) s s), (11, I (i : Int)), (12, I 0)] a' ∧ w'.heap = v.heap ∧ w'.os = v.os ∧ w'.output = v.output) a v := by
  obtain ⟨hsz, hd, hp⟩ := hA
  obtain ⟨u, rfl, hg⟩ := litN hsz hd
  simp only [List.forall_mem_cons, hg] at hp
  obtain ⟨u1, u2, u8, u9, u10, u11, -⟩ := hp
  clear hg hsz hd
  unfold p10 I15 L15 C15 LB15 Tryd.f15 seq2 seq1 blockC loopC
  simp only [Option.getD_some, lits, Nat.reduceAdd, u1, u2, u8, u9, u10, u11]
  clear u1 u2 u8 u9 u10 u11
  go_wp2_with fail
  first
    | exact ⟨rfl, rfl, by
        intro p hp
        simp only [List.mem_cons, List.not_mem_nil, or_false] at hp
        rcases hp with rfl | rfl | rfl | rfl | rfl | rfl | rfl <;> rfl⟩
    | exact ⟨⟨rfl, rfl, by
        intro p hp
        simp only [List.mem_cons, List.not_mem_nil, or_false] at hp
        rcases hp with rfl | rfl | rfl | rfl | rfl | rfl | rfl <;> rfl⟩, rfl⟩
    | exact ⟨⟨rfl, rfl, by
        intro p hp
        simp only [List.mem_cons, List.not_mem_nil, or_false] at hp
        rcases hp with rfl | rfl | rfl | rfl | rfl | rfl | rfl <;> rfl⟩, rfl, rfl⟩
    | exact ⟨⟨rfl, rfl, by
        intro p hp
        simp only [List.mem_cons, List.not_mem_nil, or_false] at hp
        rcases hp with rfl | rfl | rfl | rfl | rfl | rfl | rfl <;> rfl⟩, rfl, rfl, rfl⟩
    | exact ⟨⟨rfl, rfl, by
        intro p hp
        simp only [List.mem_cons, List.not_mem_nil, or_false] at hp
        rcases hp with rfl | rfl | rfl | rfl | rfl | rfl | rfl <;> rfl⟩, rfl, rfl, rfl, rfl⟩
    | exact ⟨⟨rfl, rfl, by
        intro p hp
        simp only [List.mem_cons, List.not_mem_nil, or_false] at hp
        rcases hp with rfl | rfl | rfl | rfl | rfl | rfl | rfl <;> rfl⟩, rfl, rfl, rfl, rfl, rfl⟩

set_option maxHeartbeats 4000000 in
set_option maxRecDepth 100000 in
theorem p11_wpy {v : World} {a : Act} {l1 l2 : Value} {c s ab i : Nat} {b2 o2 n cap : Nat} {x : Int} (hl : l2 = .slice (some ⟨b2, o2, none⟩) n cap) (hin : i < n) (c1 : v.cell? ⟨b2, o2 + i, none⟩ = some (I x)) (hA : Fl 90 [(1, l1), (2, l2), (8, Pt c 0), (9, I (s : Int)), (10, .slice (some ⟨ab, 0, none⟩) s s), (11, I (i : Int)), (12, I 0)] a) : p11.wp Tryd.prog (fun e a' w' => e = .normal ∧ Fl 90 [(1, l1), (2, l2), (8, Pt c 0), (9, I (s : Int)), (10, .slice (some ⟨ab, 0, none⟩) s s), (11, I (i : Int)), (12, I (bits .and .i64 x 255))] a' ∧ w'.heap = v.heap ∧ w'.os = v.os ∧ w'.output = v.output) a v := by
  obtain ⟨hsz, hd, hp⟩ := hA
  obtain ⟨u, rfl, hg⟩ := litN hsz hd
  simp only [List.forall_mem_cons, hg] at hp
  obtain ⟨u1, u2, u8, u9, u10, u11, u12, -⟩ := hp
  clear hg hsz hd
  subst hl
  have hin' : (i : Int) < (n : Int) := by omega
  unfold p11 I15 L15 C15 LB15 Tryd.f15 seq2 seq1 blockC loopC
  simp only [Option.getD_some, lits, Nat.reduceAdd, u1, u2, u8, u9, u10, u11, u12]
  clear u1 u2 u8 u9 u10 u11 u12
  go_wp2_with fail
  first
    | exact ⟨rfl, rfl, by
        intro p hp
        simp only [List.mem_cons, List.not_mem_nil, or_false] at hp
        rcases hp with rfl | rfl | rfl | rfl | rfl | rfl | rfl <;> rfl⟩
    | exact ⟨⟨rfl, rfl, by
        intro p hp
        simp only [List.mem_cons, List.not_mem_nil, or_false] at hp
        rcases hp with rfl | rfl | rfl | rfl | rfl | rfl | rfl <;> rfl⟩, rfl⟩
    | exact ⟨⟨rfl, rfl, by
        intro p hp
        simp only [List.mem_cons, List.not_mem_nil, or_false] at hp
        rcases hp with rfl | rfl | rfl | rfl | rfl | rfl | rfl <;> rfl⟩, rfl, rfl⟩
    | exact ⟨⟨rfl, rfl, by
        intro p hp
        simp only [List.mem_cons, List.not_mem_nil, or_false] at hp
        rcases hp with rfl | rfl | rfl | rfl | rfl | rfl | rfl <;> rfl⟩, rfl, rfl, rfl⟩
    | exact ⟨⟨rfl, rfl, by
        intro p hp
        simp only [List.mem_cons, List.not_mem_nil, or_false] at hp
        rcases hp with rfl | rfl | rfl | rfl | rfl | rfl | rfl <;> rfl⟩, rfl, rfl, rfl, rfl⟩
    | exact ⟨⟨rfl, rfl, by
        intro p hp
        simp only [List.mem_cons, List.not_mem_nil, or_false] at hp
        rcases hp with rfl | rfl | rfl | rfl | rfl | rfl | rfl <;> rfl⟩, rfl, rfl, rfl, rfl, rfl⟩

set_option maxHeartbeats 4000000 in
set_option maxRecDepth 100000 in
theorem p11_wpn {v : World} {a : Act} {l1 l2 : Value} {c s ab i : Nat} {p : Option Addr} {n cap : Nat} (hl : l2 = .slice p n cap) (hin : ¬ i < n) (hA : Fl 90 [(1, l1), (2, l2), (8, Pt c 0), (9, I (s : Int)), (10, .slice (some ⟨ab, 0, none⟩) s s), (11, I (i : Int)), (12, I 0)] a) : p11.wp Tryd.prog (fun e a' w' => e = .normal ∧ Fl 90 [(1, l1), (2, l2), (8, Pt c 0), (9, I (s : Int)), (10, .slice (some ⟨ab, 0, none⟩) s s), (11, I (i : Int)), (12, I 0)] a' ∧ w'.heap = v.heap ∧ w'.os = v.os ∧ w'.output = v.output) a v := by
  obtain ⟨hsz, hd, hp⟩ := hA
  obtain ⟨u, rfl, hg⟩ := litN hsz hd
  simp only [List.forall_mem_cons, hg] at hp
  obtain ⟨u1, u2, u8, u9, u10, u11, u12, -⟩ := hp
  clear hg hsz hd
  subst hl
  have hin' : ¬ (i : Int) < (n : Int) := by omega
  unfold p11 I15 L15 C15 LB15 Tryd.f15 seq2 seq1 blockC loopC
  simp only [Option.getD_some, lits, Nat.reduceAdd, u1, u2, u8, u9, u10, u11, u12]
  clear u1 u2 u8 u9 u10 u11 u12
  go_wp2_with fail
  first
    | exact ⟨rfl, rfl, by
        intro p hp
        simp only [List.mem_cons, List.not_mem_nil, or_false] at hp
        rcases hp with rfl | rfl | rfl | rfl | rfl | rfl | rfl <;> rfl⟩
    | exact ⟨⟨rfl, rfl, by
        intro p hp
        simp only [List.mem_cons, List.not_mem_nil, or_false] at hp
        rcases hp with rfl | rfl | rfl | rfl | rfl | rfl | rfl <;> rfl⟩, rfl⟩
    | exact ⟨⟨rfl, rfl, by
        intro p hp
        simp only [List.mem_cons, List.not_mem_nil, or_false] at hp
        rcases hp with rfl | rfl | rfl | rfl | rfl | rfl | rfl <;> rfl⟩, rfl, rfl⟩
    | exact ⟨⟨rfl, rfl, by
        intro p hp
        simp only [List.mem_cons, List.not_mem_nil, or_false] at hp
        rcases hp with rfl | rfl | rfl | rfl | rfl | rfl | rfl <;> rfl⟩, rfl, rfl, rfl⟩
    | exact ⟨⟨rfl, rfl, by
        intro p hp
        simp only [List.mem_cons, List.not_mem_nil, or_false] at hp
        rcases hp with rfl | rfl | rfl | rfl | rfl | rfl | rfl <;> rfl⟩, rfl, rfl, rfl, rfl⟩
    | exact ⟨⟨rfl, rfl, by
        intro p hp
        simp only [List.mem_cons, List.not_mem_nil, or_false] at hp
        rcases hp with rfl | rfl | rfl | rfl | rfl | rfl | rfl <;> rfl⟩, rfl, rfl, rfl, rfl, rfl⟩

set_option maxHeartbeats 4000000 in
set_option maxRecDepth 100000 in
theorem p13_wp {v : World} {a : Act} {l1 l2 : Value} {c s ab i d : Nat}  (hA : Fl 90 [(1, l1), (2, l2), (8, Pt c 0), (9, I (s : Int)), (10, .slice (some ⟨ab, 0, none⟩) s s), (11, I (i : Int)), (12, I (d : Int))] a) : p13.wp Tryd.prog (fun e a' w' => e = .normal ∧ Fl 90 [(1, l1), (2, l2), (8, Pt c 0), (9, I (s : Int)), (10, .slice (some ⟨ab, 0, none⟩) s s), (11, I (i : Int)), (12, I (d : Int)), (13, Pt v.heap.size 0)] a' ∧ w'.heap = v.heap.push (.cells #[.pointer none, I (d : Int), .chan none, I 0, I 0, I 0, I 0] 107) ∧ w'.os = v.os ∧ w'.output = v.output) a v := by
  obtain ⟨hsz, hd, hp⟩ := hA
  obtain ⟨u, rfl, hg⟩ := litN hsz hd
  simp only [List.forall_mem_cons, hg] at hp
  obtain ⟨u1, u2, u8, u9, u10, u11, u12, -⟩ := hp
  clear hg hsz hd
  unfold p13 I15 L15 C15 LB15 Tryd.f15 seq2 seq1 blockC loopC
  simp only [Option.getD_some, lits, Nat.reduceAdd, u1, u2, u8, u9, u10, u11, u12]
  clear u1 u2 u8 u9 u10 u11 u12
  go_wp2_with (first
    | (go_at_call 26; refine ((body11 v (d : Int)).calls Tryd.func26 rfl).mono ?_; rintro e w1 ⟨_, rfl, rfl, q1, q2, q3⟩))
  first
    | exact ⟨rfl, rfl, by
        intro p hp
        simp only [List.mem_cons, List.not_mem_nil, or_false] at hp
        rcases hp with rfl | rfl | rfl | rfl | rfl | rfl | rfl | rfl <;> rfl⟩
    | exact ⟨⟨rfl, rfl, by
        intro p hp
        simp only [List.mem_cons, List.not_mem_nil, or_false] at hp
        rcases hp with rfl | rfl | rfl | rfl | rfl | rfl | rfl | rfl <;> rfl⟩, rfl⟩
    | exact ⟨⟨rfl, rfl, by
        intro p hp
        simp only [List.mem_cons, List.not_mem_nil, or_false] at hp
        rcases hp with rfl | rfl | rfl | rfl | rfl | rfl | rfl | rfl <;> rfl⟩, rfl, rfl⟩
    | exact ⟨⟨rfl, rfl, by
        intro p hp
        simp only [List.mem_cons, List.not_mem_nil, or_false] at hp
        rcases hp with rfl | rfl | rfl | rfl | rfl | rfl | rfl | rfl <;> rfl⟩, rfl, rfl, rfl⟩
    | exact ⟨⟨rfl, rfl, by
        intro p hp
        simp only [List.mem_cons, List.not_mem_nil, or_false] at hp
        rcases hp with rfl | rfl | rfl | rfl | rfl | rfl | rfl | rfl <;> rfl⟩, rfl, rfl, rfl, rfl⟩
    | exact ⟨⟨rfl, rfl, by
        intro p hp
        simp only [List.mem_cons, List.not_mem_nil, or_false] at hp
        rcases hp with rfl | rfl | rfl | rfl | rfl | rfl | rfl | rfl <;> rfl⟩, rfl, rfl, rfl, rfl, rfl⟩
    | exact ⟨rfl, ⟨rfl, rfl, by
    intro p hp
    simp only [List.mem_cons, List.not_mem_nil, or_false] at hp
    rcases hp with rfl | rfl | rfl | rfl | rfl | rfl | rfl | rfl <;> rfl⟩, q1, q2, q3⟩
    | exact ⟨⟨rfl, rfl, by
    intro p hp
    simp only [List.mem_cons, List.not_mem_nil, or_false] at hp
    rcases hp with rfl | rfl | rfl | rfl | rfl | rfl | rfl | rfl <;> rfl⟩, q1, q2, q3⟩

set_option maxHeartbeats 4000000 in
set_option maxRecDepth 100000 in
theorem p16_wp {v : World} {a : Act} {l1 l2 : Value} {c s ab i d tb : Nat}  (hA : Fl 90 [(1, l1), (2, l2), (8, Pt c 0), (9, I (s : Int)), (10, .slice (some ⟨ab, 0, none⟩) s s), (11, I (i : Int)), (12, I (d : Int)), (13, Pt tb 0)] a) : p16.wp Tryd.prog (fun e a' w' => e = .normal ∧ Fl 90 [(1, l1), (2, l2), (8, Pt c 0), (9, I (s : Int)), (10, .slice (some ⟨ab, 0, none⟩) s s), (11, I (i : Int)), (12, I (d : Int)), (13, Pt tb 0), (14, I 0)] a' ∧ w'.heap = v.heap ∧ w'.os = v.os ∧ w'.output = v.output) a v := by
  obtain ⟨hsz, hd, hp⟩ := hA
  obtain ⟨u, rfl, hg⟩ := litN hsz hd
  simp only [List.forall_mem_cons, hg] at hp
  obtain ⟨u1, u2, u8, u9, u10, u11, u12, u13, -⟩ := hp
  clear hg hsz hd
  unfold p16 I15 L15 C15 LB15 Tryd.f15 seq2 seq1 blockC loopC
  simp only [Option.getD_some, lits, Nat.reduceAdd, u1, u2, u8, u9, u10, u11, u12, u13]
  clear u1 u2 u8 u9 u10 u11 u12 u13
  go_wp2_with fail
  first
    | exact ⟨rfl, rfl, by
        intro p hp
        simp only [List.mem_cons, List.not_mem_nil, or_false] at hp
        rcases hp with rfl | rfl | rfl | rfl | rfl | rfl | rfl | rfl | rfl <;> rfl⟩
    | exact ⟨⟨rfl, rfl, by
        intro p hp
        simp only [List.mem_cons, List.not_mem_nil, or_false] at hp
        rcases hp with rfl | rfl | rfl | rfl | rfl | rfl | rfl | rfl | rfl <;> rfl⟩, rfl⟩
    | exact ⟨⟨rfl, rfl, by
        intro p hp
        simp only [List.mem_cons, List.not_mem_nil, or_false] at hp
        rcases hp with rfl | rfl | rfl | rfl | rfl | rfl | rfl | rfl | rfl <;> rfl⟩, rfl, rfl⟩
    | exact ⟨⟨rfl, rfl, by
        intro p hp
        simp only [List.mem_cons, List.not_mem_nil, or_false] at hp
        rcases hp with rfl | rfl | rfl | rfl | rfl | rfl | rfl | rfl | rfl <;> rfl⟩, rfl, rfl, rfl⟩
    | exact ⟨⟨rfl, rfl, by
        intro p hp
        simp only [List.mem_cons, List.not_mem_nil, or_false] at hp
        rcases hp with rfl | rfl | rfl | rfl | rfl | rfl | rfl | rfl | rfl <;> rfl⟩, rfl, rfl, rfl, rfl⟩
    | exact ⟨⟨rfl, rfl, by
        intro p hp
        simp only [List.mem_cons, List.not_mem_nil, or_false] at hp
        rcases hp with rfl | rfl | rfl | rfl | rfl | rfl | rfl | rfl | rfl <;> rfl⟩, rfl, rfl, rfl, rfl, rfl⟩

set_option maxHeartbeats 4000000 in
set_option maxRecDepth 100000 in
theorem p22_wp {v : World} {a : Act} {l1 l2 : Value} {c s ab i d tb : Nat} {k : Int}  (hA : Fl 90 [(1, l1), (2, l2), (8, Pt c 0), (9, I (s : Int)), (10, .slice (some ⟨ab, 0, none⟩) s s), (11, I (i : Int)), (12, I (d : Int)), (13, Pt tb 0), (14, I k), (16, I k)] a) : p22.wp Tryd.prog (fun e a' w' => e = .normal ∧ Fl 90 [(1, l1), (2, l2), (8, Pt c 0), (9, I (s : Int)), (10, .slice (some ⟨ab, 0, none⟩) s s), (11, I (i : Int))] a' ∧ w'.heap = v.heap ∧ w'.os = v.os ∧ w'.output = v.output) a v := by
  obtain ⟨hsz, hd, hp⟩ := hA
  obtain ⟨u, rfl, hg⟩ := litN hsz hd
  simp only [List.forall_mem_cons, hg] at hp
  obtain ⟨u1, u2, u8, u9, u10, u11, u12, u13, u14, u16, -⟩ := hp
  clear hg hsz hd
  unfold p22 I15 L15 C15 LB15 Tryd.f15 seq2 seq1 blockC loopC
  simp only [Option.getD_some, lits, Nat.reduceAdd, u1, u2, u8, u9, u10, u11, u12, u13, u14, u16]
  clear u1 u2 u8 u9 u10 u11 u12 u13 u14 u16
  go_wp2_with fail
  first
    | exact ⟨rfl, rfl, by
        intro p hp
        simp only [List.mem_cons, List.not_mem_nil, or_false] at hp
        rcases hp with rfl | rfl | rfl | rfl | rfl | rfl <;> rfl⟩
    | exact ⟨⟨rfl, rfl, by
        intro p hp
        simp only [List.mem_cons, List.not_mem_nil, or_false] at hp
        rcases hp with rfl | rfl | rfl | rfl | rfl | rfl <;> rfl⟩, rfl⟩
    | exact ⟨⟨rfl, rfl, by
        intro p hp
        simp only [List.mem_cons, List.not_mem_nil, or_false] at hp
        rcases hp with rfl | rfl | rfl | rfl | rfl | rfl <;> rfl⟩, rfl, rfl⟩
    | exact ⟨⟨rfl, rfl, by
        intro p hp
        simp only [List.mem_cons, List.not_mem_nil, or_false] at hp
        rcases hp with rfl | rfl | rfl | rfl | rfl | rfl <;> rfl⟩, rfl, rfl, rfl⟩
    | exact ⟨⟨rfl, rfl, by
        intro p hp
        simp only [List.mem_cons, List.not_mem_nil, or_false] at hp
        rcases hp with rfl | rfl | rfl | rfl | rfl | rfl <;> rfl⟩, rfl, rfl, rfl, rfl⟩
    | exact ⟨⟨rfl, rfl, by
        intro p hp
        simp only [List.mem_cons, List.not_mem_nil, or_false] at hp
        rcases hp with rfl | rfl | rfl | rfl | rfl | rfl <;> rfl⟩, rfl, rfl, rfl, rfl, rfl⟩

end Go.Proofs.YtcfmffmcammbjaaDoor.Gen

/- The law CounterAlone (15): what it counts itself, main alone. (Made by wip/tools/mkla15.py.) -/
set_option linter.unusedSimpArgs false
set_option linter.unusedVariables false
namespace Go.Proofs.YtcfmffmcammbjaaDoor.Gen
open Go Go.Lift Go.Conc Go.RowKit

/-- What holds at a piece's own end. -/
def Nrm (F : Act → World → Prop) : Exit → Act → World → Prop
  | .normal, a, w => F a w
  | _, _, _ => False
theorem wp_nrm {P : Program} {c : Code} {F : Act → World → Prop} {a : Act} {w : World} (h : c.wp P (Nrm F) a w) : c.wp P (fun e a' w' => e = .normal ∧ F a' w') a w := wp_mono h fun e a w hq => by
  cases e
  case normal => exact ⟨rfl, hq⟩
  all_goals exact hq.elim

set_option maxHeartbeats 4000000 in
set_option maxRecDepth 100000 in
theorem p15_wp0 {v : World} {a : Act} {l1 l2 : Value} {c s ab i d tb : Nat} {b1 o1 n cap j : Nat} {x y : Int} (hl : l1 = .slice (some ⟨b1, o1, none⟩) n cap) (hin : i < n) (hs : 0 < s) (hj : d % s = j) (c1 : v.cell? ⟨b1, o1 + i, none⟩ = some (I x)) (c2 : v.cell? ⟨ab, j, none⟩ = some (I y)) (f2 : v.frozen? ⟨ab, j, none⟩ = false) (hA : Fl 90 [(1, l1), (2, l2), (8, Pt c 0), (9, I (s : Int)), (10, .slice (some ⟨ab, 0, none⟩) s s), (11, I (i : Int)), (12, I (d : Int)), (13, Pt tb 0)] a) :
    p15.wp Tryd.prog (Nrm fun a' w' => Fl 90 [(1, l1), (2, l2), (8, Pt c 0), (9, I (s : Int)), (10, .slice (some ⟨ab, 0, none⟩) s s), (11, I (i : Int)), (12, I (d : Int)), (13, Pt tb 0)] a' ∧ w'.heap = (v.setCell ⟨ab, j, none⟩ (I (R1.wr56 (wrap64 (y + x.tmod 4294967296))))).heap ∧ w'.os = v.os ∧ w'.output = v.output) a v := by
  obtain ⟨hsz, hd, hp⟩ := hA
  obtain ⟨u, rfl, hg⟩ := litN hsz hd
  simp only [List.forall_mem_cons, hg] at hp
  obtain ⟨u1, u2, u8, u9, u10, u11, u12, u13, -⟩ := hp
  clear hg hsz hd
  subst hl
  have hin' : (i : Int) < (n : Int) := by omega
  have hlt : d % s < s := Nat.mod_lt _ hs
  have hlt2 : ((d % s : Nat) : Int) < (s : Int) := by omega
  have hs1 : ¬ ((s : Int) = 0) := by omega
  have hs2 : ¬ (s = 0) := by omega
  have hge : ¬ ((d % s : Nat) : Int) < 0 := by omega
  have hmod : (d : Int).tmod (s : Int) = ((d % s : Nat) : Int) := by rw [Int.tmod_eq_emod_of_nonneg (by omega)]; omega
  have hmod2 : (d : Int) % (s : Int) = ((d % s : Nat) : Int) := by omega
  rw [hj] at hmod2 hlt hlt2 hge hmod
  clear hj
  unfold p15 I15 L15 C15 LB15 Tryd.f15 seq2 seq1 blockC loopC
  simp only [Option.getD_some, lits, Nat.reduceAdd, u1, u2, u8, u9, u10, u11, u12, u13]
  clear u1 u2 u8 u9 u10 u11 u12 u13
  go_wp2_with fail
  go_region_with (first | (go_at_call 56; refine (R1.body56 _ _).mono ?_; rintro e w1 ⟨rfl, rfl⟩))
  all_goals
    refine ⟨⟨rfl, rfl, by
      intro p hp
      simp only [List.mem_cons, List.not_mem_nil, or_false] at hp
      rcases hp with rfl | rfl | rfl | rfl | rfl | rfl | rfl | rfl <;> rfl⟩, ?_, rfl, rfl⟩
    rw [← Pl.i64_wrap]
    rfl

/-- The sum of amounts. -/
def totA (l : List Int) : Int := l.foldl (fun s y => wrap64 (s + y)) 0
theorem totA_next {l : List Int} {k : Nat} {x : Int} (h : l[k]? = some x) : totA (l.take (k + 1)) = wrap64 (totA (l.take k) + x) := by
  have e : l.take (k + 1) = l.take k ++ [x] := by rw [List.take_add_one, h]; rfl
  unfold totA
  rw [e, List.foldl_append]
  rfl
theorem totA_map (l : List Int) : totA (l.map R1.amtS) = R1.totI l := by unfold totA R1.totI; rw [List.foldl_map]

set_option maxHeartbeats 4000000 in
set_option maxRecDepth 100000 in
theorem p17_wp0 {v : World} {a : Act} {l1 l2 : Value} {c s ab i d tb : Nat} {am : List Int} (h1 : v.heap[ab]? = some (rowI am)) (hl : am.length = s) (hs : s ≤ 16) (hA : Fl 90 [(1, l1), (2, l2), (8, Pt c 0), (9, I (s : Int)), (10, .slice (some ⟨ab, 0, none⟩) s s), (11, I (i : Int)), (12, I (d : Int)), (13, Pt tb 0), (14, I 0)] a) :
    p17.wp Tryd.prog (Nrm fun a' w' => Fl 90 [(1, l1), (2, l2), (8, Pt c 0), (9, I (s : Int)), (10, .slice (some ⟨ab, 0, none⟩) s s), (11, I (i : Int)), (12, I (d : Int)), (13, Pt tb 0), (14, I (totA am))] a' ∧ w'.heap = v.heap ∧ w'.os = v.os ∧ w'.output = v.output) a v := by
  obtain ⟨hsz, hd, hp⟩ := hA
  obtain ⟨u, rfl, hg⟩ := litN hsz hd
  simp only [List.forall_mem_cons, hg] at hp
  obtain ⟨u1, u2, u8, u9, u10, u11, u12, u13, u14, -⟩ := hp
  clear hg hsz hd
  unfold p17 I15 L15 C15 LB15 Tryd.f15 seq2 seq1 blockC loopC
  simp only [Option.getD_some, lits, Nat.reduceAdd, u1, u2, u8, u9, u10, u11, u12, u13, u14]
  clear u1 u2 u8 u9 u10 u11 u12 u13 u14
  have HR : Hid (v.heap[ab]? = some (rowI am)) := ⟨h1⟩
  clear h1
  go_wp2_with fail
  go_loopw [14, 15] (fun t i w' => ∃ k : Nat, k ≤ s ∧ i = .int .i64 k ∧ t = I (totA (am.take k)) ∧ w'.heap = v.heap ∧ w'.os = v.os ∧ w'.output = v.output) (fun _ i _ => s - (intOf i).toNat)
  case atStart => exact ⟨0, Nat.zero_le _, rfl, rfl, rfl, rfl, rfl⟩
  case round =>
    obtain ⟨k, hk, rfl, rfl, q1, q2, q3⟩ := hrel
    have HQ : Hid (wr.heap = v.heap ∧ wr.os = v.os ∧ wr.output = v.output) := ⟨q1, q2, q3⟩
    clear q1 q2 q3
    by_cases hlt : k < s
    · obtain ⟨x, hx⟩ : ∃ x, am[k]? = some x := ⟨_, List.getElem?_eq_getElem (by omega)⟩
      have c1 : wr.cell? ⟨ab, k, none⟩ = some (I x) := rowI_cell (by rw [HQ.out.1]; exact HR.out) hx
      have HN : Hid (totA (am.take (k + 1)) = wrap64 (totA (am.take k) + x)) := ⟨totA_next hx⟩
      generalize totA (am.take k) = sk at HN
      have hks : (k : Int) < (s : Int) := by omega
      go_wp2_with fail
      go_roundw
      case rel => exact ⟨k + 1, by omega, by go_num, by rw [HN.out, ← Pl.i64_wrap], HQ.out.1, HQ.out.2.1, HQ.out.2.2⟩
      case measure => simp [intOf]; omega
    · have hks : ¬ (k : Int) < (s : Int) := by omega
      have e : am.take k = am := List.take_of_length_le (by omega)
      have HE : Hid (totA (am.take k) = totA am) := ⟨by rw [e]⟩
      generalize totA (am.take k) = sk at HE
      clear e
      go_wp2_with fail
      rw [← HE.out]
      exact ⟨⟨rfl, rfl, by
        intro p hp
        simp only [List.mem_cons, List.not_mem_nil, or_false] at hp
        rcases hp with rfl | rfl | rfl | rfl | rfl | rfl | rfl | rfl | rfl <;> rfl⟩, HQ.out.1, HQ.out.2.1, HQ.out.2.2⟩

end Go.Proofs.YtcfmffmcammbjaaDoor.Gen
