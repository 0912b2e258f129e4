/- ChainRing: of a ring the last who writes down is told, under every schedule. Part 21 of 37. (Joined, by program, of: Run20, Run20b.) -/
import Derived.Test.YtfjjoohflcchnaaChainRing20
import Derived.Laws.MakeOwn
import Derived.Deep.OwnRows
set_option linter.unusedSimpArgs false
set_option linter.unusedVariables false
namespace Go.Proofs.Ytfjjoohflcchnaa
open Go Go.Lift Go.Conc Go.RowKit

noncomputable def B20 : Code := Try.f54.body.getD .skip
noncomputable def a200 : Code := seq1 B20
noncomputable def a201 : Code := seq1 (seq2 B20)
noncomputable def a202 : Code := seq1 (seq2 (seq2 B20))
noncomputable def a203 : Code := seq1 (seq2 (seq2 (seq2 B20)))
theorem fine200 : fineCode Try.prog true LT a200 := fineCode_ask callT extT (by kernel_rfl)
theorem fine201 : fineCode Try.prog true LT a201 := fineCode_ask callT extT (by kernel_rfl)
theorem fine202 : fineCode Try.prog true LT a202 := fineCode_ask callT extT (by kernel_rfl)
theorem fine203 : fineCode Try.prog true LT a203 := fineCode_ask callT extT (by kernel_rfl)

theorem info40 : (Try.prog.info? 40).map (fun i => (i.zero, i.size, i.bytes)) = some (some (.slice none 0 0), 1, 24) := by kernel_rfl
theorem info42 : (Try.prog.info? 42).map (fun i => (i.zero, i.size, i.bytes)) = some (some (.agg #[I 0, I 0]), 2, 16) := by kernel_rfl
theorem mk27 (n : Nat) (hn : n ≤ 8) (w : World) :
    (Instr.makeSlice 27 (.int .i64 (n : Int)) (.int .i64 (n : Int))).run Try.prog w = .ok (.slice (some ⟨w.heap.size, 0, none⟩) n n) (w.alloc (.cells (madeCells #[.slice none 0 0] n) 40)) := by
  obtain ⟨i, hq, hz, hs, hb⟩ := info_parts info40
  have := run_make (P := Try.prog) w 27 40 i _ Try.underlying27 hq hz .i64 .i64 (n : Int) (n : Int) (by omega) (by omega) (by rw [hb]; omega) (by omega)
  rw [hs] at this
  rw [this]
  simp [Value.cells]
theorem mk40 (n : Nat) (hn : n ≤ 64) (w : World) :
    (Instr.makeSlice 40 (.int .i64 (n : Int)) (.int .i64 (n : Int))).run Try.prog w = .ok (.slice (some ⟨w.heap.size, 0, none⟩) n n) (w.alloc (.cells (madeCells #[I 0, I 0] (n * 2)) 42)) := by
  obtain ⟨i, hq, hz, hs, hb⟩ := info_parts info42
  have := run_make (P := Try.prog) w 40 42 i _ Try.underlying40 hq hz .i64 .i64 (n : Int) (n : Int) (by omega) (by omega) (by rw [hb]; omega) (by omega)
  rw [hs] at this
  rw [this]
  simp [Value.cells]

set_option maxHeartbeats 2000000 in
set_option maxRecDepth 100000 in
theorem a201_wp (v : World) (wb p2 n : Nat) (p : Option Addr) (cap : Nat) (F : Value) (hn : n ≤ 8) :
    a201.wp Try.prog (fun e a w' => e = .normal ∧ a = { tmps := #[Pt wb 0, .slice p n cap, F, undef, undef, Pt p2 0, .slice none 0 0, Pt (v.heap.size + 1) 0, undef, undef, undef, .slice p n cap, I n, .slice (some ⟨v.heap.size, 0, none⟩) n n] ++ Array.replicate 25 undef, defers := [] } ∧ w'.heap = (v.heap.push (.cells (madeCells #[.slice none 0 0] n) 40)).push (.cells #[.slice (some ⟨v.heap.size, 0, none⟩) n n] 27) ∧ w'.os = v.os ∧ w'.output = v.output)
      { tmps := #[Pt wb 0, .slice p n cap, F, undef, undef, Pt p2 0, .slice none 0 0] ++ Array.replicate 32 undef, defers := [] } v := by
  have hmk := mk27 n hn
  show Code.wp Try.prog (seq1 (seq2 (Try.f54.body.getD .skip))) _ _ _
  unfold Try.f54 seq1 seq2
  simp only [Option.getD_some, Array.replicate_succ, Array.replicate_zero, List.push_toArray, List.append_toArray, List.nil_append, List.cons_append]
  go_wp2_with fail
  exact ⟨rfl, rfl, rfl⟩

theorem info80 : (Try.prog.info? 64).map (fun i => (i.zero, i.size, i.bytes)) = some (some .nilFunc, 1, 8) := by kernel_rfl
theorem mk78 (n : Nat) (hn : n ≤ 8) (w : World) :
    (Instr.makeSlice 121 (.int .i64 (n : Int)) (.int .i64 (n : Int))).run Try.prog w = .ok (.slice (some ⟨w.heap.size, 0, none⟩) n n) (w.alloc (.cells (madeCells #[.nilFunc] n) 64)) := by
  obtain ⟨i, hq, hz, hs, hb⟩ := info_parts info80
  have := run_make (P := Try.prog) w 121 64 i _ Try.underlying121 hq hz .i64 .i64 (n : Int) (n : Int) (by omega) (by omega) (by rw [hb]; omega) (by omega)
  rw [hs] at this
  rw [this]
  simp [Value.cells]

set_option maxHeartbeats 2000000 in
set_option maxRecDepth 100000 in
theorem a200_wp (v : World) (wb n : Nat) (p : Option Addr) (cap : Nat) (fx : Nat) :
    a200.wp Try.prog (fun e a w' => e = .normal ∧ a = { tmps := #[Pt wb 0, .slice p n cap, .func (.func 0) #[] #[Pt fx 0], undef, undef, Pt v.heap.size 0, .slice none 0 0] ++ Array.replicate 32 undef, defers := [] } ∧ w'.heap = v.heap.push (.cells #[.func (.func 0) #[] #[Pt fx 0]] 87) ∧ w'.os = v.os ∧ w'.output = v.output)
      { tmps := #[Pt wb 0, .slice p n cap, .func (.func 0) #[] #[Pt fx 0]] ++ Array.replicate 36 undef, defers := [] } v := by
  show Code.wp Try.prog (seq1 (Try.f54.body.getD .skip)) _ _ _
  unfold Try.f54 seq1
  simp only [Option.getD_some, Array.replicate_succ, Array.replicate_zero, List.push_toArray, List.append_toArray, List.nil_append, List.cons_append]
  go_wp2_with fail
  exact ⟨rfl, rfl, rfl⟩

set_option maxHeartbeats 2000000 in
set_option maxRecDepth 100000 in
theorem a202_wp (v : World) (wb p2 p3 rr n : Nat) (p : Option Addr) (cap : Nat) (F : Value) (hn : n ≤ 8) :
    a202.wp Try.prog (fun e a w' => e = .normal ∧ a = { tmps := #[Pt wb 0, .slice p n cap, F, undef, undef, Pt p2 0, .slice none 0 0, Pt p3 0, .slice (some ⟨v.heap.size, 0, none⟩) n n, undef, undef, .slice p n cap, I n, .slice (some ⟨rr, 0, none⟩) n n, .slice p n cap, I n, .slice (some ⟨v.heap.size, 0, none⟩) n n] ++ Array.replicate 22 undef, defers := [] } ∧ w'.heap = v.heap.push (.cells (madeCells #[.nilFunc] n) 64) ∧ w'.os = v.os ∧ w'.output = v.output)
      { tmps := #[Pt wb 0, .slice p n cap, F, undef, undef, Pt p2 0, .slice none 0 0, Pt p3 0, undef, undef, undef, .slice p n cap, I n, .slice (some ⟨rr, 0, none⟩) n n] ++ Array.replicate 25 undef, defers := [] } v := by
  have hmk := mk78 n hn
  show Code.wp Try.prog (seq1 (seq2 (seq2 (Try.f54.body.getD .skip)))) _ _ _
  unfold Try.f54 seq1 seq2
  simp only [Option.getD_some, Array.replicate_succ, Array.replicate_zero, List.push_toArray, List.append_toArray, List.nil_append, List.cons_append]
  go_wp2_with fail
  exact ⟨rfl, rfl, rfl⟩

/-- How far the loop has come. -/
structure Laid (v : World) (n p2 p3 rr bb : Nat) (pc : Nat → Option Addr) (ln cp : Nat → Nat) (k : Nat) (u : World) : Prop where
  size : u.heap.size = v.heap.size + 3 * k
  rrow : u.rowIs rr 40 n (fun j => if j < k then .slice (some ⟨v.heap.size + 3 * j + 2, 0, none⟩) (ln j) (ln j) else .slice none 0 0)
  brow : u.rowIs bb 64 n (fun j => if j < k then .func (.func 84) #[] #[Pt (v.heap.size + 3 * j + 1) 0, Pt p2 0, Pt p3 0, Pt (v.heap.size + 3 * j) 0] else .nilFunc)
  blk : ∀ j, j < k → u.heap[v.heap.size + 3 * j]? = some (.cells #[I j] 3) ∧ u.heap[v.heap.size + 3 * j + 1]? = some (.cells #[.slice (pc j) (ln j) (cp j)] 37) ∧ u.heap[v.heap.size + 3 * j + 2]? = some (.cells (madeCells #[I 0, I 0] (ln j * 2)) 42)
  old : ∀ b, b < v.heap.size → b ≠ rr → b ≠ bb → u.heap[b]? = v.heap[b]?
  os : u.os = v.os
  out : u.output = v.output

/-- One script more. -/
theorem laid_next {v wr W U : World} {n p2 p3 rr bb k : Nat} {pc : Nat → Option Addr} {ln cp : Nat → Nat} (h : Laid v n p2 p3 rr bb pc ln cp k wr) (hk : k < n) (hne : rr ≠ bb) (hW : W.heap = (wr.heap.push (.cells #[I k] 3)).push (.cells #[.slice (pc k) (ln k) (cp k)] 37)) (ho : W.os = wr.os) (hu : W.output = wr.output)
    (hU : U.heap = ((((W.alloc (.cells (madeCells #[I 0, I 0] (ln k * 2)) 42)).setCell ⟨rr, k, none⟩ (.slice (some ⟨W.heap.size, 0, none⟩) (ln k) (ln k)))).setCell ⟨bb, k, none⟩ (.func (.func 84) #[] #[Pt (wr.heap.size + 1) 0, Pt p2 0, Pt p3 0, Pt wr.heap.size 0])).heap) (hUo : U.os = W.os) (hUu : U.output = W.output) : Laid v n p2 p3 rr bb pc ln cp (k + 1) U := by
  have hs := h.size
  have lr := h.rrow.lt
  have lb := h.brow.lt
  have hWs : W.heap.size = wr.heap.size + 2 := by rw [hW]; simp
  have hold : ∀ b, b < wr.heap.size → W.heap[b]? = wr.heap[b]? := fun b hb => by rw [hW, Array.getElem?_push, if_neg (by simp; omega), Array.getElem?_push, if_neg (by omega)]
  have hA : ∀ b, b < W.heap.size → (W.alloc (.cells (madeCells #[I 0, I 0] (ln k * 2)) 42)).heap[b]? = W.heap[b]? := fun b hb => by
    show (W.heap.push _)[b]? = _
    rw [Array.getElem?_push, if_neg (by omega)]
  have hUb : ∀ b, b ≠ rr → b ≠ bb → U.heap[b]? = (W.alloc (.cells (madeCells #[I 0, I 0] (ln k * 2)) 42)).heap[b]? := fun b h1 h2 => by rw [hU, Below.heap_setCell _ _ _ _ h2, Below.heap_setCell _ _ _ _ h1]
  refine ⟨?_, ?_, ?_, fun j hj => ?_, fun b hb h1 h2 => ?_, hUo.trans (ho.trans h.os), hUu.trans (hu.trans h.out)⟩
  · rw [hU]
    show ((((W.alloc (.cells (madeCells #[I 0, I 0] (ln k * 2)) 42)).setCell _ _).setCell _ _).heap).size = _
    simp only [World.setCell, Array.size_modify]
    show (W.heap.push _).size = _
    rw [Array.size_push]; omega
  · have r1 := ((h.rrow.of_block (w' := (W.alloc (.cells (madeCells #[I 0, I 0] (ln k * 2)) 42))) (by rw [hA rr (by omega), hold rr lr])).set k (.slice (some ⟨W.heap.size, 0, none⟩) (ln k) (ln k))).setOther (a := ⟨bb, k, none⟩) hne (.func (.func 84) #[] #[Pt (wr.heap.size + 1) 0, Pt p2 0, Pt p3 0, Pt wr.heap.size 0])
    refine (r1.of_block (by rw [hU])).congr fun i hi => ?_
    by_cases e : i = k
    · subst e
      rw [if_pos rfl, if_pos (by omega), show v.heap.size + 3 * i + 2 = W.heap.size by omega]
    · rw [if_neg e]
      by_cases hlt : i < k
      · rw [if_pos hlt, if_pos (by omega)]
      · rw [if_neg hlt, if_neg (by omega)]
  · have r1 := ((h.brow.of_block (w' := (W.alloc (.cells (madeCells #[I 0, I 0] (ln k * 2)) 42))) (by rw [hA bb (by omega), hold bb lb])).setOther (a := ⟨rr, k, none⟩) (Ne.symm hne) (.slice (some ⟨W.heap.size, 0, none⟩) (ln k) (ln k))).set k (.func (.func 84) #[] #[Pt (wr.heap.size + 1) 0, Pt p2 0, Pt p3 0, Pt wr.heap.size 0])
    refine (r1.of_block (by rw [hU])).congr fun i hi => ?_
    by_cases e : i = k
    · subst e
      rw [if_pos rfl, if_pos (by omega), hs]
    · rw [if_neg e]
      by_cases hlt : i < k
      · rw [if_pos hlt, if_pos (by omega)]
      · rw [if_neg hlt, if_neg (by omega)]
  · by_cases e : j = k
    · subst e
      rw [← hs]
      refine ⟨?_, ?_, ?_⟩
      · rw [hUb _ (by omega) (by omega), hA _ (by omega), hW, Array.getElem?_push, if_neg (by simp), Array.getElem?_push, if_pos rfl]
      · rw [hUb _ (by omega) (by omega), hA _ (by omega), hW, Array.getElem?_push, if_pos (by simp)]
      · rw [hUb _ (by omega) (by omega)]
        show (W.heap.push _)[wr.heap.size + 2]? = _
        rw [← hWs]
        exact Array.getElem?_push_size
    · have hj' : j < k := by omega
      obtain ⟨q1, q2, q3⟩ := h.blk j hj'
      have hne1 : ∀ b x, wr.heap[b]? = some x → (∃ c, x = .cells c 3 (0, 0)) ∨ (∃ c, x = .cells c 37 (0, 0)) ∨ (∃ c, x = .cells c 42 (0, 0)) → b ≠ rr ∧ b ≠ bb := fun b x hb hx => by
        obtain ⟨c1, r1, _⟩ := h.rrow
        obtain ⟨c2, r2, _⟩ := h.brow
        refine ⟨fun e => ?_, fun e => ?_⟩ <;> subst e
        · rw [r1] at hb; cases hb; rcases hx with ⟨c, hx⟩ | ⟨c, hx⟩ | ⟨c, hx⟩ <;> cases hx
        · rw [r2] at hb; cases hb; rcases hx with ⟨c, hx⟩ | ⟨c, hx⟩ | ⟨c, hx⟩ <;> cases hx
      have n1 := hne1 _ _ q1 (.inl ⟨_, rfl⟩)
      have n2 := hne1 _ _ q2 (.inr (.inl ⟨_, rfl⟩))
      have n3 := hne1 _ _ q3 (.inr (.inr ⟨_, rfl⟩))
      refine ⟨?_, ?_, ?_⟩
      · rw [hUb _ n1.1 n1.2, hA _ (by omega), hold _ (by omega)]; exact q1
      · rw [hUb _ n2.1 n2.2, hA _ (by omega), hold _ (by omega)]; exact q2
      · rw [hUb _ n3.1 n3.2, hA _ (by omega), hold _ (by omega)]; exact q3
  · rw [hUb b h1 h2, hA b (by omega), hold b (by omega)]
    exact h.old b hb h1 h2

set_option maxHeartbeats 4000000 in
set_option maxRecDepth 100000 in
theorem a203_wp (v : World) (wb p2 p3 rr bb sb so n : Nat) (cap : Nat) (F : Value) (hn : n ≤ 8) (pc : Nat → Option Addr) (ln cp : Nat → Nat) (hln : ∀ k, k < n → ln k ≤ 64) (hs : ∀ k, k < n → v.cell? ⟨sb, so + k, none⟩ = some (.slice (pc k) (ln k) (cp k)))
    (hrr : v.rowIs rr 40 n (fun _ => .slice none 0 0)) (hbb : v.rowIs bb 64 n (fun _ => .nilFunc)) (h3 : v.cell? ⟨p3, 0, none⟩ = some (.slice (some ⟨rr, 0, none⟩) n n)) (hne : rr ≠ bb ∧ rr ≠ sb ∧ bb ≠ sb ∧ p3 ≠ rr ∧ p3 ≠ bb) :
    a203.wp Try.prog (fun e a w' => e = .normal ∧ (∃ u : Nat → Value, a = { tmps := #[Pt wb 0, .slice (some ⟨sb, so, none⟩) n cap, F, undef, undef, Pt p2 0, .slice none 0 0, Pt p3 0, .slice (some ⟨bb, 0, none⟩) n n, u 9, u 10, u 11, u 12, u 13, u 14, u 15, u 16, u 17, u 18, u 19, u 20, u 21, u 22, u 23, u 24, u 25, u 26, u 27, u 28, u 29, u 30, u 31, u 32, u 33, u 34, u 35, u 36, u 37, u 38], defers := [] }) ∧ Laid v n p2 p3 rr bb pc ln cp n w')
      { tmps := #[Pt wb 0, .slice (some ⟨sb, so, none⟩) n cap, F, undef, undef, Pt p2 0, .slice none 0 0, Pt p3 0, .slice (some ⟨bb, 0, none⟩) n n, undef, undef, .slice (some ⟨sb, so, none⟩) n cap, I n, .slice (some ⟨rr, 0, none⟩) n n, .slice (some ⟨sb, so, none⟩) n cap, I n, .slice (some ⟨bb, 0, none⟩) n n] ++ Array.replicate 22 undef, defers := [] } v := by
  show Code.wp Try.prog (seq1 (seq2 (seq2 (seq2 (Try.f54.body.getD .skip))))) _ _ _
  unfold Try.f54 seq1 seq2
  simp only [Option.getD_some, Array.replicate_succ, Array.replicate_zero, List.push_toArray, List.append_toArray, List.nil_append, List.cons_append]
  have HS : Hid (∀ k, k < n → v.cell? ⟨sb, so + k, none⟩ = some (.slice (pc k) (ln k) (cp k))) := ⟨hs⟩
  have HLn : Hid (∀ k, k < n → ln k ≤ 64) := ⟨hln⟩
  have H0 : Hid (Laid v n p2 p3 rr bb pc ln cp 0 v) := ⟨⟨rfl, hrr.congr fun i _ => by simp, hbb.congr fun i _ => by simp, fun j hj => by omega, fun _ _ _ _ => rfl, rfl, rfl⟩⟩
  have H3 : Hid (v.cell? ⟨p3, 0, none⟩ = some (.slice (some ⟨rr, 0, none⟩) n n)) := ⟨h3⟩
  clear hs hln hrr hbb h3
  go_wp2_with fail
  go_loopw [19] (fun i u => ∃ k : Nat, k ≤ n ∧ i = .int .i64 k ∧ Laid v n p2 p3 rr bb pc ln cp k u) (fun i _ => n - (intOf i).toNat)
  case atStart => exact ⟨0, Nat.zero_le _, rfl, H0.out⟩
  case round =>
    obtain ⟨k, hk, rfl, hL⟩ := hrel
    have HL : Hid (Laid v n p2 p3 rr bb pc ln cp k wr) := ⟨hL⟩
    by_cases hlt : k < n
    · have hsk : wr.cell? ⟨sb, so + k, none⟩ = some (.slice (pc k) (ln k) (cp k)) := by
        have := HS.out k hlt
        rw [World.cell?_of_block (hL.old sb (World.block_lt_of_cell? _ _ this) (Ne.symm hne.2.1) (Ne.symm hne.2.2.1))]
        exact this
      have h3k : wr.cell? ⟨p3, 0, none⟩ = some (.slice (some ⟨rr, 0, none⟩) n n) := by
        rw [World.cell?_of_block (hL.old p3 (World.block_lt_of_cell? _ _ H3.out) hne.2.2.2.1 hne.2.2.2.2)]
        exact H3.out
      have hmk := mk40 (ln k) (HLn.out k hlt)
      have hlt' : (k : Int) < (n : Int) := by omega
      have r0 : wr.cell? ⟨rr, k, none⟩ = some (.slice none 0 0) := by rw [hL.rrow.cell hlt]; simp
      have r1 : wr.frozen? ⟨rr, k, none⟩ = false := hL.rrow.frozen k
      have b0 : wr.cell? ⟨bb, k, none⟩ = some .nilFunc := by rw [hL.brow.cell hlt]; simp
      have b1 : wr.frozen? ⟨bb, k, none⟩ = false := hL.brow.frozen k
      have lr := hL.rrow.lt
      have lb := hL.brow.lt
      have l3 : p3 < wr.heap.size := World.block_lt_of_cell? _ _ h3k
      have HW : Hid ((fun W : World => W.heap = (wr.heap.push (.cells #[I k] 3)).push (.cells #[.slice (pc k) (ln k) (cp k)] 37) ∧ W.os = wr.os ∧ W.output = wr.output ∧ W.cell? ⟨p3, 0, none⟩ = some (.slice (some ⟨rr, 0, none⟩) n n) ∧ W.cell? ⟨wr.heap.size, 0, none⟩ = some (I k) ∧ W.cell? ⟨wr.heap.size + 1, 0, none⟩ = some (.slice (pc k) (ln k) (cp k)) ∧ W.cell? ⟨rr, k, none⟩ = some (.slice none 0 0) ∧ W.frozen? ⟨rr, k, none⟩ = false ∧ W.cell? ⟨bb, k, none⟩ = some .nilFunc ∧ W.frozen? ⟨bb, k, none⟩ = false ∧ W.heap.size = wr.heap.size + 2) ((wr.alloc (.cells #[I k] 3)).alloc (.cells #[.slice (pc k) (ln k) (cp k)] 37))) := ⟨by
        have ho : ∀ b, b < wr.heap.size → ((wr.alloc (.cells #[I k] 3)).alloc (.cells #[.slice (pc k) (ln k) (cp k)] 37)).heap[b]? = wr.heap[b]? := fun b hb => by
          show ((wr.heap.push _).push _)[b]? = _
          rw [Array.getElem?_push, if_neg (by simp; omega), Array.getElem?_push, if_neg (by omega)]
        have hN : ((wr.alloc (.cells #[I k] 3)).alloc (.cells #[.slice (pc k) (ln k) (cp k)] 37)).heap[wr.heap.size]? = some (.cells #[I k] 3) := by
          show ((wr.heap.push _).push _)[wr.heap.size]? = _
          rw [Array.getElem?_push, if_neg (by simp), Array.getElem?_push, if_pos rfl]
        have hN1 : ((wr.alloc (.cells #[I k] 3)).alloc (.cells #[.slice (pc k) (ln k) (cp k)] 37)).heap[wr.heap.size + 1]? = some (.cells #[.slice (pc k) (ln k) (cp k)] 37) := by
          show ((wr.heap.push _).push _)[wr.heap.size + 1]? = _
          rw [Array.getElem?_push, if_pos (by simp)]
        refine ⟨rfl, rfl, rfl, ?_, by unfold World.cell?; rw [hN]; rfl, by unfold World.cell?; rw [hN1]; rfl, ?_, ?_, ?_, ?_, by show ((wr.heap.push _).push _).size = _; simp⟩
        · rw [World.cell?_of_block (ho p3 l3)]; exact h3k
        · rw [World.cell?_of_block (ho rr lr)]; exact r0
        · rw [World.frozen?_of_block (ho rr lr)]; exact r1
        · rw [World.cell?_of_block (ho bb lb)]; exact b0
        · rw [World.frozen?_of_block (ho bb lb)]; exact b1⟩
      have e9 : rr ≠ bb := hne.1
      have e10 : bb ≠ rr := fun e => hne.1 e.symm
      have Hl : Hid (rr < wr.heap.size ∧ bb < wr.heap.size ∧ p3 < wr.heap.size) := ⟨⟨lr, lb, l3⟩⟩
      clear hL lr lb l3 r0 r1 b0 b1 h3k
      go_wp2_with fail
      refine (show ∀ W : World, (W.heap = (wr.heap.push (.cells #[I k] 3)).push (.cells #[.slice (pc k) (ln k) (cp k)] 37) ∧ W.os = wr.os ∧ W.output = wr.output ∧ W.cell? ⟨p3, 0, none⟩ = some (.slice (some ⟨rr, 0, none⟩) n n) ∧ W.cell? ⟨wr.heap.size, 0, none⟩ = some (I k) ∧ W.cell? ⟨wr.heap.size + 1, 0, none⟩ = some (.slice (pc k) (ln k) (cp k)) ∧ W.cell? ⟨rr, k, none⟩ = some (.slice none 0 0) ∧ W.frozen? ⟨rr, k, none⟩ = false ∧ W.cell? ⟨bb, k, none⟩ = some .nilFunc ∧ W.frozen? ⟨bb, k, none⟩ = false ∧ W.heap.size = wr.heap.size + 2) → Code.wp Try.prog _ _ _ W from fun W hW => ?_) _ HW.out
      clear hsk
      obtain ⟨hWh, hWo, hWu, g3, g0, g1, gr, gf, gb, gbf, hWs⟩ := hW
      have HH : Hid (W.heap = (wr.heap.push (.cells #[I k] 3)).push (.cells #[.slice (pc k) (ln k) (cp k)] 37) ∧ W.os = wr.os ∧ W.output = wr.output ∧ W.heap.size = wr.heap.size + 2) := ⟨⟨hWh, hWo, hWu, hWs⟩⟩
      have x1 : p3 ≠ W.heap.size := by have := Hl.out; omega
      have x2 : rr ≠ W.heap.size := by have := Hl.out; omega
      have x3 : bb ≠ W.heap.size := by have := Hl.out; omega
      have x4 : wr.heap.size ≠ W.heap.size := by omega
      have x5 : wr.heap.size + 1 ≠ W.heap.size := by omega
      have hA : ∀ b, b < W.heap.size → (W.alloc (.cells (madeCells #[I 0, I 0] (ln k * 2)) 42)).heap[b]? = W.heap[b]? := fun b hb => by
        show (W.heap.push _)[b]? = _
        rw [Array.getElem?_push, if_neg (by omega)]
      have lA : p3 < W.heap.size ∧ rr < W.heap.size ∧ bb < W.heap.size := by have := Hl.out; omega
      have a3 : (W.alloc (.cells (madeCells #[I 0, I 0] (ln k * 2)) 42)).cell? ⟨p3, 0, none⟩ = some (.slice (some ⟨rr, 0, none⟩) n n) := by rw [World.cell?_of_block (hA p3 lA.1)]; exact g3
      have a0 : (W.alloc (.cells (madeCells #[I 0, I 0] (ln k * 2)) 42)).cell? ⟨wr.heap.size, 0, none⟩ = some (I k) := by rw [World.cell?_of_block (hA wr.heap.size (by omega))]; exact g0
      have a1 : (W.alloc (.cells (madeCells #[I 0, I 0] (ln k * 2)) 42)).cell? ⟨wr.heap.size + 1, 0, none⟩ = some (.slice (pc k) (ln k) (cp k)) := by rw [World.cell?_of_block (hA (wr.heap.size + 1) (by omega))]; exact g1
      have ar : (W.alloc (.cells (madeCells #[I 0, I 0] (ln k * 2)) 42)).cell? ⟨rr, k, none⟩ = some (.slice none 0 0) := by rw [World.cell?_of_block (hA rr lA.2.1)]; exact gr
      have af : (W.alloc (.cells (madeCells #[I 0, I 0] (ln k * 2)) 42)).frozen? ⟨rr, k, none⟩ = false := by rw [World.frozen?_of_block (hA rr lA.2.1)]; exact gf
      have hZ : ∀ b, b < W.heap.size → b ≠ rr → ((W.alloc (.cells (madeCells #[I 0, I 0] (ln k * 2)) 42)).setCell ⟨rr, k, none⟩ (.slice (some ⟨W.heap.size, 0, none⟩) (ln k) (ln k))).heap[b]? = W.heap[b]? := fun b hb hb2 => by rw [Below.heap_setCell _ _ _ _ hb2, hA b hb]
      have z0 : ((W.alloc (.cells (madeCells #[I 0, I 0] (ln k * 2)) 42)).setCell ⟨rr, k, none⟩ (.slice (some ⟨W.heap.size, 0, none⟩) (ln k) (ln k))).cell? ⟨wr.heap.size, 0, none⟩ = some (I k) := by rw [World.cell?_of_block (hZ wr.heap.size (by omega) (by have := Hl.out; omega))]; exact g0
      have zb : ((W.alloc (.cells (madeCells #[I 0, I 0] (ln k * 2)) 42)).setCell ⟨rr, k, none⟩ (.slice (some ⟨W.heap.size, 0, none⟩) (ln k) (ln k))).cell? ⟨bb, k, none⟩ = some .nilFunc := by rw [World.cell?_of_block (hZ bb lA.2.2 e10)]; exact gb
      have zf : ((W.alloc (.cells (madeCells #[I 0, I 0] (ln k * 2)) 42)).setCell ⟨rr, k, none⟩ (.slice (some ⟨W.heap.size, 0, none⟩) (ln k) (ln k))).frozen? ⟨bb, k, none⟩ = false := by rw [World.frozen?_of_block (hZ bb lA.2.2 e10)]; exact gbf
      have hst : (store ⟨bb, k, none⟩ (.func (.func 84) #[] #[Pt (wr.heap.size + 1) 0, Pt p2 0, Pt p3 0, Pt wr.heap.size 0])).run Try.prog ((W.alloc (.cells (madeCells #[I 0, I 0] (ln k * 2)) 42)).setCell ⟨rr, k, none⟩ (.slice (some ⟨W.heap.size, 0, none⟩) (ln k) (ln k))).drew = .ok () (((W.alloc (.cells (madeCells #[I 0, I 0] (ln k * 2)) 42)).setCell ⟨rr, k, none⟩ (.slice (some ⟨W.heap.size, 0, none⟩) (ln k) (ln k))).setCell ⟨bb, k, none⟩ (.func (.func 84) #[] #[Pt (wr.heap.size + 1) 0, Pt p2 0, Pt p3 0, Pt wr.heap.size 0])).drew := by
        have zb' : ((W.alloc (.cells (madeCells #[I 0, I 0] (ln k * 2)) 42)).setCell ⟨rr, k, none⟩ (.slice (some ⟨W.heap.size, 0, none⟩) (ln k) (ln k))).drew.cell? ⟨bb, k, none⟩ = some .nilFunc := zb
        have zf' : ((W.alloc (.cells (madeCells #[I 0, I 0] (ln k * 2)) 42)).setCell ⟨rr, k, none⟩ (.slice (some ⟨W.heap.size, 0, none⟩) (ln k) (ln k))).drew.frozen? ⟨bb, k, none⟩ = false := zf
        show Sem.run Try.prog (Sem.store .plain _ _ (Sem.pure ())) _ = _
        simp only [Sem.run, zb', zf', Bool.false_eq_true, if_false]
        rfl
      clear hWh hWo hWu hWs hA lA hZ
      go_region
      go_wp2_with fail
      go_roundw
      case rel =>
        refine ⟨k + 1, by omega, by go_num, ?_⟩
        exact laid_next HL.out hlt e9 HH.out.1 HH.out.2.1 HH.out.2.2.1 rfl rfl rfl
      case measure => simp [intOf]; omega
    · have hkk : k = n := by omega
      subst hkk
      clear hL
      go_wp2_with fail
      exact ⟨⟨fun m => match m with | 9 => u9 | 10 => u10 | 11 => .slice (some ⟨sb, so, none⟩) k cap | 12 => I k | 13 => .slice (some ⟨rr, 0, none⟩) k k | 14 => .slice (some ⟨sb, so, none⟩) k cap | 15 => I k | 16 => .slice (some ⟨bb, 0, none⟩) k k | 17 => .slice (some ⟨sb, so, none⟩) k cap | 18 => I k | 19 => I k | 20 => .bool false | 21 => u21 | 22 => u22 | 23 => u23 | 24 => u24 | 25 => u25 | 26 => u26 | 27 => u27 | 28 => u28 | 29 => u29 | 30 => u30 | 31 => u31 | 32 => u32 | 33 => u33 | 34 => u34 | _ => undef, by simp⟩, HL.out⟩
end Go.Proofs.Ytfjjoohflcchnaa

namespace Go.Proofs.Ytfjjoohflcchnaa
open Go Go.Lift Go.Conc Go.RowKit

/-- What play.Run has laid: p2 at N, the answers' row at N + 1, its box at N + 2, the bodies' row at N + 3, then three blocks a script. -/
structure Set20 (v : World) (xb n : Nat) (pc : Nat → Option Addr) (ln cp : Nat → Nat) (u : World) : Prop where
  size : u.heap.size = v.heap.size + 4 + 3 * n
  p2 : u.heap[v.heap.size]? = some (.cells #[.func (.func 0) #[] #[Pt xb 0]] 87)
  rrow : u.rowIs (v.heap.size + 1) 40 n (fun j => .slice (some ⟨v.heap.size + 4 + 3 * j + 2, 0, none⟩) (ln j) (ln j))
  p3 : u.heap[v.heap.size + 2]? = some (.cells #[.slice (some ⟨v.heap.size + 1, 0, none⟩) n n] 27)
  brow : u.rowIs (v.heap.size + 3) 64 n (fun j => .func (.func 84) #[] #[Pt (v.heap.size + 4 + 3 * j + 1) 0, Pt v.heap.size 0, Pt (v.heap.size + 2) 0, Pt (v.heap.size + 4 + 3 * j) 0])
  blk : ∀ j, j < n → u.heap[v.heap.size + 4 + 3 * j]? = some (.cells #[I j] 3) ∧ u.heap[v.heap.size + 4 + 3 * j + 1]? = some (.cells #[.slice (pc j) (ln j) (cp j)] 37) ∧ u.heap[v.heap.size + 4 + 3 * j + 2]? = some (.cells (madeCells #[I 0, I 0] (ln j * 2)) 42)
  old : ∀ b, b < v.heap.size → u.heap[b]? = v.heap[b]?
  os : u.os = v.os
  out : u.output = v.output

noncomputable def R20 : Code := seq2 (seq2 (seq2 (seq2 B20)))
theorem eB20 : B20 = .seq a200 (.seq a201 (.seq a202 (.seq a203 R20))) := by kernel_rfl

set_option maxHeartbeats 2000000 in
set_option maxRecDepth 100000 in
theorem run20_in {Ch : Nat → Prop} {Stop : Goroutine → World → Prop} {main : Bool} {v w : World} (wb xb sb so n cap : Nat) (hn8 : n ≤ 8) (pc : Nat → Option Addr) (ln cp : Nat → Nat) (hln : ∀ k, k < n → ln k ≤ 64) (hs : ∀ k, k < n → v.cell? ⟨sb, so + k, none⟩ = some (.slice (pc k) (ln k) (cp k))) (cs : List Frame) {bc : Frame} {ac : Act} {ops : Array Oper} {q : Nat} {rest : List Nat} {oc : Oper} {k : List Item} (hoc : ops[q]? = some oc)
    (hsb : sb < v.heap.size) (hvw : Rel zn v w) (hn : NoRow Ch v)
    (hk : ∀ v' w' (bd : Frame) (ad : Act) (od : Array Oper) (qd : Nat) (rd : List Nat) (oe : Oper) (kd : List Item), Rel zn v' w' → NoRow Ch v' → Set20 v xb n pc ln cp v' → od[qd]? = some oe →
      (∀ (Ch : Nat → Prop) (Stop : Goroutine → World → Prop) (w : World) (x : Value), w.cell? ⟨v.heap.size + 2, 0, none⟩ = some x → (∀ d, GoesI Try.prog main (DT (ScZ zn) Ch) Stop (G (bc.at (ac.put oc.dst x) (.inRegion ops rest :: k)) cs) (w.at d)) → GoesI Try.prog main (DT (ScZ zn) Ch) Stop (G (bd.at (ad.put oe.dst (.tuple #[])) (.inRegion od rd :: kd)) (bc.at ac (.inRegion ops (q :: rest) :: k) :: cs)) w) →
      GoesI Try.prog main (DT (ScZ zn) Ch) Stop (G ((base 86).at { tmps := #[Pt wb 0, .slice (some ⟨v.heap.size + 3, 0, none⟩) n n] ++ Array.replicate 60 undef, defers := [] } [.code B35]) (bd.at ad (.inRegion od (qd :: rd) :: kd) :: bc.at ac (.inRegion ops (q :: rest) :: k) :: cs)) w') :
    GoesI Try.prog main (DT (ScZ zn) Ch) Stop (G ((base 54).at { tmps := #[Pt wb 0, .slice (some ⟨sb, so, none⟩) n cap, .func (.func 0) #[] #[Pt xb 0]] ++ Array.replicate 36 undef, defers := [] } [.code B20]) (bc.at ac (.inRegion ops (q :: rest) :: k) :: cs)) w := by
  rw [eB20]
  refine goesI_seq (dt_idle _ _) ?_
  refine goesI_plain (z := zn) (wr := true) (L := LT) (I := NoRow Ch) hE fineT noRow_keeps (fun v v' w w' es hi hr ho he => dt_of_z v v' w w' es hi hr ho he) hvw fine200 rfl (by simp [base]) hn
    (Q := fun a w' => a = { tmps := #[Pt wb 0, .slice (some ⟨sb, so, none⟩) n cap, .func (.func 0) #[] #[Pt xb 0], undef, undef, Pt v.heap.size 0, .slice none 0 0] ++ Array.replicate 32 undef, defers := [] } ∧ w'.heap = v.heap.push (.cells #[.func (.func 0) #[] #[Pt xb 0]] 87) ∧ w'.os = v.os ∧ w'.output = v.output) (fun τ => a200_wp (onTape v τ 0) wb n (some ⟨sb, so, none⟩) cap xb) ?_
  rintro a1 v1 w1 ⟨rfl, e1, o1, u1⟩ hr1 hn1 -
  have s1 : v1.heap.size = v.heap.size + 1 := by rw [e1]; simp
  refine goesI_seq (dt_idle _ _) ?_
  refine goesI_plain (z := zn) (wr := true) (L := LT) (I := NoRow Ch) hE fineT noRow_keeps (fun v v' w w' es hi hr ho he => dt_of_z v v' w w' es hi hr ho he) hr1 fine201 rfl (by simp [base]) hn1
    (Q := fun a w' => a = { tmps := #[Pt wb 0, .slice (some ⟨sb, so, none⟩) n cap, .func (.func 0) #[] #[Pt xb 0], undef, undef, Pt v.heap.size 0, .slice none 0 0, Pt (v1.heap.size + 1) 0, undef, undef, undef, .slice (some ⟨sb, so, none⟩) n cap, I n, .slice (some ⟨v1.heap.size, 0, none⟩) n n] ++ Array.replicate 25 undef, defers := [] } ∧ w'.heap = (v1.heap.push (.cells (madeCells #[.slice none 0 0] n) 40)).push (.cells #[.slice (some ⟨v1.heap.size, 0, none⟩) n n] 27) ∧ w'.os = v1.os ∧ w'.output = v1.output) (fun τ => a201_wp (onTape v1 τ 0) wb v.heap.size n (some ⟨sb, so, none⟩) cap _ hn8) ?_
  rintro a2 v2 w2 ⟨rfl, e2, o2, u2⟩ hr2 hn2 -
  have s2 : v2.heap.size = v.heap.size + 3 := by rw [e2]; simp; omega
  refine goesI_seq (dt_idle _ _) ?_
  refine goesI_plain (z := zn) (wr := true) (L := LT) (I := NoRow Ch) hE fineT noRow_keeps (fun v v' w w' es hi hr ho he => dt_of_z v v' w w' es hi hr ho he) hr2 fine202 rfl (by simp [base]) hn2
    (Q := fun a w' => a = { tmps := #[Pt wb 0, .slice (some ⟨sb, so, none⟩) n cap, .func (.func 0) #[] #[Pt xb 0], undef, undef, Pt v.heap.size 0, .slice none 0 0, Pt (v1.heap.size + 1) 0, .slice (some ⟨v2.heap.size, 0, none⟩) n n, undef, undef, .slice (some ⟨sb, so, none⟩) n cap, I n, .slice (some ⟨v1.heap.size, 0, none⟩) n n, .slice (some ⟨sb, so, none⟩) n cap, I n, .slice (some ⟨v2.heap.size, 0, none⟩) n n] ++ Array.replicate 22 undef, defers := [] } ∧ w'.heap = v2.heap.push (.cells (madeCells #[.nilFunc] n) 64) ∧ w'.os = v2.os ∧ w'.output = v2.output) (fun τ => a202_wp (onTape v2 τ 0) wb v.heap.size (v1.heap.size + 1) v1.heap.size n (some ⟨sb, so, none⟩) cap _ hn8) ?_
  rintro a3 v3 w3 ⟨rfl, e3, o3, u3⟩ hr3 hn3 -
  have s3 : v3.heap.size = v.heap.size + 4 := by rw [e3]; simp; omega
  have k1 : ∀ b, b < v.heap.size → v1.heap[b]? = v.heap[b]? := fun b hb => by rw [e1, Array.getElem?_push, if_neg (by omega)]
  have k2 : ∀ b, b < v.heap.size + 1 → v2.heap[b]? = v1.heap[b]? := fun b hb => by rw [e2, Array.getElem?_push, if_neg (by simp; omega), Array.getElem?_push, if_neg (by omega)]
  have k3 : ∀ b, b < v.heap.size + 3 → v3.heap[b]? = v2.heap[b]? := fun b hb => by rw [e3, Array.getElem?_push, if_neg (by omega)]
  have f0 : v3.heap[v.heap.size]? = some (.cells #[.func (.func 0) #[] #[Pt xb 0]] 87) := by rw [k3 _ (by omega), k2 _ (by omega), e1]; exact Array.getElem?_push_size
  have f1 : v3.heap[v.heap.size + 1]? = some (.cells (madeCells #[.slice none 0 0] n) 40) := by rw [k3 _ (by omega), e2, Array.getElem?_push, if_neg (by simp; omega), Array.getElem?_push, if_pos (by omega)]
  have f2 : v3.heap[v.heap.size + 2]? = some (.cells #[.slice (some ⟨v.heap.size + 1, 0, none⟩) n n] 27) := by rw [k3 _ (by omega), e2, Array.getElem?_push, if_pos (by simp; omega), s1]
  have f3 : v3.heap[v.heap.size + 3]? = some (.cells (madeCells #[.nilFunc] n) 64) := by rw [e3, Array.getElem?_push, if_pos (by omega)]
  have ko : ∀ b, b < v.heap.size → v3.heap[b]? = v.heap[b]? := fun b hb => by rw [k3 b (by omega), k2 b (by omega), k1 b hb]
  refine goesI_seq (dt_idle _ _) ?_
  rw [s1, s2]
  refine goesI_plain (z := zn) (wr := true) (L := LT) (I := NoRow Ch) hE fineT noRow_keeps (fun v v' w w' es hi hr ho he => dt_of_z v v' w w' es hi hr ho he) hr3 fine203 rfl (by simp [base]) hn3
    (Q := fun a w' => (∃ u : Nat → Value, a = { tmps := #[Pt wb 0, .slice (some ⟨sb, so, none⟩) n cap, .func (.func 0) #[] #[Pt xb 0], undef, undef, Pt v.heap.size 0, .slice none 0 0, Pt (v.heap.size + 1 + 1) 0, .slice (some ⟨v.heap.size + 3, 0, none⟩) n n, u 9, u 10, u 11, u 12, u 13, u 14, u 15, u 16, u 17, u 18, u 19, u 20, u 21, u 22, u 23, u 24, u 25, u 26, u 27, u 28, u 29, u 30, u 31, u 32, u 33, u 34, u 35, u 36, u 37, u 38], defers := [] }) ∧ Laid v3 n v.heap.size (v.heap.size + 1 + 1) (v.heap.size + 1) (v.heap.size + 3) pc ln cp n w') (fun τ => ?_) ?_
  · refine wp_mono (a203_wp (onTape v3 τ 0) wb v.heap.size (v.heap.size + 1 + 1) (v.heap.size + 1) (v.heap.size + 3) sb so n cap _ hn8 pc ln cp hln (fun k hk => ?_) ?_ ?_ ?_ ⟨by omega, by omega, by omega, by omega, by omega⟩) (fun e a w' hq => ⟨hq.1, hq.2.1, ?_⟩)
    · show v3.cell? _ = _
      rw [World.cell?_of_block (w := v) (w' := v3) (ko sb hsb)]
      exact hs k hk
    · exact ⟨_, f1, size_madeCells _ _, fun i hi => by simp [madeCells, hi, Nat.mod_one]⟩
    · exact ⟨_, f3, size_madeCells _ _, fun i hi => by simp [madeCells, hi, Nat.mod_one]⟩
    · show v3.cell? _ = _
      unfold World.cell?
      rw [show (⟨v.heap.size + 1 + 1, 0, none⟩ : Addr).block = v.heap.size + 2 from rfl, f2]
      rfl
    · have := hq.2.2
      exact ⟨this.size, this.rrow, this.brow, this.blk, this.old, this.os, this.out⟩
  rintro a4 v4 w4 ⟨⟨u, rfl⟩, hL⟩ hr4 hn4 -
  have hset : Set20 v xb n pc ln cp v4 := by
    refine ⟨by rw [hL.size, s3], by rw [hL.old _ (by omega) (by omega) (by omega)]; exact f0, hL.rrow.congr fun i hi => by rw [if_pos hi, s3], by rw [hL.old _ (by omega) (by omega) (by omega)]; exact f2, hL.brow.congr fun i hi => by rw [if_pos hi, s3], fun j hj => by have := hL.blk j hj; rw [s3] at this; exact this, fun b hb => by rw [hL.old b (by omega) (by omega) (by omega)]; exact ko b hb, by rw [hL.os, o3, o2, o1], by rw [hL.out, u3, u2, u1]⟩
  clear hL hr1 hr2 hr3 hn1 hn2 hn3 e1 e2 e3 o1 o2 o3 u1 u2 u3 k1 k2 k3 f0 f1 f2 f3 ko hvw hn hs hln s1 s2 s3
  unfold R20 B20 Try.f54 seq2
  simp only [Option.getD_some]
  refine goesI_seq (dt_idle _ _) ?_
  refine goesI_region (dt_idle _ _) ?_
  simp only [List.size_toArray, List.length_cons, List.length_nil, Nat.reduceAdd, Nat.zero_add, List.range, List.range.loop]
  iterate 2
    (refine goesI_oper rfl rfl (by decide) (fun d K hK => ?_)
     go_simp
     refine hK _ _ ⟨dt_reads (fun e he => ?_), GoesI.at ?_ d⟩
     · have hm := mem_listed he
       simp [go_sem, *] at hm
       try exact ⟨_, _, hm⟩
     clear hK K)
  refine goesI_into (f := 86) (fn := Try.f86) (args := #[Pt wb 0, .slice (some ⟨v.heap.size + 3, 0, none⟩) n n]) (dt_idle _ _) rfl rfl (by decide) rfl (by simp [Act.eval]) Try.func86 (by decide) rfl ?_
  refine hk v4 w4 _ _ _ _ _ _ _ hr4 hn4 hset rfl (fun Ch Stop w x hx hg => ?_)
  clear hk hset hr4 hn4
  refine goesI_regionEnd (dt_idle _ _) ?_
  refine goesI_seq (dt_idle _ _) ?_
  refine goesI_region (dt_idle _ _) ?_
  simp only [List.size_toArray, List.length_cons, List.length_nil, Nat.reduceAdd, Nat.zero_add, List.range, List.range.loop]
  have hx' : w.cell? ⟨v.heap.size + 1 + 1, 0, none⟩ = some x := hx
  iterate 2
    (refine goesI_oper rfl rfl (by decide) (fun d K hK => ?_)
     go_simp
     refine hK _ _ ⟨dt_reads (fun e he => ?_), GoesI.at ?_ d⟩
     · have hm := mem_listed he
       simp [go_sem, *] at hm
       try exact ⟨_, _, hm⟩
     clear hK K)
  refine goesI_regionEnd (dt_idle _ _) ?_
  refine GoesI.ctl rfl (fun _ => stepG_ret') (dt_idle _ _) ?_
  refine goesI_leave (b := base 54) (fn := Try.f54) (v := x) rfl rfl Try.func54 (fun w => ?_) (fun w => by simp [results, go_sem, Try.f54]) hoc (dt_idle _ _) ?_
  · rw [results_tmp (t := 6) rfl]
    simp
  · have := hg w.drawn
    exact this
end Go.Proofs.Ytfjjoohflcchnaa
