/- CellAdds returns true, whatever the schedule, the start and the numbers, and leaves what it was given as it was: of the law's statement as given, with no condition of our own. Part 28 of 34. (Joined, by program, of: Play8, Play8b, Play8c, Play8d.) -/
import Derived.Test.YtfjjoohflcchnaaCellAdds27
set_option linter.unusedSimpArgs false
set_option linter.unusedVariables false
namespace Go.Proofs.Ytfjjoohflcchnaa
open Go Go.Lift Go.Conc Go.RowKit

noncomputable def B8 : Code := Try.f19.body.getD .skip
noncomputable def p80 : Code := seq1 B8
noncomputable def p81 : Code := seq1 (seq2 B8)
noncomputable def p82 : Code := seq1 (seq2 (seq2 B8))
noncomputable def p83 : Code := seq1 (seq2 (seq2 (seq2 B8)))
noncomputable def p84 : Code := seq1 (seq2 (seq2 (seq2 (seq2 B8))))
noncomputable def R8 : Code := seq2 (seq2 (seq2 (seq2 (seq2 B8))))
theorem eB8 : B8 = .seq p80 (.seq p81 (.seq p82 (.seq p83 (.seq p84 R8)))) := by kernel_rfl
theorem fine80 : fineCode Try.prog true LO p80 := fineCode_ask callO extT (by kernel_rfl)
theorem fine81 : fineCode Try.prog true LO p81 := fineCode_ask callO extT (by kernel_rfl)
theorem fine82 : fineCode Try.prog true LO p82 := fineCode_ask callO extT (by kernel_rfl)
theorem fine83 : fineCode Try.prog true LO p83 := fineCode_ask callO extT (by kernel_rfl)
theorem fine84 : fineCode Try.prog true LO p84 := fineCode_ask callO extT (by kernel_rfl)

theorem info44 : (Try.prog.info? 44).map (fun i => (i.zero, i.size, i.bytes)) = some (some (.pointer none), 1, 8) := by kernel_rfl
theorem mk60 (n : Nat) (hn : n ≤ 17592186043904) (w : World) :
    (Instr.makeSlice 85 (.int .i64 (n : Int)) (.int .i64 (n : Int))).run Try.prog w = .ok (.slice (some ⟨w.heap.size, 0, none⟩) n n) (w.alloc (.cells (madeCells #[.pointer none] n) 44)) := by
  obtain ⟨i, hq, hz, hs, hb⟩ := info_parts info44
  have := run_make (P := Try.prog) w 85 44 i _ Try.underlying85 hq hz .i64 .i64 (n : Int) (n : Int) (by omega) (by omega) (by rw [hb]; omega) (by omega)
  rw [hs] at this
  rw [this]
  simp [Value.cells]

section
variable {S : TS} {v : World} {wb vb vo m vcap sb so n cap : Nat}

set_option maxHeartbeats 2000000 in
set_option maxRecDepth 100000 in
theorem p80_wp :
    p80.wp Try.prog (fun e a w' => e = .normal ∧ a = { tmps := #[Pt wb 0, .slice (some ⟨vb, vo, none⟩) m vcap, .slice (some ⟨sb, so, none⟩) n cap, undef, undef, undef, .slice none 0 0, I 0] ++ Array.replicate 34 undef, defers := [] } ∧ w'.heap = v.heap ∧ w'.os = v.os ∧ w'.output = v.output)
      { tmps := #[Pt wb 0, .slice (some ⟨vb, vo, none⟩) m vcap, .slice (some ⟨sb, so, none⟩) n cap] ++ Array.replicate 39 undef, defers := [] } v := by
  show Code.wp Try.prog (seq1 (Try.f19.body.getD .skip)) _ _ _
  unfold Try.f19 seq1
  simp only [Option.getD_some, Array.replicate_succ, Array.replicate_zero, List.push_toArray, List.append_toArray, List.nil_append, List.cons_append]
  go_wp2_with fail
  try exact ⟨rfl, rfl, rfl⟩

set_option maxHeartbeats 2000000 in
set_option maxRecDepth 100000 in
theorem p81_wp (h : Rep zn S v) (pc : Nat → Option Addr) (ln cp : Nat → Nat) (hs : ∀ k, k < n → v.cell? ⟨sb, so + k, none⟩ = some (.slice (pc k) (ln k) (cp k))) (hln : ∀ k, k < n → ln k ≤ 64) (hn : 0 < n ∧ n ≤ 8) (hr : S.ran = false) :
    p81.wp Try.prog (fun e a w' => e = .normal ∧ a = { tmps := #[Pt S.wb 0, .slice (some ⟨vb, vo, none⟩) m vcap, .slice (some ⟨sb, so, none⟩) n cap, undef, undef, undef, .slice none 0 0, I 0, I 0, undef, undef, undef, Pt S.wb 0, .slice (some ⟨sb, so, none⟩) n cap, I 0, I 0, .bool false] ++ Array.replicate 25 undef, defers := [] } ∧ w'.heap = v.heap ∧ w'.os = v.os ∧ w'.output = v.output)
      { tmps := #[Pt S.wb 0, .slice (some ⟨vb, vo, none⟩) m vcap, .slice (some ⟨sb, so, none⟩) n cap, undef, undef, undef, .slice none 0 0, I 0] ++ Array.replicate 34 undef, defers := [] } v := by
  have h19 := (body19 h (some ⟨sb, so, none⟩) n cap (by omega) pc ln cp (fun k hk => ⟨sb, so, rfl, hs k hk⟩)).calls Try.func53 rfl
  have he : checkE n S.ran = 0 := by unfold checkE; rw [if_neg (by rw [hr]; rintro (h | h | h) <;> first | omega | cases h)]
  have H19 : Hid (Calls Try.prog 53 #[Pt S.wb 0, .slice (some ⟨sb, so, none⟩) n cap] v (fun e w' => e = .returned (I 0) ∧ w' = v)) := ⟨h19.mono (by
    rintro e w' ⟨r, rfl, rfl, ⟨⟨k, hk, h1⟩, _⟩ | ⟨_, rfl⟩⟩
    · exact absurd (hln k hk) (by omega)
    · rw [he]; exact ⟨rfl, rfl⟩)⟩
  clear h19 h hs hln hn hr he
  show Code.wp Try.prog (seq1 (seq2 (Try.f19.body.getD .skip))) _ _ _
  unfold Try.f19 seq1 seq2
  simp only [Option.getD_some, Array.replicate_succ, Array.replicate_zero, List.push_toArray, List.append_toArray, List.nil_append, List.cons_append]
  go_wp2_with (first
    | (go_at_call 53; refine H19.out.mono ?_; rintro e w1 ⟨rfl, rfl⟩))
  try exact ⟨rfl, rfl, rfl⟩

set_option maxHeartbeats 2000000 in
set_option maxRecDepth 100000 in
theorem p82_wp (hm : 0 < m) :
    p82.wp Try.prog (fun e a w' => e = .normal ∧ a = { tmps := #[Pt wb 0, .slice (some ⟨vb, vo, none⟩) m vcap, .slice (some ⟨sb, so, none⟩) n cap, undef, undef, undef, .slice none 0 0, I 0, I 0, undef, undef, undef, Pt wb 0, .slice (some ⟨sb, so, none⟩) n cap, I 0, I 0, .bool false, undef, .slice (some ⟨vb, vo, none⟩) m vcap, I m, .bool false] ++ Array.replicate 21 undef, defers := [] } ∧ w'.heap = v.heap ∧ w'.os = v.os ∧ w'.output = v.output)
      { tmps := #[Pt wb 0, .slice (some ⟨vb, vo, none⟩) m vcap, .slice (some ⟨sb, so, none⟩) n cap, undef, undef, undef, .slice none 0 0, I 0, I 0, undef, undef, undef, Pt wb 0, .slice (some ⟨sb, so, none⟩) n cap, I 0, I 0, .bool false] ++ Array.replicate 25 undef, defers := [] } v := by
  have hm' : ((m : Int) == 0) = false := by simp; omega
  have hm2 : ¬ (m = 0) := by omega
  show Code.wp Try.prog (seq1 (seq2 (seq2 (Try.f19.body.getD .skip)))) _ _ _
  unfold Try.f19 seq1 seq2
  simp only [Option.getD_some, Array.replicate_succ, Array.replicate_zero, List.push_toArray, List.append_toArray, List.nil_append, List.cons_append]
  go_wp2_with fail
  try exact ⟨rfl, rfl, rfl⟩

set_option maxHeartbeats 2000000 in
set_option maxRecDepth 100000 in
theorem p83_wp (hm : m ≤ 17592186043904) :
    p83.wp Try.prog (fun e a w' => e = .normal ∧ a = { tmps := #[Pt wb 0, .slice (some ⟨vb, vo, none⟩) m vcap, .slice (some ⟨sb, so, none⟩) n cap, undef, undef, undef, .slice none 0 0, I 0, I 0, Pt (v.heap.size + 1) 0, undef, undef, Pt wb 0, .slice (some ⟨sb, so, none⟩) n cap, I 0, I 0, .bool false, undef, .slice (some ⟨vb, vo, none⟩) m vcap, I m, .bool false, .slice (some ⟨vb, vo, none⟩) m vcap, I m, .slice (some ⟨v.heap.size, 0, none⟩) m m] ++ Array.replicate 18 undef, defers := [] } ∧ w'.heap = (v.heap.push (.cells (madeCells #[.pointer none] m) 44)).push (.cells #[.slice (some ⟨v.heap.size, 0, none⟩) m m] 85) ∧ w'.os = v.os ∧ w'.output = v.output)
      { tmps := #[Pt wb 0, .slice (some ⟨vb, vo, none⟩) m vcap, .slice (some ⟨sb, so, none⟩) n cap, undef, undef, undef, .slice none 0 0, I 0, I 0, undef, undef, undef, Pt wb 0, .slice (some ⟨sb, so, none⟩) n cap, I 0, I 0, .bool false, undef, .slice (some ⟨vb, vo, none⟩) m vcap, I m, .bool false] ++ Array.replicate 21 undef, defers := [] } v := by
  have hmk := mk60 m hm
  show Code.wp Try.prog (seq1 (seq2 (seq2 (seq2 (Try.f19.body.getD .skip))))) _ _ _
  unfold Try.f19 seq1 seq2
  simp only [Option.getD_some, Array.replicate_succ, Array.replicate_zero, List.push_toArray, List.append_toArray, List.nil_append, List.cons_append]
  go_wp2_with fail
  exact ⟨rfl, rfl, rfl⟩
end
end Go.Proofs.Ytfjjoohflcchnaa

namespace Go.Proofs.Ytfjjoohflcchnaa
open Go Go.Lift Go.Conc Go.RowKit

theorem mem_stay {z : Nat → Option Nat} {S : TS} {K : List (Nat × Int)} {v v' : World} (h : Mem z S K v) (hs : v.heap.size ≤ v'.heap.size) (hst : ∀ b, Own S K b → v'.heap[b]? = v.heap[b]?) : Mem z S K v' := by
  have hits : ∀ k b, blk S k = some b → v'.heap[b]? = v.heap[b]? := fun k b hk => hst b (.inl ⟨k, hk⟩)
  exact ⟨⟨by rw [hits 0 S.wb rfl]; exact h.rep.wor, fun i t ht => by rw [hits (i + 5) t.tb (by simp [blk, ht])]; exact h.rep.thr i t ht, own_stay (fun b hb => hits 3 b hb) h.rep.own, own_stay (fun b hb => hits 1 b hb) h.rep.chg, own_stay (fun b hb => hits 2 b hb) h.rep.ths, own_stay (fun b hb => hits 4 b hb) h.rep.sch,
      Nat.le_trans h.rep.bs hs, h.rep.apart, h.rep.kept⟩, fun j c hc => by rw [hst c.1 (.inr ⟨j, c, hc, rfl⟩)]; exact h.cel j c hc, h.far, h.inj, h.len⟩

/-- The world with k cells. -/
def cellsS (S : TS) (cv : Value) (k : Nat) : TS := { S with cv := cv, chg := List.replicate k 0 }
/-- k cells are made. -/
structure Made (v : World) (S : TS) (xs : List Int) (N m k : Nat) (u : World) : Prop where
  at_ : ∃ (cv : Value) (K : List (Nat × Int)), Mem zn (cellsS S cv k) K u ∧ K.map (·.2) = xs.take k ∧ u.rowIs N 44 m (fun j => if j < k then Pt (K.getD j (0, 0)).1 0 else .pointer none) ∧ ∀ b, Own (cellsS S cv k) K b → Own S [] b ∨ v.heap.size ≤ b
  fr : Fr (fun b => Own S [] b ∨ b = N) v u

theorem made_next {v wr u w1 : World} {S : TS} {xs : List Int} {N m k cb : Nat} {x : Int} {cv cv' : Value} {K : List (Nat × Int)} (hN : N < v.heap.size) (hNo : ¬ Own S [] N) (hK : K.map (·.2) = xs.take k) (hrow : wr.rowIs N 44 m (fun j => if j < k then Pt (K.getD j (0, 0)).1 0 else .pointer none)) (hown : ∀ b, Own (cellsS S cv k) K b → Own S [] b ∨ v.heap.size ≤ b) (hfr : Fr (fun b => Own S [] b ∨ b = N) v wr) (hkl : K.length = k) (hk : k < m)
    (hx : xs[k]? = some x) (hm1 : Mem zn (celledS (cellsS S cv k) cv') (K ++ [(cb, x)]) w1) (hf1 : Fr (Own (cellsS S cv k) K) wr w1) (hn1 : ∀ b, Own (celledS (cellsS S cv k) cv') (K ++ [(cb, x)]) b → Own (cellsS S cv k) K b ∨ wr.heap.size ≤ b)
    (hu : u.heap = (w1.setCell ⟨N, k, none⟩ (Pt cb 0)).heap) (ho : u.os = w1.os) (hout : u.output = w1.output) : Made v S xs N m (k + 1) u := by
  have e : celledS (cellsS S cv k) cv' = cellsS S cv' (k + 1) := by
    unfold celledS cellsS
    simp only [List.replicate_succ']
  rw [e] at hm1 hn1
  have hsz : v.heap.size ≤ wr.heap.size := hfr.size
  have hown' : ∀ b, Own (cellsS S cv' (k + 1)) (K ++ [(cb, x)]) b → Own S [] b ∨ v.heap.size ≤ b := fun b hb => by
    rcases hn1 b hb with h | h
    · exact hown b h
    · exact .inr (by omega)
  have hNo1 : ¬ Own (cellsS S cv k) K N := fun h => (hown N h).elim hNo (fun h => by omega)
  have hNo2 : ¬ Own (cellsS S cv' (k + 1)) (K ++ [(cb, x)]) N := fun h => (hown' N h).elim hNo (fun h => by omega)
  have hs1 : u.heap.size = w1.heap.size := by rw [hu]; simp [World.setCell]
  have hst : ∀ b, b ≠ N → u.heap[b]? = w1.heap[b]? := fun b hb => by rw [hu]; exact Below.heap_setCell _ _ _ _ hb
  refine ⟨⟨cv', K ++ [(cb, x)], mem_stay hm1 (by omega) (fun b hb => hst b (fun e => hNo2 (e ▸ hb))), ?_, ?_, hown'⟩, ?_⟩
  · rw [List.map_append, hK, List.map_cons, List.map_nil]
    rw [List.take_add_one, hx]
    rfl
  · have h1 : w1.rowIs N 44 m (fun j => if j < k then Pt (K.getD j (0, 0)).1 0 else .pointer none) := hrow.of_block (hf1.block N (by omega) hNo1)
    have h2 := (h1.set k (Pt cb 0)).of_block (w' := u) (by rw [hu])
    refine h2.congr fun j hj => ?_
    by_cases e : j = k
    · subst e
      rw [if_pos rfl, if_pos (by omega)]
      simp [List.getD, hkl]
    · rw [if_neg e]
      by_cases hl : j < k
      · rw [if_pos hl, if_pos (by omega)]
        simp [List.getD, List.getElem?_append_left (show j < K.length by omega)]
      · rw [if_neg hl, if_neg (by omega)]
  · refine ⟨ho.trans (hf1.os.trans hfr.os), hout.trans (hf1.output.trans hfr.output), by have := hf1.size; omega, fun b hb hs => ?_⟩
    rw [hst b (fun e => hs (.inr e)), hf1.block b (by omega) (fun h => (hown b h).elim (fun h => hs (.inl h)) (fun h => by omega)), hfr.block b hb hs]

section
variable {S : TS} {v : World} {wb vb vo m vcap sb so n cap N : Nat}
set_option maxHeartbeats 4000000 in
set_option maxRecDepth 100000 in
theorem p84_wp (hm : Mem zn S [] v) (hch : S.chg = []) (xs : List Int) (hxl : xs.length = m) (hm1 : m ≤ 17592186043904) (hv : ∀ k x, xs[k]? = some x → v.cell? ⟨vb, vo + k, none⟩ = some (I x)) (hvo : ¬ Own S [] vb) (hvN : vb ≠ N) (hrow : v.rowIs N 44 m (fun _ => .pointer none)) (hbox : v.cell? ⟨N + 1, 0, none⟩ = some (.slice (some ⟨N, 0, none⟩) m m)) (hNo : ¬ Own S [] N ∧ ¬ Own S [] (N + 1)) :
    p84.wp Try.prog (fun e a w' => e = .normal ∧ (∃ u : Nat → Value, a = { tmps := #[Pt S.wb 0, .slice (some ⟨vb, vo, none⟩) m vcap, .slice (some ⟨sb, so, none⟩) n cap, undef, undef, undef, .slice none 0 0, I 0, I 0, Pt (N + 1) 0, u 10, u 11, Pt S.wb 0, .slice (some ⟨sb, so, none⟩) n cap, I 0, I 0, .bool false, undef, .slice (some ⟨vb, vo, none⟩) m vcap, I m, .bool false, .slice (some ⟨vb, vo, none⟩) m vcap, I m, .slice (some ⟨N, 0, none⟩) m m, u 24, u 25, u 26, u 27, u 28, u 29, u 30, u 31, u 32, u 33, u 34, u 35, u 36, u 37, undef, undef, undef, undef], defers := [] }) ∧ Made v S xs N m m w')
      { tmps := #[Pt S.wb 0, .slice (some ⟨vb, vo, none⟩) m vcap, .slice (some ⟨sb, so, none⟩) n cap, undef, undef, undef, .slice none 0 0, I 0, I 0, Pt (N + 1) 0, undef, undef, Pt S.wb 0, .slice (some ⟨sb, so, none⟩) n cap, I 0, I 0, .bool false, undef, .slice (some ⟨vb, vo, none⟩) m vcap, I m, .bool false, .slice (some ⟨vb, vo, none⟩) m vcap, I m, .slice (some ⟨N, 0, none⟩) m m] ++ Array.replicate 18 undef, defers := [] } v := by
  have H0 : Hid (Made v S xs N m 0 v) := ⟨⟨⟨S.cv, [], by
    have : cellsS S S.cv 0 = S := by unfold cellsS; rw [List.replicate_zero, ← hch]
    rw [this]
    exact ⟨hm, rfl, hrow.congr fun i _ => by simp, fun b hb => .inl hb⟩⟩, Fr.refl _ _⟩⟩
  have HV : Hid (∀ k x, xs[k]? = some x → v.cell? ⟨vb, vo + k, none⟩ = some (I x)) := ⟨hv⟩
  have HN : Hid (N < v.heap.size ∧ N + 1 < v.heap.size) := ⟨⟨hrow.lt, World.block_lt_of_cell? _ _ hbox⟩⟩
  have HB : Hid (v.cell? ⟨N + 1, 0, none⟩ = some (.slice (some ⟨N, 0, none⟩) m m)) := ⟨hbox⟩
  have HO : Hid (¬ Own S [] N ∧ ¬ Own S [] (N + 1) ∧ ¬ Own S [] vb ∧ vb ≠ N ∧ m ≤ 17592186043904 ∧ xs.length = m) := ⟨⟨hNo.1, hNo.2, hvo, hvN, hm1, hxl⟩⟩
  clear hm hv hrow hbox hNo hvo hvN hch hxl hm1
  show Code.wp Try.prog (seq1 (seq2 (seq2 (seq2 (seq2 (Try.f19.body.getD .skip)))))) _ _ _
  unfold Try.f19 seq1 seq2
  simp only [Option.getD_some, Array.replicate_succ, Array.replicate_zero, List.push_toArray, List.append_toArray, List.nil_append, List.cons_append]
  go_wp2_with fail
  go_loopw [26] (fun i u => ∃ k : Nat, k ≤ m ∧ i = .int .i64 k ∧ Made v S xs N m k u) (fun i _ => m - (intOf i).toNat)
  case atStart => exact ⟨0, Nat.zero_le _, rfl, H0.out⟩
  case round =>
    obtain ⟨k, hk, rfl, hL⟩ := hrel
    have HL : Hid (Made v S xs N m k wr) := ⟨hL⟩
    by_cases hlt : k < m
    · obtain ⟨cv, K, hmem, hK, hrow, hown⟩ := hL.at_
      have hfr := hL.fr
      obtain ⟨x, hx⟩ : ∃ x, xs[k]? = some x := ⟨_, List.getElem?_eq_getElem (by have := HO.out.2.2.2.2.2; omega)⟩
      have hvk : wr.cell? ⟨vb, vo + k, none⟩ = some (I x) := by
        have := HV.out k x hx
        rw [World.cell?_of_block (hfr.block vb (World.block_lt_of_cell? _ _ this) (fun h => h.elim HO.out.2.2.1 HO.out.2.2.2.1))]
        exact this
      have hbx : wr.cell? ⟨N + 1, 0, none⟩ = some (.slice (some ⟨N, 0, none⟩) m m) := by
        rw [World.cell?_of_block (hfr.block (N + 1) HN.out.2 (fun h => h.elim HO.out.2.1 (fun h => by omega)))]
        exact HB.out
      have hkl : K.length = k := by
        have := hmem.len
        simpa [cellsS] using this.symm
      have h10 := (body10 (hmem.grows (v' := wr.drew) ⟨Nat.le_refl _, fun _ _ => rfl, rfl, rfl⟩).mem x (by have := HO.out.2.2.2.2.1; simp [cellsS]; omega)).calls Try.func21 rfl
      have H10 : Hid (Calls Try.prog 21 #[Pt S.wb 0, I x] wr.drew (fun e w' => ∃ r, e = .returned r ∧ ∃ cb cv', r = Pt cb 0 ∧ w'.cell? ⟨N + 1, 0, none⟩ = some (.slice (some ⟨N, 0, none⟩) m m) ∧ (w'.cell? ⟨N, k, none⟩ = some (.pointer none) ∧ w'.frozen? ⟨N, k, none⟩ = false) ∧ Hid (∀ u, u.heap = (w'.setCell ⟨N, k, none⟩ (Pt cb 0)).heap → u.os = w'.os → u.output = w'.output → Made v S xs N m (k + 1) u))) := ⟨h10.mono (by
        rintro e w' ⟨r, rfl, cb, cv', rfl, hm1, hf1, hn1⟩
        have hwr : wr.drew.heap.size = wr.heap.size := rfl
        have hN2 := HN.out
        have hs := hfr.size
        have no : ∀ b, b < v.heap.size → ¬ Own S [] b → ¬ Own (cellsS S cv k) K b := fun b hb ho h => (hown b h).elim ho (fun h => by omega)
        refine ⟨_, rfl, cb, cv', rfl, ?_, ⟨?_, ?_⟩, ⟨fun u h1 h2 h3 => ?_⟩⟩
        · rw [World.cell?_of_block (w := wr.drew) (w' := w') (hf1.block (N + 1) (by omega) (no _ hN2.2 HO.out.2.1))]
          exact hbx
        · rw [World.cell?_of_block (w := wr.drew) (w' := w') (hf1.block N (by omega) (no _ hN2.1 HO.out.1))]
          have := hrow.cell hlt
          rw [if_neg (by omega)] at this
          exact this
        · rw [World.frozen?_of_block (w := wr.drew) (w' := w') (hf1.block N (by omega) (no _ hN2.1 HO.out.1))]
          exact hrow.frozen k
        · exact made_next hN2.1 HO.out.1 hK hrow hown hfr hkl hlt hx hm1 ⟨hf1.os, hf1.output, hf1.size, hf1.block⟩ hn1 h1 h2 h3)⟩
      clear h10 hmem hK hrow hown hfr hL hx hkl
      have hlt' : (k : Int) < (m : Int) := by omega
      have hNN : N + 1 ≠ N := by omega
      go_wp2_with fail
      go_region_held3 (fun u => u.cell? ⟨N + 1, 0, none⟩ = some (.slice (some ⟨N, 0, none⟩) m m))
        (first | (exact hcx) | (simp [go_sem, *]; done))
        (first
          | (go_at_call 21; refine H10.out.mono ?_; rintro e w5 ⟨_, rfl, cb, cv', rfl, hcx, ⟨hcn, hfn⟩, hnx⟩))
      clear H10 hvk hbx
      have hmb : m ≤ 17592186043904 := HO.out.2.2.2.2.1
      go_wp2_with fail
      go_roundw
      case rel => exact ⟨k + 1, by omega, by go_num, hnx.out _ rfl rfl rfl⟩
      case measure => simp [intOf]; omega
    · have hkk : k = m := by omega
      subst hkk
      clear hL
      go_wp2_with fail
      exact ⟨⟨fun m => match m with | 10 => u10 | 11 => u11 | 24 => .slice (some ⟨vb, vo, none⟩) k vcap | 25 => I k | 26 => I k | 27 => .bool false | 28 => u28 | 29 => u29 | 30 => u30 | 31 => u31 | 32 => u32 | 33 => u33 | 34 => u34 | 35 => u35 | 36 => u36 | 37 => u37 | _ => undef, by simp⟩, HL.out⟩
end
end Go.Proofs.Ytfjjoohflcchnaa

namespace Go.Proofs.Ytfjjoohflcchnaa
open Go Go.Lift Go.Conc Go.RowKit

/-- The cells are made: their row at N, its box at N + 1. -/
structure Set8 (v : World) (S : TS) (xs : List Int) (u : World) : Prop where
  made : ∃ v1, v1.heap = (v.heap.push (.cells (madeCells #[.pointer none] xs.length) 44)).push (.cells #[.slice (some ⟨v.heap.size, 0, none⟩) xs.length xs.length] 85) ∧ v1.os = v.os ∧ v1.output = v.output ∧ Made v1 S xs v.heap.size xs.length xs.length u

set_option maxHeartbeats 2000000 in
set_option maxRecDepth 100000 in
theorem play8_in {Ch : Nat → Prop} {Stop : Goroutine → World → Prop} {main : Bool} {S : TS} {v w : World} (vb vo vcap sb so n cap : Nat) (hn8 : 0 < n ∧ n ≤ 8) (hran : S.ran = false) (hch : S.chg = []) (pc : Nat → Option Addr) (ln cp : Nat → Nat) (hln : ∀ k, k < n → ln k ≤ 64) (hs : ∀ k, k < n → v.cell? ⟨sb, so + k, none⟩ = some (.slice (pc k) (ln k) (cp k)))
    (xs : List Int) (hx0 : 0 < xs.length) (hx1 : xs.length ≤ 17592186043904) (hv : ∀ k x, xs[k]? = some x → v.cell? ⟨vb, vo + k, none⟩ = some (I x)) (hvo : ¬ Own S [] vb) (hm : Mem zn S [] v) (cs : List Frame) {bc : Frame} {ac : Act} {ops : Array Oper} {q : Nat} {rest : List Nat} {oc : Oper} {k : List Item} (hoc : ops[q]? = some oc)
    (hvw : Rel zn v w) (hn : NoRow Ch v)
    (hk : ∀ v' w' (bd : Frame) (ad : Act) (od : Array Oper) (qd : Nat) (rd : List Nat) (oe : Oper) (kd : List Item), Rel zn v' w' → NoRow Ch v' → Set8 v S xs v' → od[qd]? = some oe →
      (∀ (Ch : Nat → Prop) (Stop : Goroutine → World → Prop) (w : World) (x : Value), (∀ d, GoesI Try.prog main (DT (ScZ zn) Ch) Stop (G (bc.at (ac.put oc.dst (.tuple #[x, I 0])) (.inRegion ops rest :: k)) cs) (w.at d)) → GoesI Try.prog main (DT (ScZ zn) Ch) Stop (G (bd.at (ad.put oe.dst x) (.inRegion od rd :: kd)) (bc.at ac (.inRegion ops (q :: rest) :: k) :: cs)) w) →
      GoesI Try.prog main (DT (ScZ zn) Ch) Stop (G ((base 54).at { tmps := #[Pt S.wb 0, .slice (some ⟨sb, so, none⟩) n cap, .func (.func 55) #[] #[Pt (v.heap.size + 1) 0]] ++ Array.replicate 36 undef, defers := [] } [.code B20]) (bd.at ad (.inRegion od (qd :: rd) :: kd) :: bc.at ac (.inRegion ops (q :: rest) :: k) :: cs)) w') :
    GoesI Try.prog main (DT (ScZ zn) Ch) Stop (G ((base 19).at { tmps := #[Pt S.wb 0, .slice (some ⟨vb, vo, none⟩) xs.length vcap, .slice (some ⟨sb, so, none⟩) n cap] ++ Array.replicate 39 undef, defers := [] } [.code B8]) (bc.at ac (.inRegion ops (q :: rest) :: k) :: cs)) w := by
  rw [eB8]
  refine goesI_seq (dt_idle _ _) ?_
  refine goesI_plain (z := zn) (wr := true) (L := LO) (I := NoRow Ch) hE fineO noRow_keeps (fun v v' w w' es hi hr ho he => dt_of_z v v' w w' es hi hr ho he) hvw fine80 rfl (by simp [base]) hn
    (Q := fun a w' => a = { tmps := #[Pt S.wb 0, .slice (some ⟨vb, vo, none⟩) xs.length vcap, .slice (some ⟨sb, so, none⟩) n cap, undef, undef, undef, .slice none 0 0, I 0] ++ Array.replicate 34 undef, defers := [] } ∧ w'.heap = v.heap ∧ w'.os = v.os ∧ w'.output = v.output) (fun τ => p80_wp (v := onTape v τ 0)) ?_
  rintro a0 v0 w0 ⟨rfl, e0, o0, u0⟩ hr0 hn0 -
  have m0 : Mem zn S [] v0 := (hm.grows (v' := v0) ⟨by rw [e0]; exact Nat.le_refl _, fun b _ => by rw [e0], o0, u0⟩).mem
  refine goesI_seq (dt_idle _ _) ?_
  refine goesI_plain (z := zn) (wr := true) (L := LO) (I := NoRow Ch) hE fineO noRow_keeps (fun v v' w w' es hi hr ho he => dt_of_z v v' w w' es hi hr ho he) hr0 fine81 rfl (by simp [base]) hn0
    (Q := fun a w' => a = { tmps := #[Pt S.wb 0, .slice (some ⟨vb, vo, none⟩) xs.length vcap, .slice (some ⟨sb, so, none⟩) n cap, undef, undef, undef, .slice none 0 0, I 0, I 0, undef, undef, undef, Pt S.wb 0, .slice (some ⟨sb, so, none⟩) n cap, I 0, I 0, .bool false] ++ Array.replicate 25 undef, defers := [] } ∧ w'.heap = v0.heap ∧ w'.os = v0.os ∧ w'.output = v0.output)
    (fun τ => p81_wp (v := onTape v0 τ 0) (m0.grows (v' := onTape v0 τ 0) ⟨Nat.le_refl _, fun _ _ => rfl, rfl, rfl⟩).mem.rep pc ln cp (fun k hk => by
      rw [World.cell?_of_block (w := v) (w' := onTape v0 τ 0) (by show v0.heap[_]? = _; rw [e0])]
      exact hs k hk) hln hn8 hran) ?_
  rintro a1 v1 w1 ⟨rfl, e1, o1, u1⟩ hr1 hn1 -
  refine goesI_seq (dt_idle _ _) ?_
  refine goesI_plain (z := zn) (wr := true) (L := LO) (I := NoRow Ch) hE fineO noRow_keeps (fun v v' w w' es hi hr ho he => dt_of_z v v' w w' es hi hr ho he) hr1 fine82 rfl (by simp [base]) hn1
    (Q := fun a w' => a = { tmps := #[Pt S.wb 0, .slice (some ⟨vb, vo, none⟩) xs.length vcap, .slice (some ⟨sb, so, none⟩) n cap, undef, undef, undef, .slice none 0 0, I 0, I 0, undef, undef, undef, Pt S.wb 0, .slice (some ⟨sb, so, none⟩) n cap, I 0, I 0, .bool false, undef, .slice (some ⟨vb, vo, none⟩) xs.length vcap, I xs.length, .bool false] ++ Array.replicate 21 undef, defers := [] } ∧ w'.heap = v1.heap ∧ w'.os = v1.os ∧ w'.output = v1.output) (fun τ => p82_wp (v := onTape v1 τ 0) hx0) ?_
  rintro a2 v2 w2 ⟨rfl, e2, o2, u2⟩ hr2 hn2 -
  have e20 : v2.heap = v.heap := e2.trans (e1.trans e0)
  refine goesI_seq (dt_idle _ _) ?_
  refine goesI_plain (z := zn) (wr := true) (L := LO) (I := NoRow Ch) hE fineO noRow_keeps (fun v v' w w' es hi hr ho he => dt_of_z v v' w w' es hi hr ho he) hr2 fine83 rfl (by simp [base]) hn2
    (Q := fun a w' => a = { tmps := #[Pt S.wb 0, .slice (some ⟨vb, vo, none⟩) xs.length vcap, .slice (some ⟨sb, so, none⟩) n cap, undef, undef, undef, .slice none 0 0, I 0, I 0, Pt (v2.heap.size + 1) 0, undef, undef, Pt S.wb 0, .slice (some ⟨sb, so, none⟩) n cap, I 0, I 0, .bool false, undef, .slice (some ⟨vb, vo, none⟩) xs.length vcap, I xs.length, .bool false, .slice (some ⟨vb, vo, none⟩) xs.length vcap, I xs.length, .slice (some ⟨v2.heap.size, 0, none⟩) xs.length xs.length] ++ Array.replicate 18 undef, defers := [] } ∧ w'.heap = (v2.heap.push (.cells (madeCells #[.pointer none] xs.length) 44)).push (.cells #[.slice (some ⟨v2.heap.size, 0, none⟩) xs.length xs.length] 85) ∧ w'.os = v2.os ∧ w'.output = v2.output) (fun τ => p83_wp (v := onTape v2 τ 0) hx1) ?_
  rintro a3 v3 w3 ⟨rfl, e3, o3, u3⟩ hr3 hn3 -
  rw [e20] at e3 ⊢
  have s3 : v3.heap.size = v.heap.size + 2 := by rw [e3]; simp
  have k3 : ∀ b, b < v.heap.size → v3.heap[b]? = v.heap[b]? := fun b hb => by rw [e3, Array.getElem?_push, if_neg (by simp; omega), Array.getElem?_push, if_neg (by omega)]
  have o30 : v3.os = v.os := o3.trans (o2.trans (o1.trans o0))
  have u30 : v3.output = v.output := u3.trans (u2.trans (u1.trans u0))
  have m3 : Mem zn S [] v3 := (hm.grows (v' := v3) ⟨by omega, k3, o30, u30⟩).mem
  have hlt : ∀ b, Own S [] b → b < v.heap.size := fun b hb => hm.lt hb
  have f0 : v3.heap[v.heap.size]? = some (.cells (madeCells #[.pointer none] xs.length) 44) := by rw [e3, Array.getElem?_push, if_neg (by simp), Array.getElem?_push, if_pos rfl]
  have f1 : v3.heap[v.heap.size + 1]? = some (.cells #[.slice (some ⟨v.heap.size, 0, none⟩) xs.length xs.length] 85) := by rw [e3, Array.getElem?_push, if_pos (by simp)]
  obtain ⟨x0, hx00⟩ : ∃ x, xs[0]? = some x := ⟨_, List.getElem?_eq_getElem hx0⟩
  have hvl : vb < v.heap.size := World.block_lt_of_cell? _ _ (hv 0 x0 hx00)
  refine goesI_seq (dt_idle _ _) ?_
  refine goesI_plain (z := zn) (wr := true) (L := LO) (I := NoRow Ch) hE fineO noRow_keeps (fun v v' w w' es hi hr ho he => dt_of_z v v' w w' es hi hr ho he) hr3 fine84 rfl (by simp [base]) hn3
    (Q := fun a w' => (∃ u : Nat → Value, a = { tmps := #[Pt S.wb 0, .slice (some ⟨vb, vo, none⟩) xs.length vcap, .slice (some ⟨sb, so, none⟩) n cap, undef, undef, undef, .slice none 0 0, I 0, I 0, Pt (v.heap.size + 1) 0, u 10, u 11, Pt S.wb 0, .slice (some ⟨sb, so, none⟩) n cap, I 0, I 0, .bool false, undef, .slice (some ⟨vb, vo, none⟩) xs.length vcap, I xs.length, .bool false, .slice (some ⟨vb, vo, none⟩) xs.length vcap, I xs.length, .slice (some ⟨v.heap.size, 0, none⟩) xs.length xs.length, u 24, u 25, u 26, u 27, u 28, u 29, u 30, u 31, u 32, u 33, u 34, u 35, u 36, u 37, undef, undef, undef, undef], defers := [] }) ∧ Made v3 S xs v.heap.size xs.length xs.length w') (fun τ => ?_) ?_
  · refine wp_mono (p84_wp (v := onTape v3 τ 0) (m3.grows (v' := onTape v3 τ 0) ⟨Nat.le_refl _, fun _ _ => rfl, rfl, rfl⟩).mem hch xs rfl hx1 (fun k x hk => ?_) hvo (by omega) ⟨_, f0, size_madeCells _ _, fun i hi => by simp [madeCells, hi, Nat.mod_one]⟩ ?_ ⟨fun h => by have := hlt _ h; omega, fun h => by have := hlt _ h; omega⟩) (fun e a w' hq => ⟨hq.1, hq.2.1, ?_⟩)
    · rw [World.cell?_of_block (w := v) (w' := onTape v3 τ 0) (k3 vb hvl)]
      exact hv k x hk
    · unfold World.cell?
      rw [show (onTape v3 τ 0).heap[v.heap.size + 1]? = _ from f1]
      rfl
    · exact ⟨hq.2.2.at_, ⟨hq.2.2.fr.os, hq.2.2.fr.output, hq.2.2.fr.size, hq.2.2.fr.block⟩⟩
  rintro a4 v4 w4 ⟨⟨u, rfl⟩, hL⟩ hr4 hn4 -
  have hset : Set8 v S xs v4 := ⟨v3, e3, o30, u30, hL⟩
  clear hL hr0 hr1 hr2 hr3 hn0 hn1 hn2 hn3 e0 e1 e2 e3 o0 o1 o2 o3 u0 u1 u2 u3 k3 f0 f1 hvw hn hs hln s3 m0 m3 hv o30 u30 e20 hlt hvl hx00 hm
  unfold R8 B8 Try.f19 seq2
  simp only [Option.getD_some]
  refine goesI_seq (dt_idle _ _) ?_
  refine goesI_region (dt_idle _ _) ?_
  simp only [List.size_toArray, List.length_cons, List.length_nil, Nat.reduceAdd, Nat.zero_add, List.range, List.range.loop]
  iterate 3
    (refine goesI_oper rfl rfl (by decide) (fun d K hK => ?_)
     go_simp
     refine hK _ _ ⟨dt_reads (fun e he => ?_), GoesI.at ?_ d⟩
     · have hm := mem_listed he
       simp [go_sem, *] at hm
       try exact ⟨_, _, hm⟩
     clear hK K)
  refine goesI_into (f := 54) (fn := Try.f54) (args := #[Pt S.wb 0, .slice (some ⟨sb, so, none⟩) n cap, .func (.func 55) #[] #[Pt (v.heap.size + 1) 0]]) (dt_idle _ _) rfl rfl (by decide) rfl (by simp [Act.eval]) Try.func54 (by decide) rfl ?_
  refine hk v4 w4 _ _ _ _ _ _ _ hr4 hn4 hset rfl (fun Ch Stop w x hg => ?_)
  clear hk hset hr4 hn4
  iterate 2
    (refine goesI_oper rfl rfl (by decide) (fun d K hK => ?_)
     go_simp
     refine hK _ _ ⟨dt_reads (fun e he => ?_), GoesI.at ?_ d⟩
     · have hm := mem_listed he
       simp [go_sem, *] at hm
       try exact ⟨_, _, hm⟩
     clear hK K)
  refine goesI_regionEnd (dt_idle _ _) ?_
  refine GoesI.ctl rfl (fun _ => stepG_ret') (dt_idle _ _) ?_
  refine goesI_leave (b := base 19) (fn := Try.f19) (v := .tuple #[x, I 0]) rfl rfl Try.func19 (fun w => ?_) (fun w => by simp [results, go_sem, Try.f19]) hoc (dt_idle _ _) ?_
  · rw [results_tmp2 (t := 6) (u := 7) rfl]
    simp
  · have := hg w.drawn
    exact this
end Go.Proofs.Ytfjjoohflcchnaa

namespace Go.Proofs.Ytfjjoohflcchnaa
open Go Go.Lift Go.Conc Go.RowKit

/-- The scripts lie there. -/
structure Asked (v : World) (S : TS) (n sb so : Nat) (pc : Nat → Option Addr) (ln cp rb : Nat → Nat) (cl : Nat → List Cl) : Prop where
  len : ∀ j, j < n → (cl j).length = ln j ∧ ln j ≤ 64
  row : ∀ k, k < n → v.cell? ⟨sb, so + k, none⟩ = some (.slice (pc k) (ln k) (cp k))
  far : ¬ Own S [] sb
  pq : ∀ j, j < n → 0 < ln j → pc j = some ⟨rb j, roOf (pc j), none⟩ ∧ ¬ Own S [] (rb j)
  call : ∀ j, j < n → ∀ (k : Nat) (c : Cl), (cl j)[k]? = some c → v.cell? ⟨rb j, roOf (pc j) + k * 4, none⟩ = some (I c.po) ∧ v.cell? ⟨rb j, roOf (pc j) + k * 4 + 1, none⟩ = some (I c.ca) ∧ v.cell? ⟨rb j, roOf (pc j) + k * 4 + 2, none⟩ = some (I c.cb) ∧ v.cell? ⟨rb j, roOf (pc j) + k * 4 + 3, none⟩ = some (I c.cc)
  ca : ∀ j, j < n → ∀ c ∈ cl j, -9223372036854775808 ≤ c.ca ∧ c.ca < 9223372036854775808

section
variable {v u : World} {S : TS} {n sb so : Nat} {pc : Nat → Option Addr} {ln cp rb : Nat → Nat} {cl : Nat → List Cl} {xs : List Int}

/-- What is known at play.Run's entry. -/
theorem at20 (hm : Mem zn S [] v) (hb : Open v S.bk) (t : Asked v S n sb so pc ln cp rb cl) (hx0 : 0 < xs.length) (hx1 : xs.length ≤ 17592186043904) (s : Set8 v S xs u) :
    ∃ (cv : Value) (K : List (Nat × Int)), Mem zn (cellsS S cv xs.length) K u ∧ K.map (·.2) = xs ∧ Open u S.bk ∧ Told u (cellsS S cv xs.length) K (v.heap.size + 1) v.heap.size xs.length n pc ln cp rb cl ∧ (∀ k, k < n → u.cell? ⟨sb, so + k, none⟩ = some (.slice (pc k) (ln k) (cp k))) ∧
      v.heap.size ≤ u.heap.size ∧ (∀ b, b < v.heap.size → ¬ Own S [] b → u.heap[b]? = v.heap[b]? ∧ ¬ Own (cellsS S cv xs.length) K b) ∧ u.os = v.os ∧ u.output = v.output := by
  obtain ⟨v1, e1, o1, u1, made⟩ := s.made
  obtain ⟨cv, K, hmem, hK, hrow, hown⟩ := made.at_
  rw [List.take_length] at hK
  have hKl : K.length = xs.length := by rw [← hK, List.length_map]
  have s1 : v1.heap.size = v.heap.size + 2 := by rw [e1]; simp
  have k1 : ∀ b, b < v.heap.size → v1.heap[b]? = v.heap[b]? := fun b hb => by rw [e1, Array.getElem?_push, if_neg (by simp; omega), Array.getElem?_push, if_neg (by omega)]
  have f1 : v1.heap[v.heap.size + 1]? = some (.cells #[.slice (some ⟨v.heap.size, 0, none⟩) xs.length xs.length] 85) := by rw [e1, Array.getElem?_push, if_pos (by simp)]
  have hlt : ∀ b, Own S [] b → b < v.heap.size := fun b hb => hm.lt hb
  have no : ∀ b, b < v1.heap.size → ¬ Own S [] b → ¬ Own (cellsS S cv xs.length) K b := fun b hb ho h => (hown b h).elim ho (fun h => by omega)
  have same : ∀ b, b < v.heap.size → ¬ Own S [] b → u.heap[b]? = v.heap[b]? := fun b hb ho => by rw [made.fr.block b (by omega) (fun h => h.elim ho (fun h => by omega)), k1 b hb]
  have hcell : ∀ (a : Addr) (x : Value), ¬ Own S [] a.block → v.cell? a = some x → u.cell? a = some x := fun a x ho ha => by
    rw [World.cell?_of_block (w := v) (w' := u) (same a.block (World.block_lt_of_cell? _ _ ha) ho)]
    exact ha
  have hbk : ¬ Own S [] S.bk := fun h => by
    obtain ⟨c, m, hh⟩ := hb
    obtain ⟨x, e, f, h1⟩ := hm.row h
    rw [h1] at hh; cases hh
  have hO : Open u S.bk := by
    obtain ⟨c, m, hh⟩ := hb
    exact ⟨c, m, by rw [same _ (Array.getElem?_eq_some_iff.1 hh).1 hbk]; exact hh⟩
  have nN : ¬ Own S [] v.heap.size ∧ ¬ Own S [] (v.heap.size + 1) := ⟨fun h => by have := hlt _ h; omega, fun h => by have := hlt _ h; omega⟩
  have hs := made.fr.size
  refine ⟨cv, K, hmem, hK, hO, ⟨?_, fun j b hj => ?_, ⟨no _ (by omega) nN.2, no _ (by omega) nN.1⟩, ⟨by omega, by omega⟩, t.len, fun j hj h0 => ?_, fun j hj k c hc => ?_, t.ca⟩, fun k hk => hcell _ _ t.far (t.row k hk), by omega, fun b hb ho => ⟨same b hb ho, no b (by omega) ho⟩, made.fr.os.trans o1, made.fr.output.trans u1⟩
  · rw [hKl, World.cell?_of_block (w := v1) (w' := u) (made.fr.block _ (show v.heap.size + 1 < v1.heap.size by omega) (fun h => h.elim nN.2 (fun h => by simp at h)))]
    unfold World.cell?
    rw [show v1.heap[v.heap.size + 1]? = _ from f1]
    rfl
  · have hj' : j < xs.length := by have := (List.getElem?_eq_some_iff.1 hj).1; simpa [hKl] using this
    have := hrow.cell hj'
    rw [if_pos hj'] at this
    rw [this]
    rw [List.getElem?_map] at hj
    cases hk : K[j]? with
    | none => rw [hk] at hj; cases hj
    | some c =>
      rw [hk] at hj
      simp only [Option.map_some, Option.some.injEq] at hj
      subst hj
      simp [List.getD, hk]
  · have h1 := t.pq j hj h0
    obtain ⟨c, hc⟩ : ∃ c, (cl j)[0]? = some c := ⟨_, List.getElem?_eq_getElem (by have := t.len j hj; omega)⟩
    have hl := World.block_lt_of_cell? _ _ (t.call j hj 0 c hc).1
    exact ⟨h1.1, no _ (by simp only at hl; omega) h1.2⟩
  · have h0 : 0 < ln j := by have := (List.getElem?_eq_some_iff.1 hc).1; have := t.len j hj; omega
    have ho := (t.pq j hj h0).2
    have h4 := t.call j hj k c hc
    exact ⟨hcell _ _ ho h4.1, hcell _ _ ho h4.2.1, hcell _ _ ho h4.2.2.1, hcell _ _ ho h4.2.2.2⟩

/-- What lies there behind it: the answers' row at N. -/
structure Out8 (w : World) (S : TS) (n : Nat) (ln : Nat → Nat) (N : Nat) (S' : TS) (K' : List (Nat × Int)) (l : Nat → Ph) (w' : World) : Prop where
  mem : Mem zn S' K' w'
  size : w.heap.size ≤ w'.heap.size
  low : w.heap.size ≤ N
  old : ∀ b, b < w.heap.size → ¬ Own S [] b → b ≠ S.bk → w'.heap[b]? = w.heap[b]? ∧ ¬ Own S' K' b
  rows : ∀ j, j < n → w'.cell? ⟨N + 1, j, none⟩ = some (.slice (some ⟨N + 4 + 3 * j + 2, 0, none⟩) (ln j) (ln j))
  ans : ∀ j, j < n → (l j).ans.length = ln j ∧ (0 < ln j → w'.heap[N + 4 + 3 * j + 2]? = some (.cells (arow (l j).ans).toArray 42 (0, 0))) ∧ ∃ a, l j = .done a
  os : w'.os = w.os
  out : w'.output = w.output

set_option maxHeartbeats 1000000 in
theorem play8_all {vb vo vcap cap : Nat} {cs : List Frame} {bc : Frame} {ac : Act} {ops : Array Oper} {q0 : Nat} {rest : List Nat} {oc : Oper} {k0 : List Item} (hoc : ops[q0]? = some oc) {w : World} {T : Trace} {gs : Array Goroutine} {q : Nat → Nat} (sl : Option (Nat × Nat)) (NT : Nat) (A : Alone gs w T q)
    (hg : gs[0]? = some (G ((base 19).at { tmps := #[Pt S.wb 0, .slice (some ⟨vb, vo, none⟩) xs.length vcap, .slice (some ⟨sb, so, none⟩) n cap] ++ Array.replicate 39 undef, defers := [] } [.code B8]) (bc.at ac (.inRegion ops (q0 :: rest) :: k0) :: cs)))
    (hm : Mem zn S [] w) (hthr : S.thr = []) (hran : S.ran = false) (hch : S.chg = []) (hbk : Open w S.bk) (t : Asked w S n sb so pc ln cp rb cl) (hn8 : 0 < n ∧ n ≤ 8) (hx0 : 0 < xs.length) (hx1 : xs.length ≤ 17592186043904) (hv : ∀ k x, xs[k]? = some x → w.cell? ⟨vb, vo + k, none⟩ = some (I x)) (hvo : ¬ Own S [] vb)
    (hlen : ∀ N K, S.n + 2 * lens (scrs N n (w.heap.size + 1) w.heap.size xs.length K pc ln cp rb cl) ≤ 1000000) (hsl : S.sched.length ≤ 4611686018427387904) (hsc : ∀ x ∈ S.sched, -9223372036854775808 ≤ x ∧ x < 9223372036854775808) (l0 : Nat → Ph)
    (hturn : ∀ (N : Nat) (cv : Value) (K : List (Nat × Int)), K.map (·.2) = xs → ∀ S1 l1, Hires K.length 0 (scrs N n (w.heap.size + 1) w.heap.size xs.length K pc ln cp rb cl) (nv { cellsS S cv xs.length with ran := true }) l0 S1 l1 → ∃ m p', m ≤ NT ∧ Turns K.length m ⟨S1, K, l1⟩ p' ∧ p'.S.n * 40 ≤ 140737488355328) :
    ∃ (N' : Nat) (gs' : Array Goroutine) (w' : World) (sl' : Option (Nat × Nat)) (T' : Trace) (q' : Nat → Nat) (N : Nat) (cv : Value) (K : List (Nat × Int)) (S' : TS) (S1 : TS) (l1 : Nat → Ph) (m : Nat) (p' : PSt),
      runNT Try.prog N' (crowd gs w sl) T = (.next (crowd gs' w' sl'), T') ∧ gs'.size = gs.size + n ∧ gs'[0]? = some (G (bc.at (ac.put oc.dst (.tuple #[.slice (some ⟨N + 1, 0, none⟩) n n, I 0])) (.inRegion ops rest :: k0)) cs) ∧
      Alone gs' w' T' q' ∧ K.map (·.2) = xs ∧ nv S' = p'.S ∧ Hires K.length 0 (scrs N n (w.heap.size + 1) w.heap.size xs.length K pc ln cp rb cl) (nv { cellsS S cv xs.length with ran := true }) l0 S1 l1 ∧ Turns K.length m ⟨S1, K, l1⟩ p' ∧ Out8 w S n ln N S' p'.K p'.l w' := by
  have hG : GoesI Try.prog true (DT (ScZ zn) (fun _ => False)) (fun g w' => ∃ (bd : Frame) (ad : Act) (od : Array Oper) (qd : Nat) (rd : List Nat) (oe : Oper) (kd : List Item), Set8 w S xs w' ∧ od[qd]? = some oe ∧
      (∀ (Ch : Nat → Prop) (Stop : Goroutine → World → Prop) (w1 : World) (x : Value), (∀ d, GoesI Try.prog true (DT (ScZ zn) Ch) Stop (G (bc.at (ac.put oc.dst (.tuple #[x, I 0])) (.inRegion ops rest :: k0)) cs) (w1.at d)) → GoesI Try.prog true (DT (ScZ zn) Ch) Stop (G (bd.at (ad.put oe.dst x) (.inRegion od rd :: kd)) (bc.at ac (.inRegion ops (q0 :: rest) :: k0) :: cs)) w1) ∧
      g = G ((base 54).at { tmps := #[Pt S.wb 0, .slice (some ⟨sb, so, none⟩) n cap, .func (.func 55) #[] #[Pt (w.heap.size + 1) 0]] ++ Array.replicate 36 undef, defers := [] } [.code B20]) (bd.at ad (.inRegion od (qd :: rd) :: kd) :: bc.at ac (.inRegion ops (q0 :: rest) :: k0) :: cs)) (G ((base 19).at { tmps := #[Pt S.wb 0, .slice (some ⟨vb, vo, none⟩) xs.length vcap, .slice (some ⟨sb, so, none⟩) n cap] ++ Array.replicate 39 undef, defers := [] } [.code B8]) (bc.at ac (.inRegion ops (q0 :: rest) :: k0) :: cs)) w := by
    refine play8_in vb vo vcap sb so n cap hn8 hran hch pc ln cp (fun k hk => (t.len k hk).2) t.row xs hx0 hx1 hv hvo hm cs hoc (Rel.refl w) (fun c hc => hc.elim) (fun v' w' bd ad od qd rd oe kd hr hn hset ho hback => GoesI.stop fun d => ⟨bd, ad, od, qd, rd, oe, kd, ?_, ho, hback, rfl⟩)
    have e : (w'.at d).heap = v'.heap := hr.eq
    obtain ⟨v1, e1, o1, u1, made⟩ := hset.made
    obtain ⟨cv, K, hmem, hK, hrow, hown⟩ := made.at_
    exact ⟨v1, e1, o1, u1, ⟨cv, K, (hmem.grows (v' := w'.at d) ⟨by rw [e]; exact Nat.le_refl _, fun b _ => by rw [e], hr.os, hr.output⟩).mem, hK, hrow.of_block (by rw [e]), hown⟩, ⟨hr.os.trans made.fr.os, hr.output.trans made.fr.output, by rw [e]; exact made.fr.size, fun b hb hs => by rw [e]; exact made.fr.block b hb hs⟩⟩
  obtain ⟨N1, gs1, a1, w1, sl1, T1, q1, r1, z1, h1, ⟨bd, ad, od, qd, rd, oe, kd, hset, hoe, hback, rfl⟩, A1⟩ := alone_goes A hg sl hG
  obtain ⟨cv, K, hm1, hK, hbk1, t1, hs1, hsz1, hold1, ho1, hu1⟩ := at20 hm hbk t hx0 hx1 hset
  have hKl : K.length = xs.length := by rw [← hK, List.length_map]
  have hsb : sb < w1.heap.size := World.block_lt_of_cell? _ _ (hs1 0 hn8.1)
  obtain ⟨N2, gs2, w2, sl2, T2, q2, S2, S1, l1, m, p', r2, z2, h2, A2, hnv, hH, hT, O⟩ := run20_all (S := cellsS S cv xs.length) (K := K) hoe sl1 NT A1 h1 hm1 hthr hran hbk1 t1 hs1 hsb hn8.2 (hlen _ _) hsl hsc l0 (hturn _ cv K hK)
  obtain ⟨N3, gs3, a3, w3, sl3, T3, q3, r3, z3, h3, ⟨rfl, d3, rfl⟩, A3⟩ := alone_goes A2 h2 sl2 (hback (fun _ => False) (fun g w' => g = G (bc.at (ac.put oc.dst (.tuple #[.slice (some ⟨w1.heap.size + 1, 0, none⟩) n n, I 0])) (.inRegion ops rest :: k0)) cs ∧ ∃ d, w' = w2.at d) w2 _ (fun d => GoesI.stop fun d' => ⟨rfl, d', rfl⟩))
  refine ⟨N1 + N2 + N3, gs3, w2.at d3, sl3, T3, q3, w1.heap.size, cv, K, S2, S1, l1, m, p', runNT_then (runNT_then r1 r2) r3, by omega, h3, A3, hK, hnv, hH, hT, ⟨(O.mem.grows (v' := w2.at d3) ⟨Nat.le_refl _, fun _ _ => rfl, rfl, rfl⟩).mem, Nat.le_trans hsz1 O.size, hsz1, fun b hb ho hk => ?_, O.rows, O.ans, O.os.trans ho1, O.out.trans hu1⟩⟩
  have h5 := hold1 b hb ho
  have h6 := O.old b (by omega) h5.2 hk
  exact ⟨h6.1.trans h5.1, h6.2⟩
end
end Go.Proofs.Ytfjjoohflcchnaa
