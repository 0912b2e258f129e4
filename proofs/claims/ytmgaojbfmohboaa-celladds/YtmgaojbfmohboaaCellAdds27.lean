/- The statement CellAdds of the package butlerlaw02 (cell), in full form: for every input the law answers true, and its arguments read behind the call as before; no conditions. Part 27 of 36. (Joined, by program, of: Run20b, Cell24, Check, Run20c.) -/
import Derived.Test.YtmgaojbfmohboaaCellAdds26

/- play.Run (20), main alone: from its entry to its call of turn.Run, and behind it. -/
set_option linter.unusedSimpArgs false
set_option linter.unusedVariables false
namespace Go.Proofs.Ytmgaojbfmohboaa
open Go Go.Lift Go.Conc Go.RowKit

/-- What play.Run has laid: p2 at N, the answers' row at N + 1, its box at N + 2, the bodies' row at N + 3, then three blocks a script. -/
structure Set20 (v : World) (xb n : Nat) (pc : Nat → Option Addr) (ln cp : Nat → Nat) (u : World) : Prop where
  size : u.heap.size = v.heap.size + 4 + 3 * n
  p2 : u.heap[v.heap.size]? = some (.cells #[.func (.func 21) #[] #[Pt xb 0]] 63)
  rrow : u.rowIs (v.heap.size + 1) 40 n (fun j => .slice (some ⟨v.heap.size + 4 + 3 * j + 2, 0, none⟩) (ln j) (ln j))
  p3 : u.heap[v.heap.size + 2]? = some (.cells #[.slice (some ⟨v.heap.size + 1, 0, none⟩) n n] 27)
  brow : u.rowIs (v.heap.size + 3) 80 n (fun j => .func (.func 33) #[] #[Pt (v.heap.size + 4 + 3 * j + 1) 0, Pt v.heap.size 0, Pt (v.heap.size + 2) 0, Pt (v.heap.size + 4 + 3 * j) 0])
  blk : ∀ j, j < n → u.heap[v.heap.size + 4 + 3 * j]? = some (.cells #[I j] 3) ∧ u.heap[v.heap.size + 4 + 3 * j + 1]? = some (.cells #[.slice (pc j) (ln j) (cp j)] 37) ∧ u.heap[v.heap.size + 4 + 3 * j + 2]? = some (.cells (madeCells #[I 0, I 0] (ln j * 2)) 42)
  old : ∀ b, b < v.heap.size → u.heap[b]? = v.heap[b]?
  os : u.os = v.os
  out : u.output = v.output

noncomputable def R20 : Code := seq2 (seq2 (seq2 (seq2 B20)))
theorem eB20 : B20 = .seq a200 (.seq a201 (.seq a202 (.seq a203 R20))) := by kernel_rfl

set_option maxHeartbeats 2000000 in
set_option maxRecDepth 100000 in
theorem run20_in {Ch : Nat → Prop} {Stop : Goroutine → World → Prop} {main : Bool} {v w : World} (wb xb sb so n cap : Nat) (hn8 : n ≤ 8) (pc : Nat → Option Addr) (ln cp : Nat → Nat) (hln : ∀ k, k < n → ln k ≤ 64) (hs : ∀ k, k < n → v.cell? ⟨sb, so + k, none⟩ = some (.slice (pc k) (ln k) (cp k))) (cs : List Frame) {bc : Frame} {ac : Act} {ops : Array Oper} {q : Nat} {rest : List Nat} {oc : Oper} {k : List Item} (hoc : ops[q]? = some oc)
    (hsb : sb < v.heap.size) (hvw : Rel zn v w) (hn : NoRow Ch v)
    (hk : ∀ v' w' (bd : Frame) (ad : Act) (od : Array Oper) (qd : Nat) (rd : List Nat) (oe : Oper) (kd : List Item), Rel zn v' w' → NoRow Ch v' → Set20 v xb n pc ln cp v' → od[qd]? = some oe →
      (∀ (Ch : Nat → Prop) (Stop : Goroutine → World → Prop) (w : World) (x : Value), w.cell? ⟨v.heap.size + 2, 0, none⟩ = some x → (∀ d, GoesI Try.prog main (DT (ScZ zn) Ch) Stop (G (bc.at (ac.put oc.dst x) (.inRegion ops rest :: k)) cs) (w.at d)) → GoesI Try.prog main (DT (ScZ zn) Ch) Stop (G (bd.at (ad.put oe.dst (.tuple #[])) (.inRegion od rd :: kd)) (bc.at ac (.inRegion ops (q :: rest) :: k) :: cs)) w) →
      GoesI Try.prog main (DT (ScZ zn) Ch) Stop (G ((base 35).at { tmps := #[Pt wb 0, .slice (some ⟨v.heap.size + 3, 0, none⟩) n n] ++ Array.replicate 60 undef, defers := [] } [.code B35]) (bd.at ad (.inRegion od (qd :: rd) :: kd) :: bc.at ac (.inRegion ops (q :: rest) :: k) :: cs)) w') :
    GoesI Try.prog main (DT (ScZ zn) Ch) Stop (G ((base 20).at { tmps := #[Pt wb 0, .slice (some ⟨sb, so, none⟩) n cap, .func (.func 21) #[] #[Pt xb 0]] ++ Array.replicate 36 undef, defers := [] } [.code B20]) (bc.at ac (.inRegion ops (q :: rest) :: k) :: cs)) w := by
  rw [eB20]
  refine goesI_seq (dt_idle _ _) ?_
  refine goesI_plain (z := zn) (wr := true) (L := LT) (I := NoRow Ch) hE fineT noRow_keeps (fun v v' w w' es hi hr ho he => dt_of_z v v' w w' es hi hr ho he) hvw fine200 rfl (by simp [base]) hn
    (Q := fun a w' => a = { tmps := #[Pt wb 0, .slice (some ⟨sb, so, none⟩) n cap, .func (.func 21) #[] #[Pt xb 0], undef, undef, Pt v.heap.size 0, .slice none 0 0] ++ Array.replicate 32 undef, defers := [] } ∧ w'.heap = v.heap.push (.cells #[.func (.func 21) #[] #[Pt xb 0]] 63) ∧ w'.os = v.os ∧ w'.output = v.output) (fun τ => a200_wp (onTape v τ 0) wb n (some ⟨sb, so, none⟩) cap xb) ?_
  rintro a1 v1 w1 ⟨rfl, e1, o1, u1⟩ hr1 hn1 -
  have s1 : v1.heap.size = v.heap.size + 1 := by rw [e1]; simp
  refine goesI_seq (dt_idle _ _) ?_
  refine goesI_plain (z := zn) (wr := true) (L := LT) (I := NoRow Ch) hE fineT noRow_keeps (fun v v' w w' es hi hr ho he => dt_of_z v v' w w' es hi hr ho he) hr1 fine201 rfl (by simp [base]) hn1
    (Q := fun a w' => a = { tmps := #[Pt wb 0, .slice (some ⟨sb, so, none⟩) n cap, .func (.func 21) #[] #[Pt xb 0], undef, undef, Pt v.heap.size 0, .slice none 0 0, Pt (v1.heap.size + 1) 0, undef, undef, undef, .slice (some ⟨sb, so, none⟩) n cap, I n, .slice (some ⟨v1.heap.size, 0, none⟩) n n] ++ Array.replicate 25 undef, defers := [] } ∧ w'.heap = (v1.heap.push (.cells (madeCells #[.slice none 0 0] n) 40)).push (.cells #[.slice (some ⟨v1.heap.size, 0, none⟩) n n] 27) ∧ w'.os = v1.os ∧ w'.output = v1.output) (fun τ => a201_wp (onTape v1 τ 0) wb v.heap.size n (some ⟨sb, so, none⟩) cap _ hn8) ?_
  rintro a2 v2 w2 ⟨rfl, e2, o2, u2⟩ hr2 hn2 -
  have s2 : v2.heap.size = v.heap.size + 3 := by rw [e2]; simp; omega
  refine goesI_seq (dt_idle _ _) ?_
  refine goesI_plain (z := zn) (wr := true) (L := LT) (I := NoRow Ch) hE fineT noRow_keeps (fun v v' w w' es hi hr ho he => dt_of_z v v' w w' es hi hr ho he) hr2 fine202 rfl (by simp [base]) hn2
    (Q := fun a w' => a = { tmps := #[Pt wb 0, .slice (some ⟨sb, so, none⟩) n cap, .func (.func 21) #[] #[Pt xb 0], undef, undef, Pt v.heap.size 0, .slice none 0 0, Pt (v1.heap.size + 1) 0, .slice (some ⟨v2.heap.size, 0, none⟩) n n, undef, undef, .slice (some ⟨sb, so, none⟩) n cap, I n, .slice (some ⟨v1.heap.size, 0, none⟩) n n, .slice (some ⟨sb, so, none⟩) n cap, I n, .slice (some ⟨v2.heap.size, 0, none⟩) n n] ++ Array.replicate 22 undef, defers := [] } ∧ w'.heap = v2.heap.push (.cells (madeCells #[.nilFunc] n) 80) ∧ w'.os = v2.os ∧ w'.output = v2.output) (fun τ => a202_wp (onTape v2 τ 0) wb v.heap.size (v1.heap.size + 1) v1.heap.size n (some ⟨sb, so, none⟩) cap _ hn8) ?_
  rintro a3 v3 w3 ⟨rfl, e3, o3, u3⟩ hr3 hn3 -
  have s3 : v3.heap.size = v.heap.size + 4 := by rw [e3]; simp; omega
  have k1 : ∀ b, b < v.heap.size → v1.heap[b]? = v.heap[b]? := fun b hb => by rw [e1, Array.getElem?_push, if_neg (by omega)]
  have k2 : ∀ b, b < v.heap.size + 1 → v2.heap[b]? = v1.heap[b]? := fun b hb => by rw [e2, Array.getElem?_push, if_neg (by simp; omega), Array.getElem?_push, if_neg (by omega)]
  have k3 : ∀ b, b < v.heap.size + 3 → v3.heap[b]? = v2.heap[b]? := fun b hb => by rw [e3, Array.getElem?_push, if_neg (by omega)]
  have f0 : v3.heap[v.heap.size]? = some (.cells #[.func (.func 21) #[] #[Pt xb 0]] 63) := by rw [k3 _ (by omega), k2 _ (by omega), e1]; exact Array.getElem?_push_size
  have f1 : v3.heap[v.heap.size + 1]? = some (.cells (madeCells #[.slice none 0 0] n) 40) := by rw [k3 _ (by omega), e2, Array.getElem?_push, if_neg (by simp; omega), Array.getElem?_push, if_pos (by omega)]
  have f2 : v3.heap[v.heap.size + 2]? = some (.cells #[.slice (some ⟨v.heap.size + 1, 0, none⟩) n n] 27) := by rw [k3 _ (by omega), e2, Array.getElem?_push, if_pos (by simp; omega), s1]
  have f3 : v3.heap[v.heap.size + 3]? = some (.cells (madeCells #[.nilFunc] n) 80) := by rw [e3, Array.getElem?_push, if_pos (by omega)]
  have ko : ∀ b, b < v.heap.size → v3.heap[b]? = v.heap[b]? := fun b hb => by rw [k3 b (by omega), k2 b (by omega), k1 b hb]
  refine goesI_seq (dt_idle _ _) ?_
  rw [s1, s2]
  refine goesI_plain (z := zn) (wr := true) (L := LT) (I := NoRow Ch) hE fineT noRow_keeps (fun v v' w w' es hi hr ho he => dt_of_z v v' w w' es hi hr ho he) hr3 fine203 rfl (by simp [base]) hn3
    (Q := fun a w' => (∃ u : Nat → Value, a = { tmps := #[Pt wb 0, .slice (some ⟨sb, so, none⟩) n cap, .func (.func 21) #[] #[Pt xb 0], undef, undef, Pt v.heap.size 0, .slice none 0 0, Pt (v.heap.size + 1 + 1) 0, .slice (some ⟨v.heap.size + 3, 0, none⟩) n n, u 9, u 10, u 11, u 12, u 13, u 14, u 15, u 16, u 17, u 18, u 19, u 20, u 21, u 22, u 23, u 24, u 25, u 26, u 27, u 28, u 29, u 30, u 31, u 32, u 33, u 34, u 35, u 36, u 37, u 38], defers := [] }) ∧ Laid v3 n v.heap.size (v.heap.size + 1 + 1) (v.heap.size + 1) (v.heap.size + 3) pc ln cp n w') (fun τ => ?_) ?_
  · refine wp_mono (a203_wp (onTape v3 τ 0) wb v.heap.size (v.heap.size + 1 + 1) (v.heap.size + 1) (v.heap.size + 3) sb so n cap _ hn8 pc ln cp hln (fun k hk => ?_) ?_ ?_ ?_ ⟨by omega, by omega, by omega, by omega, by omega⟩) (fun e a w' hq => ⟨hq.1, hq.2.1, ?_⟩)
    · show v3.cell? _ = _
      rw [World.cell?_of_block (w := v) (w' := v3) (ko sb hsb)]
      exact hs k hk
    · exact ⟨_, f1, size_madeCells _ _, fun i hi => by simp [madeCells, hi, Nat.mod_one]⟩
    · exact ⟨_, f3, size_madeCells _ _, fun i hi => by simp [madeCells, hi, Nat.mod_one]⟩
    · show v3.cell? _ = _
      unfold World.cell?
      rw [show (⟨v.heap.size + 1 + 1, 0, none⟩ : Addr).block = v.heap.size + 2 from rfl, f2]
      rfl
    · have := hq.2.2
      exact ⟨this.size, this.rrow, this.brow, this.blk, this.old, this.os, this.out⟩
  rintro a4 v4 w4 ⟨⟨u, rfl⟩, hL⟩ hr4 hn4 -
  have hset : Set20 v xb n pc ln cp v4 := by
    refine ⟨by rw [hL.size, s3], by rw [hL.old _ (by omega) (by omega) (by omega)]; exact f0, hL.rrow.congr fun i hi => by rw [if_pos hi, s3], by rw [hL.old _ (by omega) (by omega) (by omega)]; exact f2, hL.brow.congr fun i hi => by rw [if_pos hi, s3], fun j hj => by have := hL.blk j hj; rw [s3] at this; exact this, fun b hb => by rw [hL.old b (by omega) (by omega) (by omega)]; exact ko b hb, by rw [hL.os, o3, o2, o1], by rw [hL.out, u3, u2, u1]⟩
  clear hL hr1 hr2 hr3 hn1 hn2 hn3 e1 e2 e3 o1 o2 o3 u1 u2 u3 k1 k2 k3 f0 f1 f2 f3 ko hvw hn hs hln s1 s2 s3
  unfold R20 B20 Try.f20 seq2
  simp only [Option.getD_some]
  refine goesI_seq (dt_idle _ _) ?_
  refine goesI_region (dt_idle _ _) ?_
  simp only [List.size_toArray, List.length_cons, List.length_nil, Nat.reduceAdd, Nat.zero_add, List.range, List.range.loop]
  iterate 2
    (refine goesI_oper rfl rfl (by decide) (fun d K hK => ?_)
     go_simp
     refine hK _ _ ⟨dt_reads (fun e he => ?_), GoesI.at ?_ d⟩
     · have hm := mem_listed he
       simp [go_sem, *] at hm
       try exact ⟨_, _, hm⟩
     clear hK K)
  refine goesI_into (f := 35) (fn := Try.f35) (args := #[Pt wb 0, .slice (some ⟨v.heap.size + 3, 0, none⟩) n n]) (dt_idle _ _) rfl rfl (by decide) rfl (by simp [Act.eval]) Try.func35 (by decide) rfl ?_
  refine hk v4 w4 _ _ _ _ _ _ _ hr4 hn4 hset rfl (fun Ch Stop w x hx hg => ?_)
  clear hk hset hr4 hn4
  refine goesI_regionEnd (dt_idle _ _) ?_
  refine goesI_seq (dt_idle _ _) ?_
  refine goesI_region (dt_idle _ _) ?_
  simp only [List.size_toArray, List.length_cons, List.length_nil, Nat.reduceAdd, Nat.zero_add, List.range, List.range.loop]
  have hx' : w.cell? ⟨v.heap.size + 1 + 1, 0, none⟩ = some x := hx
  iterate 2
    (refine goesI_oper rfl rfl (by decide) (fun d K hK => ?_)
     go_simp
     refine hK _ _ ⟨dt_reads (fun e he => ?_), GoesI.at ?_ d⟩
     · have hm := mem_listed he
       simp [go_sem, *] at hm
       try exact ⟨_, _, hm⟩
     clear hK K)
  refine goesI_regionEnd (dt_idle _ _) ?_
  refine GoesI.ctl rfl (fun _ => stepG_ret') (dt_idle _ _) ?_
  refine goesI_leave (b := base 20) (fn := Try.f20) (v := x) rfl rfl Try.func20 (fun w => ?_) (fun w => by simp [results, go_sem, Try.f20]) hoc (dt_idle _ _) ?_
  · rw [results_tmp (t := 6) rfl]
    simp
  · have := hg w.drawn
    exact this
end Go.Proofs.Ytmgaojbfmohboaa

/- A world counts one cell more (turn.World.Cell), walked alone. -/
set_option linter.unusedSimpArgs false
set_option linter.unusedVariables false
namespace Go.Proofs.Ytmgaojbfmohboaa
open Go Go.Lift Go.Conc Go.RowKit

/-- What it does to the world's counts: they grow, and nothing else. -/
def Celled (wb : Nat) (tv : Value) (n base : Nat) (xs : List Value) (x : Value) (w w' : World) : Prop :=
  ∃ g cap, (∀ c t f, w.heap[wb]? = some (.cells c t f) → w'.heap[wb]? = some (.cells (c.setIfInBounds 3 (.slice (some ⟨g, 0, none⟩) (n + 1) cap)) t f)) ∧
    w'.ownsRow base 3 1 (.slice (some ⟨g, 0, none⟩) (n + 1) cap) (n + 1) (xs ++ [x]) ∧ (tv.ownBlock = some g ∨ w.heap.size ≤ g) ∧ Fr (fun b => b = wb ∨ some b = tv.ownBlock) w w'
theorem celled_of {wb : Nat} {tv x : Value} {n base : Nat} {xs : List Value} {w u w6 : World} {g cap : Nat} (hb : Below w.heap.size w u) (hw : wb < w.heap.size) (hg : u.grownBy w6 tv.ownBlock) (hown : w6.ownsRow base 3 1 (.slice (some ⟨g, 0, none⟩) (n + 1) cap) (n + 1) (xs ++ [x]))
    (hat : tv.ownBlock = some g ∨ g = u.heap.size) (hne : tv.ownBlock ≠ some wb) : Celled wb tv n base xs x w (w6.setCell ⟨wb, 3, none⟩ (.slice (some ⟨g, 0, none⟩) (n + 1) cap)) := by
  have hgw : g ≠ wb := by
    rcases hat with h | h
    · exact fun e => hne (by rw [h, e])
    · have := hb.size; omega
  have e6 : w6.heap[wb]? = w.heap[wb]? := (hg.block wb (Nat.lt_of_lt_of_le hw hb.size) (Ne.symm hne)).trans (hb.block wb hw)
  refine ⟨g, cap, fun c t f h => heap_setCell_same (by rw [e6]; exact h) _, own_set hown _ _ (fun e => hgw (Option.some.inj e)), ?_, ?_⟩
  · rcases hat with h | h
    · exact .inl h
    · exact .inr (by have := hb.size; omega)
  · refine ⟨by show w6.os = _; rw [hg.os, hb.os], by show w6.output = _; rw [hg.output, hb.output], ?_, fun b hlt hs => ?_⟩
    · have := hb.size
      have := hg.size
      simp only [World.setCell, Array.size_modify]
      omega
    · rw [Below.heap_setCell _ _ _ _ (fun e => hs (.inl e)), hg.block b (Nat.lt_of_lt_of_le hlt hb.size) (fun e => hs (.inr e)), hb.block b hlt]
/-- The world with a cell more. -/
def celledS (S : TS) (cv : Value) : TS := { S with cv := cv, chg := S.chg ++ [0] }
theorem celled_ev {z : Nat → Option Nat} {S : TS} {v v' : World} (h : Rep z S v) (hN : Celled S.wb S.cv S.chg.length S.base (S.chg.map I) (I 0) v v') : ∃ cv', Ev z S v (celledS S cv') v' := by
  obtain ⟨g, cap, hw, hown, hat, hfr⟩ := hN
  have hst : ∀ k b, blk S k = some b → k ≠ 0 → k ≠ 1 → v'.heap[b]? = v.heap[b]? := fun k b hk h0 h3 => hfr.block b (h.lt hk) (fun hS => by
    rcases hS with rfl | hS
    · exact h0 (h.apart k 0 _ hk rfl)
    · exact h3 (h.apart k 1 b hk hS.symm))
  have hnew : ∀ k b, blk (celledS S (.slice (some ⟨g, 0, none⟩) (S.chg.length + 1) cap)) k = some b → (blk S k = some b) ∨ (k = 1 ∧ b = g) := fun k b hk => by
    match k, hk with
    | 0, hk => exact .inl hk
    | 1, hk => cases hk; exact .inr ⟨rfl, rfl⟩
    | 2, hk => exact .inl hk
    | 3, hk => exact .inl hk
    | 4, hk => exact .inl hk
    | k + 5, hk => exact .inl hk
  refine ⟨.slice (some ⟨g, 0, none⟩) (S.chg.length + 1) cap, ⟨?_, fun j t' ht' => ?_, own_stay (fun b hb => hst 3 b hb (by omega) (by omega)) h.own, ?_, own_stay (fun b hb => hst 2 b hb (by omega) (by omega)) h.ths, own_stay (fun b hb => hst 4 b hb (by omega) (by omega)) h.sch, Nat.le_trans h.bs hfr.size, fun j k b hj hk => ?_, h.kept⟩, hfr.mono (fun x _ hx => ?_), fun b ⟨k, hk⟩ => ?_⟩
  · have := hw _ _ _ h.wor
    simpa [celledS] using this
  · rw [hst (j + 5) t'.tb (by simp only [blk]; rw [show S.thr[j]? = some t' from ht']; rfl) (by omega) (by omega)]
    exact h.thr j t' ht'
  · show v'.ownsRow S.base 3 1 _ (S.chg ++ [0]).length ((S.chg ++ [0]).map I)
    rw [List.length_append, List.map_append]
    exact hown
  · rcases hnew j b hj with e1 | ⟨rfl, rfl⟩ <;> rcases hnew k b hk with e2 | ⟨rfl, e2⟩
    · exact h.apart j k b e1 e2
    · subst e2
      rcases hat with ha | ha
      · exact h.apart j 1 b e1 ha
      · have := h.lt e1; omega
    · rcases hat with ha | ha
      · exact h.apart 1 k b ha e2
      · have := h.lt e2; omega
    · rfl
  · rcases hx with rfl | hx
    · exact ⟨0, rfl⟩
    · exact ⟨1, hx.symm⟩
  · rcases hnew k b hk with e1 | ⟨_, rfl⟩
    · exact .inl ⟨k, e1⟩
    · rcases hat with ha | ha
      · exact .inl ⟨1, ha⟩
      · exact .inr ha

theorem info3 : (Try.prog.info? 3).map (fun i => (i.zero, i.size, i.bytes)) = some (some (I 0), 1, 8) := by kernel_rfl
theorem newsI (w : World) (x : Int) (t : TypeId) : ∀ j u, [I x][j]? = some u → (w.alloc (.cells #[I x] t)).cell? ((⟨w.heap.size, 0, none⟩ : Addr).add j) = some u := by
  intro j u hj
  have hb : (w.alloc (.cells #[I x] t)).heap[w.heap.size]? = some (.cells #[I x] t) := Array.getElem?_push_size
  exact World.news_of_block hb j u hj
theorem oneI (x : Int) : ∀ u ∈ [I x], u.oneCell' = true := by
  intro u hu
  simp at hu
  subst hu
  rfl

set_option maxHeartbeats 2000000 in
set_option maxRecDepth 100000 in
theorem body24 {z : Nat → Option Nat} {S : TS} {v : World} (h : Rep z S v) (hn : S.chg.length ≤ 17592186043904) : Body Try.f24 #[Pt S.wb 0] v (fun r v' => r = I S.chg.length ∧ ∃ cv, Ev z S v (celledS S cv) v') := by
  intro code hb
  obtain rfl := Option.some.inj hb
  clear hb
  have c3 := h.wcell.2.2.2.1
  have f3 := fz_off h 3 (by omega)
  have HR : Hid (Rep z S v) := ⟨h⟩
  have q3 : S.wb < v.heap.size := World.block_lt_of_cell? _ _ c3
  have qb : S.base ≤ v.heap.size := h.bs
  obtain ⟨tp, tc, htv⟩ := own_form h.chg
  have HO : Hid (v.ownsRow S.base 3 1 (.slice tp S.chg.length tc) S.chg.length (S.chg.map I)) := ⟨by rw [← htv]; exact h.chg⟩
  have n1 : (Value.slice tp S.chg.length tc).ownBlock ≠ some S.wb := by
    rw [← htv]
    exact fun e => by have := h.apart 1 0 S.wb e rfl; omega
  have HT : Hid (S.cv = .slice tp S.chg.length tc) := ⟨htv⟩
  rw [htv] at c3
  obtain ⟨j0, hj, hj0, hj1, hj2⟩ := info_parts info3
  have hne : S.wb ≠ v.heap.size := by omega
  have hne' : v.heap.size ≠ S.wb := by omega
  have K3 : Hid (v.cell? ⟨S.wb, 3, none⟩ = some (.slice tp S.chg.length tc) ∧ v.frozen? ⟨S.wb, 3, none⟩ = false) := ⟨⟨c3, f3⟩⟩
  clear h htv
  simp only [Try.ntmps24, List.size_toArray, List.length_cons, List.length_nil, Nat.reduceAdd, Nat.reduceSub, Array.replicate_succ, Array.replicate_zero, List.push_toArray, List.append_toArray, List.nil_append, List.cons_append]
  go_wp2_with (first
    | (refine wpList_append_lies _ rfl (.tmp 9) (.tmp 10) 22 rfl S.base 3 j0 _ 1 8 Try.underlying22 hj hj0 hj1 hj2 rfl (by decide) (.slice tp S.chg.length tc) S.chg.length (S.chg.map I) rfl (own_later (below_alloc (Below.refl _ _) _) HO.out) ⟨_, 0, none⟩ 1 1 [I 0] rfl rfl (newsI _ _ _) (oneI _) (by decide) (by unfold maxLen; omega) (by omega) (by simp; omega) _ rfl ?_
       intro g cpg w6 hown6 hgrow6 hat6 hlt6
       obtain ⟨k5, k6⟩ := keep2g ⟨kcell (below_alloc (Below.refl _ _) _) K3.out.1, by rw [(below_alloc (Below.refl _ _) _).frozen q3]; exact K3.out.2⟩ hgrow6 n1))
  go_ret
  exact ⟨_, rfl, rfl, celled_ev HR.out (by rw [HT.out]; exact celled_of (below_alloc (Below.refl _ _) _) q3 hgrow6 hown6 hat6 n1)⟩

/-- A new cell beside the others. -/
theorem mem_newcell {z : Nat → Option Nat} {S : TS} {K : List (Nat × Int)} {v v1 v3 : World} {cv : Value} {x : Int} (hm : Mem z S K v) (he : Ev z S v (celledS S cv) v1) (hh : v3.heap = v1.heap.push (.cells #[I S.chg.length, I x] 70)) (ho : v3.os = v1.os) (hu : v3.output = v1.output) :
    Mem z (celledS S cv) (K ++ [(v1.heap.size, x)]) v3 ∧ Fr (Own S K) v v3 ∧ ∀ b, Own (celledS S cv) (K ++ [(v1.heap.size, x)]) b → Own S K b ∨ v.heap.size ≤ b := by
  have hold : ∀ b, b < v1.heap.size → v3.heap[b]? = v1.heap[b]? := fun b hb => by rw [hh, Array.getElem?_push, if_neg (by omega)]
  have hs3 : v3.heap.size = v1.heap.size + 1 := by rw [hh]; simp
  have hrep : Rep z (celledS S cv) v3 := he.rep.grows (by omega) hold
  have hKl : K.length = S.chg.length := hm.len.symm
  have hget : ∀ (j : Nat) (c : Nat × Int), (K ++ [(v1.heap.size, x)])[j]? = some c → (j < K.length ∧ K[j]? = some c) ∨ (j = K.length ∧ c = (v1.heap.size, x)) := fun j c hj => by
    rcases Nat.lt_trichotomy j K.length with h1 | h1 | h1
    · rw [List.getElem?_append_left h1] at hj; exact .inl ⟨h1, hj⟩
    · subst h1
      rw [List.getElem?_append_right (Nat.le_refl _)] at hj
      simp at hj
      exact .inr ⟨rfl, hj.symm⟩
    · rw [List.getElem?_append_right (by omega)] at hj
      have : j - K.length ≠ 0 := by omega
      simp [this] at hj
  have hKlt : ∀ (j : Nat) (c : Nat × Int), K[j]? = some c → c.1 < v.heap.size := fun j c hc => hm.lt (.inr ⟨j, c, hc, rfl⟩)
  have hits : ∀ b, Its (celledS S cv) b → b < v1.heap.size := fun b ⟨k, hk⟩ => he.rep.lt hk
  refine ⟨⟨hrep, fun j c hj => ?_, fun j c hj hi => ?_, fun i j c d hi hj e => ?_, ?_⟩, ⟨ho.trans he.fr.os, hu.trans he.fr.output, by have := he.fr.size; omega, fun b hb hs => ?_⟩, fun b hb => ?_⟩
  · rcases hget j c hj with ⟨h1, h2⟩ | ⟨rfl, rfl⟩
    · have hlt := hKlt j c h2
      rw [hold c.1 (by have := he.fr.size; omega), he.fr.block c.1 hlt (hm.far j c h2)]
      exact hm.cel j c h2
    · show v3.heap[v1.heap.size]? = _
      rw [hh, hKl]
      exact Array.getElem?_push_size
  · rcases hget j c hj with ⟨h1, h2⟩ | ⟨rfl, rfl⟩
    · rcases he.new _ hi with h3 | h3
      · exact hm.far j c h2 h3
      · have := hKlt j c h2; omega
    · have h9 := hits _ hi
      exact Nat.lt_irrefl _ h9
  · rcases hget i c hi with ⟨h1, h2⟩ | ⟨rfl, rfl⟩ <;> rcases hget j d hj with ⟨h3, h4⟩ | ⟨rfl, rfl⟩
    · exact hm.inj i j c d h2 h4 e
    · have := hKlt i c h2
      have := he.fr.size
      have e' : c.1 = v1.heap.size := e
      omega
    · have := hKlt j d h4
      have := he.fr.size
      have e' : v1.heap.size = d.1 := e
      omega
    · rfl
  · show (S.chg ++ [0]).length = (K ++ [_]).length
    simp [hKl]
  · rw [hold b (by have := he.fr.size; omega), he.fr.block b hb (fun hi => hs (.inl hi))]
  · rcases hb with hb | ⟨j, c, hj, rfl⟩
    · exact (he.new b hb).imp .inl id
    · rcases hget j c hj with ⟨h1, h2⟩ | ⟨rfl, rfl⟩
      · exact .inl (.inr ⟨j, c, h2, rfl⟩)
      · right; exact he.fr.size

set_option maxHeartbeats 2000000 in
set_option maxRecDepth 100000 in
theorem body10 {z : Nat → Option Nat} {S : TS} {K : List (Nat × Int)} {v : World} (hm : Mem z S K v) (x : Int) (hn : S.chg.length ≤ 17592186043904) : Body Try.f10 #[Pt S.wb 0, I x] v (fun r v' => ∃ cb cv, r = Pt cb 0 ∧ Mem z (celledS S cv) (K ++ [(cb, x)]) v' ∧ Fr (Own S K) v v' ∧ ∀ b, Own (celledS S cv) (K ++ [(cb, x)]) b → Own S K b ∨ v.heap.size ≤ b) := by
  intro code hb
  obtain rfl := Option.some.inj hb
  clear hb
  have HM : Hid (Mem z S K v) := ⟨hm⟩
  have h24 := (body24 hm.rep hn).calls Try.func24 rfl
  have H24 : Hid _ := ⟨h24⟩
  clear hm h24
  simp only [Try.ntmps10, List.size_toArray, List.length_cons, List.length_nil, Nat.reduceAdd, Nat.reduceSub, Array.replicate_succ, Array.replicate_zero, List.push_toArray, List.append_toArray, List.nil_append, List.cons_append]
  go_wp2_with (first
    | (go_at_call 24; refine H24.out.mono ?_; rintro e w1 ⟨r1, rfl, rfl, cv, hev⟩; have HEV : Hid (Ev z S v (celledS S cv) w1) := ⟨hev⟩; clear hev)
    | (go_at_call 25
       have hb : (w1.alloc (.cells #[I S.chg.length, I 0] 70)).heap[w1.heap.size]? = some (.cells #[I S.chg.length, I 0] 70) := Array.getElem?_push_size
       refine ((body25 w1.heap.size 0 x _ (by unfold World.cell?; rw [hb]; rfl) (by unfold World.frozen?; rw [hb]; rfl)).calls Try.func25 rfl).mono ?_; rintro e w2 ⟨r2, rfl, rfl, rfl⟩))
  go_ret
  exact ⟨_, rfl, w1.heap.size, cv, rfl, mem_newcell HM.out HEV.out rfl rfl rfl⟩
end Go.Proofs.Ytmgaojbfmohboaa

/- Ran (32), Check (19), Trace (9), walked alone. -/
set_option linter.unusedSimpArgs false
set_option linter.unusedVariables false
namespace Go.Proofs.Ytmgaojbfmohboaa
open Go Go.Lift Go.Conc Go.RowKit

theorem body32 {z : Nat → Option Nat} {S : TS} {v : World} (h : Rep z S v) : Body Try.f32 #[Pt S.wb 0] v (fun r v' => r = .bool S.ran ∧ v' = v) := by
  intro code hb
  obtain rfl := Option.some.inj hb
  clear hb
  have c7 := h.wcell.2.2.2.2.2.2.2.1
  clear h
  simp only [Try.ntmps32, List.size_toArray, List.length_cons, List.length_nil, Nat.reduceAdd, Nat.reduceSub, Array.replicate_succ, Array.replicate_zero, List.push_toArray, List.append_toArray, List.nil_append, List.cons_append]
  go_wp2
  go_ret
  exact ⟨_, rfl, rfl, rfl⟩

/-- What Check answers. -/
def checkE (n : Nat) (ran : Bool) : Int := if n = 0 ∨ 8 < n ∨ ran = true then 1 else 0

set_option maxHeartbeats 2000000 in
set_option maxRecDepth 100000 in
theorem body19 {z : Nat → Option Nat} {S : TS} {v : World} (h : Rep z S v) (p : Option Addr) (n cap : Nat) (hn : n ≤ 17592186043904) (pc : Nat → Option Addr) (ln cp : Nat → Nat) (hs : ∀ k, k < n → ∃ sb so, p = some ⟨sb, so, none⟩ ∧ v.cell? ⟨sb, so + k, none⟩ = some (.slice (pc k) (ln k) (cp k))) :
    Body Try.f19 #[Pt S.wb 0, .slice p n cap] v (fun r v' => v' = v ∧ (((∃ k, k < n ∧ 64 < ln k) ∧ r = I 2) ∨ ((∀ k, k < n → ln k ≤ 64) ∧ r = I (checkE n S.ran)))) := by
  intro code hb
  obtain rfl := Option.some.inj hb
  clear hb
  have HS : Hid (∀ k, k < n → ∃ sb so, p = some ⟨sb, so, none⟩ ∧ v.cell? ⟨sb, so + k, none⟩ = some (.slice (pc k) (ln k) (cp k))) := ⟨hs⟩
  have h32 := (body32 h).calls Try.func32 rfl
  have H32 : Hid _ := ⟨h32⟩
  clear h hs h32
  simp only [Try.ntmps19, List.size_toArray, List.length_cons, List.length_nil, Nat.reduceAdd, Nat.reduceSub, Array.replicate_succ, Array.replicate_zero, List.push_toArray, List.append_toArray, List.nil_append, List.cons_append]
  go_wp2_with fail
  go_loopw [9] (fun i u => u = v ∧ ∃ k : Nat, k ≤ n ∧ i = .int .i64 k ∧ ∀ j, j < k → ln j ≤ 64) (fun i _ => n - (intOf i).toNat)
  case atStart => exact ⟨rfl, 0, Nat.zero_le _, rfl, fun j hj => by omega⟩
  case round =>
    obtain ⟨rfl, k, hk, rfl, hL⟩ := hrel
    have HL : Hid (∀ j, j < k → ln j ≤ 64) := ⟨hL⟩
    clear hL
    by_cases hlt : k < n
    · obtain ⟨sb, so, rfl, hc⟩ := HS.out k hlt
      have hlt' : (k : Int) < (n : Int) := by omega
      by_cases hb : (64 : Int) < (ln k : Int)
      · go_wp2_with fail
        go_ret
        exact ⟨_, rfl, rfl, .inl ⟨⟨k, hlt, by omega⟩, rfl⟩⟩
      · go_wp2_with fail
        go_roundw
        case rel =>
          refine ⟨trivial, k + 1, by omega, by go_num, fun j hj => ?_⟩
          rcases Nat.lt_or_ge j k with h1 | h1
          · exact HL.out j h1
          · have : j = k := by omega
            subst this
            omega
        case measure => simp [intOf]; omega
    · have hkk : k = n := by omega
      subst hkk
      have hb0 : (I (k : Int) : Value) = .int .i64 (k : Int) := rfl
      by_cases e0 : (k : Int) = 0
      · go_wp2_with fail
        go_ret
        exact ⟨_, rfl, rfl, .inr ⟨HL.out, by unfold checkE; rw [if_pos (.inl (by omega))]; rfl⟩⟩
      · by_cases e8 : (8 : Int) < (k : Int)
        · go_wp2_with fail
          go_ret
          exact ⟨_, rfl, rfl, .inr ⟨HL.out, by unfold checkE; rw [if_pos (.inr (.inl (by omega)))]; rfl⟩⟩
        · go_wp2_with (first
            | (go_at_call 32; refine H32.out.mono ?_; rintro e w1 ⟨r1, rfl, rfl, rfl⟩))
          · rename_i hq
            go_ret
            refine ⟨_, rfl, rfl, .inr ⟨HL.out, ?_⟩⟩
            unfold checkE
            rw [if_pos (.inr (.inr (hq.resolve_left (by simpa using e0))))]
            rfl
          · rename_i hq
            go_ret
            refine ⟨_, rfl, rfl, .inr ⟨HL.out, ?_⟩⟩
            unfold checkE
            rw [if_neg (by rintro (h1 | h1 | h1) <;> first | omega | (rw [hq.2] at h1; cases h1))]
            rfl

/-- A copy of a row, new. -/
theorem trace_at {z : Nat → Option Nat} {S : TS} {v : World} (h : Rep z S v) : v.cell? ⟨S.wb, 5, none⟩ = some S.tv := h.wcell.2.2.2.2.2.1
end Go.Proofs.Ytmgaojbfmohboaa

/- What play.Run has laid is what turn.Run asks. -/
set_option linter.unusedSimpArgs false
set_option linter.unusedVariables false
namespace Go.Proofs.Ytmgaojbfmohboaa
open Go Go.Lift Go.Conc Go.RowKit

/-- What lies there ahead of play.Run: the cells' row, the scripts' calls. -/
structure Told (v : World) (S : TS) (K : List (Nat × Int)) (xb rk ck n : Nat) (pc : Nat → Option Addr) (ln cp rb : Nat → Nat) (cl : Nat → List Cl) : Prop where
  hx : v.cell? ⟨xb, 0, none⟩ = some (.slice (some ⟨rk, 0, none⟩) K.length ck)
  hr : ∀ (j b : Nat), (K.map (·.1))[j]? = some b → v.cell? ⟨rk, j, none⟩ = some (Pt b 0)
  xo : ¬ Own S K xb ∧ ¬ Own S K rk
  kl : 0 < K.length ∧ (K.length : Int) < 9223372036854775808
  len : ∀ j, j < n → (cl j).length = ln j ∧ ln j ≤ 64
  pq : ∀ j, j < n → 0 < ln j → pc j = some ⟨rb j, roOf (pc j), none⟩ ∧ ¬ Own S K (rb j)
  call : ∀ j, j < n → ∀ (k : Nat) (c : Cl), (cl j)[k]? = some c → v.cell? ⟨rb j, roOf (pc j) + k * 4, none⟩ = some (I c.po) ∧ v.cell? ⟨rb j, roOf (pc j) + k * 4 + 1, none⟩ = some (I c.ca) ∧ v.cell? ⟨rb j, roOf (pc j) + k * 4 + 2, none⟩ = some (I c.cb) ∧ v.cell? ⟨rb j, roOf (pc j) + k * 4 + 3, none⟩ = some (I c.cc)
  ca : ∀ j, j < n → ∀ c ∈ cl j, -9223372036854775808 ≤ c.ca ∧ c.ca < 9223372036854775808

/-- All that is not the world's. -/
noncomputable def allM (S : TS) (K : List (Nat × Int)) (u : World) : Nat → Option Obj := fun b => open Classical in if Own S K b ∨ b = S.bk then none else u.heap[b]?
theorem allM_at {S : TS} {K : List (Nat × Int)} {u : World} {b : Nat} (h1 : ¬ Own S K b) (h2 : b ≠ S.bk) : allM S K u b = u.heap[b]? := by
  unfold allM
  rw [if_neg (fun h => h.elim h1 h2)]
theorem allM_own {S : TS} {K : List (Nat × Int)} {u : World} {b : Nat} (h : allM S K u b ≠ none) : ¬ Own S K b ∧ b ≠ S.bk := by
  constructor <;> intro e <;> apply h <;> unfold allM
  · rw [if_pos (.inl e)]
  · rw [if_pos (.inr e)]
theorem allM_has {S : TS} {K : List (Nat × Int)} {u : World} : Has (allM S K u) u := fun b o h => by
  have := allM_own (b := b) (by rw [h]; simp)
  rw [allM_at this.1 this.2] at h
  exact h

/-- The script of thread j. -/
def scrOf (N n xb rk ck : Nat) (kb : List Nat) (pc : Nat → Option Addr) (ln cp rb : Nat → Nat) (cl : Nat → List Cl) (j : Nat) : Scr :=
  { calls := cl j, ans := List.replicate (ln j) (0, 0)
    X := fun h tb gc b0 => { h := h, i := j, tb := tb, gc := gc, bb := b0, calls := cl j, pc := pc j, rb := if ln j = 0 then b0 else rb j, cap := cp j, asl := .slice (some ⟨N + 4 + 3 * j + 2, 0, none⟩) (ln j) (ln j), ab := if ln j = 0 then b0 else N + 4 + 3 * j + 2, cap2 := ln j, aty := 42, xb := xb, rk := rk, ck := ck, kb := kb }
    p1 := N + 4 + 3 * j + 1, p2 := N, p3 := N + 2, p4 := N + 4 + 3 * j, rr := N + 1, m := n, cp := n, ix := j, csl := .slice (pc j) (cl j).length (cp j), asl := .slice (some ⟨N + 4 + 3 * j + 2, 0, none⟩) (ln j) (ln j), xb := xb }

theorem made_arow (n : Nat) : (.cells (madeCells #[I 0, I 0] (n * 2)) 42 : Obj) = .cells (arow (List.replicate n (0, 0))).toArray 42 (0, 0) := by
  have : madeCells #[I 0, I 0] (n * 2) = (arow (List.replicate n (0, 0))).toArray := by
    apply Array.ext_getElem?
    intro i
    rw [show (arow (List.replicate n (0, 0))).toArray[i]? = (arow (List.replicate n (0, 0)))[i]? by simp]
    by_cases hi : i < n * 2
    · have e1 : (madeCells #[I 0, I 0] (n * 2))[i]? = some (I 0) := by
        have : i % 2 = 0 ∨ i % 2 = 1 := by omega
        rcases this with h | h <;> simp [madeCells, hi, h]
      rw [e1]
      have h2 : i / 2 < n := by omega
      have h3 := arow_get (List.replicate n (0, 0)) (i / 2) (0, 0) (by simp [List.getElem?_replicate, h2])
      have : i = i / 2 * 2 ∨ i = i / 2 * 2 + 1 := by omega
      rcases this with h | h
      · rw [h]; exact h3.1.symm
      · rw [h]; exact h3.2.symm
    · rw [Array.getElem?_eq_none (by simp [madeCells]; omega), List.getElem?_eq_none (by rw [arow_len]; simp; omega)]
  rw [this]

section
variable {v u : World} {S : TS} {K : List (Nat × Int)} {xb rk ck n : Nat} {pc : Nat → Option Addr} {ln cp rb : Nat → Nat} {cl : Nat → List Cl}

/-- What is left to be given away from thread j on. -/
def futOf (N n : Nat) (ln : Nat → Nat) (j b : Nat) : Prop := ∃ i, j ≤ i ∧ i < n ∧ 0 < ln i ∧ b = N + 4 + 3 * i + 2

theorem script_of (hm : Mem zn S K v) (hb : Open v S.bk) (t : Told v S K xb rk ck n pc ln cp rb cl) (s : Set20 v xb n pc ln cp u) {j : Nat} (hj : j < n) {Mm : Nat → Option Obj} {Fut : Nat → Prop} (hM : ∀ b, (∀ i, i < j → b ≠ v.heap.size + 4 + 3 * i + 2) → Mm b = allM S K u b) (hF : ∀ b, Fut b ↔ futOf v.heap.size n ln j b) :
    Script Mm Fut j (v.heap.size + 3) (K.map (·.1)) (scrOf v.heap.size n xb rk ck (K.map (·.1)) pc ln cp rb cl j) := by
  have hbk : S.bk < v.heap.size := by obtain ⟨c, m, h⟩ := hb; exact (Array.getElem?_eq_some_iff.1 h).1
  have hOw : ∀ b, v.heap.size ≤ b → ¬ Own S K b ∧ b ≠ S.bk := fun b hb => ⟨fun h => by have := hm.lt h; omega, by omega⟩
  have cbk : ∀ (a : Addr) (x : Value), v.cell? a = some x → a.block ≠ S.bk := fun a x ha e => by
    obtain ⟨c, m, h⟩ := hb
    unfold World.cell? at ha
    rw [e, h] at ha
    cases ha
  have clt : ∀ (a : Addr) (x : Value), v.cell? a = some x → a.block < v.heap.size := fun a x ha => World.block_lt_of_cell? _ _ ha
  have hnew : ∀ b, v.heap.size ≤ b → (∀ i, i < j → b ≠ v.heap.size + 4 + 3 * i + 2) → Mm b = u.heap[b]? := fun b h1 h2 => by rw [hM b h2, allM_at (hOw b h1).1 (hOw b h1).2]
  have hold : ∀ (a : Addr) (x : Value), v.cell? a = some x → ¬ Own S K a.block → Mm a.block = v.heap[a.block]? := fun a x ha ho => by
    rw [hM a.block (fun i _ => by have := clt a x ha; omega), allM_at ho (cbk a x ha), s.old _ (clt a x ha)]
  have some_of : ∀ (a : Addr) (x : Value), v.cell? a = some x → ∃ o, v.heap[a.block]? = some o := fun a x ha => ⟨_, Array.getElem?_eq_getElem (clt a x ha)⟩
  have holdc : ∀ (w : World), Has Mm w → ∀ (a : Addr) (x : Value), v.cell? a = some x → ¬ Own S K a.block → w.cell? a = some x := fun w hw a x ha ho => by
    obtain ⟨o, e⟩ := some_of a x ha
    have := hw a.block o (by rw [hold a x ha ho, e])
    rw [World.cell?_of_block (w := v) (w' := w) (by rw [this, e])]
    exact ha
  have newc : ∀ (w : World), Has Mm w → ∀ (a : Addr) (x : Value), v.heap.size ≤ a.block → (∀ i, i < j → a.block ≠ v.heap.size + 4 + 3 * i + 2) → u.cell? a = some x → w.cell? a = some x := fun w hw a x h1 h2 ha => by
    have hl := World.block_lt_of_cell? _ _ ha
    have e : u.heap[a.block]? = some u.heap[a.block] := Array.getElem?_eq_getElem hl
    have := hw a.block _ (by rw [hnew a.block h1 h2, e])
    rw [World.cell?_of_block (w := u) (w' := w) (by rw [this, e])]
    exact ha
  have hb3 := s.blk j hj
  have hln := t.len j hj
  have c1 : ∀ {b : Nat} {x : Value} {ty : TypeId}, u.heap[b]? = some (.cells #[x] ty) → u.cell? ⟨b, 0, none⟩ = some x := fun {b x ty} h => by unfold World.cell?; rw [h]; rfl
  have hab : 0 < ln j → Mm (v.heap.size + 4 + 3 * j + 2) ≠ none := fun _ => by
    rw [hnew _ (by omega) (fun i hi => by omega), hb3.2.2]; simp
  refine ⟨hj, fun w hw => ⟨?_, ?_, ?_, ?_, ?_, ?_⟩, fun h tb gc b0 hh hb0 => ⟨⟨hh, by simpa [scrOf] using t.kl, ?_, t.ca j hj, fun h0 => ?_, fun h0 => ?_, fun h0 => ?_, fun h0 => ?_⟩, rfl, rfl, rfl, rfl, rfl, rfl, rfl, rfl, rfl, rfl, fun w hw hbx => ⟨hbx, fun k c hk => ?_, fun h0 => ?_, ?_, ?_, fun i b hi => ?_⟩, fun b hp => ?_, fun b hp hf => ?_, ?_⟩⟩
  · exact newc w hw ⟨v.heap.size + 3, j, none⟩ _ (by show _ ≤ v.heap.size + 3; omega) (fun i hi => by show v.heap.size + 3 ≠ _; omega) (s.brow.cell hj)
  · exact newc w hw ⟨_, 0, none⟩ _ (by show _ ≤ v.heap.size + 4 + 3 * j + 1; omega) (fun i hi => by show v.heap.size + 4 + 3 * j + 1 ≠ _; omega) (by show u.cell? ⟨v.heap.size + 4 + 3 * j + 1, 0, none⟩ = some (.slice (pc j) (cl j).length (cp j)); rw [hln.1]; exact c1 hb3.2.1)
  · exact newc w hw ⟨_, 0, none⟩ _ (by show _ ≤ v.heap.size; omega) (fun i hi => by show v.heap.size ≠ _; omega) (c1 s.p2)
  · exact newc w hw ⟨_, 0, none⟩ _ (by show _ ≤ v.heap.size + 2; omega) (fun i hi => by show v.heap.size + 2 ≠ _; omega) (c1 s.p3)
  · exact newc w hw ⟨_, 0, none⟩ _ (by show _ ≤ v.heap.size + 4 + 3 * j; omega) (fun i hi => by show v.heap.size + 4 + 3 * j ≠ _; omega) (c1 hb3.1)
  · exact newc w hw ⟨v.heap.size + 1, j, none⟩ _ (by show _ ≤ v.heap.size + 1; omega) (fun i hi => by show v.heap.size + 1 ≠ _; omega) (s.rrow.cell hj)
  · show ((cl j).length : Int) < _
    rw [hln.1]; omega
  · have h0' : 0 < ln j := by rw [← hln.1]; exact h0
    show pc j = some ⟨if ln j = 0 then b0 else rb j, roOf (pc j), none⟩
    rw [if_neg (by omega)]
    exact (t.pq j hj h0').1
  · have h0' : 0 < ln j := by rw [← hln.1]; exact h0
    show Value.slice (some ⟨v.heap.size + 4 + 3 * j + 2, 0, none⟩) (ln j) (ln j) = .slice (some ⟨if ln j = 0 then b0 else v.heap.size + 4 + 3 * j + 2, 0, none⟩) (cl j).length (ln j)
    rw [if_neg (by omega), hln.1]
  · have h0' : ln j = 0 := by rw [← hln.1]; exact h0
    show (if ln j = 0 then b0 else rb j) = b0 ∧ (if ln j = 0 then b0 else v.heap.size + 4 + 3 * j + 2) = b0
    rw [if_pos h0', if_pos h0']
    exact ⟨rfl, rfl⟩
  · have h0' : 0 < ln j := by rw [← hln.1]; exact h0
    show (if ln j = 0 then b0 else v.heap.size + 4 + 3 * j + 2) ≠ b0 ∧ (if ln j = 0 then b0 else v.heap.size + 4 + 3 * j + 2) ≠ (if ln j = 0 then b0 else rb j) ∧ (if ln j = 0 then b0 else v.heap.size + 4 + 3 * j + 2) ≠ xb ∧ (if ln j = 0 then b0 else v.heap.size + 4 + 3 * j + 2) ≠ rk
    rw [if_neg (by omega), if_neg (by omega)]
    have hxl := clt _ _ t.hx
    obtain ⟨b, hb⟩ : ∃ b, (K.map (·.1))[0]? = some b := ⟨_, List.getElem?_eq_getElem (by simpa using t.kl.1)⟩
    have hrl := clt _ _ (t.hr 0 b hb)
    obtain ⟨c, hc⟩ : ∃ c, (cl j)[0]? = some c := ⟨_, List.getElem?_eq_getElem h0⟩
    have hcl := clt _ _ (t.call j hj 0 c hc).1
    simp only at hxl hrl hcl
    exact ⟨hb0 _ (hab h0'), by omega, by omega, by omega⟩
  · have hk' : (cl j)[k]? = some c := hk
    have h0 : 0 < ln j := by have := (List.getElem?_eq_some_iff.1 hk').1; omega
    have ho := (t.pq j hj h0).2
    have h4 := t.call j hj k c hk'
    show w.cell? ⟨if ln j = 0 then b0 else rb j, _, none⟩ = _ ∧ w.cell? ⟨if ln j = 0 then b0 else rb j, _, none⟩ = _ ∧ w.cell? ⟨if ln j = 0 then b0 else rb j, _, none⟩ = _ ∧ w.cell? ⟨if ln j = 0 then b0 else rb j, _, none⟩ = _
    rw [if_neg (by omega)]
    exact ⟨holdc w hw _ _ h4.1 ho, holdc w hw _ _ h4.2.1 ho, holdc w hw _ _ h4.2.2.1 ho, holdc w hw _ _ h4.2.2.2 ho⟩
  · have h0' : 0 < ln j := by rw [← hln.1]; exact h0
    show w.heap[if ln j = 0 then b0 else v.heap.size + 4 + 3 * j + 2]? = some (.cells (arow (List.replicate (ln j) (0, 0))).toArray 42 (0, 0))
    rw [if_neg (by omega), ← made_arow]
    exact hw _ _ (by rw [hnew _ (by omega) (fun i hi => by omega)]; exact hb3.2.2)
  · show (List.replicate (ln j) ((0 : Int), (0 : Int))).length = (cl j).length
    rw [List.length_replicate, hln.1]
  · show w.cell? ⟨xb, 0, none⟩ = some (.slice (some ⟨rk, 0, none⟩) (K.map (·.1)).length ck)
    rw [List.length_map]
    exact holdc w hw _ _ t.hx t.xo.1
  · exact holdc w hw _ _ (t.hr i b hi) t.xo.2
  · obtain ⟨b9, hb9⟩ : ∃ b, (K.map (·.1))[0]? = some b := ⟨_, List.getElem?_eq_getElem (by simpa using t.kl.1)⟩
    have mm : ∀ (a : Addr) (x : Value), v.cell? a = some x → ¬ Own S K a.block → Mm a.block ≠ none := fun a x ha ho => by
      obtain ⟨o, e⟩ := some_of a x ha
      rw [hold a x ha ho, e]; simp
    by_cases h0 : ln j = 0
    · simp only [Fix.Pr, scrOf, if_pos h0] at hp
      rcases hp with h | h | h | h | h
      · exact .inl h
      · exact .inl h
      · exact .inl h
      · subst h; exact .inr (mm _ _ t.hx t.xo.1)
      · subst h; exact .inr (mm _ _ (t.hr 0 b9 hb9) t.xo.2)
    · simp only [Fix.Pr, scrOf, if_neg h0] at hp
      rcases hp with h | h | h | h | h
      · exact .inl h
      · subst h
        obtain ⟨c, hc⟩ : ∃ c, (cl j)[0]? = some c := ⟨_, List.getElem?_eq_getElem (by omega)⟩
        exact .inr (mm _ _ (t.call j hj 0 c hc).1 (t.pq j hj (by omega)).2)
      · subst h; exact .inr (hab (by omega))
      · subst h; exact .inr (mm _ _ t.hx t.xo.1)
      · subst h; exact .inr (mm _ _ (t.hr 0 b9 hb9) t.xo.2)
  · obtain ⟨i, h1, h2, h3, rfl⟩ := (hF b).1 hf
    have hxl := clt _ _ t.hx
    obtain ⟨b9, hb9⟩ : ∃ b, (K.map (·.1))[0]? = some b := ⟨_, List.getElem?_eq_getElem (by simpa using t.kl.1)⟩
    have hrl := clt _ _ (t.hr 0 b9 hb9)
    simp only at hxl hrl
    have hn0 : v.heap.size + 4 + 3 * i + 2 ≠ b0 := hb0 _ (by
      rw [hnew _ (by omega) (fun i' hi' => by omega), (s.blk i h2).2.2]; simp)
    by_cases h0 : ln j = 0
    · simp only [Fix.Pr, scrOf, if_pos h0] at hp ⊢
      rcases hp with h | h | h | h | h <;> first | exact absurd h hn0 | omega
    · simp only [Fix.Pr, scrOf, if_neg h0] at hp ⊢
      obtain ⟨c, hc⟩ : ∃ c, (cl j)[0]? = some c := ⟨_, List.getElem?_eq_getElem (by omega)⟩
      have hcl := clt _ _ (t.call j hj 0 c hc).1
      simp only at hcl
      rcases hp with h | h | h | h | h <;> first | exact absurd h hn0 | omega
  · show (if ln j = 0 then b0 else v.heap.size + 4 + 3 * j + 2) = b0 ∨ Fut (if ln j = 0 then b0 else v.heap.size + 4 + 3 * j + 2)
    by_cases h0 : ln j = 0
    · rw [if_pos h0]; exact .inl rfl
    · rw [if_neg h0]; exact .inr ((hF _).2 ⟨j, Nat.le_refl _, hj, by omega, rfl⟩)

theorem scripts_of (hm : Mem zn S K v) (hb : Open v S.bk) (t : Told v S K xb rk ck n pc ln cp rb cl) (s : Set20 v xb n pc ln cp u) : ∀ (m j : Nat), j + m = n → ∀ (Mm : Nat → Option Obj) (Fut : Nat → Prop), (∀ b, (∀ i, i < j → b ≠ v.heap.size + 4 + 3 * i + 2) → Mm b = allM S K u b) → (∀ b, Fut b ↔ futOf v.heap.size n ln j b) →
    Scripts (v.heap.size + 3) (K.map (·.1)) j Mm Fut ((List.range' j m).map (scrOf v.heap.size n xb rk ck (K.map (·.1)) pc ln cp rb cl))
  | 0, j, hjm, Mm, Fut, hM, hF => .nil
  | m + 1, j, hjm, Mm, Fut, hM, hF => by
    have hj : j < n := by omega
    have hbk : S.bk < v.heap.size := by obtain ⟨c, m, h⟩ := hb; exact (Array.getElem?_eq_some_iff.1 h).1
    have hOw : ∀ b, v.heap.size ≤ b → ¬ Own S K b ∧ b ≠ S.bk := fun b hb => ⟨fun h => by have := hm.lt h; omega, by omega⟩
    rw [List.range'_succ, List.map_cons]
    refine .cons (script_of hm hb t s hj hM hF) (fun h tb gc b0 hb0 => ?_)
    refine scripts_of hm hb t s m (j + 1) (by omega) _ _ (fun b hbi => ?_) (fun b => ?_)
    · show (if b = (if ln j = 0 then b0 else v.heap.size + 4 + 3 * j + 2) then none else Mm b) = _
      by_cases h0 : ln j = 0
      · rw [if_pos h0]
        by_cases e : b = b0
        · rw [if_pos e, ← hM b (fun i hi => hbi i (by omega))]
          cases h9 : Mm b with
          | none => rfl
          | some o => exact absurd e (hb0 b (by rw [h9]; simp))
        · rw [if_neg e]
          exact hM b (fun i hi => hbi i (by omega))
      · rw [if_neg h0, if_neg (hbi j (by omega))]
        exact hM b (fun i hi => hbi i (by omega))
    · show Fut b ∧ b ≠ (if ln j = 0 then b0 else v.heap.size + 4 + 3 * j + 2) ↔ _
      rw [hF b]
      constructor
      · rintro ⟨⟨i, h1, h2, h3, rfl⟩, hne⟩
        refine ⟨i, ?_, h2, h3, rfl⟩
        rcases Nat.lt_or_ge j i with h4 | h4
        · omega
        · have : i = j := by omega
          subst this
          rw [if_neg (by omega)] at hne
          exact absurd rfl hne
      · rintro ⟨i, h1, h2, h3, rfl⟩
        refine ⟨⟨i, by omega, h2, h3, rfl⟩, ?_⟩
        by_cases h0 : ln j = 0
        · rw [if_pos h0]
          refine hb0 _ ?_
          rw [hM _ (fun i' hi' => by omega), allM_at (hOw _ (by omega)).1 (hOw _ (by omega)).2, (s.blk i h2).2.2]
          simp
        · rw [if_neg h0]; omega
end
end Go.Proofs.Ytmgaojbfmohboaa
