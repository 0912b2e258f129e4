/- The statement CellAdds of the package butlerlaw02 (cell), in full form: for every input the law answers true, and its arguments read behind the call as before; no conditions. Part 29 of 36. (Joined, by program, of: Play8c, Play8d, New7, Trace9.) -/
import Derived.Test.YtmgaojbfmohboaaCellAdds28
import Derived.Deep.RegionLaw

/- cell.Play (8), main alone: from its entry to its call of play.Run, and behind it. -/
set_option linter.unusedSimpArgs false
set_option linter.unusedVariables false
namespace Go.Proofs.Ytmgaojbfmohboaa
open Go Go.Lift Go.Conc Go.RowKit

/-- The cells are made: their row at N, its box at N + 1. -/
structure Set8 (v : World) (S : TS) (xs : List Int) (u : World) : Prop where
  made : ∃ v1, v1.heap = (v.heap.push (.cells (madeCells #[.pointer none] xs.length) 44)).push (.cells #[.slice (some ⟨v.heap.size, 0, none⟩) xs.length xs.length] 60) ∧ v1.os = v.os ∧ v1.output = v.output ∧ Made v1 S xs v.heap.size xs.length xs.length u

set_option maxHeartbeats 2000000 in
set_option maxRecDepth 100000 in
theorem play8_in {Ch : Nat → Prop} {Stop : Goroutine → World → Prop} {main : Bool} {S : TS} {v w : World} (vb vo vcap sb so n cap : Nat) (hn8 : 0 < n ∧ n ≤ 8) (hran : S.ran = false) (hch : S.chg = []) (pc : Nat → Option Addr) (ln cp : Nat → Nat) (hln : ∀ k, k < n → ln k ≤ 64) (hs : ∀ k, k < n → v.cell? ⟨sb, so + k, none⟩ = some (.slice (pc k) (ln k) (cp k)))
    (xs : List Int) (hx0 : 0 < xs.length) (hx1 : xs.length ≤ 17592186043904) (hv : ∀ k x, xs[k]? = some x → v.cell? ⟨vb, vo + k, none⟩ = some (I x)) (hvo : ¬ Own S [] vb) (hm : Mem zn S [] v) (cs : List Frame) {bc : Frame} {ac : Act} {ops : Array Oper} {q : Nat} {rest : List Nat} {oc : Oper} {k : List Item} (hoc : ops[q]? = some oc)
    (hvw : Rel zn v w) (hn : NoRow Ch v)
    (hk : ∀ v' w' (bd : Frame) (ad : Act) (od : Array Oper) (qd : Nat) (rd : List Nat) (oe : Oper) (kd : List Item), Rel zn v' w' → NoRow Ch v' → Set8 v S xs v' → od[qd]? = some oe →
      (∀ (Ch : Nat → Prop) (Stop : Goroutine → World → Prop) (w : World) (x : Value), (∀ d, GoesI Try.prog main (DT (ScZ zn) Ch) Stop (G (bc.at (ac.put oc.dst (.tuple #[x, I 0])) (.inRegion ops rest :: k)) cs) (w.at d)) → GoesI Try.prog main (DT (ScZ zn) Ch) Stop (G (bd.at (ad.put oe.dst x) (.inRegion od rd :: kd)) (bc.at ac (.inRegion ops (q :: rest) :: k) :: cs)) w) →
      GoesI Try.prog main (DT (ScZ zn) Ch) Stop (G ((base 20).at { tmps := #[Pt S.wb 0, .slice (some ⟨sb, so, none⟩) n cap, .func (.func 21) #[] #[Pt (v.heap.size + 1) 0]] ++ Array.replicate 36 undef, defers := [] } [.code B20]) (bd.at ad (.inRegion od (qd :: rd) :: kd) :: bc.at ac (.inRegion ops (q :: rest) :: k) :: cs)) w') :
    GoesI Try.prog main (DT (ScZ zn) Ch) Stop (G ((base 8).at { tmps := #[Pt S.wb 0, .slice (some ⟨vb, vo, none⟩) xs.length vcap, .slice (some ⟨sb, so, none⟩) n cap] ++ Array.replicate 39 undef, defers := [] } [.code B8]) (bc.at ac (.inRegion ops (q :: rest) :: k) :: cs)) w := by
  rw [eB8]
  refine goesI_seq (dt_idle _ _) ?_
  refine goesI_plain (z := zn) (wr := true) (L := LO) (I := NoRow Ch) hE fineO noRow_keeps (fun v v' w w' es hi hr ho he => dt_of_z v v' w w' es hi hr ho he) hvw fine80 rfl (by simp [base]) hn
    (Q := fun a w' => a = { tmps := #[Pt S.wb 0, .slice (some ⟨vb, vo, none⟩) xs.length vcap, .slice (some ⟨sb, so, none⟩) n cap, undef, undef, undef, .slice none 0 0, I 0] ++ Array.replicate 34 undef, defers := [] } ∧ w'.heap = v.heap ∧ w'.os = v.os ∧ w'.output = v.output) (fun τ => p80_wp (v := onTape v τ 0)) ?_
  rintro a0 v0 w0 ⟨rfl, e0, o0, u0⟩ hr0 hn0 -
  have m0 : Mem zn S [] v0 := (hm.grows (v' := v0) ⟨by rw [e0]; exact Nat.le_refl _, fun b _ => by rw [e0], o0, u0⟩).mem
  refine goesI_seq (dt_idle _ _) ?_
  refine goesI_plain (z := zn) (wr := true) (L := LO) (I := NoRow Ch) hE fineO noRow_keeps (fun v v' w w' es hi hr ho he => dt_of_z v v' w w' es hi hr ho he) hr0 fine81 rfl (by simp [base]) hn0
    (Q := fun a w' => a = { tmps := #[Pt S.wb 0, .slice (some ⟨vb, vo, none⟩) xs.length vcap, .slice (some ⟨sb, so, none⟩) n cap, undef, undef, undef, .slice none 0 0, I 0, I 0, undef, undef, undef, Pt S.wb 0, .slice (some ⟨sb, so, none⟩) n cap, I 0, I 0, .bool false] ++ Array.replicate 25 undef, defers := [] } ∧ w'.heap = v0.heap ∧ w'.os = v0.os ∧ w'.output = v0.output)
    (fun τ => p81_wp (v := onTape v0 τ 0) (m0.grows (v' := onTape v0 τ 0) ⟨Nat.le_refl _, fun _ _ => rfl, rfl, rfl⟩).mem.rep pc ln cp (fun k hk => by
      rw [World.cell?_of_block (w := v) (w' := onTape v0 τ 0) (by show v0.heap[_]? = _; rw [e0])]
      exact hs k hk) hln hn8 hran) ?_
  rintro a1 v1 w1 ⟨rfl, e1, o1, u1⟩ hr1 hn1 -
  refine goesI_seq (dt_idle _ _) ?_
  refine goesI_plain (z := zn) (wr := true) (L := LO) (I := NoRow Ch) hE fineO noRow_keeps (fun v v' w w' es hi hr ho he => dt_of_z v v' w w' es hi hr ho he) hr1 fine82 rfl (by simp [base]) hn1
    (Q := fun a w' => a = { tmps := #[Pt S.wb 0, .slice (some ⟨vb, vo, none⟩) xs.length vcap, .slice (some ⟨sb, so, none⟩) n cap, undef, undef, undef, .slice none 0 0, I 0, I 0, undef, undef, undef, Pt S.wb 0, .slice (some ⟨sb, so, none⟩) n cap, I 0, I 0, .bool false, undef, .slice (some ⟨vb, vo, none⟩) xs.length vcap, I xs.length, .bool false] ++ Array.replicate 21 undef, defers := [] } ∧ w'.heap = v1.heap ∧ w'.os = v1.os ∧ w'.output = v1.output) (fun τ => p82_wp (v := onTape v1 τ 0) hx0) ?_
  rintro a2 v2 w2 ⟨rfl, e2, o2, u2⟩ hr2 hn2 -
  have e20 : v2.heap = v.heap := e2.trans (e1.trans e0)
  refine goesI_seq (dt_idle _ _) ?_
  refine goesI_plain (z := zn) (wr := true) (L := LO) (I := NoRow Ch) hE fineO noRow_keeps (fun v v' w w' es hi hr ho he => dt_of_z v v' w w' es hi hr ho he) hr2 fine83 rfl (by simp [base]) hn2
    (Q := fun a w' => a = { tmps := #[Pt S.wb 0, .slice (some ⟨vb, vo, none⟩) xs.length vcap, .slice (some ⟨sb, so, none⟩) n cap, undef, undef, undef, .slice none 0 0, I 0, I 0, Pt (v2.heap.size + 1) 0, undef, undef, Pt S.wb 0, .slice (some ⟨sb, so, none⟩) n cap, I 0, I 0, .bool false, undef, .slice (some ⟨vb, vo, none⟩) xs.length vcap, I xs.length, .bool false, .slice (some ⟨vb, vo, none⟩) xs.length vcap, I xs.length, .slice (some ⟨v2.heap.size, 0, none⟩) xs.length xs.length] ++ Array.replicate 18 undef, defers := [] } ∧ w'.heap = (v2.heap.push (.cells (madeCells #[.pointer none] xs.length) 44)).push (.cells #[.slice (some ⟨v2.heap.size, 0, none⟩) xs.length xs.length] 60) ∧ w'.os = v2.os ∧ w'.output = v2.output) (fun τ => p83_wp (v := onTape v2 τ 0) hx1) ?_
  rintro a3 v3 w3 ⟨rfl, e3, o3, u3⟩ hr3 hn3 -
  rw [e20] at e3 ⊢
  have s3 : v3.heap.size = v.heap.size + 2 := by rw [e3]; simp
  have k3 : ∀ b, b < v.heap.size → v3.heap[b]? = v.heap[b]? := fun b hb => by rw [e3, Array.getElem?_push, if_neg (by simp; omega), Array.getElem?_push, if_neg (by omega)]
  have o30 : v3.os = v.os := o3.trans (o2.trans (o1.trans o0))
  have u30 : v3.output = v.output := u3.trans (u2.trans (u1.trans u0))
  have m3 : Mem zn S [] v3 := (hm.grows (v' := v3) ⟨by omega, k3, o30, u30⟩).mem
  have hlt : ∀ b, Own S [] b → b < v.heap.size := fun b hb => hm.lt hb
  have f0 : v3.heap[v.heap.size]? = some (.cells (madeCells #[.pointer none] xs.length) 44) := by rw [e3, Array.getElem?_push, if_neg (by simp), Array.getElem?_push, if_pos rfl]
  have f1 : v3.heap[v.heap.size + 1]? = some (.cells #[.slice (some ⟨v.heap.size, 0, none⟩) xs.length xs.length] 60) := by rw [e3, Array.getElem?_push, if_pos (by simp)]
  obtain ⟨x0, hx00⟩ : ∃ x, xs[0]? = some x := ⟨_, List.getElem?_eq_getElem hx0⟩
  have hvl : vb < v.heap.size := World.block_lt_of_cell? _ _ (hv 0 x0 hx00)
  refine goesI_seq (dt_idle _ _) ?_
  refine goesI_plain (z := zn) (wr := true) (L := LO) (I := NoRow Ch) hE fineO noRow_keeps (fun v v' w w' es hi hr ho he => dt_of_z v v' w w' es hi hr ho he) hr3 fine84 rfl (by simp [base]) hn3
    (Q := fun a w' => (∃ u : Nat → Value, a = { tmps := #[Pt S.wb 0, .slice (some ⟨vb, vo, none⟩) xs.length vcap, .slice (some ⟨sb, so, none⟩) n cap, undef, undef, undef, .slice none 0 0, I 0, I 0, Pt (v.heap.size + 1) 0, u 10, u 11, Pt S.wb 0, .slice (some ⟨sb, so, none⟩) n cap, I 0, I 0, .bool false, undef, .slice (some ⟨vb, vo, none⟩) xs.length vcap, I xs.length, .bool false, .slice (some ⟨vb, vo, none⟩) xs.length vcap, I xs.length, .slice (some ⟨v.heap.size, 0, none⟩) xs.length xs.length, u 24, u 25, u 26, u 27, u 28, u 29, u 30, u 31, u 32, u 33, u 34, u 35, u 36, u 37, undef, undef, undef, undef], defers := [] }) ∧ Made v3 S xs v.heap.size xs.length xs.length w') (fun τ => ?_) ?_
  · refine wp_mono (p84_wp (v := onTape v3 τ 0) (m3.grows (v' := onTape v3 τ 0) ⟨Nat.le_refl _, fun _ _ => rfl, rfl, rfl⟩).mem hch xs rfl hx1 (fun k x hk => ?_) hvo (by omega) ⟨_, f0, size_madeCells _ _, fun i hi => by simp [madeCells, hi, Nat.mod_one]⟩ ?_ ⟨fun h => by have := hlt _ h; omega, fun h => by have := hlt _ h; omega⟩) (fun e a w' hq => ⟨hq.1, hq.2.1, ?_⟩)
    · rw [World.cell?_of_block (w := v) (w' := onTape v3 τ 0) (k3 vb hvl)]
      exact hv k x hk
    · unfold World.cell?
      rw [show (onTape v3 τ 0).heap[v.heap.size + 1]? = _ from f1]
      rfl
    · exact ⟨hq.2.2.at_, ⟨hq.2.2.fr.os, hq.2.2.fr.output, hq.2.2.fr.size, hq.2.2.fr.block⟩⟩
  rintro a4 v4 w4 ⟨⟨u, rfl⟩, hL⟩ hr4 hn4 -
  have hset : Set8 v S xs v4 := ⟨v3, e3, o30, u30, hL⟩
  clear hL hr0 hr1 hr2 hr3 hn0 hn1 hn2 hn3 e0 e1 e2 e3 o0 o1 o2 o3 u0 u1 u2 u3 k3 f0 f1 hvw hn hs hln s3 m0 m3 hv o30 u30 e20 hlt hvl hx00 hm
  unfold R8 B8 Try.f8 seq2
  simp only [Option.getD_some]
  refine goesI_seq (dt_idle _ _) ?_
  refine goesI_region (dt_idle _ _) ?_
  simp only [List.size_toArray, List.length_cons, List.length_nil, Nat.reduceAdd, Nat.zero_add, List.range, List.range.loop]
  iterate 3
    (refine goesI_oper rfl rfl (by decide) (fun d K hK => ?_)
     go_simp
     refine hK _ _ ⟨dt_reads (fun e he => ?_), GoesI.at ?_ d⟩
     · have hm := mem_listed he
       simp [go_sem, *] at hm
       try exact ⟨_, _, hm⟩
     clear hK K)
  refine goesI_into (f := 20) (fn := Try.f20) (args := #[Pt S.wb 0, .slice (some ⟨sb, so, none⟩) n cap, .func (.func 21) #[] #[Pt (v.heap.size + 1) 0]]) (dt_idle _ _) rfl rfl (by decide) rfl (by simp [Act.eval]) Try.func20 (by decide) rfl ?_
  refine hk v4 w4 _ _ _ _ _ _ _ hr4 hn4 hset rfl (fun Ch Stop w x hg => ?_)
  clear hk hset hr4 hn4
  iterate 2
    (refine goesI_oper rfl rfl (by decide) (fun d K hK => ?_)
     go_simp
     refine hK _ _ ⟨dt_reads (fun e he => ?_), GoesI.at ?_ d⟩
     · have hm := mem_listed he
       simp [go_sem, *] at hm
       try exact ⟨_, _, hm⟩
     clear hK K)
  refine goesI_regionEnd (dt_idle _ _) ?_
  refine GoesI.ctl rfl (fun _ => stepG_ret') (dt_idle _ _) ?_
  refine goesI_leave (b := base 8) (fn := Try.f8) (v := .tuple #[x, I 0]) rfl rfl Try.func8 (fun w => ?_) (fun w => by simp [results, go_sem, Try.f8]) hoc (dt_idle _ _) ?_
  · rw [results_tmp2 (t := 6) (u := 7) rfl]
    simp
  · have := hg w.drawn
    exact this
end Go.Proofs.Ytmgaojbfmohboaa

/- cell.Play, whole, by the machine. -/
set_option linter.unusedSimpArgs false
set_option linter.unusedVariables false
namespace Go.Proofs.Ytmgaojbfmohboaa
open Go Go.Lift Go.Conc Go.RowKit

/-- The scripts lie there. -/
structure Asked (v : World) (S : TS) (n sb so : Nat) (pc : Nat → Option Addr) (ln cp rb : Nat → Nat) (cl : Nat → List Cl) : Prop where
  len : ∀ j, j < n → (cl j).length = ln j ∧ ln j ≤ 64
  row : ∀ k, k < n → v.cell? ⟨sb, so + k, none⟩ = some (.slice (pc k) (ln k) (cp k))
  far : ¬ Own S [] sb
  pq : ∀ j, j < n → 0 < ln j → pc j = some ⟨rb j, roOf (pc j), none⟩ ∧ ¬ Own S [] (rb j)
  call : ∀ j, j < n → ∀ (k : Nat) (c : Cl), (cl j)[k]? = some c → v.cell? ⟨rb j, roOf (pc j) + k * 4, none⟩ = some (I c.po) ∧ v.cell? ⟨rb j, roOf (pc j) + k * 4 + 1, none⟩ = some (I c.ca) ∧ v.cell? ⟨rb j, roOf (pc j) + k * 4 + 2, none⟩ = some (I c.cb) ∧ v.cell? ⟨rb j, roOf (pc j) + k * 4 + 3, none⟩ = some (I c.cc)
  ca : ∀ j, j < n → ∀ c ∈ cl j, -9223372036854775808 ≤ c.ca ∧ c.ca < 9223372036854775808

section
variable {v u : World} {S : TS} {n sb so : Nat} {pc : Nat → Option Addr} {ln cp rb : Nat → Nat} {cl : Nat → List Cl} {xs : List Int}

/-- What is known at play.Run's entry. -/
theorem at20 (hm : Mem zn S [] v) (hb : Open v S.bk) (t : Asked v S n sb so pc ln cp rb cl) (hx0 : 0 < xs.length) (hx1 : xs.length ≤ 17592186043904) (s : Set8 v S xs u) :
    ∃ (cv : Value) (K : List (Nat × Int)), Mem zn (cellsS S cv xs.length) K u ∧ K.map (·.2) = xs ∧ Open u S.bk ∧ Told u (cellsS S cv xs.length) K (v.heap.size + 1) v.heap.size xs.length n pc ln cp rb cl ∧ (∀ k, k < n → u.cell? ⟨sb, so + k, none⟩ = some (.slice (pc k) (ln k) (cp k))) ∧
      v.heap.size ≤ u.heap.size ∧ (∀ b, b < v.heap.size → ¬ Own S [] b → u.heap[b]? = v.heap[b]? ∧ ¬ Own (cellsS S cv xs.length) K b) ∧ u.os = v.os ∧ u.output = v.output := by
  obtain ⟨v1, e1, o1, u1, made⟩ := s.made
  obtain ⟨cv, K, hmem, hK, hrow, hown⟩ := made.at_
  rw [List.take_length] at hK
  have hKl : K.length = xs.length := by rw [← hK, List.length_map]
  have s1 : v1.heap.size = v.heap.size + 2 := by rw [e1]; simp
  have k1 : ∀ b, b < v.heap.size → v1.heap[b]? = v.heap[b]? := fun b hb => by rw [e1, Array.getElem?_push, if_neg (by simp; omega), Array.getElem?_push, if_neg (by omega)]
  have f1 : v1.heap[v.heap.size + 1]? = some (.cells #[.slice (some ⟨v.heap.size, 0, none⟩) xs.length xs.length] 60) := by rw [e1, Array.getElem?_push, if_pos (by simp)]
  have hlt : ∀ b, Own S [] b → b < v.heap.size := fun b hb => hm.lt hb
  have no : ∀ b, b < v1.heap.size → ¬ Own S [] b → ¬ Own (cellsS S cv xs.length) K b := fun b hb ho h => (hown b h).elim ho (fun h => by omega)
  have same : ∀ b, b < v.heap.size → ¬ Own S [] b → u.heap[b]? = v.heap[b]? := fun b hb ho => by rw [made.fr.block b (by omega) (fun h => h.elim ho (fun h => by omega)), k1 b hb]
  have hcell : ∀ (a : Addr) (x : Value), ¬ Own S [] a.block → v.cell? a = some x → u.cell? a = some x := fun a x ho ha => by
    rw [World.cell?_of_block (w := v) (w' := u) (same a.block (World.block_lt_of_cell? _ _ ha) ho)]
    exact ha
  have hbk : ¬ Own S [] S.bk := fun h => by
    obtain ⟨c, m, hh⟩ := hb
    obtain ⟨x, e, f, h1⟩ := hm.row h
    rw [h1] at hh; cases hh
  have hO : Open u S.bk := by
    obtain ⟨c, m, hh⟩ := hb
    exact ⟨c, m, by rw [same _ (Array.getElem?_eq_some_iff.1 hh).1 hbk]; exact hh⟩
  have nN : ¬ Own S [] v.heap.size ∧ ¬ Own S [] (v.heap.size + 1) := ⟨fun h => by have := hlt _ h; omega, fun h => by have := hlt _ h; omega⟩
  have hs := made.fr.size
  refine ⟨cv, K, hmem, hK, hO, ⟨?_, fun j b hj => ?_, ⟨no _ (by omega) nN.2, no _ (by omega) nN.1⟩, ⟨by omega, by omega⟩, t.len, fun j hj h0 => ?_, fun j hj k c hc => ?_, t.ca⟩, fun k hk => hcell _ _ t.far (t.row k hk), by omega, fun b hb ho => ⟨same b hb ho, no b (by omega) ho⟩, made.fr.os.trans o1, made.fr.output.trans u1⟩
  · rw [hKl, World.cell?_of_block (w := v1) (w' := u) (made.fr.block _ (show v.heap.size + 1 < v1.heap.size by omega) (fun h => h.elim nN.2 (fun h => by simp at h)))]
    unfold World.cell?
    rw [show v1.heap[v.heap.size + 1]? = _ from f1]
    rfl
  · have hj' : j < xs.length := by have := (List.getElem?_eq_some_iff.1 hj).1; simpa [hKl] using this
    have := hrow.cell hj'
    rw [if_pos hj'] at this
    rw [this]
    rw [List.getElem?_map] at hj
    cases hk : K[j]? with
    | none => rw [hk] at hj; cases hj
    | some c =>
      rw [hk] at hj
      simp only [Option.map_some, Option.some.injEq] at hj
      subst hj
      simp [List.getD, hk]
  · have h1 := t.pq j hj h0
    obtain ⟨c, hc⟩ : ∃ c, (cl j)[0]? = some c := ⟨_, List.getElem?_eq_getElem (by have := t.len j hj; omega)⟩
    have hl := World.block_lt_of_cell? _ _ (t.call j hj 0 c hc).1
    exact ⟨h1.1, no _ (by simp only at hl; omega) h1.2⟩
  · have h0 : 0 < ln j := by have := (List.getElem?_eq_some_iff.1 hc).1; have := t.len j hj; omega
    have ho := (t.pq j hj h0).2
    have h4 := t.call j hj k c hc
    exact ⟨hcell _ _ ho h4.1, hcell _ _ ho h4.2.1, hcell _ _ ho h4.2.2.1, hcell _ _ ho h4.2.2.2⟩

/-- What lies there behind it: the answers' row at N. -/
structure Out8 (w : World) (S : TS) (n : Nat) (ln : Nat → Nat) (N : Nat) (S' : TS) (K' : List (Nat × Int)) (l : Nat → Ph) (w' : World) : Prop where
  mem : Mem zn S' K' w'
  size : w.heap.size ≤ w'.heap.size
  low : w.heap.size ≤ N
  old : ∀ b, b < w.heap.size → ¬ Own S [] b → b ≠ S.bk → w'.heap[b]? = w.heap[b]? ∧ ¬ Own S' K' b
  rows : ∀ j, j < n → w'.cell? ⟨N + 1, j, none⟩ = some (.slice (some ⟨N + 4 + 3 * j + 2, 0, none⟩) (ln j) (ln j))
  ans : ∀ j, j < n → (l j).ans.length = ln j ∧ (0 < ln j → w'.heap[N + 4 + 3 * j + 2]? = some (.cells (arow (l j).ans).toArray 42 (0, 0))) ∧ ∃ a, l j = .done a
  os : w'.os = w.os
  out : w'.output = w.output

set_option maxHeartbeats 1000000 in
theorem play8_all {vb vo vcap cap : Nat} {cs : List Frame} {bc : Frame} {ac : Act} {ops : Array Oper} {q0 : Nat} {rest : List Nat} {oc : Oper} {k0 : List Item} (hoc : ops[q0]? = some oc) {w : World} {T : Trace} {gs : Array Goroutine} {q : Nat → Nat} (sl : Option (Nat × Nat)) (NT : Nat) (A : Alone gs w T q)
    (hg : gs[0]? = some (G ((base 8).at { tmps := #[Pt S.wb 0, .slice (some ⟨vb, vo, none⟩) xs.length vcap, .slice (some ⟨sb, so, none⟩) n cap] ++ Array.replicate 39 undef, defers := [] } [.code B8]) (bc.at ac (.inRegion ops (q0 :: rest) :: k0) :: cs)))
    (hm : Mem zn S [] w) (hthr : S.thr = []) (hran : S.ran = false) (hch : S.chg = []) (hbk : Open w S.bk) (t : Asked w S n sb so pc ln cp rb cl) (hn8 : 0 < n ∧ n ≤ 8) (hx0 : 0 < xs.length) (hx1 : xs.length ≤ 17592186043904) (hv : ∀ k x, xs[k]? = some x → w.cell? ⟨vb, vo + k, none⟩ = some (I x)) (hvo : ¬ Own S [] vb)
    (hlen : ∀ N K, S.n + 2 * lens (scrs N n (w.heap.size + 1) w.heap.size xs.length K pc ln cp rb cl) ≤ 1000000) (hsl : S.sched.length ≤ 4611686018427387904) (hsc : ∀ x ∈ S.sched, -9223372036854775808 ≤ x ∧ x < 9223372036854775808) (l0 : Nat → Ph)
    (hturn : ∀ (N : Nat) (cv : Value) (K : List (Nat × Int)), K.map (·.2) = xs → ∀ S1 l1, Hires K.length 0 (scrs N n (w.heap.size + 1) w.heap.size xs.length K pc ln cp rb cl) (nv { cellsS S cv xs.length with ran := true }) l0 S1 l1 → ∃ m p', m ≤ NT ∧ Turns K.length m ⟨S1, K, l1⟩ p' ∧ p'.S.n * 40 ≤ 140737488355328) :
    ∃ (N' : Nat) (gs' : Array Goroutine) (w' : World) (sl' : Option (Nat × Nat)) (T' : Trace) (q' : Nat → Nat) (N : Nat) (cv : Value) (K : List (Nat × Int)) (S' : TS) (S1 : TS) (l1 : Nat → Ph) (m : Nat) (p' : PSt),
      runNT Try.prog N' (crowd gs w sl) T = (.next (crowd gs' w' sl'), T') ∧ gs'.size = gs.size + n ∧ gs'[0]? = some (G (bc.at (ac.put oc.dst (.tuple #[.slice (some ⟨N + 1, 0, none⟩) n n, I 0])) (.inRegion ops rest :: k0)) cs) ∧
      Alone gs' w' T' q' ∧ K.map (·.2) = xs ∧ nv S' = p'.S ∧ Hires K.length 0 (scrs N n (w.heap.size + 1) w.heap.size xs.length K pc ln cp rb cl) (nv { cellsS S cv xs.length with ran := true }) l0 S1 l1 ∧ Turns K.length m ⟨S1, K, l1⟩ p' ∧ Out8 w S n ln N S' p'.K p'.l w' := by
  have hG : GoesI Try.prog true (DT (ScZ zn) (fun _ => False)) (fun g w' => ∃ (bd : Frame) (ad : Act) (od : Array Oper) (qd : Nat) (rd : List Nat) (oe : Oper) (kd : List Item), Set8 w S xs w' ∧ od[qd]? = some oe ∧
      (∀ (Ch : Nat → Prop) (Stop : Goroutine → World → Prop) (w1 : World) (x : Value), (∀ d, GoesI Try.prog true (DT (ScZ zn) Ch) Stop (G (bc.at (ac.put oc.dst (.tuple #[x, I 0])) (.inRegion ops rest :: k0)) cs) (w1.at d)) → GoesI Try.prog true (DT (ScZ zn) Ch) Stop (G (bd.at (ad.put oe.dst x) (.inRegion od rd :: kd)) (bc.at ac (.inRegion ops (q0 :: rest) :: k0) :: cs)) w1) ∧
      g = G ((base 20).at { tmps := #[Pt S.wb 0, .slice (some ⟨sb, so, none⟩) n cap, .func (.func 21) #[] #[Pt (w.heap.size + 1) 0]] ++ Array.replicate 36 undef, defers := [] } [.code B20]) (bd.at ad (.inRegion od (qd :: rd) :: kd) :: bc.at ac (.inRegion ops (q0 :: rest) :: k0) :: cs)) (G ((base 8).at { tmps := #[Pt S.wb 0, .slice (some ⟨vb, vo, none⟩) xs.length vcap, .slice (some ⟨sb, so, none⟩) n cap] ++ Array.replicate 39 undef, defers := [] } [.code B8]) (bc.at ac (.inRegion ops (q0 :: rest) :: k0) :: cs)) w := by
    refine play8_in vb vo vcap sb so n cap hn8 hran hch pc ln cp (fun k hk => (t.len k hk).2) t.row xs hx0 hx1 hv hvo hm cs hoc (Rel.refl w) (fun c hc => hc.elim) (fun v' w' bd ad od qd rd oe kd hr hn hset ho hback => GoesI.stop fun d => ⟨bd, ad, od, qd, rd, oe, kd, ?_, ho, hback, rfl⟩)
    have e : (w'.at d).heap = v'.heap := hr.eq
    obtain ⟨v1, e1, o1, u1, made⟩ := hset.made
    obtain ⟨cv, K, hmem, hK, hrow, hown⟩ := made.at_
    exact ⟨v1, e1, o1, u1, ⟨cv, K, (hmem.grows (v' := w'.at d) ⟨by rw [e]; exact Nat.le_refl _, fun b _ => by rw [e], hr.os, hr.output⟩).mem, hK, hrow.of_block (by rw [e]), hown⟩, ⟨hr.os.trans made.fr.os, hr.output.trans made.fr.output, by rw [e]; exact made.fr.size, fun b hb hs => by rw [e]; exact made.fr.block b hb hs⟩⟩
  obtain ⟨N1, gs1, a1, w1, sl1, T1, q1, r1, z1, h1, ⟨bd, ad, od, qd, rd, oe, kd, hset, hoe, hback, rfl⟩, A1⟩ := alone_goes A hg sl hG
  obtain ⟨cv, K, hm1, hK, hbk1, t1, hs1, hsz1, hold1, ho1, hu1⟩ := at20 hm hbk t hx0 hx1 hset
  have hKl : K.length = xs.length := by rw [← hK, List.length_map]
  have hsb : sb < w1.heap.size := World.block_lt_of_cell? _ _ (hs1 0 hn8.1)
  obtain ⟨N2, gs2, w2, sl2, T2, q2, S2, S1, l1, m, p', r2, z2, h2, A2, hnv, hH, hT, O⟩ := run20_all (S := cellsS S cv xs.length) (K := K) hoe sl1 NT A1 h1 hm1 hthr hran hbk1 t1 hs1 hsb hn8.2 (hlen _ _) hsl hsc l0 (hturn _ cv K hK)
  obtain ⟨N3, gs3, a3, w3, sl3, T3, q3, r3, z3, h3, ⟨rfl, d3, rfl⟩, A3⟩ := alone_goes A2 h2 sl2 (hback (fun _ => False) (fun g w' => g = G (bc.at (ac.put oc.dst (.tuple #[.slice (some ⟨w1.heap.size + 1, 0, none⟩) n n, I 0])) (.inRegion ops rest :: k0)) cs ∧ ∃ d, w' = w2.at d) w2 _ (fun d => GoesI.stop fun d' => ⟨rfl, d', rfl⟩))
  refine ⟨N1 + N2 + N3, gs3, w2.at d3, sl3, T3, q3, w1.heap.size, cv, K, S2, S1, l1, m, p', runNT_then (runNT_then r1 r2) r3, by omega, h3, A3, hK, hnv, hH, hT, ⟨(O.mem.grows (v' := w2.at d3) ⟨Nat.le_refl _, fun _ _ => rfl, rfl, rfl⟩).mem, Nat.le_trans hsz1 O.size, hsz1, fun b hb ho hk => ?_, O.rows, O.ans, O.os.trans ho1, O.out.trans hu1⟩⟩
  have h5 := hold1 b hb ho
  have h6 := O.old b (by omega) h5.2 hk
  exact ⟨h6.1.trans h5.1, h6.2⟩
end
end Go.Proofs.Ytmgaojbfmohboaa

/- A new world (turn.New), walked alone. -/
set_option linter.unusedSimpArgs false
set_option linter.unusedVariables false
namespace Go.Proofs.Ytmgaojbfmohboaa
open Go Go.Lift Go.Conc Go.RowKit

/-- A new world. -/
def newS (wb bk base : Nat) (sc : Value) (xs : List Int) : TS :=
  { wb := wb, bk := bk, base := base, us := 0, n := 0, la := -1, sc := sc, cv := .slice none 0 0, ths := .slice none 0 0, tv := .slice none 0 0, sched := xs, chg := [], tr := [], stk := false, ran := false, thr := [] }
/-- It lies there. -/
structure IsNew (v : World) (xs : List Int) (wb bk : Nat) (sc : Value) (v' : World) : Prop where
  mem : Mem zn (newS wb bk v.heap.size sc xs) [] v'
  opn : Open v' bk
  new : ∀ b, Own (newS wb bk v.heap.size sc xs) [] b ∨ b = bk → v.heap.size ≤ b
  old : Grows v v'

abbrev rowNew (sc : Value) (bk : Nat) : Array Value := #[sc, I 0, I (-1), .slice none 0 0, .slice none 0 0, .slice none 0 0, .bool false, .bool false, .chan (some bk)]
theorem new_rep {v u v' : World} {xs : List Int} {g cap bk m : Nat} (hg : Grows v u) (hown : u.ownsRow v.heap.size 3 1 (.slice (some ⟨g, 0, none⟩) m cap) m (xs.map I)) (hl : xs.length = m) (hbk : u.heap[bk]? = some (.chan 0 #[] false 0 0 false)) (hb : v.heap.size ≤ bk)
    (hh : v'.heap = u.heap.push (.cells (rowNew (.slice (some ⟨g, 0, none⟩) m cap) bk) 58)) (ho : v'.os = u.os) (hu : v'.output = u.output) : IsNew v xs u.heap.size bk (.slice (some ⟨g, 0, none⟩) m cap) v' := by
  have hold : ∀ b, b < u.heap.size → v'.heap[b]? = u.heap[b]? := fun b hb => by rw [hh, Array.getElem?_push, if_neg (by omega)]
  have hs' : v'.heap.size = u.heap.size + 1 := by rw [hh]; simp
  have hgl := own_lt hown g rfl
  have hsz := hg.size
  have hblk : ∀ k b, blk (newS u.heap.size bk v.heap.size (.slice (some ⟨g, 0, none⟩) m cap) xs) k = some b → (k = 0 ∧ b = u.heap.size) ∨ (k = 4 ∧ b = g) := fun k b hk => by
    match k, hk with
    | 0, hk => cases hk; exact .inl ⟨rfl, rfl⟩
    | 1, hk => cases hk
    | 2, hk => cases hk
    | 3, hk => cases hk
    | 4, hk => cases hk; exact .inr ⟨rfl, rfl⟩
    | k + 5, hk => simp [blk, newS] at hk
  have hnil : v'.ownsRow v.heap.size 3 1 (.slice none 0 0) 0 [] := World.ownsRow_nil _ _ _ _
  refine ⟨⟨⟨?_, fun i t ht => by simp [newS] at ht, World.ownsRow_nil _ _ _ _, World.ownsRow_nil _ _ _ _, World.ownsRow_nil _ _ _ _, ?_, by show v.heap.size ≤ _; omega, fun j k b hj hk => ?_, fun b n h => by cases h⟩, fun j c hc => by simp at hc, fun j c hc => by simp at hc, fun i j c d hc => by simp at hc, rfl⟩, ⟨0, 0, ?_⟩, fun b hb' => ?_, ⟨by omega, fun b hb' => by rw [hold b (by omega), hg.old b hb'], ho.trans hg.os, hu.trans hg.output⟩⟩
  · show v'.heap[u.heap.size]? = _
    rw [hh]
    exact Array.getElem?_push_size
  · show v'.ownsRow v.heap.size 3 1 _ xs.length (xs.map I)
    rw [hl]
    exact own_stay (fun b hb => hold b (own_lt hown b hb).2) hown
  · rcases hblk j b hj with ⟨rfl, e1⟩ | ⟨rfl, e1⟩ <;> rcases hblk k b hk with ⟨rfl, e2⟩ | ⟨rfl, e2⟩ <;> first | rfl | omega
  · rw [hold bk (Array.getElem?_eq_some_iff.1 hbk).1]; exact hbk
  · rcases hb' with (⟨k, hk⟩ | ⟨j, c, hc, _⟩) | rfl
    · rcases hblk k b hk with ⟨_, rfl⟩ | ⟨_, rfl⟩
      · exact hsz
      · exact hgl.1
    · simp at hc
    · exact hb

set_option maxHeartbeats 2000000 in
set_option maxRecDepth 100000 in
theorem body7 {v : World} (vb vo cap : Nat) (xs : List Int) (hx0 : 0 < xs.length) (hx1 : xs.length ≤ 17592186043904) (hv : ∀ k x, xs[k]? = some x → v.cell? ⟨vb, vo + k, none⟩ = some (I x)) :
    Body Try.f7 #[.slice (some ⟨vb, vo, none⟩) xs.length cap] v (fun r v' => ∃ wb bk sc, r = Pt wb 0 ∧ IsNew v xs wb bk sc v') := by
  intro code hb
  obtain rfl := Option.some.inj hb
  clear hb
  obtain ⟨x0, hx00⟩ : ∃ x, xs[0]? = some x := ⟨_, List.getElem?_eq_getElem hx0⟩
  have hvl : vb < v.heap.size := World.block_lt_of_cell? _ _ (hv 0 x0 hx00)
  have hnews : ∀ u : World, u.heap[vb]? = v.heap[vb]? → ∀ j y, (xs.map I)[j]? = some y → u.cell? ((⟨vb, vo, none⟩ : Addr).add j) = some y := fun u hu j y hj => by
    have hadd : (⟨vb, vo, none⟩ : Addr).add j = ⟨vb, vo + j, none⟩ := by unfold Addr.add; split <;> simp_all
    rw [hadd, World.cell?_of_block (w := v) (w' := u) hu]
    rw [List.getElem?_map] at hj
    cases hk : xs[j]? with
    | none => rw [hk] at hj; cases hj
    | some x =>
      rw [hk] at hj
      cases hj
      exact hv j x hk
  have h1 : ∀ u ∈ xs.map I, u.oneCell' = true := fun u hu => by
    simp only [List.mem_map] at hu
    obtain ⟨x, _, rfl⟩ := hu
    rfl
  have HW : Hid (∀ u : World, u.heap[vb]? = v.heap[vb]? → ∀ j y, (xs.map I)[j]? = some y → u.cell? ((⟨vb, vo, none⟩ : Addr).add j) = some y) := ⟨hnews⟩
  have H1 : Hid (∀ u ∈ xs.map I, u.oneCell' = true) := ⟨h1⟩
  have HX : Hid (0 < xs.length ∧ xs.length ≤ 17592186043904 ∧ vb < v.heap.size) := ⟨⟨hx0, hx1, hvl⟩⟩
  clear hv hnews h1 hx00 hx0 hx1 hvl
  have hmk := run_mk
  obtain ⟨j0, hj, hj0, hj1, hj2⟩ := info_parts info3
  simp only [Try.ntmps7, List.size_toArray, List.length_cons, List.length_nil, Nat.reduceAdd, Nat.reduceSub, Array.replicate_succ, Array.replicate_zero, List.push_toArray, List.append_toArray, List.nil_append, List.cons_append]
  go_wp2_with fail
  go_region_law
    (refine step_append_lies _ rfl (.const (.slice none 0 0)) (.tmp 3) 22 rfl v.heap.size 3 j0 _ 1 8 Try.underlying22 hj hj0 hj1 hj2 rfl (by decide) (.slice none 0 0) 0 [] rfl (World.ownsRow_nil _ _ _ _) ⟨vb, vo, none⟩ xs.length cap (xs.map I) rfl (by simp) (HW.out _ (by first | rfl | (show (v.heap.push _)[vb]? = _; rw [Array.getElem?_push, if_neg (by have := HX.out; omega)]))) H1.out HX.out.1 (by have := HX.out; unfold maxLen; omega) (by have := HX.out; omega) (by simp) _ rfl ?_
     intro g cpg w6 hown6 hgrow6 hat6 hlt6)
  · have g6 : Grows v (w6.alloc (.chan 0 #[] false 0 0 false)) := by
      have hs : v.heap.size ≤ w6.heap.size := hgrow6.size
      refine ⟨by show _ ≤ (w6.heap.push _).size; simp; omega, fun b hb => ?_, hgrow6.os, hgrow6.output⟩
      show (w6.heap.push _)[b]? = _
      rw [Array.getElem?_push, if_neg (by omega)]
      exact hgrow6.block b hb (fun e => by cases e)
    have hN : IsNew v xs (w6.heap.size + 1) w6.heap.size (.slice (some ⟨g, 0, none⟩) xs.length cpg) ((w6.alloc (.chan 0 #[] false 0 0 false)).alloc (.cells (rowNew (.slice (some ⟨g, 0, none⟩) xs.length cpg) w6.heap.size) 58)) := by
      have := new_rep (v := v) (u := w6.alloc (.chan 0 #[] false 0 0 false)) (v' := (w6.alloc (.chan 0 #[] false 0 0 false)).alloc (.cells (rowNew (.slice (some ⟨g, 0, none⟩) xs.length cpg) w6.heap.size) 58)) (xs := xs) (g := g) (cap := cpg) (bk := w6.heap.size) (m := xs.length) g6 (own_stay (fun b hb => ?_) (by rw [Nat.zero_add, List.nil_append] at hown6; exact hown6)) rfl Array.getElem?_push_size hgrow6.size rfl rfl rfl
      · rw [show (w6.alloc (.chan 0 #[] false 0 0 false)).heap.size = w6.heap.size + 1 by show (w6.heap.push _).size = _; simp] at this
        exact this
      · cases hb
        show (w6.heap.push _)[g]? = _
        rw [Array.getElem?_push, if_neg (by omega)]
    have HN : Hid _ := ⟨hN⟩
    clear hN g6 hgrow6 hown6 hat6 hlt6
    go_wp2
    go_ret
    exact ⟨_, rfl, w6.heap.size + 1, w6.heap.size, _, rfl, HN.out⟩
  · have hb0 : ∀ b, b < v.heap.size + 1 → w6.heap[b]? = (v.alloc (.chan 0 #[] false 0 0 false)).heap[b]? := fun b hb => hgrow6.block b (by show b < (v.heap.push _).size; simp; omega) (fun e => by cases e)
    have hs : v.heap.size + 1 ≤ w6.heap.size := by
      have := hgrow6.size
      have e : (v.alloc (.chan 0 #[] false 0 0 false)).drew.heap.size = v.heap.size + 1 := by show (v.heap.push _).size = _; simp
      omega
    have g6 : Grows v w6 := by
      refine ⟨by omega, fun b hb => ?_, hgrow6.os, hgrow6.output⟩
      rw [hb0 b (by omega)]
      show (v.heap.push _)[b]? = _
      rw [Array.getElem?_push, if_neg (by omega)]
    have hN : IsNew v xs w6.heap.size v.heap.size (.slice (some ⟨g, 0, none⟩) xs.length cpg) (w6.alloc (.cells (rowNew (.slice (some ⟨g, 0, none⟩) xs.length cpg) v.heap.size) 58)) :=
      new_rep (v := v) (u := w6) (xs := xs) (g := g) (cap := cpg) (bk := v.heap.size) (m := xs.length) g6 (by rw [Nat.zero_add, List.nil_append] at hown6; exact hown6) rfl (by rw [hb0 _ (by omega)]; exact Array.getElem?_push_size) (Nat.le_refl _) rfl rfl rfl
    have HN : Hid _ := ⟨hN⟩
    clear hN g6 hgrow6 hown6 hat6 hlt6 hb0 hs
    go_wp2
    go_ret
    exact ⟨_, rfl, w6.heap.size, v.heap.size, _, rfl, HN.out⟩
end Go.Proofs.Ytmgaojbfmohboaa

/- A world's trace, copied (World.Trace), walked alone. -/
set_option linter.unusedSimpArgs false
set_option linter.unusedVariables false
namespace Go.Proofs.Ytmgaojbfmohboaa
open Go Go.Lift Go.Conc Go.RowKit


set_option maxHeartbeats 2000000 in
set_option maxRecDepth 100000 in
theorem body9 {z : Nat → Option Nat} {S : TS} {v : World} (h : Rep z S v) (h0 : 0 < S.n) (hn : S.n * 40 ≤ 140737488355328) (h1 : ∀ u ∈ S.tr, u.oneCell' = true) :
    Body Try.f9 #[Pt S.wb 0] v (fun r v' => ∃ g cap, r = .slice (some ⟨g, 0, none⟩) S.n cap ∧ v'.ownsRow v.heap.size 34 5 (.slice (some ⟨g, 0, none⟩) S.n cap) S.n S.tr ∧ Grows v v' ∧ v.heap.size ≤ g) := by
  intro code hb
  obtain rfl := Option.some.inj hb
  clear hb
  have c5 := h.wcell.2.2.2.2.2.1
  obtain ⟨g0, cap0, e0, _, hg0⟩ := h.own.form h0
  rw [e0] at c5
  have hcs := h.own.cells (g := g0) (by rw [e0]; rfl)
  have hln : S.tr.length = S.n * 5 := h.own.1
  have HH : Hid ((∀ j u, S.tr[j]? = some u → v.cell? ((⟨g0, 0, none⟩ : Addr).add j) = some u) ∧ (∀ u ∈ S.tr, u.oneCell' = true) ∧ 0 < S.n ∧ S.n * 40 ≤ 140737488355328 ∧ S.tr.length = S.n * 5) := ⟨⟨hcs, h1, h0, hn, hln⟩⟩
  clear hcs h1 h0 hn hln h e0
  obtain ⟨j0, hj, hj0, hj1, hj2⟩ := info_parts info34
  simp only [Try.ntmps9, List.size_toArray, List.length_cons, List.length_nil, Nat.reduceAdd, Nat.reduceSub, Array.replicate_succ, Array.replicate_zero, List.push_toArray, List.append_toArray, List.nil_append, List.cons_append]
  go_wp2_with (first
    | (refine wpList_append_lies _ rfl (.const (.slice none 0 0)) (.tmp 8) 31 rfl v.heap.size 34 j0 _ 5 40 Try.underlying31 hj hj0 hj1 hj2 rfl (by decide) (.slice none 0 0) 0 [] rfl (World.ownsRow_nil _ _ _ _) ⟨g0, 0, none⟩ S.n cap0 S.tr rfl HH.out.2.2.2.2 HH.out.1 HH.out.2.1 HH.out.2.2.1 (by have := HH.out.2.2.2.1; unfold maxLen; omega) (by have := HH.out.2.2.2.1; omega) (Nat.le_refl _) _ rfl ?_
       intro g cpg w6 hown6 hgrow6 hat6 hlt6))
  go_ret
  refine ⟨_, rfl, g, cpg, rfl, ?_, ⟨hgrow6.size, fun b hb => hgrow6.block b hb (fun e => by cases e), hgrow6.os, hgrow6.output⟩, ?_⟩
  · rw [Nat.zero_add, List.nil_append] at hown6
    exact hown6
  · rcases hat6 with h | h
    · cases h
    · omega
end Go.Proofs.Ytmgaojbfmohboaa
