/- The statement CellAdds of the package butlerlaw02 (cell), in full form: for every input the law answers true, and its arguments read behind the call as before; no conditions. Part 35 of 36. (Joined, by program, of: Law4c, Law4b, Run4.) -/
import Derived.Test.YtmgaojbfmohboaaCellAdds34

/- The law CellAdds (4), main alone: behind its Play. -/
set_option linter.unusedSimpArgs false
set_option linter.unusedVariables false
namespace Go.Proofs.Ytmgaojbfmohboaa
open Go Go.Lift Go.Conc Go.RowKit

/-- What lies there at Play's entry. -/
structure Set4 (v : World) (start : Int) (az : Nat → List Nat) (n : Nat) (sched : List Int) (wb bk : Nat) (sc : Value) (og : Nat) (pc : Nat → Option Addr) (cp rb : Nat → Nat) (vb : Nat) (v5 u : World) : Prop where
  old : Grows v v5
  new : IsNew v5 sched wb bk sc u
  scr : InS v5 (some ⟨og, 0, none⟩) og 0 n pc (fun j => (addS start az j).length) cp rb (addS start az)
  val : u.cell? ⟨vb, 0, none⟩ = some (I start)
  far : ¬ Own (newS wb bk v5.heap.size sc sched) [] vb
/-- What lies there behind it. -/
structure Got4 (v2 : World) (start : Int) (p : Option Addr) (b o n : Nat) (qa : Nat → Option Addr) (ca ib io : Nat → Nat) (za : Nat → List Int) (og : Nat) (pc : Nat → Option Addr) (cp : Nat → Nat) (wb M : Nat) : Prop where
  inA : InA v2 p b o n qa ca ib io za
  ans : ∃ Ab vals, Ans v2 M n og Ab (fun j => (addS start (azOf za) j).length) pc cp vals ∧ (∀ j, j < n → (vals j).length = (za j).length) ∧ (∀ j, (vals j).length ≤ 64) ∧ ∀ (i k : Nat) (x y : Int), k < i → (seenOf vals n)[i]? = some x → (seenOf vals n)[k]? = some y → x ≠ y
  tr : ∃ S L, S.wb = wb ∧ Rep zn S v2 ∧ S.tr = flat L ∧ S.n = L.length ∧ S.n ≤ 1000000 ∧ lastAdd start L = wrap64 (start + total (azOf za) n)

section
variable {Ch : Nat → Prop} {Stop : Goroutine → World → Prop} {main : Bool}

/-- Behind Play. -/
theorem law4_c {v w : World} {start : Int} {p : Option Addr} {b o n cap : Nat} {qa : Nat → Option Addr} {ca ib io : Nat → Nat} {za : Nat → List Int} {og ocap : Nat} {pc : Nat → Option Addr} {cp : Nat → Nat} {wb M : Nat} (hn : 0 < n ∧ n ≤ 8) (hG : Got4 v start p b o n qa ca ib io za og pc cp wb M) (hvw : Rel zn v w) (hnr : NoRow Ch v)
    (hend : ∀ a' v' w' todo, Rel zn v' w' → Grows v v' → a'.defers = [] → a'.tmps.getD 6 undef = .bool true → GoesI Try.prog main (DT (ScZ zn) Ch) Stop (G { (base 4).at a' todo with mode := .returning } []) w') {a : Act}
    (hF : Fram 191 ((16, I 0) :: slots4 start (wrap64 (start + total (azOf za) n)) (.slice p n cap) (.slice (some ⟨og, 0, none⟩) n ocap) wb M n) a) : GoesI Try.prog main (DT (ScZ zn) Ch) Stop (G ((base 4).at a [.code P4]) []) w := by
  obtain ⟨Ab, vals, hA, hvl, hv64, hdis⟩ := hG.ans
  obtain ⟨S, L, rfl, hrep, htr, hSn, hS1, hlast⟩ := hG.tr
  rw [eP4z]
  refine goesI_seq (dt_idle _ _) ?_
  refine goesI_plain (z := zn) (wr := true) (L := LO) (I := NoRow Ch) hE fineO noRow_keeps (fun v v' w w' es hi hr ho he => dt_of_z v v' w w' es hi hr ho he) hvw fineq22 hF.defers (by simp [base]) hnr
    (Q := fun a w' => Fram 191 (slots4 start (wrap64 (start + total (azOf za) n)) (.slice p n cap) (.slice (some ⟨og, 0, none⟩) n ocap) S.wb M n) a ∧ w'.heap = v.heap ∧ w'.os = v.os ∧ w'.output = v.output) (fun τ => q422_wp (v := onTape v τ 0) hF) ?_
  rintro a1 v1 w1 ⟨hF1, e1, o1, u1⟩ hr1 hn1 -
  refine goesI_seq (dt_idle _ _) ?_
  refine goesI_plain (z := zn) (wr := true) (L := LO) (I := NoRow Ch) hE fineO noRow_keeps (fun v v' w w' es hi hr ho he => dt_of_z v v' w w' es hi hr ho he) hr1 fineq24 hF1.defers (by simp [base]) hn1
    (Q := fun a w' => Fram 191 ((17, .slice none 0 0) :: slots4 start (wrap64 (start + total (azOf za) n)) (.slice p n cap) (.slice (some ⟨og, 0, none⟩) n ocap) S.wb M n) a ∧ w'.heap = v1.heap ∧ w'.os = v1.os ∧ w'.output = v1.output) (fun τ => q424_wp (v := onTape v1 τ 0) hF1) ?_
  rintro a2 v2 w2 ⟨hF2, e2, o2, u2⟩ hr2 hn2 -
  have g2 : Grows v v2 := ⟨by rw [e2, e1]; exact Nat.le_refl _, fun b _ => by rw [e2, e1], by rw [o2, o1], by rw [u2, u1]⟩
  refine goesI_seq (dt_idle _ _) ?_
  refine goesI_plain (z := zn) (wr := true) (L := LO) (I := NoRow Ch) hE fineO noRow_keeps (fun v v' w w' es hi hr ho he => dt_of_z v v' w w' es hi hr ho he) hr2 fineq25 hF2.defers (by simp [base]) hn2
    (Q := fun a w' => ∃ sv, Fram 191 ((17, sv) :: slots4 start (wrap64 (start + total (azOf za) n)) (.slice p n cap) (.slice (some ⟨og, 0, none⟩) n ocap) S.wb M n) a ∧ Seen v2 sv (seenOf vals n) w') (fun τ => wp_mono (q425_wp (v := onTape v2 τ 0) ((hG.inA.stn (P := fun _ => True) g2).stn (P := fun _ => True) ⟨Nat.le_refl _, fun _ _ => rfl, rfl, rfl⟩) hn ((hA.grows g2).grows ⟨Nat.le_refl _, fun _ _ => rfl, rfl, rfl⟩) hvl hv64 hF2) (fun e a w' hq => ⟨hq.1, by
      obtain ⟨_, sv, h1, h2⟩ := hq
      exact ⟨sv, h1, h2.own, ⟨h2.old.size, h2.old.old, h2.old.os, h2.old.output⟩⟩⟩)) ?_
  rintro a3 v3 w3 ⟨sv, hF3, hSe⟩ hr3 hn3 -
  refine goesI_seq (dt_idle _ _) ?_
  refine goesI_plain (z := zn) (wr := true) (L := LO) (I := NoRow Ch) hE fineO noRow_keeps (fun v v' w w' es hi hr ho he => dt_of_z v v' w w' es hi hr ho he) hr3 fineq34 hF3.defers (by simp [base]) hn3
    (Q := fun a w' => Fram 191 (slots4 start (wrap64 (start + total (azOf za) n)) (.slice p n cap) (.slice (some ⟨og, 0, none⟩) n ocap) S.wb M n) a ∧ w'.heap = v3.heap ∧ w'.os = v3.os ∧ w'.output = v3.output) (fun τ => q434_wp (v := v2) (w := onTape v3 τ 0) (l := seenOf vals n) ⟨own_stay (fun b _ => rfl) hSe.own, ⟨hSe.old.size, hSe.old.old, hSe.old.os, hSe.old.output⟩⟩ (by have := seenOf_le vals hv64 n; omega) hdis hF3) ?_
  rintro a4 v4 w4 ⟨hF4, e4, o4, u4⟩ hr4 hn4 -
  have g4 : Grows v v4 := by
    have := g2.trans' hSe.old
    exact ⟨by rw [e4]; exact this.size, fun b hb => by rw [e4]; exact this.old b hb, o4.trans this.os, u4.trans this.output⟩
  have hfin := lift_code (P := Try.prog) (z := zn) (wr := true) (L := LO) (D := DT (ScZ zn) Ch) (I := NoRow Ch) (main := main) (b := base 4) (k := []) (cs := []) hE fineO noRow_keeps (fun v v' w w' es hi hr ho he => dt_of_z v v' w w' es hi hr ho he) hr4 fineZ4 hF4.defers (by simp [base]) hn4
    (Q := fun e a w' => e = .ret ∧ a.tmps.getD 6 undef = .bool true ∧ Grows v4 w') (fun τ => wp_mono (z4_wp (v := onTape v4 τ 0) ((hrep.grows g4.size g4.old).same (v' := onTape v4 τ 0) rfl) L htr hSn hS1 hlast hF4) (fun e a w' hq => ⟨hq.1, hq.2.1, hq.2.2.size, hq.2.2.old, hq.2.2.os, hq.2.2.output⟩)) (fun e a w hq => .inr hq.1)
  refine hfin.then ?_
  rintro g w' ⟨a', v', hr, hiv, hd, ⟨⟨hq, _⟩, _⟩ | ⟨⟨_, h6, hgr⟩, todo, rfl⟩⟩
  · cases hq
  · exact hend a' v' w' todo hr (g4.trans' hgr) hd h6
end
end Go.Proofs.Ytmgaojbfmohboaa

/- The law CellAdds (4), main alone: from awake to its Play, or to its end. -/
set_option linter.unusedSimpArgs false
set_option linter.unusedVariables false
namespace Go.Proofs.Ytmgaojbfmohboaa
open Go Go.Lift Go.Conc Go.RowKit

set_option maxHeartbeats 4000000 in
set_option maxRecDepth 100000 in
theorem e420_wp {v : World} (p : Option Addr) (cap vb vo : Nat) (xs : List Int) (hp : 0 < xs.length → p = some ⟨vb, vo, none⟩) (hx1 : xs.length ≤ 17592186043904) (hv : ∀ k x, xs[k]? = some x → v.cell? ⟨vb, vo + k, none⟩ = some (I x)) {start sm : Int} {X2 X8 : Value} {a : Act} (hF : Fram 191 [(0, .slice p xs.length cap), (1, I start), (2, X2), (7, .bool true), (8, X8), (9, I sm)] a) :
    e420.wp Try.prog (fun e a w' => e = .normal ∧ ∃ wb bk sc, Fram 191 [(1, I start), (2, X2), (8, X8), (9, I sm), (14, Pt wb 0)] a ∧ IsNew v xs wb bk sc w') a v := by
  have H7 : Hid (Calls Try.prog 7 #[.slice p xs.length cap] v _) := ⟨(body7A p vb vo cap xs hp hx1 hv).calls Try.func7 rfl⟩
  clear hp hx1 hv
  obtain ⟨f0, f1, f2, f7, f8, f9, -⟩ := hF.at_
  obtain ⟨u, rfl, hg⟩ := litN hF.size hF.defers
  have u0 := (hg 0).symm.trans f0
  have u1 := (hg 1).symm.trans f1
  have u2 := (hg 2).symm.trans f2
  have u8 := (hg 8).symm.trans f8
  have u9 := (hg 9).symm.trans f9
  clear hg hF f0 f1 f2 f7 f8 f9
  show Code.wp Try.prog (seq1 (seq2 (seq2 (seq2 (seq2 (seq2 U4)))))) _ _ _
  unfold U4 B4 Try.f4 seq2 seq1
  simp only [Option.getD_some, lis, Nat.reduceAdd, u0, u1, u2, u8, u9]
  clear u0 u1 u2 u8 u9
  go_wp2_with (first
    | (go_at_call 7; refine H7.out.mono ?_; rintro e w1 ⟨_, rfl, wb, bk, sc, rfl, hnew⟩))
  exact ⟨wb, ⟨rfl, rfl, rfl, rfl, rfl, rfl, rfl, trivial⟩, bk, sc, hnew⟩

theorem azOf_le {za : Nat → List Int} {j m : Nat} (h : m ∈ azOf za j) : 0 < m ∧ m ≤ 1024 := by
  unfold azOf at h
  obtain ⟨x, _, rfl⟩ := List.mem_map.1 h
  have := incr_in x
  omega
theorem azOf_len (za : Nat → List Int) (j : Nat) : (azOf za j).length = (za j).length := by unfold azOf; simp

set_option maxHeartbeats 4000000 in
set_option maxRecDepth 100000 in
theorem law4_b {Ch : Nat → Prop} {Stop : Goroutine → World → Prop} {main : Bool} {v w : World} {sp : Option Addr} {scap sb so : Nat} {sched : List Int} (hS : InI v sp sb so sched) {start : Int} (hst : InR start) {p : Option Addr} {b o n cap : Nat} {qa : Nat → Option Addr} {ca ib io : Nat → Nat} {za : Nat → List Int} (hI : InA v p b o n qa ca ib io za) (hvw : Rel zn v w) (hnr : NoRow Ch v)
    (hend : ∀ a' v' w' todo, Rel zn v' w' → Grows v v' → a'.defers = [] → a'.tmps.getD 6 undef = .bool true → GoesI Try.prog main (DT (ScZ zn) Ch) Stop (G { (base 4).at a' todo with mode := .returning } []) w')
    (hk : ∀ (v' w' v5 : World) (wb bk : Nat) (sc : Value) (og ocap : Nat) (pc : Nat → Option Addr) (cp rb : Nat → Nat) (vb : Nat) (bd : Frame) (ad : Act) (od : Array Oper) (qd : Nat) (rd : List Nat) (oe : Oper) (kd : List Item), Rel zn v' w' → NoRow Ch v' → (0 < n ∧ n ≤ 8) → (∀ j, j < n → (za j).length < 64) → Set4 v start (azOf za) n sched wb bk sc og pc cp rb vb v5 v' → od[qd]? = some oe →
      (∀ (Ch : Nat → Prop) (Stop : Goroutine → World → Prop) (v2 w2 : World) (M : Nat), Rel zn v2 w2 → NoRow Ch v2 → Got4 v2 start p b o n qa ca ib io za og pc cp wb M →
        (∀ a' v' w' todo, Rel zn v' w' → Grows v2 v' → a'.defers = [] → a'.tmps.getD 6 undef = .bool true → GoesI Try.prog main (DT (ScZ zn) Ch) Stop (G { (base 4).at a' todo with mode := .returning } []) w') →
        GoesI Try.prog main (DT (ScZ zn) Ch) Stop (G (bd.at (ad.put oe.dst (.tuple #[.slice (some ⟨M, 0, none⟩) n n, I 0])) (.inRegion od rd :: kd)) []) w2) →
      GoesI Try.prog main (DT (ScZ zn) Ch) Stop (G ((base 8).at { tmps := #[Pt wb 0, .slice (some ⟨vb, 0, none⟩) 1 1, .slice (some ⟨og, 0, none⟩) n ocap] ++ Array.replicate 39 undef, defers := [] } [.code B8]) [bd.at ad (.inRegion od (qd :: rd) :: kd)]) w') :
    ∀ a, Fram 191 [(0, .slice sp sched.length scap), (1, I start), (2, .slice p n cap), (7, .bool true)] a → GoesI Try.prog main (DT (ScZ zn) Ch) Stop (G ((base 4).at a [.code R4]) []) w := by
  intro a hF
  refine goesI_seq (dt_idle _ _) ?_
  -- too few, too many
  refine (lift_code (P := Try.prog) (z := zn) (wr := true) (L := LO) (D := DT (ScZ zn) Ch) (I := NoRow Ch) (main := main) (b := base 4) (cs := []) hE fineO noRow_keeps (fun v v' w w' es hi hr ho he => dt_of_z v v' w w' es hi hr ho he) hvw fine42 hF.defers (by simp [base]) hnr
    (Q := fun e a w' => (w'.heap = v.heap ∧ w'.os = v.os ∧ w'.output = v.output) ∧ ((e = .ret ∧ a.tmps.getD 6 undef = .bool true ∧ ¬ (0 < n ∧ n ≤ 8)) ∨ (e = .normal ∧ (0 < n ∧ n ≤ 8) ∧ Fram 191 [(0, .slice sp sched.length scap), (1, I start), (2, .slice p n cap), (7, .bool true)] a))) (fun τ => e42_wp (v := onTape v τ 0) hF) (fun e a w hq => hq.2.elim (fun h => .inr h.1) (fun h => .inl h.1))).then ?_
  rintro g w1 ⟨a1, v1, hr1, hn1, hd1, ⟨⟨⟨e1, o1, u1⟩, hq⟩, rfl⟩ | ⟨⟨⟨e1, o1, u1⟩, hq⟩, todo, rfl⟩⟩
  rotate_left
  · rcases hq with ⟨_, h6, _⟩ | ⟨hq, _⟩
    · exact hend a1 v1 w1 todo hr1 ⟨by rw [e1]; exact Nat.le_refl _, fun b _ => by rw [e1], o1, u1⟩ hd1 h6
    · cases hq
  rcases hq with ⟨hq, _⟩ | ⟨_, hn8, hF1⟩
  · cases hq
  refine goesI_seq (dt_idle _ _) ?_
  refine goesI_plain (z := zn) (wr := true) (L := LO) (I := NoRow Ch) hE fineO noRow_keeps (fun v v' w w' es hi hr ho he => dt_of_z v v' w w' es hi hr ho he) hr1 fine44 hF1.defers (by simp [base]) hn1
    (Q := fun a w' => Fram 191 [(0, .slice sp sched.length scap), (1, I start), (2, .slice p n cap), (7, .bool true), (8, .slice none 0 0)] a ∧ (w'.heap = v1.heap ∧ w'.os = v1.os ∧ w'.output = v1.output)) (fun τ => e44_wp (v := onTape v1 τ 0) hF1) ?_
  rintro a2 v2 w2 ⟨hF2, e2, o2, u2⟩ hr2 hn2 -
  refine goesI_seq (dt_idle _ _) ?_
  refine goesI_plain (z := zn) (wr := true) (L := LO) (I := NoRow Ch) hE fineO noRow_keeps (fun v v' w w' es hi hr ho he => dt_of_z v v' w w' es hi hr ho he) hr2 fine45 hF2.defers (by simp [base]) hn2
    (Q := fun a w' => Fram 191 [(0, .slice sp sched.length scap), (1, I start), (2, .slice p n cap), (7, .bool true), (8, .slice none 0 0), (9, I start)] a ∧ (w'.heap = v2.heap ∧ w'.os = v2.os ∧ w'.output = v2.output)) (fun τ => e45_wp (v := onTape v2 τ 0) hF2) ?_
  rintro a3 v3 w3 ⟨hF3, e3, o3, u3⟩ hr3 hn3 -
  have g3 : Grows v v3 := ⟨by rw [e3, e2, e1]; exact Nat.le_refl _, fun b _ => by rw [e3, e2, e1], by rw [o3, o2, o1], by rw [u3, u2, u1]⟩
  have hI3 := hI.stn (P := fun _ => True) g3
  refine goesI_seq (dt_idle _ _) ?_
  -- the scripts
  refine (lift_code (P := Try.prog) (z := zn) (wr := true) (L := LO) (D := DT (ScZ zn) Ch) (I := NoRow Ch) (main := main) (b := base 4) (cs := []) hE fineO noRow_keeps (fun v v' w w' es hi hr ho he => dt_of_z v v' w w' es hi hr ho he) hr3 fine46 hF3.defers (by simp [base]) hn3
    (Q := fun e a w' => (e = .ret ∧ a.tmps.getD 6 undef = .bool true ∧ Grows v3 w') ∨ (e = .normal ∧ (∀ j, j < n → (za j).length < 64) ∧ ∃ V8 V, Fram 191 [(0, .slice sp sched.length scap), (1, I start), (2, .slice p n cap), (7, .bool true), (8, V8), (9, I (wrap64 (start + total (azOf za) n)))] a ∧ Built v3 (azOf za) n V8 V w')) (fun τ => wp_mono (e46_wp (v := onTape v3 τ 0) (hI3.stn (P := fun _ => True) ⟨Nat.le_refl _, fun _ _ => rfl, rfl, rfl⟩) hn8 hst hF3) (fun e a w' hq => by
      rcases hq with ⟨h1, h2, h3⟩ | ⟨h1, h2, V8, V, h3, h4⟩
      · exact .inl ⟨h1, h2, h3.size, h3.old, h3.os, h3.output⟩
      · exact .inr ⟨h1, h2, V8, V, h3, h4.outer, h4.inner, h4.ap8, h4.ap, ⟨h4.old.size, h4.old.old, h4.old.os, h4.old.output⟩⟩)) (fun e a w hq => hq.elim (fun h => .inr h.1) (fun h => .inl h.1))).then ?_
  rintro g w4 ⟨a4, v4, hr4, hn4, hd4, ⟨hq, rfl⟩ | ⟨hq, todo, rfl⟩⟩
  rotate_left
  · rcases hq with ⟨_, h6, hg⟩ | ⟨hq, _⟩
    · exact hend a4 v4 w4 todo hr4 (g3.trans' hg) hd4 h6
    · cases hq
  rcases hq with ⟨hq, _⟩ | ⟨_, h64, V8, V, hF4, hB⟩
  · cases hq
  have haz : ∀ j, j < n → ∀ m ∈ azOf za j, m ≤ 1024 := fun j _ m hm => (azOf_le hm).2
  have haz64 : ∀ j, j < n → (azOf za j).length < 64 := fun j hj => by rw [azOf_len]; exact h64 j hj
  refine goesI_seq (dt_idle _ _) ?_
  refine goesI_plain (z := zn) (wr := true) (L := LO) (I := NoRow Ch) hE fineO noRow_keeps (fun v v' w w' es hi hr ho he => dt_of_z v v' w w' es hi hr ho he) hr4 fine419 hF4.defers (by simp [base]) hn4
    (Q := fun a w' => ∃ og ocap pc cp rb, Fram 191 [(0, .slice sp sched.length scap), (1, I start), (2, .slice p n cap), (7, .bool true), (8, .slice (some ⟨og, 0, none⟩) n ocap), (9, I (wrap64 (start + total (azOf za) n)))] a ∧ InS w' (some ⟨og, 0, none⟩) og 0 n pc (fun j => (addS start (azOf za) j).length) cp rb (addS start (azOf za)) ∧ Grows v3 w') (fun τ => wp_mono (e419_wp (v := v3) (w := onTape v4 τ 0) ⟨own_stay (fun b _ => rfl) hB.outer, fun j hj => own_stay (fun b _ => rfl) (hB.inner j hj), hB.ap8, hB.ap, ⟨hB.old.size, hB.old.old, hB.old.os, hB.old.output⟩⟩ hn8 hst haz haz64 hF4) (fun e a w' hq => ⟨hq.1, by
      obtain ⟨_, og, ocap, pc, cp, rb, h1, h2, _, h3⟩ := hq
      exact ⟨og, ocap, pc, cp, rb, h1, h2, h3⟩⟩)) ?_
  rintro a5 v5 w5 ⟨og, ocap, pc, cp, rb, hF5, hC5, g5⟩ hr5 hn5 -
  have g05 : Grows v v5 := g3.trans' g5
  have hS5 := hS.grows g05
  refine goesI_seq (dt_idle _ _) ?_
  refine goesI_plain (z := zn) (wr := true) (L := LO) (I := NoRow Ch) hE fineO noRow_keeps (fun v v' w w' es hi hr ho he => dt_of_z v v' w w' es hi hr ho he) hr5 fine420 hF5.defers (by simp [base]) hn5
    (Q := fun a w' => ∃ wb bk sc, Fram 191 [(1, I start), (2, .slice p n cap), (8, .slice (some ⟨og, 0, none⟩) n ocap), (9, I (wrap64 (start + total (azOf za) n))), (14, Pt wb 0)] a ∧ IsNew v5 sched wb bk sc w') (fun τ => wp_mono (e420_wp (v := onTape v5 τ 0) sp scap sb so sched hS5.at_ hS5.len hS5.cell hF5) (fun e a w' hq => ⟨hq.1, by
      obtain ⟨_, wb, bk, sc, h1, h2⟩ := hq
      exact ⟨wb, bk, sc, h1, h2.mem, h2.opn, h2.new, ⟨h2.old.size, h2.old.old, h2.old.os, h2.old.output⟩⟩⟩)) ?_
  rintro a6 v6 w6 ⟨wb, bk, sc, hF6, hnew⟩ hr6 hn6 -
  have hset : Set4 v start (azOf za) n sched wb bk sc og pc cp rb v6.heap.size v5 (v6.alloc (.cells #[I start] 3)) := by
    have hgr : Grows v6 (v6.alloc (.cells #[I start] 3)) := ⟨by show v6.heap.size ≤ (v6.heap.push _).size; simp, fun b hb => by show (v6.heap.push _)[b]? = _; rw [Array.getElem?_push, if_neg (by omega)], rfl, rfl⟩
    refine ⟨g05, ⟨(hnew.mem.grows hgr).mem, ?_, hnew.new, hnew.old.trans' hgr⟩, hC5, ?_, fun h => by have := hnew.mem.lt h; omega⟩
    · obtain ⟨c, m, h⟩ := hnew.opn
      exact ⟨c, m, by rw [hgr.old _ (Array.getElem?_eq_some_iff.1 h).1]; exact h⟩
    · unfold World.cell?
      rw [show (v6.alloc (.cells #[I start] 3)).heap[v6.heap.size]? = some (.cells #[I start] 3) from Array.getElem?_push_size]
      rfl
  obtain ⟨f1, f2, f8, f9, f14, -⟩ := hF6.at_
  obtain ⟨u, rfl, hg⟩ := litN hF6.size hF6.defers
  have x1 := (hg 1).symm.trans f1
  have x2 := (hg 2).symm.trans f2
  have x8 := (hg 8).symm.trans f8
  have x9 := (hg 9).symm.trans f9
  have x14 := (hg 14).symm.trans f14
  clear hg hF6 f1 f2 f8 f9 f14 hF5 hF4 hF3 hF2 hF1 hF hB hC5 hS5 hnew hend hvw hnr hr1 hr2 hr3 hr4 hr5 hn1 hn2 hn3 hn4 hn5 e1 e2 e3 o1 o2 o3 u1 u2 u3 hI3 haz haz64 hS hI g3 g5 g05
  refine goesI_seq (dt_idle _ _) ?_
  generalize hT : P4 = T
  unfold e421 U4 B4 Try.f4 seq1 seq2
  simp only [Option.getD_some, lis, Nat.reduceAdd, x1, x2, x8, x9, x14]
  clear x1 x2 x8 x9 x14
  refine goesI_region (dt_idle _ _) ?_
  simp only [List.size_toArray, List.length_cons, List.length_nil, Nat.reduceAdd, Nat.zero_add, List.range, List.range.loop]
  iterate 2
    (refine goesI_oper rfl rfl (by decide) (fun d K hK => ?_)
     go_simp
     refine hK _ _ ⟨dt_reads (fun e he => ?_), GoesI.at ?_ d⟩
     · have hm := mem_listed he
       simp [go_sem, *] at hm
       try exact ⟨_, _, hm⟩
     clear hK K)
  refine goesI_opZ (L := LO) rfl rfl (by decide) (fineOp_ask callO extT (by kernel_rfl)) hr6 hn6 (v' := v6.alloc (.cells #[I start] 3)) (x := .slice (some ⟨v6.heap.size, 0, none⟩) 1 1) (by go_simp) rfl (fun w7 hr7 hn7 => ?_)
  iterate 1
    (refine goesI_oper rfl rfl (by decide) (fun d K hK => ?_)
     go_simp
     refine hK _ _ ⟨dt_reads (fun e he => ?_), GoesI.at ?_ d⟩
     · have hm := mem_listed he
       simp [go_sem, *] at hm
       try exact ⟨_, _, hm⟩
     clear hK K)
  refine goesI_into (f := 8) (fn := Try.f8) (args := #[Pt wb 0, .slice (some ⟨v6.heap.size, 0, none⟩) 1 1, .slice (some ⟨og, 0, none⟩) n ocap]) (dt_idle _ _) rfl rfl (by decide) rfl (by simp [Act.eval, Act.put]) Try.func8 (by decide) rfl ?_
  refine hk _ w7 v5 wb bk sc og ocap pc cp rb v6.heap.size _ _ _ _ _ _ _ hr7 hn7 hn8 h64 hset rfl (fun Ch Stop vv ww M hvw hn hG hend => ?_)
  clear hk hset hr6 hn6 hr7 hn7
  iterate 5
    (refine goesI_oper rfl rfl (by decide) (fun d K hK => ?_)
     go_simp
     refine hK _ _ ⟨dt_reads (fun e he => ?_), GoesI.at ?_ d⟩
     · have hm := mem_listed he
       simp [go_sem, *] at hm
       try exact ⟨_, _, hm⟩
     clear hK K)
  refine goesI_regionEnd (dt_idle _ _) ?_
  subst hT
  exact law4_c (cap := cap) (ocap := ocap) hn8 hG hvw hn hend ⟨rfl, rfl, rfl, rfl, rfl, rfl, rfl, rfl, rfl, trivial⟩
end Go.Proofs.Ytmgaojbfmohboaa

/- The law CellAdds (4), whole, by the machine. -/
set_option linter.unusedSimpArgs false
set_option linter.unusedVariables false
namespace Go.Proofs.Ytmgaojbfmohboaa
open Go Go.Lift Go.Conc Go.RowKit

def Post4 (W : World) (r : Value) (w' : World) : Prop := r = .bool true ∧ Grows W w'
theorem end4 {a : Act} {todo : List Item} {w : World} (hd : a.defers = []) (h6 : a.tmps.getD 6 undef = .bool true) : stepG Try.prog true (G { (base 4).at a todo with mode := .returning } []) w = .ended (.done (.bool true)) w #[] := by
  have hr : (results Try.f4 a.tmps).run Try.prog w = .ok (.bool true) w := by rw [results_tmp (t := 6) rfl, h6]
  have he : (results Try.f4 a.tmps).events Try.prog w #[] = #[] := by simp [results, go_sem, Try.f4]
  simp [G, stepG, unwind, Frame.at, hd, Try.func4, base, hr, he, doReturn, GStep.after, seen]

theorem sum_mul_le : ∀ (l : List Nat), (∀ m ∈ l, m ≤ 1024) → l.sum ≤ 1024 * l.length
  | [], _ => by simp
  | m :: l, h => by
    have h1 := sum_mul_le l (fun x hx => h x (List.mem_cons_of_mem _ hx))
    have h2 := h m List.mem_cons_self
    rw [List.sum_cons, List.length_cons]
    omega
theorem total_le {az : Nat → List Nat} : ∀ (k : Nat), (∀ j, j < k → (az j).length < 64 ∧ ∀ m ∈ az j, m ≤ 1024) → total az k ≤ 65536 * k
  | 0, _ => by simp [total]
  | k + 1, h => by
    have h1 := total_le k (fun j hj => h j (by omega))
    have h2 := sum_mul_le (az k) (h k (by omega)).2
    have h3 := (h k (by omega)).1
    rw [total_succ]
    omega
theorem seenOf_mem {vals : Nat → List Int} {x : Int} : ∀ {k : Nat}, x ∈ seenOf vals k → ∃ j, j < k ∧ x ∈ vals j := fun {k} h => by
  unfold seenOf at h
  obtain ⟨j, hj, hx⟩ := List.mem_flatMap.1 h
  exact ⟨j, List.mem_range.1 hj, hx⟩
theorem seenOf_pair {vals : Nat → List Int} {n : Nat} (h1 : ∀ j, j < n → (vals j).Pairwise (· ≠ ·)) (h2 : ∀ i j, i < n → j < n → i ≠ j → ∀ x ∈ vals i, ∀ y ∈ vals j, x ≠ y) : ∀ k, k ≤ n → (seenOf vals k).Pairwise (· ≠ ·)
  | 0, _ => by simp [seenOf]
  | k + 1, hk => by
    rw [seenOf_succ, List.pairwise_append]
    refine ⟨seenOf_pair h1 h2 k (by omega), h1 k (by omega), fun x hx y hy => ?_⟩
    obtain ⟨j, hj, hx⟩ := seenOf_mem hx
    exact h2 j k (by omega) (by omega) (by omega) x hx y hy
theorem pair_ne {l : List Int} (h : l.Pairwise (· ≠ ·)) (i k : Nat) (x y : Int) (hk : k < i) (hx : l[i]? = some x) (hy : l[k]? = some y) : x ≠ y := by
  rw [List.pairwise_iff_getElem] at h
  obtain ⟨hi, rfl⟩ := List.getElem?_eq_some_iff.1 hx
  obtain ⟨hk', rfl⟩ := List.getElem?_eq_some_iff.1 hy
  exact fun e => h k i hk' hi hk e.symm

theorem addS_len (start : Int) (az : Nat → List Nat) (j : Nat) : (addS start az j).length ≤ (az j).length + 1 := by
  unfold addS
  rw [List.length_append, List.length_map]
  split <;> simp

set_option maxHeartbeats 4000000 in
theorem run4 (W : World) {sp : Option Addr} {sb so scap : Nat} {sched : List Int} (hS : InI W sp sb so sched) {start : Int} (hst : InR start) {p : Option Addr} {b o n cap : Nat} {qa : Nat → Option Addr} {ca ib io : Nat → Nat} {za : Nat → List Int} (hI : InA W p b o n qa ca ib io za) :
    ∃ M last o w' t', runNT Try.prog (M + 1) (solo (G (Frame.enter Try.prog 4 #[.slice sp sched.length scap, I start, .slice p n cap] .normal) []) W) #[] = (.ended o w', t') ∧
      runN Try.prog M (solo (G (Frame.enter Try.prog 4 #[.slice sp sched.length scap, I start, .slice p n cap] .normal) []) W) = .next last ∧ step Try.prog last = .ended o w' ∧ Go.Conc.Good Try.prog (Post4 W) last o w' t' := by
  have e : Frame.enter Try.prog 4 #[.slice sp sched.length scap, I start, .slice p n cap] .normal = (base 4).at { tmps := #[.slice sp sched.length scap, I start, .slice p n cap] ++ Array.replicate 188 undef, defers := [] } [.code B4] := enter_at (fn := Try.f4) (c := B4) _ Try.func4 (by rfl)
  rw [e, solo_eq_crowd]
  clear e
  have hlaw := @law4_a (fun _ => False) (fun g w' => ∃ (bd : Frame) (ad : Act) (od : Array Oper) (qd : Nat) (rd : List Nat) (oe : Oper) (kd : List Item), (∃ d, w' = W.at d) ∧ od[qd]? = some oe ∧
      (∀ (Ch : Nat → Prop) (Stop : Goroutine → World → Prop) (w1 : World), (∀ a, Fram 191 [(0, .slice sp sched.length scap), (1, I start), (2, .slice p n cap), (7, .bool true)] a → GoesI Try.prog true (DT (ScZ zn) Ch) Stop (G ((base 4).at a [.code R4]) []) w1) → GoesI Try.prog true (DT (ScZ zn) Ch) Stop (G (bd.at (ad.put oe.dst (.bool true)) (.inRegion od rd :: kd)) []) w1) ∧
      g = G ((base 6).at { tmps := Array.replicate 72 undef, defers := [] } [.code B6]) [bd.at ad (.inRegion od (qd :: rd) :: kd)]) true W (.slice sp sched.length scap) (I start) (.slice p n cap)
    (fun w' bd ad od qd rd oe kd hw ho hback => GoesI.stop fun d => ⟨bd, ad, od, qd, rd, oe, kd, by obtain ⟨d0, rfl⟩ := hw; exact ⟨d, rfl⟩, ho, hback, rfl⟩)
  generalize (base 4).at { tmps := #[.slice sp sched.length scap, I start, .slice p n cap] ++ Array.replicate 188 undef, defers := [] } [.code B4] = F0 at hlaw ⊢
  have A : Alone #[G F0 []] W #[] (fun _ => 0) := ⟨leavers_one _ _, 0, Nat.zero_le _, past_nil⟩
  obtain ⟨N1, gs1, a1, w1, sl1, T1, q1, r1, z1, h1, ⟨bd, ad, od, qd, rd, oe, kd, ⟨d1, rfl⟩, hoe, hback, rfl⟩, A1⟩ := alone_goes A rfl none hlaw
  obtain ⟨N2, gs2, w2, sl2, T2, q2, r2, h2, A2, g2⟩ := awake_all hoe sl1 A1 h1
  have g2' : Grows W w2 := ⟨g2.size, g2.old, g2.os, g2.output⟩
  have hS2 := hS.grows g2'
  have hI2 := hI.stn (P := fun _ => True) g2'
  have fin : ∀ (N4 : Nat) (gs4 : Array Goroutine) (w4 : World) (sl4 : Option (Nat × Nat)) (T4 : Trace) (q4 : Nat → Nat) (a4 : Goroutine), runNT Try.prog N4 (crowd gs2 w2 sl2) T2 = (.next (crowd gs4 w4 sl4), T4) → gs4[0]? = some a4 → Alone gs4 w4 T4 q4 → (∃ a' todo, a'.defers = [] ∧ a'.tmps.getD 6 undef = .bool true ∧ Grows W w4 ∧ a4 = G { (base 4).at a' todo with mode := .returning } []) →
      ∃ M last o w' t', runNT Try.prog (M + 1) (crowd #[G F0 []] W none) #[] = (.ended o w', t') ∧ runN Try.prog M (crowd #[G F0 []] W none) = .next last ∧ step Try.prog last = .ended o w' ∧ Go.Conc.Good Try.prog (Post4 W) last o w' t' := by
    intro N4 gs4 w4 sl4 T4 q4 a4 r4 h4 A4 ⟨a', todo, hd, h6, g4, ea⟩
    subst ea
    obtain ⟨M5, last, o, w', t', e1, e2, e3, e4⟩ := alone_ends A4 h4 sl4 (Post := Post4 W) (fun B d => ⟨rfl, .bool true, #[], end4 hd h6, fun e he => by simp at he, rfl, ⟨g4.size, g4.old, g4.os, g4.output⟩⟩)
    have hrun := runNT_then (runNT_then r1 r2) r4
    refine ⟨N1 + N2 + N4 + M5, last, o, w', t', ?_, ?_, e3, e4⟩
    · rw [Nat.add_assoc, runNT_add, hrun]; exact e1
    · rw [runN_add, ← runNT_fst Try.prog _ _ #[], hrun]; exact e2
  -- to Play, or to the end
  obtain ⟨N3, gs3, a3, w3, sl3, T3', q3, r3, z3, h3, hs3, A3⟩ := alone_goes A2 h2 sl2 (hback (fun _ => False) (fun g w' => (∃ a' todo, a'.defers = [] ∧ a'.tmps.getD 6 undef = .bool true ∧ Grows W w' ∧ g = G { (base 4).at a' todo with mode := .returning } []) ∨
      (∃ (v5 : World) (wb bk : Nat) (sc : Value) (og ocap : Nat) (pc : Nat → Option Addr) (cp rb : Nat → Nat) (vb : Nat) (bd : Frame) (ad : Act) (od : Array Oper) (qd : Nat) (rd : List Nat) (oe : Oper) (kd : List Item), (0 < n ∧ n ≤ 8) ∧ (∀ j, j < n → (za j).length < 64) ∧ Set4 w2 start (azOf za) n sched wb bk sc og pc cp rb vb v5 w' ∧ od[qd]? = some oe ∧
        (∀ (Ch : Nat → Prop) (Stop : Goroutine → World → Prop) (v2 w2 : World) (M : Nat), Rel zn v2 w2 → NoRow Ch v2 → Got4 v2 start p b o n qa ca ib io za og pc cp wb M →
          (∀ a' v' w' todo, Rel zn v' w' → Grows v2 v' → a'.defers = [] → a'.tmps.getD 6 undef = .bool true → GoesI Try.prog true (DT (ScZ zn) Ch) Stop (G { (base 4).at a' todo with mode := .returning } []) w') →
          GoesI Try.prog true (DT (ScZ zn) Ch) Stop (G (bd.at (ad.put oe.dst (.tuple #[.slice (some ⟨M, 0, none⟩) n n, I 0])) (.inRegion od rd :: kd)) []) w2) ∧
        g = G ((base 8).at { tmps := #[Pt wb 0, .slice (some ⟨vb, 0, none⟩) 1 1, .slice (some ⟨og, 0, none⟩) n ocap] ++ Array.replicate 39 undef, defers := [] } [.code B8]) [bd.at ad (.inRegion od (qd :: rd) :: kd)])) w2
    (law4_b hS2 hst hI2 (Rel.refl w2) (fun c hc => hc.elim) (fun a' v' w' todo hr hgr hd h6 => GoesI.stop fun d => .inl ⟨a', todo, hd, h6, by
        have e : (w'.at d).heap = v'.heap := hr.eq
        have := g2'.trans' hgr
        exact ⟨by rw [e]; exact this.size, fun b hb => by rw [e]; exact this.old b hb, hr.os.trans this.os, hr.output.trans this.output⟩, rfl⟩)
      (fun v' w' v5 wb bk sc og ocap pc cp rb vb bd ad od qd rd oe kd hr hn hn8 h64 hset ho hend => GoesI.stop fun d => .inr ⟨v5, wb, bk, sc, og, ocap, pc, cp, rb, vb, bd, ad, od, qd, rd, oe, kd, hn8, h64, by
        have e : (w'.at d).heap = v'.heap := hr.eq
        have hgr : Grows v' (w'.at d) := ⟨by rw [e]; exact Nat.le_refl _, fun b _ => by rw [e], hr.os, hr.output⟩
        refine ⟨hset.old, ⟨(hset.new.mem.grows hgr).mem, ?_, hset.new.new, hset.new.old.trans' hgr⟩, hset.scr, hgr.cell hset.val, hset.far⟩
        obtain ⟨c, m, h⟩ := hset.new.opn
        exact ⟨c, m, by rw [e]; exact h⟩, ho, hend, rfl⟩)))
  rcases hs3 with hs3 | ⟨v5, wb, bk, sc, og, ocap, pc, cp, rb, vb, bd, ad, od, qd, rd, oe, kd, hn8, h64, hset, hoe3, hend3, rfl⟩
  · exact fin _ gs3 w3 sl3 T3' q3 a3 r3 h3 A3 hs3
  have hKof : ∀ K : List (Nat × Int), K.map (·.2) = [start] → ∃ cb, K = [(cb, start)] := fun K hK => by
    match K, hK with
    | [], hK => cases hK
    | [x], hK =>
      obtain ⟨a, b⟩ := x
      simp only [List.map_cons, List.map_nil, List.cons.injEq, and_true] at hK
      subst hK
      exact ⟨a, rfl⟩
    | x :: y :: l, hK => simp at hK
  have haz64 : ∀ j, j < n → (azOf za j).length < 64 := fun j hj => by rw [azOf_len]; exact h64 j hj
  have hl64 : ∀ j, j < n → (addS start (azOf za) j).length ≤ 64 := fun j hj => by have := addS_len start (azOf za) j; have := haz64 j hj; omega
  have hlens : ∀ N K, lens (scrs N n (w3.heap.size + 1) w3.heap.size [start].length K pc (fun j => (addS start (azOf za) j).length) cp rb (addS start (azOf za))) ≤ 512 := fun N K => Nat.le_trans (lens_scrs _ _ _ _ _ _ _ _ _ _ _ hl64) (by omega)
  obtain ⟨N4, gs4, w4, sl4, T4, q4, N, cv, K, S', S1, l1, m, p', r4, z4, h4, A4, hK, hnv, hH, hT, O⟩ := play8_all (S := newS wb bk v5.heap.size sc sched) (xs := [start]) (n := n) (sb := og) (so := 0) (vb := vb) (vo := 0) (vcap := 1) (cap := ocap) (pc := pc) (ln := fun j => (addS start (azOf za) j).length) (cp := cp) (rb := rb) (cl := addS start (azOf za)) hoe3 sl3 12305 A3 h3 hset.new.mem rfl rfl rfl hset.new.opn (asked_of hset.scr hset.new hl64 hn8.1) hn8 (show 0 < 1 by decide) (show 1 ≤ 17592186043904 by decide) (fun k x hk => by
      match k, hk with
      | 0, hk => cases hk; exact hset.val
      | k + 1, hk => simp at hk) hset.far (fun N K => by
      have := hlens N K
      show 0 + 2 * _ ≤ 1000000
      omega) (by have := hS.len; show sched.length ≤ _; omega) (fun x hx => hS.inr x hx) (fun _ => .done []) (fun N cv K hK S1 l1 hH => play_ends hH rfl (by rw [scrs_len]; exact hn8.2) (hlens N K) rfl)
  obtain ⟨cb, rfl⟩ := hKof K hK
  obtain ⟨hsm, hswb⟩ := play_small hH hT rfl (by rw [scrs_len]; exact hn8.2) (hlens N _) rfl
  have htot : total (azOf za) n ≤ 1000000 := by
    have := total_le (az := azOf za) n (fun j hj => ⟨haz64 j hj, fun m hm => (azOf_le hm).2⟩)
    omega
  obtain ⟨AA, hAA, hdis, L, t1, t2, t3⟩ := play_adds (n := n) (az := azOf za) (cb := cb) hst hH hT rfl hn8.2 (scrs_len _ _ _ _ _ _ _ _ _ _ _) rfl rfl (fun j s hj => by
    have hjn : j < n := by have := (List.getElem?_eq_some_iff.1 hj).1; rw [scrs_len] at this; exact this
    simp only [scrs, List.getElem?_map] at hj
    rw [List.getElem?_range' hjn] at hj
    cases hj
    show addS start (azOf za) (0 + 1 * j) = _ ∧ (List.replicate (addS start (azOf za) (0 + 1 * j)).length _).length = _
    rw [Nat.zero_add, Nat.one_mul]
    exact ⟨rfl, by simp⟩) (fun i _ m hm => (azOf_le hm).1) htot (fun j hj => (O.ans j hj).2.2)
  have hSn : S'.n = L.length := by have := congrArg TS.n hnv; exact this.trans t2
  have hStr : S'.tr = flat L := by have := congrArg TS.tr hnv; exact this.trans t1
  have hSw : S'.wb = wb := (congrArg TS.wb hnv).trans hswb
  have hn1 : S'.n ≤ 1000000 := by
    have : S'.n = p'.S.n := by have := congrArg TS.n hnv; exact this
    omega
  have g54 : Grows v5 w4 := by
    have hs := hset.new.old
    refine ⟨by have := hs.size; have := O.size; omega, fun b hb => ?_, O.os.trans hs.os, O.out.trans hs.output⟩
    rw [(O.old b (by have := hs.size; omega) (fun h => by have := hset.new.new b (.inl h); omega) (fun h => by have := hset.new.new b (.inr h); omega)).1]
    exact hs.old b hb
  have gW : Grows W w4 := g2'.trans' (hset.old.trans' g54)
  have hgot : Got4 w4 start p b o n qa ca ib io za og pc cp wb (N + 1) := by
    have hvals : ∀ j, j < n → (if j < n then (AA j).map fun x : Nat => wrap64 (start + x) else []) = (AA j).map fun x : Nat => wrap64 (start + x) := fun j hj => if_pos hj
    have hlen : ∀ j, j < n → (AA j).length = (za j).length := fun j hj => by
      obtain ⟨ans, _, _, h, _⟩ := hAA j hj
      rw [h, azOf_len]
    have hinj : ∀ j, j < n → ∀ x ∈ AA j, x ≤ 1000000 := fun j hj => by
      obtain ⟨ans, _, _, _, _, h, _⟩ := hAA j hj
      exact h
    refine ⟨hI.stn (P := fun _ => True) gW, ⟨fun j => N + 4 + 3 * j + 2, fun j => if j < n then (AA j).map fun x : Nat => wrap64 (start + x) else [], ⟨O.rows, fun j hj => ?_, fun j hj k x hx => ?_, fun j hj => ?_⟩, fun j hj => ?_, fun j => ?_, pair_ne (seenOf_pair (n := n) (fun j hj => ?_) (fun i j hi hj hne x hx y hy => ?_) n (Nat.le_refl _))⟩, ⟨S', L, hSw, O.mem.rep, hStr, hSn, hn1, t3⟩⟩
    · have := g54.cell (hset.scr.row j hj)
      rw [Nat.zero_add] at this
      exact this
    · rw [hvals j hj] at hx
      obtain ⟨ans, hl, hal, _, hget, _⟩ := hAA j hj
      rw [List.getElem?_map] at hx
      cases hy : (AA j)[k]? with
      | none => rw [hy] at hx; cases hx
      | some y =>
        rw [hy] at hx
        cases hx
        have h0 : 0 < (addS start (azOf za) j).length := by
          have := (List.getElem?_eq_some_iff.1 (hget k y hy)).1
          omega
        have hrow := (O.ans j hj).2.1 h0
        have ea : (p'.l j).ans = ans := by rw [hl]; rfl
        rw [ea] at hrow
        have := (arow_get ans k _ (hget k y hy)).2
        unfold World.cell?
        rw [show w4.heap[N + 4 + 3 * j + 2]? = _ from hrow]
        simpa using this
    · rw [hvals j hj, List.length_map, hlen j hj]
      have h1 := hl64 j hj
      have h2 : (azOf za j).length ≤ (addS start (azOf za) j).length := by unfold addS; simp
      rw [azOf_len] at h2
      exact ⟨h2, h1⟩
    · show (if j < n then (AA j).map fun x : Nat => wrap64 (start + x) else []).length = _
      rw [hvals j hj, List.length_map, hlen j hj]
    · show (if j < n then (AA j).map fun x : Nat => wrap64 (start + x) else []).length ≤ 64
      by_cases hj : j < n
      · rw [if_pos hj, List.length_map, hlen j hj]
        have := h64 j hj
        omega
      · rw [if_neg hj]; exact Nat.zero_le _
    · rw [hvals j hj, List.pairwise_map]
      obtain ⟨ans, _, _, _, _, _, hp⟩ := hAA j hj
      refine (List.Pairwise.and_mem.1 hp).imp (fun {x y} ⟨hx, hy, hne⟩ e => hne (wrap_apart (hinj j hj x hx) (hinj j hj y hy) e))
    · rw [hvals i hi] at hx
      rw [hvals j hj] at hy
      obtain ⟨x', hx', rfl⟩ := List.mem_map.1 hx
      obtain ⟨y', hy', rfl⟩ := List.mem_map.1 hy
      exact fun e => hdis i j hi hj hne x' hx' y' hy' (wrap_apart (hinj i hi x' hx') (hinj j hj y' hy') e)
  obtain ⟨N5, gs5, a5, w5, sl5, T5, q5, r5, z5, h5, hs5, A5⟩ := alone_goes A4 h4 sl4 (hend3 (fun _ => False) (fun g w' => ∃ a' todo, a'.defers = [] ∧ a'.tmps.getD 6 undef = .bool true ∧ Grows W w' ∧ g = G { (base 4).at a' todo with mode := .returning } []) w4 w4 (N + 1) (Rel.refl w4) (fun c hc => hc.elim) hgot (fun a' v' w' todo hr hgr hd h6 => GoesI.stop fun d => ⟨a', todo, hd, h6, by
    have e : (w'.at d).heap = v'.heap := hr.eq
    have := gW.trans' hgr
    exact ⟨by rw [e]; exact this.size, fun b hb => by rw [e]; exact this.old b hb, hr.os.trans this.os, hr.output.trans this.output⟩, rfl⟩))
  exact fin _ gs5 w5 sl5 T5 q5 a5 (runNT_then (runNT_then r3 r4) r5) h5 A5 hs5
end Go.Proofs.Ytmgaojbfmohboaa
