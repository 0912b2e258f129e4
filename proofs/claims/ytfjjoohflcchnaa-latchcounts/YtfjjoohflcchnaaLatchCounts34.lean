/- LatchCounts: whatever the schedule, the number and the scripts, what the calls are told and what the trace says of the number is as the law asks. Part 34 of 35. (Joined, by program, of: La10f, La10g.) -/
import Derived.Test.YtfjjoohflcchnaaLatchCounts26
import Derived.Test.YtfjjoohflcchnaaLatchCounts31
import Derived.Test.YtfjjoohflcchnaaLatchCounts33
set_option linter.unusedSimpArgs false
set_option linter.unusedVariables false
namespace Go.Proofs.Ytfjjoohflcchnaa.Gen
open Go Go.Lift Go.Conc Go.RowKit

noncomputable def P10s : Code := .seq e6 (.seq e8 (.seq e9 (.seq e10 (.seq e11 (.seq CA (.seq e31 (.seq e32 (.seq CT (.seq e45 e47)))))))))
theorem eP10 : P10 = .seq e2 (.seq e3 (.seq e4 P10s)) := rfl
set_option maxHeartbeats 4000000 in
set_option maxRecDepth 100000 in
theorem law10_in {Ch : Nat → Prop} {Stop : Goroutine → World → Prop} {main : Bool} {w : World} (x0 : Value) (x1 : Value) (x2 : Value)
    (hk : ∀ (w' : World) (bd : Frame) (ad : Act) (od : Array Oper) (qd : Nat) (rd : List Nat) (oe : Oper) (kd : List Item), (∃ d, w' = w.at d) → od[qd]? = some oe →
      (∀ (Ch : Nat → Prop) (Stop : Goroutine → World → Prop) (w1 : World), (∀ a, Fl 223 [(0, x0), (1, x1), (2, x2), (7, .bool true)] a → GoesI Try.prog main (DT (ScZ zn) Ch) Stop (G ((base 10).at a [.code P10]) []) w1) → GoesI Try.prog main (DT (ScZ zn) Ch) Stop (G (bd.at (ad.put oe.dst (.bool true)) (.inRegion od rd :: kd)) []) w1) →
      GoesI Try.prog main (DT (ScZ zn) Ch) Stop (G ((base 41).at { tmps := Array.replicate 36 undef, defers := [] } [.code B39]) [bd.at ad (.inRegion od (qd :: rd) :: kd)]) w') :
    GoesI Try.prog main (DT (ScZ zn) Ch) Stop (G ((base 10).at { tmps := #[x0, x1, x2] ++ Array.replicate 220 undef, defers := [] } [.code LB10]) []) w := by
  rw [eLB10]
  simp only [Array.replicate_succ, Array.replicate_zero, List.push_toArray, List.append_toArray, List.nil_append, List.cons_append]
  refine goesI_seq (dt_idle _ _) ?_
  generalize hR : P10 = R9 at hk ⊢
  unfold LB10 Try.f10 seq1 seq2
  simp only [Option.getD_some]
  refine goesI_region (dt_idle _ _) ?_
  simp only [List.size_toArray, List.length_cons, List.length_nil, Nat.reduceAdd, Nat.zero_add, List.range, List.range.loop]
  iterate 1
    (refine goesI_oper rfl rfl (by decide) (fun d K hK => ?_)
     go_simp
     refine hK _ _ ⟨dt_reads (fun e he => ?_), GoesI.at ?_ d⟩
     · have hm := mem_listed he
       simp [go_sem, *] at hm
       try exact ⟨_, _, hm⟩
     clear hK K)
  refine goesI_regionEnd (dt_idle _ _) ?_
  refine goesI_seq (dt_idle _ _) ?_
  refine goesI_region (dt_idle _ _) ?_
  simp only [List.size_toArray, List.length_cons, List.length_nil, Nat.reduceAdd, Nat.zero_add, List.range, List.range.loop]
  refine goesI_into (f := 41) (fn := Try.f41) (args := #[]) (dt_idle _ _) rfl rfl (by decide) rfl (by simp [Act.eval]) Try.func41 (by decide) rfl ?_
  refine hk w _ _ _ _ _ _ _ ⟨w.drawn, rfl⟩ rfl (fun Ch Stop w1 hg => ?_)
  clear hk
  iterate 1
    (refine goesI_oper rfl rfl (by decide) (fun d K hK => ?_)
     go_simp
     refine hK _ _ ⟨dt_reads (fun e he => ?_), GoesI.at ?_ d⟩
     · have hm := mem_listed he
       simp [go_sem, *] at hm
       try exact ⟨_, _, hm⟩
     clear hK K)
  refine goesI_regionEnd (dt_idle _ _) ?_
  exact hg _ ⟨rfl, rfl, by
    intro p hp
    simp only [List.mem_cons, List.not_mem_nil, or_false] at hp
    rcases hp with rfl | rfl | rfl | rfl <;> rfl⟩

theorem end10 {a : Act} {todo : List Item} {w : World} (hd : a.defers = []) (h4 : a.tmps.getD 6 undef = .bool true) : stepG Try.prog true (G { (base 10).at a todo with mode := .returning } []) w = .ended (.done (.bool true)) w #[] := by
  have hr : (results Try.f10 a.tmps).run Try.prog w = .ok (.bool true) w := by rw [results_tmp (t := 6) rfl, h4]
  have he : (results Try.f10 a.tmps).events Try.prog w #[] = #[] := by simp [results, go_sem, Try.f10]
  simp [G, stepG, unwind, Frame.at, hd, Try.func10, base, hr, he, doReturn, GStep.after, seen]

set_option maxHeartbeats 4000000 in
set_option maxRecDepth 100000 in
theorem law10_b {Ch : Nat → Prop} {Stop : Goroutine → World → Prop} {main : Bool} {v w : World} (p : Option Addr) (cap vb vo : Nat) (xs : List Int) (hp : 0 < xs.length → p = some ⟨vb, vo, none⟩) (hx1 : xs.length ≤ 17592186043904) (hv : ∀ k x, xs[k]? = some x → v.cell? ⟨vb, vo + k, none⟩ = some (I x)) (s1 s2 : Value) (hvw : Rel zn v w) (hn : NoRow Ch v)
    (hk : ∀ (v' w' : World) (wb bk : Nat) (sc : Value) (bd : Frame) (ad : Act) (od : Array Oper) (qd : Nat) (rd : List Nat) (oe : Oper) (kd : List Item), Rel zn v' w' → NoRow Ch v' → IsNew v xs wb bk sc v' → od[qd]? = some oe →
      (∀ (Ch : Nat → Prop) (Stop : Goroutine → World → Prop) (w2 : World) (A : Value) (E : Int), (∀ a, Fl 223 [(1, s1), (2, s2), (7, .bool true), (8, Pt wb 0), (9, A), (10, I E)] a → GoesI Try.prog main (DT (ScZ zn) Ch) Stop (G ((base 10).at a [.code (.seq e4 P10s)]) []) w2) →
        GoesI Try.prog main (DT (ScZ zn) Ch) Stop (G (bd.at (ad.put oe.dst (.tuple #[A, I E])) (.inRegion od rd :: kd)) []) w2) →
      GoesI Try.prog main (DT (ScZ zn) Ch) Stop (G ((base 42).at { tmps := #[Pt wb 0, s1, s2] ++ Array.replicate 22 undef, defers := [] } [.code B40]) [bd.at ad (.inRegion od (qd :: rd) :: kd)]) w') :
    ∀ a, Fl 223 [(0, .slice p xs.length cap), (1, s1), (2, s2), (7, .bool true)] a → GoesI Try.prog main (DT (ScZ zn) Ch) Stop (G ((base 10).at a [.code P10]) []) w := by
  intro a0 hA0
  rw [eP10]
  refine goesI_seq (dt_idle _ _) ?_
  refine goesI_plain (z := zn) (wr := true) (L := LV) (I := NoRow Ch) hE fineV noRow_keeps (fun v v' w w' es hi hr ho he => dt_of_z v v' w w' es hi hr ho he) hvw fine_e2 hA0.2.1 (by simp [base]) hn
    (Q := fun a w' => ∃ wb bk sc, Fl 223 [(1, s1), (2, s2), (7, .bool true), (8, Pt wb 0)] a ∧ IsNew v xs wb bk sc w') (fun τ => wp_mono (e2_wp (v := onTape v τ 0) p cap vb vo xs hp hx1 hv hA0) (fun e a w' hq => ⟨hq.1, by
      obtain ⟨_, wb, bk, sc, h1, h2⟩ := hq
      exact ⟨wb, bk, sc, h1, h2.mem, h2.opn, h2.new, ⟨h2.old.size, h2.old.old, h2.old.os, h2.old.output⟩⟩⟩)) ?_
  rintro a1 v1 w1 ⟨wb, bk, sc, hB, hnew⟩ hr1 hn1 -
  obtain ⟨hsz, hd, hpp⟩ := hB
  obtain ⟨u, rfl, hg⟩ := litN hsz hd
  have u1 := (hg 1).symm.trans (hpp (1, s1) (by simp))
  have u2 := (hg 2).symm.trans (hpp (2, s2) (by simp))
  have u7 := (hg 7).symm.trans (hpp (7, .bool true) (by simp))
  have u8 := (hg 8).symm.trans (hpp (8, Pt wb 0) (by simp))
  clear hg hpp hsz hd hA0
  refine goesI_seq (dt_idle _ _) ?_
  clear hvw hn hp hx1 hv
  generalize hT : Code.seq e4 P10s = T at hk ⊢
  unfold e3 LB10 Try.f10 seq1 seq2
  simp only [Option.getD_some, lits, Nat.reduceAdd, u1, u2, u7, u8]
  clear u1 u2 u7 u8
  refine goesI_region (dt_idle _ _) ?_
  simp only [List.size_toArray, List.length_cons, List.length_nil, Nat.reduceAdd, Nat.zero_add, List.range, List.range.loop]
  iterate 3
    (refine goesI_oper rfl rfl (by decide) (fun d K hK => ?_)
     go_simp
     refine hK _ _ ⟨dt_reads (fun e he => ?_), GoesI.at ?_ d⟩
     · have hm := mem_listed he
       simp [go_sem, *] at hm
       try exact ⟨_, _, hm⟩
     clear hK K)
  refine goesI_into (f := 42) (fn := Try.f42) (args := #[Pt wb 0, s1, s2]) (dt_idle _ _) rfl rfl (by decide) rfl (by simp [Act.eval]) Try.func42 (by decide) rfl ?_
  refine hk v1 w1 wb bk sc _ _ _ _ _ _ _ hr1 hn1 hnew rfl (fun Ch Stop w2 A E hwp => ?_)
  clear hk hnew hr1 hn1
  iterate 5
    (refine goesI_oper rfl rfl (by decide) (fun d K hK => ?_)
     go_simp
     refine hK _ _ ⟨dt_reads (fun e he => ?_), GoesI.at ?_ d⟩
     · have hm := mem_listed he
       simp [go_sem, *] at hm
       try exact ⟨_, _, hm⟩
     clear hK K)
  refine goesI_regionEnd (dt_idle _ _) ?_
  subst hT
  exact hwp _ ⟨rfl, rfl, by
    intro p hp
    simp only [List.mem_cons, List.not_mem_nil, or_false] at hp
    rcases hp with rfl | rfl | rfl | rfl | rfl | rfl <;> rfl⟩

/-- Play has refused. -/
theorem law10_no {Ch : Nat → Prop} {Stop : Goroutine → World → Prop} {main : Bool} {v w : World} {a : Act} {n0 : Int} {wb : Nat} {sc an : Value} {E : Int} (hE1 : E = 1 ∨ E = 2) (hvw : Rel zn v w) (hn : NoRow Ch v) (hA : Fl 223 [(1, I n0), (2, sc), (8, Pt wb 0), (9, an), (7, .bool true), (10, I E)] a)
    (hend : ∀ a' v' w' todo, Rel zn v' w' → Grows v v' → a'.defers = [] → a'.tmps.getD 6 undef = .bool true → GoesI Try.prog main (DT (ScZ zn) Ch) Stop (G { (base 10).at a' todo with mode := .returning } []) w') :
    GoesI Try.prog main (DT (ScZ zn) Ch) Stop (G ((base 10).at a [.code (.seq e4 P10s)]) []) w := by
  refine goesI_seq (dt_idle _ _) ?_
  refine goesI_retZ (Q := fun a w' => Fl 223 [(6, .bool true)] a ∧ w'.heap = v.heap ∧ w'.os = v.os ∧ w'.output = v.output) hvw hn fine_e4 hA.2.1 (fun τ => e4_no (v := onTape v τ 0) hE1 hA) (fun a' v' w' todo hQ hd hr hn' => hend a' v' w' todo hr (gr_same hQ.2.1 hQ.2.2.1 hQ.2.2.2) hd (hQ.1.at 6 (.bool true) (by simp)))

/-! ### The numbers -/
theorem row_pos {f : Nat → Nat → Bool} {i : Nat} : ∀ {k : Nat}, row f i k ≠ 0 → ∃ j, j < k ∧ f i j = true := fun {k} h => by
  have h1 : 0 < (List.range k).countP (f i) := Nat.pos_of_ne_zero h
  obtain ⟨j, hj, hf⟩ := List.countP_pos_iff.1 h1
  exact ⟨j, List.mem_range.1 hj, hf⟩
theorem tot2_pos {f : Nat → Nat → Bool} {ln : Nat → Nat} : ∀ {n : Nat}, tot2 f ln n ≠ 0 → ∃ i j, i < n ∧ j < ln i ∧ f i j = true
  | 0, h => absurd rfl h
  | n + 1, h => by
    rw [tot2_succ] at h
    by_cases h1 : tot2 f ln n = 0
    · obtain ⟨j, hj, hf⟩ := row_pos (f := f) (i := n) (k := ln n) (by omega)
      exact ⟨n, j, by omega, hj, hf⟩
    · obtain ⟨i, j, hi, hj, hf⟩ := tot2_pos h1
      exact ⟨i, j, by omega, hj, hf⟩
theorem tot2_mono {f g : Nat → Nat → Bool} (h : ∀ i j, f i j = true → g i j = true) (ln : Nat → Nat) : ∀ n, tot2 f ln n ≤ tot2 g ln n
  | 0 => Nat.le_refl _
  | n + 1 => by
    rw [tot2_succ, tot2_succ]
    have h1 := tot2_mono h ln n
    have h2 : row f n (ln n) ≤ row g n (ln n) := List.countP_mono_left fun j _ hf => h n j hf
    omega
def poOf (cl : Nat → List Cl) (i k : Nat) : Int := match (cl i)[k]? with | some c => c.po | none => 0
def ecOf (l : Nat → Ph) (i k : Nat) : Int := match (l i).ans[k]? with | some a => a.1 | none => 0
theorem poOf_eq {cl : Nat → List Cl} {i k : Nat} {c : Cl} (h : (cl i)[k]? = some c) : poOf cl i k = c.po := by unfold poOf; rw [h]
theorem ecOf_eq {l : Nat → Ph} {i k : Nat} {a : Int × Int} (h : (l i).ans[k]? = some a) : ecOf l i k = a.1 := by unfold ecOf; rw [h]
theorem tot2_cnt {n : Nat} {cl : Nat → List Cl} {l : Nat → Ph} {ln : Nat → Nat} (h1 : ∀ j, j < n → (cl j).length = ln j) (h2 : ∀ j, j < n → (l j).ans.length = ln j) : tot2 (fF (poOf cl) (ecOf l)) ln n = ((List.range n).map fun i => cnt (cl i) (l i).ans (cl i).length).sum := by
  unfold tot2
  congr 1
  refine List.map_congr_left fun i hi => ?_
  have hi := List.mem_range.1 hi
  unfold row cnt
  rw [h1 i hi]
  refine List.countP_congr fun k hk => ?_
  have hk := List.mem_range.1 hk
  obtain ⟨c, e1⟩ : ∃ c, (cl i)[k]? = some c := ⟨_, List.getElem?_eq_getElem (by rw [h1 i hi]; exact hk)⟩
  obtain ⟨q, e2⟩ : ∃ q, (l i).ans[k]? = some q := ⟨_, List.getElem?_eq_getElem (by rw [h2 i hi]; exact hk)⟩
  unfold fF
  rw [poOf_eq e1, ecOf_eq e2, e1, e2]
  exact Iff.rfl
/-- What the law asks of the numbers. -/
theorem lat_nums {n : Nat} {n0 : Int} {cl : Nat → List Cl} {l : Nat → Ph} {ln : Nat → Nat} {L : List Stp} (h1 : ∀ j, j < n → (cl j).length = ln j) (h2 : ∀ j, j < n → (l j).ans.length = ln j) (hL : LatEnd n n0 cl l L) {d f s w : Int} (hC : Cn (poOf cl) (ecOf l) ln n 0 d f s w) :
    f ≤ n0 ∧ (dn L : Int) = f ∧ (f = n0 → s ≤ 0) ∧ (n0 ≤ d ∨ w = 0) := by
  have z : ∀ g : Nat → Nat → Bool, row g n 0 = 0 := fun g => rfl
  have hf : f = (dn L : Int) := by rw [hC.f, z, Nat.add_zero, tot2_cnt h1 h2, hL.sum]
  have get : ∀ i j, i < n → j < ln i → ∃ c a, (cl i)[j]? = some c ∧ (l i).ans[j]? = some a := fun i j hi hj =>
    ⟨_, _, List.getElem?_eq_getElem (by rw [h1 i hi]; exact hj), List.getElem?_eq_getElem (by rw [h2 i hi]; exact hj)⟩
  refine ⟨by rw [hf]; exact hL.le, hf.symm, fun hn => ?_, ?_⟩
  · rw [hC.s, z, Nat.add_zero]
    by_cases h0 : tot2 (fS (poOf cl) (ecOf l)) ln n = 0
    · omega
    · obtain ⟨i, j, hi, hj, hb⟩ := tot2_pos h0
      obtain ⟨c, a, e1, e2⟩ := get i j hi hj
      unfold fS at hb
      rw [poOf_eq e1, ecOf_eq e2] at hb
      have := hL.stk i j a hi e2 (by rw [h1 i hi]; exact hj) (by simp at hb; exact hb.2)
      omega
  · rw [hC.w, z, Nat.add_zero]
    by_cases h0 : tot2 (fW (poOf cl) (ecOf l)) ln n = 0
    · right; omega
    · obtain ⟨i, j, hi, hj, hb⟩ := tot2_pos h0
      obtain ⟨c, a, e1, e2⟩ := get i j hi hj
      unfold fW at hb
      rw [poOf_eq e1, ecOf_eq e2] at hb
      have := hL.wait i j c a hi e1 e2 (by simp at hb; exact hb.1) (by simp at hb; exact hb.2)
      have hm := tot2_mono (f := fF (poOf cl) (ecOf l)) (g := fD (poOf cl)) (fun i j h => by unfold fF at h; unfold fD; simp at h ⊢; exact h.1) ln n
      rw [hC.f, z, Nat.add_zero] at hf
      left
      rw [hC.d, z, Nat.add_zero]
      omega

set_option maxHeartbeats 1000000 in
/-- Play has answered. -/
theorem law10_yes {Ch : Nat → Prop} {Stop : Goroutine → World → Prop} {main : Bool} {v w : World} {a : Act} {n0 : Int} {S : TS} {n M b o cap : Nat} {A ln cp rb ro : Nat → Nat} {pc : Nat → Option Addr} {cl : Nat → List Cl} {l : Nat → Ph} {L : List Stp}
    (hn8 : n ≤ 8) (h64 : ∀ j, j < n → ln j ≤ 64) (h1 : ∀ j, j < n → (cl j).length = ln j) (h2 : ∀ j, j < n → (l j).ans.length = ln j) (hL : LatEnd n n0 cl l L) (hS : Rep zn S v) (htr : S.tr = flat L) (hSn : S.n = L.length) (hs4 : S.n ≤ 400000)
    (hR : R10 n M b o A ln cp rb ro pc (poOf cl) (ecOf l) v) (hX : R10x n ln rb ro v) (hvw : Rel zn v w) (hn : NoRow Ch v) (hA : Fl 223 [(1, I n0), (2, .slice (some ⟨b, o, none⟩) n cap), (8, Pt S.wb 0), (9, .slice (some ⟨M, 0, none⟩) n n), (7, .bool true), (10, I 0)] a)
    (hend : ∀ a' v' w' todo, Rel zn v' w' → Grows v v' → a'.defers = [] → a'.tmps.getD 6 undef = .bool true → GoesI Try.prog main (DT (ScZ zn) Ch) Stop (G { (base 10).at a' todo with mode := .returning } []) w') :
    GoesI Try.prog main (DT (ScZ zn) Ch) Stop (G ((base 10).at a [.code (.seq e4 P10s)]) []) w := by
  refine goesI_seq (dt_idle _ _) ?_
  refine goesI_plain (z := zn) (wr := true) (L := LV) (I := NoRow Ch) hE fineV noRow_keeps (fun v v' w w' es hi hr ho he => dt_of_z v v' w w' es hi hr ho he) hvw fine_e4 hA.2.1 (by simp [base]) hn (Q := fun a w' => Fl 223 [(1, I n0), (2, .slice (some ⟨b, o, none⟩) n cap), (8, Pt S.wb 0), (9, .slice (some ⟨M, 0, none⟩) n n)] a ∧ w'.heap = v.heap ∧ w'.os = v.os ∧ w'.output = v.output) (fun τ => e4_wp (v := onTape v τ 0) hA) ?_
  rintro a1 v1 w1 ⟨hA1, q1, o1, u1⟩ hr1 hn1 -
  unfold P10s
  refine goesI_seq (dt_idle _ _) ?_
  refine goesI_plain (z := zn) (wr := true) (L := LV) (I := NoRow Ch) hE fineV noRow_keeps (fun v v' w w' es hi hr ho he => dt_of_z v v' w w' es hi hr ho he) hr1 fine_e6 hA1.2.1 (by simp [base]) hn1 (Q := fun a w' => Fl 223 [(1, I n0), (2, .slice (some ⟨b, o, none⟩) n cap), (8, Pt S.wb 0), (9, .slice (some ⟨M, 0, none⟩) n n)] a ∧ w'.heap = v1.heap ∧ w'.os = v1.os ∧ w'.output = v1.output) (fun τ => e6_wp (v := onTape v1 τ 0) rfl rfl hA1) ?_
  rintro a2 v2 w2 ⟨hA2, q2, o2, u2⟩ hr2 hn2 -
  refine goesI_seq (dt_idle _ _) ?_
  refine goesI_plain (z := zn) (wr := true) (L := LV) (I := NoRow Ch) hE fineV noRow_keeps (fun v v' w w' es hi hr ho he => dt_of_z v v' w w' es hi hr ho he) hr2 fine_e8 hA2.2.1 (by simp [base]) hn2 (Q := fun a w' => Fl 223 [(1, I n0), (2, .slice (some ⟨b, o, none⟩) n cap), (8, Pt S.wb 0), (9, .slice (some ⟨M, 0, none⟩) n n), (11, I 0)] a ∧ w'.heap = v2.heap ∧ w'.os = v2.os ∧ w'.output = v2.output) (fun τ => e8_wp (v := onTape v2 τ 0) hA2) ?_
  rintro a3 v3 w3 ⟨hA3, q3, o3, u3⟩ hr3 hn3 -
  refine goesI_seq (dt_idle _ _) ?_
  refine goesI_plain (z := zn) (wr := true) (L := LV) (I := NoRow Ch) hE fineV noRow_keeps (fun v v' w w' es hi hr ho he => dt_of_z v v' w w' es hi hr ho he) hr3 fine_e9 hA3.2.1 (by simp [base]) hn3 (Q := fun a w' => Fl 223 [(1, I n0), (2, .slice (some ⟨b, o, none⟩) n cap), (8, Pt S.wb 0), (9, .slice (some ⟨M, 0, none⟩) n n), (11, I 0), (12, I 0)] a ∧ w'.heap = v3.heap ∧ w'.os = v3.os ∧ w'.output = v3.output) (fun τ => e9_wp (v := onTape v3 τ 0) hA3) ?_
  rintro a4 v4 w4 ⟨hA4, q4, o4, u4⟩ hr4 hn4 -
  refine goesI_seq (dt_idle _ _) ?_
  refine goesI_plain (z := zn) (wr := true) (L := LV) (I := NoRow Ch) hE fineV noRow_keeps (fun v v' w w' es hi hr ho he => dt_of_z v v' w w' es hi hr ho he) hr4 fine_e10 hA4.2.1 (by simp [base]) hn4 (Q := fun a w' => Fl 223 [(1, I n0), (2, .slice (some ⟨b, o, none⟩) n cap), (8, Pt S.wb 0), (9, .slice (some ⟨M, 0, none⟩) n n), (11, I 0), (12, I 0), (13, I 0)] a ∧ w'.heap = v4.heap ∧ w'.os = v4.os ∧ w'.output = v4.output) (fun τ => e10_wp (v := onTape v4 τ 0) hA4) ?_
  rintro a5 v5 w5 ⟨hA5, q5, o5, u5⟩ hr5 hn5 -
  refine goesI_seq (dt_idle _ _) ?_
  refine goesI_plain (z := zn) (wr := true) (L := LV) (I := NoRow Ch) hE fineV noRow_keeps (fun v v' w w' es hi hr ho he => dt_of_z v v' w w' es hi hr ho he) hr5 fine_e11 hA5.2.1 (by simp [base]) hn5 (Q := fun a w' => Fl 223 [(1, I n0), (2, .slice (some ⟨b, o, none⟩) n cap), (8, Pt S.wb 0), (9, .slice (some ⟨M, 0, none⟩) n n), (11, I 0), (12, I 0), (13, I 0), (14, I 0)] a ∧ w'.heap = v5.heap ∧ w'.os = v5.os ∧ w'.output = v5.output) (fun τ => e11_wp (v := onTape v5 τ 0) hA5) ?_
  rintro a6 v6 w6 ⟨hA6, q6, o6, u6⟩ hr6 hn6 -
  have g6 : Grows v v6 := gr_same (q6.trans (q5.trans (q4.trans (q3.trans (q2.trans q1))))) (o6.trans (o5.trans (o4.trans (o3.trans (o2.trans o1))))) (u6.trans (u5.trans (u4.trans (u3.trans (u2.trans u1)))))
  have qq6 : v6.heap = v.heap := q6.trans (q5.trans (q4.trans (q3.trans (q2.trans q1))))
  clear q1 q2 q3 q4 q5 q6 o1 o2 o3 o4 o5 o6 u1 u2 u3 u4 u5 u6
  refine goesI_seq (dt_idle _ _) ?_
  rw [eCA]
  refine goesI_seq (dt_idle _ _) ?_
  refine goesI_plain (z := zn) (wr := true) (L := LV) (I := NoRow Ch) hE fineV noRow_keeps (fun v v' w w' es hi hr ho he => dt_of_z v v' w w' es hi hr ho he) hr6 fine_e12 hA6.2.1 (by simp [base]) hn6 (Q := fun a w' => Fl 223 [(1, I n0), (2, .slice (some ⟨b, o, none⟩) n cap), (8, Pt S.wb 0), (9, .slice (some ⟨M, 0, none⟩) n n), (11, I 0), (12, I 0), (13, I 0), (14, I 0), (15, I ((0 : Nat) : Int))] a ∧ w'.heap = v6.heap ∧ w'.os = v6.os ∧ w'.output = v6.output) (fun τ => e12_wp (v := onTape v6 τ 0) hA6) ?_
  rintro a7 v7 w7 ⟨hA7, q7, o7, u7⟩ hr7 hn7 -
  refine goesI_block (dt_idle _ _) ?_
  refine goesI_loop (dt_idle _ _) ?_
  have hC0 : Cn (poOf cl) (ecOf l) ln 0 0 0 0 0 0 := ⟨rfl, rfl, rfl, rfl⟩
  refine outerA hn8 h64 [] _ n 0 a7 v7 w7 0 0 0 0 (by omega) hr7 hn7 ((hR.same qq6).same q7) hC0 hA7 (fun a8 v8 w8 d1 f1 s1 t1 hr8 hn8' q8 o8 u8 hC hA8 => ?_)
  have g8 : Grows v v8 := gr_trans g6 (gr_trans (gr_same q7 o7 u7) (gr_same q8 o8 u8))
  have qq8 : v8.heap = v.heap := q8.trans (q7.trans qq6)
  obtain ⟨m1, m2, m3, m4⟩ := lat_nums h1 h2 hL hC
  refine goesI_seq (dt_idle _ _) ?_
  refine goesI_plain (z := zn) (wr := true) (L := LV) (I := NoRow Ch) hE fineV noRow_keeps (fun v v' w w' es hi hr ho he => dt_of_z v v' w w' es hi hr ho he) hr8 fine_e31 hA8.2.1 (by simp [base]) hn8' (Q := fun a w' => ∃ p g ct, Fl 223 [(1, I n0), (2, .slice (some ⟨b, o, none⟩) n cap), (8, Pt S.wb 0), (9, .slice (some ⟨M, 0, none⟩) n n), (11, I d1), (12, I f1), (13, I s1), (14, I t1), (18, .slice p S.n ct)] a ∧ (0 < S.n → p = some ⟨g, 0, none⟩ ∧ v8.heap.size ≤ g) ∧ (∀ j u, S.tr[j]? = some u → w'.cell? ⟨g, j, none⟩ = some u) ∧ Grows v8 w') (fun τ => wp_mono (e31_wp (v := onTape v8 τ 0) (S := S) (hS.same (v' := onTape v8 τ 0) qq8) (by omega) (by rw [htr]; exact flat_one L) hA8) (fun e a w' hq => ⟨hq.1, by
      obtain ⟨_, p, g, ct, k1, k2, k3, k4⟩ := hq
      exact ⟨p, g, ct, k1, k2, k3, ⟨k4.size, k4.old, k4.os, k4.output⟩⟩⟩)) ?_
  rintro a9 v9 w9 ⟨p, g, ct, hA9, hp, htc, g9⟩ hr9 hn9 -
  have hT9 : Tr10 g L v9 := fun k s hs => by
    have := flat_get L k s hs
    rw [← htr] at this
    exact ⟨htc _ _ this.1, htc _ _ this.2.1, htc _ _ this.2.2.1, htc _ _ this.2.2.2.1, htc _ _ this.2.2.2.2⟩
  refine goesI_seq (dt_idle _ _) ?_
  refine goesI_plain (z := zn) (wr := true) (L := LV) (I := NoRow Ch) hE fineV noRow_keeps (fun v v' w w' es hi hr ho he => dt_of_z v v' w w' es hi hr ho he) hr9 fine_e32 hA9.2.1 (by simp [base]) hn9 (Q := fun a w' => Fl 223 [(1, I n0), (2, .slice (some ⟨b, o, none⟩) n cap), (8, Pt S.wb 0), (9, .slice (some ⟨M, 0, none⟩) n n), (11, I d1), (12, I f1), (13, I s1), (14, I t1), (18, .slice p S.n ct), (19, I 0)] a ∧ w'.heap = v9.heap ∧ w'.os = v9.os ∧ w'.output = v9.output) (fun τ => e32_wp (v := onTape v9 τ 0) hA9) ?_
  rintro b1 y1 z1 ⟨hB1, q10, o10, u10⟩ hr10 hn10 -
  refine goesI_seq (dt_idle _ _) ?_
  rw [eCT]
  refine goesI_seq (dt_idle _ _) ?_
  refine goesI_plain (z := zn) (wr := true) (L := LV) (I := NoRow Ch) hE fineV noRow_keeps (fun v v' w w' es hi hr ho he => dt_of_z v v' w w' es hi hr ho he) hr10 fine_e33 hB1.2.1 (by simp [base]) hn10 (Q := fun a w' => Fl 223 [(1, I n0), (2, .slice (some ⟨b, o, none⟩) n cap), (8, Pt S.wb 0), (9, .slice (some ⟨M, 0, none⟩) n n), (11, I d1), (12, I f1), (13, I s1), (14, I t1), (18, .slice p S.n ct), (19, I 0), (20, I 0)] a ∧ w'.heap = y1.heap ∧ w'.os = y1.os ∧ w'.output = y1.output) (fun τ => e33_wp (v := onTape y1 τ 0) hB1) ?_
  rintro b2 y2 z2 ⟨hB2, q11, o11, u11⟩ hr11 hn11 -
  refine goesI_block (dt_idle _ _) ?_
  refine goesI_loop (dt_idle _ _) ?_
  have g11 : Grows v9 y2 := gr_trans (gr_same q10 o10 u10) (gr_same q11 o11 u11)
  have gv : Grows v y2 := gr_trans g8 (gr_trans g9 g11)
  have hB2' : Fl 223 [(1, I n0), (2, .slice (some ⟨b, o, none⟩) n cap), (8, Pt S.wb 0), (9, .slice (some ⟨M, 0, none⟩) n n), (11, I d1), (12, I f1), (13, I s1), (14, I t1), (18, .slice p S.n ct), (19, I (dn (L.take 0) : Int)), (20, I ((0 : Nat) : Int))] b2 := hB2
  refine loopT (ec := ecOf l) h1 (fun i k c h => poOf_eq h) hL.ends hSn.symm hs4 (fun h => (hp h).1) [] _ S.n 0 b2 y2 z2 (by omega) hr11 hn11 (hR.go gv.old) (hX.go gv) (hT9.go g11) hB2' (fun b3 y3 z3 hr12 hn12 g12 hB3 => ?_)
  refine goesI_seq (dt_idle _ _) ?_
  refine goesI_plain (z := zn) (wr := true) (L := LV) (I := NoRow Ch) hE fineV noRow_keeps (fun v v' w w' es hi hr ho he => dt_of_z v v' w w' es hi hr ho he) hr12 fine_e45 hB3.2.1 (by simp [base]) hn12 (Q := fun a w' => Fl 223 [(1, I n0), (2, .slice (some ⟨b, o, none⟩) n cap), (8, Pt S.wb 0), (9, .slice (some ⟨M, 0, none⟩) n n), (11, I d1), (12, I f1), (13, I s1), (14, I t1), (18, .slice p S.n ct), (19, I (dn L : Int))] a ∧ w'.heap = y3.heap ∧ w'.os = y3.os ∧ w'.output = y3.output) (fun τ => e45_wp (v := onTape y3 τ 0) m1 m2 m3 hB3) ?_
  rintro b4 y4 z4 ⟨hB4, q13, o13, u13⟩ hr13 hn13 -
  have g13 : Grows v y4 := gr_trans gv (gr_trans g12 (gr_same q13 o13 u13))
  refine goesI_retZ (Q := fun a w' => Fl 223 [(6, .bool true)] a ∧ w'.heap = y4.heap ∧ w'.os = y4.os ∧ w'.output = y4.output) hr13 hn13 fine_e47 hB4.2.1 (fun τ => e47_wp (v := onTape y4 τ 0) m4 hB4) (fun a' v' w' todo hQ hd hr hn' => hend a' v' w' todo hr (gr_trans g13 (gr_same hQ.2.1 hQ.2.2.1 hQ.2.2.2)) hd (hQ.1.at 6 (.bool true) (by simp)))
end Go.Proofs.Ytfjjoohflcchnaa.Gen

namespace Go.Proofs.Ytfjjoohflcchnaa.Gen
open Go Go.Lift Go.Conc Go.RowKit

/-! ### The world stays where it is -/
theorem going_wb (S : TS) (i : Nat) (t : Thr) : (going S i t).wb = S.wb := by
  unfold going
  first
    | rfl
    | (unfold picked; split <;> rfl)
    | (split <;> rfl)
theorem pturn_wb {mc : Mc} {p p' : PSt} (h : pturn mc p = some p') : p'.S.wb = p.S.wb := by
  unfold pturn at h
  split at h
  · split at h
    · cases h; rfl
    · cases h
  · cases h
    exact (resume_sta _ _ _ _ _).wb.trans (going_wb _ _ _)
theorem turns_wb {mc : Mc} {m : Nat} {p p' : PSt} (h : Turns mc m p p') : p'.S.wb = p.S.wb := by
  induction h with
  | stop _ => rfl
  | step h1 _ ih => exact ih.trans (pturn_wb h1)
theorem hires_wb {mc : Mc} {k : Nat} {ss : List (Scr mc)} {S S' : TS} {l l' : Nat → Ph} (h : Hires mc k ss S l S' l') : S'.wb = S.wb := by
  induction h with
  | nil => rfl
  | cons tv tb gc _ ih => exact ih.trans (flow_sta _ _ _ _ _ _ _).wb

set_option maxHeartbeats 2000000 in
theorem run10 (W : World) (n0 : Int) (h63 : n0 ≤ 9223372036854775807) {sp : Option Addr} {sb so scap : Nat} {sched : List Int} (hS : InI W sp sb so sched) {p : Option Addr} {b o n cap : Nat} {pc : Nat → Option Addr} {ln cp rb : Nat → Nat} {cl : Nat → List Cl} (hC : InS W p b o n pc ln cp rb cl) :
    ∃ M last o w' t', runNT Try.prog (M + 1) (solo (G (Frame.enter Try.prog 10 #[.slice sp sched.length scap, I n0, .slice p n cap] .normal) []) W) #[] = (.ended o w', t') ∧
      runN Try.prog M (solo (G (Frame.enter Try.prog 10 #[.slice sp sched.length scap, I n0, .slice p n cap] .normal) []) W) = .next last ∧ step Try.prog last = .ended o w' ∧ Go.Conc.Good Try.prog (PostT W) last o w' t' := by
  have e : Frame.enter Try.prog 10 #[.slice sp sched.length scap, I n0, .slice p n cap] .normal = (base 10).at { tmps := #[.slice sp sched.length scap, I n0, .slice p n cap] ++ Array.replicate 220 undef, defers := [] } [.code LB10] := enter_at (fn := Try.f10) (c := LB10) _ Try.func10 (by rfl)
  rw [e, solo_eq_crowd]
  have A : Alone #[G ((base 10).at { tmps := #[.slice sp sched.length scap, I n0, .slice p n cap] ++ Array.replicate 220 undef, defers := [] } [.code LB10]) []] W #[] (fun _ => 0) := ⟨leavers_one _ _, 0, Nat.zero_le _, past_nil⟩
  -- to awake
  obtain ⟨N1, gs1, a1, w1, sl1, T1, q1, r1, z1, h1, ⟨bd, ad, od, qd, rd, oe, kd, ⟨d1, rfl⟩, hoe, hback, rfl⟩, A1⟩ := alone_goes A rfl none (Stop := fun g w' => ∃ (bd : Frame) (ad : Act) (od : Array Oper) (qd : Nat) (rd : List Nat) (oe : Oper) (kd : List Item), (∃ d, w' = W.at d) ∧ od[qd]? = some oe ∧
      (∀ (Ch : Nat → Prop) (Stop : Goroutine → World → Prop) (w1 : World), (∀ a, Fl 223 [(0, .slice sp sched.length scap), (1, I n0), (2, .slice p n cap), (7, .bool true)] a → GoesI Try.prog true (DT (ScZ zn) Ch) Stop (G ((base 10).at a [.code P10]) []) w1) → GoesI Try.prog true (DT (ScZ zn) Ch) Stop (G (bd.at (ad.put oe.dst (.bool true)) (.inRegion od rd :: kd)) []) w1) ∧
      g = G ((base 41).at { tmps := Array.replicate 36 undef, defers := [] } [.code B39]) [bd.at ad (.inRegion od (qd :: rd) :: kd)])
    (law10_in _ _ _ (fun w' bd ad od qd rd oe kd hw ho hback => GoesI.stop fun d => ⟨bd, ad, od, qd, rd, oe, kd, by obtain ⟨d0, rfl⟩ := hw; exact ⟨d, rfl⟩, ho, hback, rfl⟩))
  obtain ⟨N2, gs2, w2, sl2, T2, q2, r2, h2, A2, g2⟩ := tawake_all hoe sl1 A1 h1
  have g2' : Grows W w2 := ⟨g2.size, g2.old, g2.os, g2.output⟩
  have hS2 := hS.grows g2'
  have hC2 := hC.grows g2'
  -- to Play
  obtain ⟨N3, gs3, a3, w3, sl3, T3', q3, r3, z3, h3, ⟨wb, bk, sc, bd, ad, od, qd, rd, oe, kd, hnew, hoe3, hend3, rfl⟩, A3⟩ := alone_goes A2 h2 sl2 (Stop := fun g w' => ∃ (wb bk : Nat) (sc : Value) (bd : Frame) (ad : Act) (od : Array Oper) (qd : Nat) (rd : List Nat) (oe : Oper) (kd : List Item), IsNew w2 sched wb bk sc w' ∧ od[qd]? = some oe ∧
      (∀ (Ch : Nat → Prop) (Stop : Goroutine → World → Prop) (w2 : World) (A : Value) (E : Int), (∀ a, Fl 223 [(1, I n0), (2, .slice p n cap), (7, .bool true), (8, Pt wb 0), (9, A), (10, I E)] a → GoesI Try.prog true (DT (ScZ zn) Ch) Stop (G ((base 10).at a [.code (.seq e4 P10s)]) []) w2) →
        GoesI Try.prog true (DT (ScZ zn) Ch) Stop (G (bd.at (ad.put oe.dst (.tuple #[A, I E])) (.inRegion od rd :: kd)) []) w2) ∧
      g = G ((base 42).at { tmps := #[Pt wb 0, I n0, .slice p n cap] ++ Array.replicate 22 undef, defers := [] } [.code B40]) [bd.at ad (.inRegion od (qd :: rd) :: kd)])
    (hback (fun _ => False) _ w2 (law10_b sp scap sb so sched hS2.at_ hS2.len hS2.cell _ _ (Rel.refl w2) (fun c hc => hc.elim) (fun v' w' wb bk sc bd ad od qd rd oe kd hr hn hnew ho hend => GoesI.stop fun d => ⟨wb, bk, sc, bd, ad, od, qd, rd, oe, kd, by
      have e : (w'.at d).heap = v'.heap := hr.eq
      have hgr : Grows v' (w'.at d) := ⟨by rw [e]; exact Nat.le_refl _, fun b _ => by rw [e], hr.os, hr.output⟩
      refine ⟨(hnew.mem.grows hgr).mem, ?_, hnew.new, ⟨by rw [e]; exact hnew.old.size, fun b hb => by rw [e]; exact hnew.old.old b hb, hr.os.trans hnew.old.os, hr.output.trans hnew.old.output⟩⟩
      obtain ⟨c, m, h⟩ := hnew.opn
      exact ⟨c, m, by rw [e]; exact h⟩, ho, hend, rfl⟩)))
  have g3 : Grows W w3 := g2'.trans' hnew.old
  have hC3 := hC2.grows hnew.old
  -- the end, from wherever Play has answered
  have fin : ∀ (N4 : Nat) (gs4 : Array Goroutine) (w4 : World) (sl4 : Option (Nat × Nat)) (T4 : Trace) (q4 : Nat → Nat) (a4 : Goroutine), runNT Try.prog N4 (crowd gs3 w3 sl3) T3' = (.next (crowd gs4 w4 sl4), T4) → gs4[0]? = some a4 → Alone gs4 w4 T4 q4 → (∃ a' todo, a'.defers = [] ∧ a'.tmps.getD 6 undef = .bool true ∧ Grows W w4 ∧ a4 = G { (base 10).at a' todo with mode := .returning } []) →
      ∃ M last o w' t', runNT Try.prog (M + 1) (crowd #[G ((base 10).at { tmps := #[.slice sp sched.length scap, I n0, .slice p n cap] ++ Array.replicate 220 undef, defers := [] } [.code LB10]) []] W none) #[] = (.ended o w', t') ∧ runN Try.prog M (crowd #[G ((base 10).at { tmps := #[.slice sp sched.length scap, I n0, .slice p n cap] ++ Array.replicate 220 undef, defers := [] } [.code LB10]) []] W none) = .next last ∧ step Try.prog last = .ended o w' ∧ Go.Conc.Good Try.prog (PostT W) last o w' t' := by
    intro N4 gs4 w4 sl4 T4 q4 a4 r4 h4 A4 ⟨a', todo, hd, h6, g4, ea⟩
    subst ea
    obtain ⟨M5, last, o, w', t', e1, e2, e3, e4⟩ := alone_ends A4 h4 sl4 (Post := PostT W) (fun B d => ⟨rfl, .bool true, #[], end10 hd h6, fun e he => by simp at he, rfl, ⟨g4.size, g4.old, g4.os, g4.output⟩⟩)
    have hrun := runNT_then (runNT_then (runNT_then r1 r2) r3) r4
    refine ⟨N1 + N2 + N3 + N4 + M5, last, o, w', t', ?_, ?_, e3, e4⟩
    · rw [Nat.add_assoc, runNT_add, hrun]; exact e1
    · rw [runN_add, ← runNT_fst Try.prog _ _ #[], hrun]; exact e2
  by_cases hyes : (∀ k, k < n → ln k ≤ 64) ∧ (0 < n ∧ n ≤ 8) ∧ 0 ≤ n0
  · obtain ⟨h64, hn8, hx0⟩ := hyes
    have hl64 : ∀ j, j < n → (cl j).length ≤ 64 := fun j hj => by rw [hC.len j hj]; exact h64 j hj
    have hlens : ∀ caps pk N K, lens (scrs mcLatch 69 caps pk N n K pc ln cp rb cl) ≤ 512 := fun caps pk N K => Nat.le_trans (lens_scrs _ _ _ _ _ _ _ _ _ _ _ _ hl64) (by omega)
    have hpp := hC.at_ hn8.1
    subst hpp
    obtain ⟨N4, gs4, w4, sl4, T4, q4, caps, pk, N, cv, K, S', S1, l1, m, p', r4, z4, h4, A4, hK, hnv, hH, hT, O⟩ := tplay_all n0 hx0 (S := newS wb bk w2.heap.size sc sched) (n := n) (sb := b) (so := o) (cap := cap) (pc := pc) (ln := ln) (cp := cp) (rb := rb) (cl := cl) hoe3 sl3 300000 A3 h3 hnew.mem rfl rfl rfl hnew.opn (asked_of hC2 hnew h64 hn8.1) hn8 (fun caps pk N K => by
        have := hlens caps pk N K
        show 0 + 2 * _ ≤ 1000000
        omega) (by have := hS.len; show sched.length ≤ _; omega) (fun x hx => hS.inr x hx) (fun _ => .done []) (fun caps pk N cv K hK S1 l1 hH => play_ends metLatch hH rfl (by rw [scrs_len]; exact hn8.2) (hlens caps pk N K) (by decide) rfl)
    obtain ⟨cb, rfl⟩ := K_one hK
    obtain ⟨L, t1, t2, t3⟩ := latch_run hx0 h63 (fun _ => rfl) (fun j hj => ⟨hC.len j hj, h64 j hj⟩) hn8.2 hH hT
    have hSn : S'.n = L.length := by have := congrArg TS.n hnv; exact this.trans t2
    have hStr : S'.tr = flat L := by have := congrArg TS.tr hnv; exact this.trans t1
    have hsm := play_small metLatch hH hT rfl (by rw [scrs_len]; exact hn8.2) (hlens caps pk N _) (by decide) rfl
    have hSw : S'.wb = wb := by
      have h5 := congrArg TS.wb hnv
      have h6 := (turns_wb hT).trans (hires_wb hH)
      exact h5.trans h6
    have hn1 : S'.n ≤ 400000 := by
      have : S'.n = p'.S.n := by have := congrArg TS.n hnv; exact this
      omega
    have hg34 : ∀ b, b < w2.heap.size → w4.heap[b]? = w3.heap[b]? := fun b hb => by
      have hs := hnew.old.size
      exact (O.old b (by omega) (fun h => by have := hnew.new b (.inl h); omega) (fun h => by have := hnew.new b (.inr h); omega)).1
    have hgW : Grows W w4 := ⟨by have := g3.size; have := O.size; omega, fun b hb => by rw [hg34 b (by have := g2'.size; omega)]; exact g3.old b hb, O.os.trans g3.os, O.out.trans g3.output⟩
    have hC4 := hC.grows hgW
    subst hSw
    have hal : ∀ j, j < n → (p'.l j).ans.length = ln j := fun j hj => (O.ans j hj).1
    have gC : ∀ k, k < n → ∀ j, j < ln k → ∃ c, (cl k)[j]? = some c := fun k hk j hj => ⟨_, List.getElem?_eq_getElem (by rw [hC.len k hk]; exact hj)⟩
    have hR4 : R10 n (N + 1) b o (fun j => N + 4 + 3 * j + 2) ln cp rb (fun j => roOf (pc j)) pc (poOf cl) (ecOf p'.l) w4 := by
      refine ⟨O.rows, fun k hk j hj => ?_, hC4.row, hC4.pq, fun k hk j hj => ?_⟩
      · obtain ⟨q, hq⟩ : ∃ q, (p'.l k).ans[j]? = some q := ⟨_, List.getElem?_eq_getElem (by rw [hal k hk]; exact hj)⟩
        rw [ecOf_eq hq]
        exact cell_of ((O.ans k hk).2.1 (by omega)) (by rw [List.getElem?_toArray]; exact (arow_get _ _ _ hq).1)
      · obtain ⟨c, hc⟩ := gC k hk j hj
        rw [poOf_eq hc]
        exact (hC4.call k hk j c hc).1
    have hX4 : R10x n ln rb (fun j => roOf (pc j)) w4 := fun k hk j hj => by
      obtain ⟨c, hc⟩ := gC k hk j hj
      exact ⟨_, _, _, (hC4.call k hk j c hc).2⟩
    obtain ⟨N5, gs5, a5, w5, sl5, T5, q5, r5, z5, h5, hs5, A5⟩ := alone_goes A4 h4 sl4 (hend3 (fun _ => False) (fun g w' => ∃ a' todo, a'.defers = [] ∧ a'.tmps.getD 6 undef = .bool true ∧ Grows W w' ∧ g = G { (base 10).at a' todo with mode := .returning } []) w4 _ 0 (fun a hA => law10_yes (v := w4) (S := S') hn8.2 h64 hC.len hal t3 O.mem.rep hStr hSn hn1 hR4 hX4 (Rel.refl w4) (fun c hc => hc.elim) (show Fl 223 [(1, I n0), (2, .slice (some ⟨b, o, none⟩) n cap), (8, Pt S'.wb 0), (9, .slice (some ⟨N + 1, 0, none⟩) n n), (7, .bool true), (10, I 0)] a from hA.sub (by simp)) (fun a' v' w' todo hr hgr hd h6 => GoesI.stop fun d => ⟨a', todo, hd, h6, by
      have e : (w'.at d).heap = v'.heap := hr.eq
      have := hgW.trans' hgr
      exact ⟨by rw [e]; exact this.size, fun b hb => by rw [e]; exact this.old b hb, hr.os.trans this.os, hr.output.trans this.output⟩, rfl⟩)))
    exact fin _ gs5 w5 sl5 T5 q5 a5 (runNT_then r4 r5) h5 A5 hs5
  · obtain ⟨E, hE0, hE⟩ : ∃ E : Int, (E = 1 ∨ E = 2) ∧ (Refused n ln E ∨ ((∀ k, k < n → ln k ≤ 64) ∧ (0 < n ∧ n ≤ 8) ∧ n0 < 0 ∧ E = 1)) := by
      by_cases h64 : ∀ k, k < n → ln k ≤ 64
      · by_cases hn8 : 0 < n ∧ n ≤ 8
        · refine ⟨1, .inl rfl, .inr ⟨h64, hn8, ?_, rfl⟩⟩
          have : ¬ 0 ≤ n0 := fun h => hyes ⟨h64, hn8, h⟩
          omega
        · exact ⟨1, .inl rfl, .inl (.inr ⟨h64, by omega, rfl⟩)⟩
      · refine ⟨2, .inr rfl, .inl (.inl ⟨?_, rfl⟩)⟩
        simp only [Classical.not_forall] at h64
        obtain ⟨k, hk, hk2⟩ := h64
        exact ⟨k, hk, by omega⟩
    obtain ⟨N5, gs5, a5, w5, sl5, T5, q5, r5, z5, h5, hs5, A5⟩ := alone_goes A3 h3 sl3 (Stop := fun g w' => ∃ a' todo, a'.defers = [] ∧ a'.tmps.getD 6 undef = .bool true ∧ Grows W w' ∧ g = G { (base 10).at a' todo with mode := .returning } []) (tplay_no (S := newS wb bk w2.heap.size sc sched) (v := w3) n0 p n cap pc ln cp (fun k hk => ⟨b, o, hC3.at_ (by omega), hC3.row k hk⟩) hC.n rfl hnew.mem hE [] hoe3 (Rel.refl w3) (fun c hc => hc.elim) (fun v' w' hr hn e1 e2 e3 => hend3 (fun _ => False) _ w' _ E (fun a hA => law10_no hE0 hr hn (show Fl 223 [(1, I n0), (2, .slice p n cap), (8, Pt wb 0), (9, .slice none 0 0), (7, .bool true), (10, I E)] a from hA.sub (by simp)) (fun a' v'' w'' todo hr' hgr hd h6 => GoesI.stop fun d => ⟨a', todo, hd, h6, by
      have e : (w''.at d).heap = v''.heap := hr'.eq
      have : Grows W v' := ⟨by rw [e1]; exact g3.size, fun b hb => by rw [e1]; exact g3.old b hb, e2.trans g3.os, e3.trans g3.output⟩
      have := this.trans' hgr
      exact ⟨by rw [e]; exact this.size, fun b hb => by rw [e]; exact this.old b hb, hr'.os.trans this.os, hr'.output.trans this.output⟩, rfl⟩))))
    exact fin _ gs5 w5 sl5 T5 q5 a5 r5 h5 A5 hs5
end Go.Proofs.Ytfjjoohflcchnaa.Gen
