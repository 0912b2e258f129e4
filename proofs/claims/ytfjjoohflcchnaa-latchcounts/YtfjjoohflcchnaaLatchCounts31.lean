/- LatchCounts: whatever the schedule, the number and the scripts, what the calls are told and what the trace says of the number is as the law asks. Part 31 of 35. (Joined, by program, of: La10e, GEnd, LatPkg.) -/
import Derived.Test.YtfjjoohflcchnaaLatchCounts16
import Derived.Test.YtfjjoohflcchnaaLatchCounts22
import Derived.Test.YtfjjoohflcchnaaLatchCounts26
import Derived.Test.YtfjjoohflcchnaaLatchCounts30
set_option linter.unusedSimpArgs false
set_option linter.unusedVariables false
namespace Go.Proofs.Ytfjjoohflcchnaa.Gen
open Go Go.Lift Go.Conc Go.RowKit

/-- The rest of the scripts' calls lies there too. -/
def R10x (n : Nat) (ln rb ro : Nat → Nat) (v : World) : Prop := ∀ k, k < n → ∀ j, j < ln k → ∃ ca cb cc, v.cell? ⟨rb k, ro k + j * 4 + 1, none⟩ = some (I ca) ∧ v.cell? ⟨rb k, ro k + j * 4 + 2, none⟩ = some (I cb) ∧ v.cell? ⟨rb k, ro k + j * 4 + 3, none⟩ = some (I cc)
/-- The trace lies there. -/
def Tr10 (g : Nat) (L : List Stp) (v : World) : Prop := ∀ (k : Nat) (s : Stp), L[k]? = some s → v.cell? ⟨g, k * 5, none⟩ = some (I s.th) ∧ v.cell? ⟨g, k * 5 + 1, none⟩ = some (I s.ce) ∧ v.cell? ⟨g, k * 5 + 2, none⟩ = some (I s.op) ∧ v.cell? ⟨g, k * 5 + 3, none⟩ = some (I s.ol) ∧ v.cell? ⟨g, k * 5 + 4, none⟩ = some (I s.ne)
theorem gr_cell {v v' : World} (g : Grows v v') {a : Addr} {x : Value} (h : v.cell? a = some x) : v'.cell? a = some x := by
  rw [World.cell?_of_block (w := v) (w' := v') (g.old _ (World.block_lt_of_cell? _ _ h))]; exact h
theorem R10x.go {n : Nat} {ln rb ro : Nat → Nat} {v v' : World} (h : R10x n ln rb ro v) (g : Grows v v') : R10x n ln rb ro v' := fun k hk j hj => by
  obtain ⟨ca, cb, cc, h1, h2, h3⟩ := h k hk j hj
  exact ⟨ca, cb, cc, gr_cell g h1, gr_cell g h2, gr_cell g h3⟩
theorem Tr10.go {g : Nat} {L : List Stp} {v v' : World} (h : Tr10 g L v) (q : Grows v v') : Tr10 g L v' := fun k s hs => by
  obtain ⟨h1, h2, h3, h4, h5⟩ := h k s hs
  exact ⟨gr_cell q h1, gr_cell q h2, gr_cell q h3, gr_cell q h4, gr_cell q h5⟩
theorem gr_same {v v' : World} (e : v'.heap = v.heap) (e1 : v'.os = v.os) (e2 : v'.output = v.output) : Grows v v' := ⟨by rw [e]; exact Nat.le_refl _, fun b _ => by rw [e], e1, e2⟩
theorem gr_push {v v' : World} {x : Obj} (e : v'.heap = v.heap.push x) (e1 : v'.os = v.os) (e2 : v'.output = v.output) : Grows v v' := ⟨by rw [e]; simp, fun b hb => by rw [e, Array.getElem?_push, if_neg (by omega)], e1, e2⟩
theorem gr_trans {v v' v2 : World} (a : Grows v v') (b : Grows v' v2) : Grows v v2 := ⟨Nat.le_trans a.size b.size, fun q hq => by rw [b.old q (Nat.lt_of_lt_of_le hq a.size), a.old q hq], b.os.trans a.os, b.output.trans a.output⟩
theorem dn_take {L : List Stp} {k : Nat} {s : Stp} (h : L[k]? = some s) : dn (L.take (k + 1)) = dn (L.take k) + if isD s then 1 else 0 := by
  rw [List.take_add_one, h, dn_app]
  show _ + dn [s] = _
  unfold dn
  rw [List.countP_singleton]
theorem split_at {L : List Stp} {k : Nat} {s : Stp} (h : L[k]? = some s) : L = L.take k ++ s :: L.drop (k + 1) := by
  obtain ⟨hk, rfl⟩ := List.getElem?_eq_some_iff.1 h
  rw [← List.drop_eq_getElem_cons hk, List.take_append_drop]
noncomputable def RT : Code := .seq (.seq t39 (.cond (.tmp 140) (.exit 6) .skip)) (.seq t40 (.seq t42 t43))

section
variable {Ch : Nat → Prop} {Stop : Goroutine → World → Prop} {main : Bool} {n0 d f s w : Int} {wb n M b o cap T ct g : Nat} {p : Option Addr} {A ln cp rb ro : Nat → Nat} {pc : Nat → Option Addr} {po ec : Nat → Nat → Int} {L : List Stp} {cl : Nat → List Cl}
set_option maxHeartbeats 1000000 in
/-- Behind the count: a call's end is held against it. -/
theorem tailT (hln : ∀ j, j < n → (cl j).length = ln j) (hpo : ∀ (i k : Nat) (c : Cl), (cl i)[k]? = some c → po i k = c.po) (hE9 : Ends n n0 cl L) {v w0 : World} {a : Act} {k sb : Nat} {x : Int} {q : Stp} (hq : L[k]? = some q) (hx : q.op = 10 → x = (dn (L.take k) : Int))
    (c0 : v.cell? ⟨sb, 0, none⟩ = some (I q.th)) (c2 : v.cell? ⟨sb, 2, none⟩ = some (I q.op)) (c3 : v.cell? ⟨sb, 3, none⟩ = some (I q.ol)) (c4 : v.cell? ⟨sb, 4, none⟩ = some (I q.ne))
    (cs : List Frame) (kk : List Item) (hvw : Rel zn v w0) (hn : NoRow Ch v) (hR : R10 n M b o A ln cp rb ro pc po ec v) (hX : R10x n ln rb ro v) (hA : Fl 223 [(1, I n0), (2, .slice (some ⟨b, o, none⟩) n cap), (8, Pt wb 0), (9, .slice (some ⟨M, 0, none⟩) n n), (11, I d), (12, I f), (13, I s), (14, I w), (18, .slice p T ct), (19, I x), (20, I (k : Int)), (21, Pt sb 0)] a)
    (hK : ∀ a' v' w', Rel zn v' w' → NoRow Ch v' → Grows v v' → Fl 223 [(1, I n0), (2, .slice (some ⟨b, o, none⟩) n cap), (8, Pt wb 0), (9, .slice (some ⟨M, 0, none⟩) n n), (11, I d), (12, I f), (13, I s), (14, I w), (18, .slice p T ct), (19, I x), (20, I (k : Int))] a' → GoesI Try.prog main (DT (ScZ zn) Ch) Stop (G ((base 10).at a' kk) cs) w') :
    GoesI Try.prog main (DT (ScZ zn) Ch) Stop (G ((base 10).at a (.code RT :: .inBlock 6 :: kk)) cs) w0 := by
  unfold RT
  refine goesI_seq (dt_idle _ _) ?_
  refine goesI_seq (dt_idle _ _) ?_
  refine goesI_plain (z := zn) (wr := true) (L := LV) (I := NoRow Ch) hE fineV noRow_keeps (fun v v' w w' es hi hr ho he => dt_of_z v v' w w' es hi hr ho he) hvw fine_t39 hA.2.1 (by simp [base]) hn (Q := fun a w' => Fl 223 [(1, I n0), (2, .slice (some ⟨b, o, none⟩) n cap), (8, Pt wb 0), (9, .slice (some ⟨M, 0, none⟩) n n), (11, I d), (12, I f), (13, I s), (14, I w), (18, .slice p T ct), (19, I x), (20, I (k : Int)), (21, Pt sb 0), (140, .bool (q.op != 10))] a ∧ w'.heap = v.heap ∧ w'.os = v.os ∧ w'.output = v.output) (fun τ => t39_wp (v := onTape v τ 0) c2 hA) ?_
  rintro a1 v1 w1 ⟨hA1, e1, o1, u1⟩ hr1 hn1 -
  have g1 := gr_same e1 o1 u1
  by_cases h10 : q.op = 10
  · refine goesI_cond (dt_idle _ _) (t := false) (by rw [hA1.at 140 (.bool (q.op != 10)) (by simp), h10]; rfl) ?_
    simp only [if_false, Bool.false_eq_true]
    refine goesI_skip (dt_idle _ _) ?_
    obtain ⟨i, ii, c, k1, k2, k3, k4, k5, k6⟩ := hE9 _ _ _ (split_at hq) h10
    have hkl : ii < ln i := by rw [← hln i k2]; exact (List.getElem?_eq_some_iff.1 k4).1
    have hR1 := hR.same e1
    have hX1 := hX.go g1
    obtain ⟨ca, cb, cc, p1, p2, p3⟩ := hX1 i k2 ii hkl
    have a2 : v1.cell? ⟨b, o + i, none⟩ = some (.slice (some ⟨rb i, ro i, none⟩) (ln i) (cp i)) := by have := hR1.sr i k2; rw [hR1.pq i k2 (by omega)] at this; exact this
    have p0 := hR1.sa i k2 ii hkl
    have d0 : v1.cell? ⟨sb, 0, none⟩ = some (I (i : Int)) := by rw [← k1]; exact gr_cell g1 c0
    have d3 : v1.cell? ⟨sb, 3, none⟩ = some (I (ii : Int)) := by rw [← k3]; exact gr_cell g1 c3
    have hA1' : Fl 223 [(1, I n0), (2, .slice (some ⟨b, o, none⟩) n cap), (8, Pt wb 0), (9, .slice (some ⟨M, 0, none⟩) n n), (11, I d), (12, I f), (13, I s), (14, I w), (18, .slice p T ct), (19, I x), (20, I (k : Int)), (21, Pt sb 0)] a1 := hA1.sub (by simp)
    refine goesI_seq (dt_idle _ _) ?_
    refine goesI_plain (z := zn) (wr := true) (L := LV) (I := NoRow Ch) hE fineV noRow_keeps (fun v v' w w' es hi hr ho he => dt_of_z v v' w w' es hi hr ho he) hr1 fine_t40 hA1'.2.1 (by simp [base]) hn1 (Q := fun a w' => Fl 223 [(1, I n0), (2, .slice (some ⟨b, o, none⟩) n cap), (8, Pt wb 0), (9, .slice (some ⟨M, 0, none⟩) n n), (11, I d), (12, I f), (13, I s), (14, I w), (18, .slice p T ct), (19, I x), (20, I (k : Int)), (21, Pt sb 0)] a ∧ w'.heap = v1.heap ∧ w'.os = v1.os ∧ w'.output = v1.output) (fun τ => t40_wp (v := onTape v1 τ 0) rfl k2 a2 hkl d0 d3 hA1') ?_
    rintro a2' v2 w2 ⟨hA2, e2, o2, u2⟩ hr2 hn2 -
    have g2 := gr_same e2 o2 u2
    refine goesI_seq (dt_idle _ _) ?_
    refine goesI_plain (z := zn) (wr := true) (L := LV) (I := NoRow Ch) hE fineV noRow_keeps (fun v v' w w' es hi hr ho he => dt_of_z v v' w w' es hi hr ho he) hr2 fine_t42 hA2.2.1 (by simp [base]) hn2 (Q := fun a w' => Fl 223 [(1, I n0), (2, .slice (some ⟨b, o, none⟩) n cap), (8, Pt wb 0), (9, .slice (some ⟨M, 0, none⟩) n n), (11, I d), (12, I f), (13, I s), (14, I w), (18, .slice p T ct), (19, I x), (20, I (k : Int)), (21, Pt sb 0), (22, Pt v2.heap.size 0)] a ∧ w'.heap = v2.heap.push (.cells #[I (po i ii), I ca, I cb, I cc] 39) ∧ w'.os = v2.os ∧ w'.output = v2.output) (fun τ => t42_wp (v := onTape v2 τ 0) rfl k2 (gr_cell g2 a2) hkl (gr_cell g2 d0) (gr_cell g2 d3) (gr_cell g2 p0) (gr_cell g2 p1) (gr_cell g2 p2) (gr_cell g2 p3) hA2) ?_
    rintro a3 v3 w3 ⟨hA3, e3, o3, u3⟩ hr3 hn3 -
    have g3 := gr_push e3 o3 u3
    have d4 : v3.cell? ⟨sb, 4, none⟩ = some (I q.ne) := gr_cell g3 (gr_cell g2 (gr_cell g1 c4))
    have d5 : v3.cell? ⟨v2.heap.size, 0, none⟩ = some (I (po i ii)) := cell_of (by rw [e3]; exact Array.getElem?_push_size) rfl
    rw [hpo i ii c k4] at d5
    have hx' := hx h10
    refine goesI_plain (z := zn) (wr := true) (L := LV) (I := NoRow Ch) hE fineV noRow_keeps (fun v v' w w' es hi hr ho he => dt_of_z v v' w w' es hi hr ho he) hr3 fine_t43 hA3.2.1 (by simp [base]) hn3 (Q := fun a w' => Fl 223 [(1, I n0), (2, .slice (some ⟨b, o, none⟩) n cap), (8, Pt wb 0), (9, .slice (some ⟨M, 0, none⟩) n n), (11, I d), (12, I f), (13, I s), (14, I w), (18, .slice p T ct), (19, I x), (20, I (k : Int)), (21, Pt sb 0)] a ∧ w'.heap = v3.heap ∧ w'.os = v3.os ∧ w'.output = v3.output) (fun τ => t43_wp (v := onTape v3 τ 0) d4 d5 (fun h => by rw [hx']; exact k5 h) (fun h h0 => by rw [hx']; exact k6 h h0) hA3) ?_
    rintro a4 v4 w4 ⟨hA4, e4, o4, u4⟩ hr4 hn4 -
    refine goesI_inBlock (dt_idle _ _) ?_
    exact hK a4 v4 w4 hr4 hn4 (gr_trans g1 (gr_trans g2 (gr_trans g3 (gr_same e4 o4 u4)))) (hA4.sub (by simp))
  · refine goesI_cond (dt_idle _ _) (t := true) (by rw [hA1.at 140 (.bool (q.op != 10)) (by simp)]; simp [h10]) ?_
    simp only [if_true]
    refine goesI_exit (dt_idle _ _) (k' := kk) (by simp [exitTo]) ?_
    exact hK a1 v1 w1 hr1 hn1 g1 (hA1.sub (by simp))

set_option maxHeartbeats 1000000 in
/-- A step of the trace. -/
theorem roundT (hln : ∀ j, j < n → (cl j).length = ln j) (hpo : ∀ (i k : Nat) (c : Cl), (cl i)[k]? = some c → po i k = c.po) (hE9 : Ends n n0 cl L) (hT : L.length = T) (hTs : T ≤ 400000) {v w0 : World} {a : Act} {k : Nat} {q : Stp} (hq : L[k]? = some q)
    (cs : List Frame) (kk : List Item) (hvw : Rel zn v w0) (hn : NoRow Ch v) (hR : R10 n M b o A ln cp rb ro pc po ec v) (hX : R10x n ln rb ro v) (hTr : Tr10 g L v) (hA : Fl 223 [(1, I n0), (2, .slice (some ⟨b, o, none⟩) n cap), (8, Pt wb 0), (9, .slice (some ⟨M, 0, none⟩) n n), (11, I d), (12, I f), (13, I s), (14, I w), (18, .slice (some ⟨g, 0, none⟩) T ct), (19, I (dn (L.take k) : Int)), (20, I (k : Int))] a)
    (hK : ∀ a' v' w', Rel zn v' w' → NoRow Ch v' → Grows v v' → Fl 223 [(1, I n0), (2, .slice (some ⟨b, o, none⟩) n cap), (8, Pt wb 0), (9, .slice (some ⟨M, 0, none⟩) n n), (11, I d), (12, I f), (13, I s), (14, I w), (18, .slice (some ⟨g, 0, none⟩) T ct), (19, I (dn (L.take (k + 1)) : Int)), (20, I (k : Int))] a' → GoesI Try.prog main (DT (ScZ zn) Ch) Stop (G ((base 10).at a' kk) cs) w') :
    GoesI Try.prog main (DT (ScZ zn) Ch) Stop (G ((base 10).at a (.code IT :: .inBlock 6 :: kk)) cs) w0 := by
  have hkT : k < T := by rw [← hT]; exact (List.getElem?_eq_some_iff.1 hq).1
  obtain ⟨t0, t1, t2, t3, t4⟩ := hTr k q hq
  have hdn : dn (L.take k) ≤ 400000 := by
    have : dn (L.take k) ≤ (L.take k).length := List.countP_le_length
    rw [List.length_take] at this
    omega
  have hd1 := dn_take hq
  rw [eIT]
  refine goesI_seq (dt_idle _ _) ?_
  refine goesI_plain (z := zn) (wr := true) (L := LV) (I := NoRow Ch) hE fineV noRow_keeps (fun v v' w w' es hi hr ho he => dt_of_z v v' w w' es hi hr ho he) hvw fine_t36 hA.2.1 (by simp [base]) hn (Q := fun a w' => Fl 223 [(1, I n0), (2, .slice (some ⟨b, o, none⟩) n cap), (8, Pt wb 0), (9, .slice (some ⟨M, 0, none⟩) n n), (11, I d), (12, I f), (13, I s), (14, I w), (18, .slice (some ⟨g, 0, none⟩) T ct), (19, I (dn (L.take k) : Int)), (20, I (k : Int)), (21, Pt v.heap.size 0)] a ∧ w'.heap = v.heap.push (.cells #[I q.th, I q.ce, I q.op, I q.ol, I q.ne] 34) ∧ w'.os = v.os ∧ w'.output = v.output) (fun τ => t36_wp (v := onTape v τ 0) rfl hkT t0 t1 t2 t3 t4 hA) ?_
  rintro a1 v1 w1 ⟨hA1, e1, o1, u1⟩ hr1 hn1 -
  have g1 := gr_push e1 o1 u1
  have hb : v1.heap[v.heap.size]? = some (.cells #[I q.th, I q.ce, I q.op, I q.ol, I q.ne] 34) := by rw [e1]; exact Array.getElem?_push_size
  have c0 : v1.cell? ⟨v.heap.size, 0, none⟩ = some (I q.th) := cell_of hb rfl
  have c2 : v1.cell? ⟨v.heap.size, 2, none⟩ = some (I q.op) := cell_of hb rfl
  have c3 : v1.cell? ⟨v.heap.size, 3, none⟩ = some (I q.ol) := cell_of hb rfl
  have c4 : v1.cell? ⟨v.heap.size, 4, none⟩ = some (I q.ne) := cell_of hb rfl
  have hR1 := hR.go g1.old
  have hX1 := hX.go g1
  refine goesI_seq (dt_idle _ _) ?_
  refine goesI_seq (dt_idle _ _) ?_
  have hend : ∀ (a2 : Act) (v2 w2 : World), Rel zn v2 w2 → NoRow Ch v2 → v2.heap = v1.heap → v2.os = v1.os → v2.output = v1.output → Fl 223 [(1, I n0), (2, .slice (some ⟨b, o, none⟩) n cap), (8, Pt wb 0), (9, .slice (some ⟨M, 0, none⟩) n n), (11, I d), (12, I f), (13, I s), (14, I w), (18, .slice (some ⟨g, 0, none⟩) T ct), (19, I (dn (L.take (k + 1)) : Int)), (20, I (k : Int)), (21, Pt v.heap.size 0)] a2 → GoesI Try.prog main (DT (ScZ zn) Ch) Stop (G ((base 10).at a2 (.code RT :: .inBlock 6 :: kk)) cs) w2 := fun a2 v2 w2 hr2 hn2 e2 o2 u2 hA2 => by
    have g2 := gr_same e2 o2 u2
    refine tailT hln hpo hE9 hq (fun h => ?_) (gr_cell g2 c0) (gr_cell g2 c2) (gr_cell g2 c3) (gr_cell g2 c4) cs kk hr2 hn2 (hR1.same e2) (hX1.go g2) hA2 (fun a' v' w' r1 r2 r3 r4 => hK a' v' w' r1 r2 (gr_trans g1 (gr_trans g2 r3)) r4)
    rw [hd1]
    have : isD q = false := by unfold isD; rw [h]; rfl
    rw [this]
    rfl
  change GoesI Try.prog main (DT (ScZ zn) Ch) Stop (G ((base 10).at a1 (.code t37 :: .code (.cond (.tmp 135) t38 .skip) :: .code RT :: .inBlock 6 :: kk)) cs) w1
  by_cases h4 : q.op = 4
  · refine goesI_plain (z := zn) (wr := true) (L := LV) (I := NoRow Ch) hE fineV noRow_keeps (fun v v' w w' es hi hr ho he => dt_of_z v v' w w' es hi hr ho he) hr1 fine_t37 hA1.2.1 (by simp [base]) hn1 (Q := fun a w' => Fl 223 [(1, I n0), (2, .slice (some ⟨b, o, none⟩) n cap), (8, Pt wb 0), (9, .slice (some ⟨M, 0, none⟩) n n), (11, I d), (12, I f), (13, I s), (14, I w), (18, .slice (some ⟨g, 0, none⟩) T ct), (19, I (dn (L.take k) : Int)), (20, I (k : Int)), (21, Pt v.heap.size 0), (135, .bool (q.ne == wrap64 (q.ol - 1)))] a ∧ w'.heap = v1.heap ∧ w'.os = v1.os ∧ w'.output = v1.output) (fun τ => t37_wpy (v := onTape v1 τ 0) c2 c3 c4 h4 hA1) ?_
    rintro a2 v2 w2 ⟨hA2, e2, o2, u2⟩ hr2 hn2 -
    have hA2' : Fl 223 [(1, I n0), (2, .slice (some ⟨b, o, none⟩) n cap), (8, Pt wb 0), (9, .slice (some ⟨M, 0, none⟩) n n), (11, I d), (12, I f), (13, I s), (14, I w), (18, .slice (some ⟨g, 0, none⟩) T ct), (19, I (dn (L.take k) : Int)), (20, I (k : Int)), (21, Pt v.heap.size 0)] a2 := hA2.sub (by simp)
    by_cases h5 : q.ne = wrap64 (q.ol - 1)
    · have h6 : isD q = true := by unfold isD; rw [h4, h5]; simp
      rw [h6, if_pos rfl] at hd1
      refine goesI_cond (dt_idle _ _) (t := true) (by rw [hA2.at 135 (.bool (q.ne == wrap64 (q.ol - 1))) (by simp), h5]; simp) ?_
      simp only [if_true]
      refine goesI_plain (z := zn) (wr := true) (L := LV) (I := NoRow Ch) hE fineV noRow_keeps (fun v v' w w' es hi hr ho he => dt_of_z v v' w w' es hi hr ho he) hr2 fine_t38 hA2'.2.1 (by simp [base]) hn2 (Q := fun a w' => Fl 223 [(1, I n0), (2, .slice (some ⟨b, o, none⟩) n cap), (8, Pt wb 0), (9, .slice (some ⟨M, 0, none⟩) n n), (11, I d), (12, I f), (13, I s), (14, I w), (18, .slice (some ⟨g, 0, none⟩) T ct), (19, I ((dn (L.take k) : Int) + 1)), (20, I (k : Int)), (21, Pt v.heap.size 0)] a ∧ w'.heap = v2.heap ∧ w'.os = v2.os ∧ w'.output = v2.output) (fun τ => t38_wp (v := onTape v2 τ 0) (by unfold wrap64; omega) hA2') ?_
      rintro a3 v3 w3 ⟨hA3, e3, o3, u3⟩ hr3 hn3 -
      refine hend a3 v3 w3 hr3 hn3 (e3.trans e2) (o3.trans o2) (u3.trans u2) ?_
      rw [hd1]
      exact hA3
    · have h6 : isD q = false := by unfold isD; simp [h5]
      rw [h6] at hd1
      refine goesI_cond (dt_idle _ _) (t := false) (by rw [hA2.at 135 (.bool (q.ne == wrap64 (q.ol - 1))) (by simp)]; simp [h5]) ?_
      simp only [if_false, Bool.false_eq_true]
      refine goesI_skip (dt_idle _ _) ?_
      refine hend a2 v2 w2 hr2 hn2 e2 o2 u2 ?_
      rw [hd1]
      exact hA2'
  · have h6 : isD q = false := by unfold isD; simp [h4]
    rw [h6] at hd1
    refine goesI_plain (z := zn) (wr := true) (L := LV) (I := NoRow Ch) hE fineV noRow_keeps (fun v v' w w' es hi hr ho he => dt_of_z v v' w w' es hi hr ho he) hr1 fine_t37 hA1.2.1 (by simp [base]) hn1 (Q := fun a w' => Fl 223 [(1, I n0), (2, .slice (some ⟨b, o, none⟩) n cap), (8, Pt wb 0), (9, .slice (some ⟨M, 0, none⟩) n n), (11, I d), (12, I f), (13, I s), (14, I w), (18, .slice (some ⟨g, 0, none⟩) T ct), (19, I (dn (L.take k) : Int)), (20, I (k : Int)), (21, Pt v.heap.size 0), (135, .bool false)] a ∧ w'.heap = v1.heap ∧ w'.os = v1.os ∧ w'.output = v1.output) (fun τ => t37_wpn (v := onTape v1 τ 0) c2 c3 c4 h4 hA1) ?_
    rintro a2 v2 w2 ⟨hA2, e2, o2, u2⟩ hr2 hn2 -
    refine goesI_cond (dt_idle _ _) (t := false) (by rw [hA2.at 135 (.bool false) (by simp)]) ?_
    simp only [if_false, Bool.false_eq_true]
    refine goesI_skip (dt_idle _ _) ?_
    refine hend a2 v2 w2 hr2 hn2 e2 o2 u2 ?_
    rw [hd1]
    exact hA2.sub (by simp)

set_option maxHeartbeats 1000000 in
/-- The second loop. -/
theorem loopT (hln : ∀ j, j < n → (cl j).length = ln j) (hpo : ∀ (i k : Nat) (c : Cl), (cl i)[k]? = some c → po i k = c.po) (hE9 : Ends n n0 cl L) (hT : L.length = T) (hTs : T ≤ 400000) (hp : 0 < T → p = some ⟨g, 0, none⟩) (cs : List Frame) (kk : List Item) : ∀ (m k : Nat) (a : Act) (v w0 : World), k + m = T → Rel zn v w0 → NoRow Ch v → R10 n M b o A ln cp rb ro pc po ec v → R10x n ln rb ro v → Tr10 g L v → Fl 223 [(1, I n0), (2, .slice (some ⟨b, o, none⟩) n cap), (8, Pt wb 0), (9, .slice (some ⟨M, 0, none⟩) n n), (11, I d), (12, I f), (13, I s), (14, I w), (18, .slice p T ct), (19, I (dn (L.take k) : Int)), (20, I (k : Int))] a →
    (∀ a' v' w', Rel zn v' w' → NoRow Ch v' → Grows v v' → Fl 223 [(1, I n0), (2, .slice (some ⟨b, o, none⟩) n cap), (8, Pt wb 0), (9, .slice (some ⟨M, 0, none⟩) n n), (11, I d), (12, I f), (13, I s), (14, I w), (18, .slice p T ct), (19, I (dn L : Int))] a' → GoesI Try.prog main (DT (ScZ zn) Ch) Stop (G ((base 10).at a' kk) cs) w') →
    GoesI Try.prog main (DT (ScZ zn) Ch) Stop (G ((base 10).at a (.code LT :: .inLoop LT :: .inBlock 5 :: kk)) cs) w0 := by
  intro m
  induction m with
  | zero =>
    intro k a v w0 hk hvw hn hR hX hTr hA hK
    rw [eLT]
    refine goesI_seq (dt_idle _ _) ?_
    refine goesI_seq (dt_idle _ _) ?_
    refine goesI_plain (z := zn) (wr := true) (L := LV) (I := NoRow Ch) hE fineV noRow_keeps (fun v v' w w' es hi hr ho he => dt_of_z v v' w w' es hi hr ho he) hvw fine_t34 hA.2.1 (by simp [base]) hn (Q := fun a w' => Fl 223 [(1, I n0), (2, .slice (some ⟨b, o, none⟩) n cap), (8, Pt wb 0), (9, .slice (some ⟨M, 0, none⟩) n n), (11, I d), (12, I f), (13, I s), (14, I w), (18, .slice p T ct), (19, I (dn (L.take k) : Int)), (20, I (k : Int)), (118, .bool (decide ((k : Int) < (T : Int))))] a ∧ w'.heap = v.heap ∧ w'.os = v.os ∧ w'.output = v.output) (fun τ => t34_wp (v := onTape v τ 0) rfl hA) ?_
    rintro a1 v1 w1 ⟨hA1, e1, o1, u1⟩ hr1 hn1 -
    refine goesI_cond (dt_idle _ _) (t := false) (by rw [hA1.at 118 (.bool (decide ((k : Int) < (T : Int)))) (by simp), decide_eq_false (by omega)]) ?_
    simp only [if_false, Bool.false_eq_true]
    refine goesI_exit (dt_idle _ _) (k' := kk) (by simp [exitTo]) ?_
    have hL : L.take k = L := List.take_of_length_le (by omega)
    rw [hL] at hA1
    exact hK a1 v1 w1 hr1 hn1 (gr_same e1 o1 u1) (hA1.sub (by simp))
  | succ m ih =>
    intro k a v w0 hk hvw hn hR hX hTr hA hK
    obtain rfl := hp (by omega)
    obtain ⟨q, hq⟩ : ∃ q, L[k]? = some q := ⟨_, List.getElem?_eq_getElem (by omega)⟩
    rw [eLT]
    refine goesI_seq (dt_idle _ _) ?_
    refine goesI_seq (dt_idle _ _) ?_
    refine goesI_plain (z := zn) (wr := true) (L := LV) (I := NoRow Ch) hE fineV noRow_keeps (fun v v' w w' es hi hr ho he => dt_of_z v v' w w' es hi hr ho he) hvw fine_t34 hA.2.1 (by simp [base]) hn (Q := fun a w' => Fl 223 [(1, I n0), (2, .slice (some ⟨b, o, none⟩) n cap), (8, Pt wb 0), (9, .slice (some ⟨M, 0, none⟩) n n), (11, I d), (12, I f), (13, I s), (14, I w), (18, .slice (some ⟨g, 0, none⟩) T ct), (19, I (dn (L.take k) : Int)), (20, I (k : Int)), (118, .bool (decide ((k : Int) < (T : Int))))] a ∧ w'.heap = v.heap ∧ w'.os = v.os ∧ w'.output = v.output) (fun τ => t34_wp (v := onTape v τ 0) rfl hA) ?_
    rintro a1 v1 w1 ⟨hA1, e1, o1, u1⟩ hr1 hn1 -
    have g1 := gr_same e1 o1 u1
    refine goesI_cond (dt_idle _ _) (t := true) (by rw [hA1.at 118 (.bool (decide ((k : Int) < (T : Int)))) (by simp), decide_eq_true (by omega)]) ?_
    simp only [if_true]
    refine goesI_skip (dt_idle _ _) ?_
    refine goesI_seq (dt_idle _ _) ?_
    refine goesI_block (dt_idle _ _) ?_
    rw [← eLT]
    have hA1' : Fl 223 [(1, I n0), (2, .slice (some ⟨b, o, none⟩) n cap), (8, Pt wb 0), (9, .slice (some ⟨M, 0, none⟩) n n), (11, I d), (12, I f), (13, I s), (14, I w), (18, .slice (some ⟨g, 0, none⟩) T ct), (19, I (dn (L.take k) : Int)), (20, I (k : Int))] a1 := hA1.sub (by simp)
    refine roundT hln hpo hE9 hT hTs hq cs _ hr1 hn1 (hR.same e1) (hX.go g1) (hTr.go g1) hA1' (fun a2 v2 w2 hr2 hn2 g2 hA2 => ?_)
    refine goesI_plain (z := zn) (wr := true) (L := LV) (I := NoRow Ch) hE fineV noRow_keeps (fun v v' w w' es hi hr ho he => dt_of_z v v' w w' es hi hr ho he) hr2 fine_t35 hA2.2.1 (by simp [base]) hn2 (Q := fun a w' => Fl 223 [(1, I n0), (2, .slice (some ⟨b, o, none⟩) n cap), (8, Pt wb 0), (9, .slice (some ⟨M, 0, none⟩) n n), (11, I d), (12, I f), (13, I s), (14, I w), (18, .slice (some ⟨g, 0, none⟩) T ct), (19, I (dn (L.take (k + 1)) : Int)), (20, I ((k + 1 : Nat) : Int))] a ∧ w'.heap = v2.heap ∧ w'.os = v2.os ∧ w'.output = v2.output) (fun τ => t35_wp (v := onTape v2 τ 0) (by unfold wrap64; omega) hA2) ?_
    rintro a3 v3 w3 ⟨hA3, e3, o3, u3⟩ hr3 hn3 -
    refine goesI_inLoop (dt_idle _ _) ?_
    have g3 := gr_trans g1 (gr_trans g2 (gr_same e3 o3 u3))
    exact ih (k + 1) a3 v3 w3 (by omega) hr3 hn3 (hR.go g3.old) (hX.go g3) (hTr.go g3) hA3 (fun a' v' w' r1 r2 r3 r4 => hK a' v' w' r1 r2 (gr_trans g3 r3) r4)
end
end Go.Proofs.Ytfjjoohflcchnaa.Gen

namespace Go.Proofs.Ytfjjoohflcchnaa.Gen
open Go Go.Lift Go.Conc Go.RowKit

/-- Code that returns, walked alone. -/
theorem goesI_retZ {Ch : Nat → Prop} {Stop : Goroutine → World → Prop} {main : Bool} {f : FuncId} {c : Code} {act : Act} {more : List Item} {cs : List Frame} {v w : World} {Q : Act → World → Prop} (hvw : Rel zn v w) (hn : NoRow Ch v) (hc : fineCode Try.prog true LV c) (ha : act.defers = [])
    (hwp : ∀ τ, c.wp Try.prog (fun e a w' => e = .ret ∧ Q a w') act (onTape v τ 0))
    (h : ∀ a' v' w' todo, Q a' v' → a'.defers = [] → Rel zn v' w' → NoRow Ch v' → GoesI Try.prog main (DT (ScZ zn) Ch) Stop (G { (base f).at a' todo with mode := .returning } cs) w') :
    GoesI Try.prog main (DT (ScZ zn) Ch) Stop (G ((base f).at act (.code c :: more)) cs) w := by
  have hfin := lift_code (P := Try.prog) (z := zn) (wr := true) (L := LV) (D := DT (ScZ zn) Ch) (I := NoRow Ch) (main := main) (b := base f) (k := more) (cs := cs) hE fineV noRow_keeps (fun v v' w w' es hi hr ho he => dt_of_z v v' w w' es hi hr ho he) hvw hc ha (by simp [base]) hn
    (Q := fun e a w' => e = .ret ∧ Q a w') hwp (fun e a w hq => .inr hq.1)
  refine hfin.then ?_
  rintro g w' ⟨a', v', hr, hiv, hd, ⟨⟨hq, _⟩, _⟩ | ⟨⟨_, hQ⟩, todo, rfl⟩⟩
  · cases hq
  · exact h a' v' w' todo hQ hd hr hiv

theorem _root_.Go.Proofs.Ytfjjoohflcchnaa.Grows.toAt {W v w : World} (h : Grows W v) (hr : Rel zn v w) (d : Nat) : Grows W (w.at d) := by
  have e : (w.at d).heap = v.heap := hr.eq
  exact ⟨by rw [e]; exact h.size, fun b hb => by rw [e]; exact h.old b hb, hr.os.trans h.os, hr.output.trans h.output⟩
theorem _root_.Go.Proofs.Ytfjjoohflcchnaa.Grows.andThen {W v w : World} (h : Grows W v) (k : Grows v w) : Grows W w := ⟨Nat.le_trans h.size k.size, fun b hb => by rw [k.old b (by have := h.size; omega), h.old b hb], k.os.trans h.os, k.output.trans h.output⟩
def PostT (W : World) (r : Value) (w' : World) : Prop := r = .bool true ∧ Grows W w'
end Go.Proofs.Ytfjjoohflcchnaa.Gen

namespace Go.Proofs.Ytfjjoohflcchnaa.Gen
open Go Go.Lift Go.Conc Go.RowKit

section
variable {X : Fix mcLatch} {z : Nat → Option Nat} {cont : Addr → Value} {Ch : Nat → Prop} {Stop : Goroutine → World → Prop} {cu : Value → Goroutine} {S0 : TS} {K0 : List (Nat × Int)} {v0 : World} {Mo0 : Nat → Option Obj} {σ : TS} {κ : List (Nat × Int)} {S : TS} {v w : World} {t : Thr} {H : Nx → (Nat → Option Obj) → Goroutine → Prop} {xb lb cb pb : Nat} {c64 : Value → Goroutine} {f : Frs}

/-- Down has seen x. -/
theorem lat_dseen (hm : LMine X xb lb cb) (hL : LBack (X.h == 0) pb c64 cu) (hf : DF (X.h == 0) f c64) (hH : ∀ x Mo' g, Good v0 Mo0 x Mo' → latSit X x Mo' cu g → H x Mo' g) (x : Int) (hob : Ob X H z cont Ch Stop cu S0 K0 v0 Mo0 σ κ (if x = 0 then .ans 50 0 else .turn 4 0 (1, [x]))) (N : Now X z cont Ch S0 K0 v0 Mo0 (boxO pb) σ κ S v w t) (u : Nat → Value) :
    GoesI Try.prog (X.h == 0) (DT (ScZ z) Ch) Stop (G (dSeen lb cb X.tb u (I x)) (f.top :: f.fs)) w := by
  by_cases hx : x = 0
  · subst hx
    rw [if_pos rfl] at hob
    exact down_low (bc := f.bd) (ac := f.ad) (ops := f.od) (q := f.qd) (rest := f.rd) (oc := f.oe) (k := f.kd) u f.fs hf.oe N.at_.rel N.at_.noRow (fun v2 w2 r2 n2 a b c => hf.back 50 z Ch Stop w2 v2 r2 n2 (fun v3 w3 r3 n3 a' b' c' => lat_ans hL 50 hob (.inl rfl) ((N.same r2 n2 a b c).same r3 n3 a' b' c')))
  · rw [if_neg hx] at hob
    rw [← N.at_.tb]
    exact down_try (h := X.h) (i := X.i) (j := 0) x hx _ u _ (H (.turn 4 0 (1, [x])) (boxO pb)) (fun g hg => hH _ _ g (N.good (fun _ _ h => by cases h)) ⟨xb, lb, cb, pb, c64, f, hm, rfl, hL, .inl ⟨hf, .inr ⟨x, _, rfl, by rw [N.at_.tb] at hg; exact hg⟩⟩⟩) (hm.mem v N.at_.pk).2 N.at_.rel N.at_.noRow N.at_.mem N.at_.thr (N.cell hm.kb).1 (by rw [N.at_.tb]; exact N.at_.z) (by rw [N.at_.tb, N.at_.gc]; exact N.at_.cont) (ob_turn hob N)
/-- Wait has seen x. -/
theorem lat_wseen (hm : LMine X xb lb cb) (hL : LBack (X.h == 0) pb c64 cu) (hf : WF (X.h == 0) f c64) (hH : ∀ x Mo' g, Good v0 Mo0 x Mo' → latSit X x Mo' cu g → H x Mo' g) (x : Int) (hob : Ob X H z cont Ch Stop cu S0 K0 v0 Mo0 σ κ (if x = 0 then .ans 0 0 else .wait 0 (3, []))) (N : Now X z cont Ch S0 K0 v0 Mo0 (boxO pb) σ κ S v w t) (u : Nat → Value) :
    GoesI Try.prog (X.h == 0) (DT (ScZ z) Ch) Stop (G (wSeen lb cb X.tb u (I x)) (f.top :: f.fs)) w := by
  by_cases hx : x = 0
  · subst hx
    rw [if_pos rfl] at hob
    exact wait_done (bc := f.bd) (ac := f.ad) (ops := f.od) (q := f.qd) (rest := f.rd) (oc := f.oe) (k := f.kd) u f.fs hf.oe N.at_.rel N.at_.noRow (fun v2 w2 r2 n2 a b c => hf.back true z Ch Stop w2 v2 r2 n2 (fun v3 w3 r3 n3 a' b' c' => lat_ans hL 0 hob (.inl rfl) ((N.same r2 n2 a b c).same r3 n3 a' b' c')))
  · rw [if_neg hx] at hob
    refine wait_more (j := 0) x hx _ u _ (hm.mem v N.at_.pk).2 N.at_.rel N.at_.noRow N.at_.mem (N.cell hm.kb).1 (fun v' w' bd ad od qd rd oe kd r n e hoe hfr code hcode => ?_)
    have N' := N.on e r n N.nv N.at_.thr N.at_.tb N.at_.gc rfl
    cases hs : S.stk with
    | true =>
      have := await_no (i := X.i) (main := X.h == 0) (Ch := Ch) (Stop := Stop) ((0 : Nat) : Int) (f.top :: f.fs) hoe N'.at_.rel N'.at_.noRow N'.at_.mem hs N'.at_.thr (fun v2 w2 r2 n2 e2 => by
        rw [hfr]
        have N2 := N'.on e2 r2 n2 N'.nv N'.at_.thr N'.at_.tb N'.at_.gc rfl
        exact wait_no (bc := f.bd) (ac := f.ad) (ops := f.od) (q := f.qd) (rest := f.rd) (oc := f.oe) (k := f.kd) _ f.fs hf.oe r2 n2 (fun v3 w3 r3 n3 a b c => hf.back false z Ch Stop w3 v3 r3 n3 (fun v4 w4 r4 n4 a' b' c' => lat_ans hL 4 hob (.inr ⟨0, (3, []), rfl, by rw [← N.nv]; exact hs, rfl⟩) ((N2.same r3 n3 a b c).same r4 n4 a' b' c')))) code hcode
      rw [N'.at_.tb] at this
      exact this
    | false =>
      have ee : (fun r => G (bd.at (ad.put oe.dst r) (.inRegion od rd :: kd)) (f.top :: f.fs)) = (fun r => G (wWoke lb X.tb (wVal lb cb X.tb x 0 u) r) (f.top :: f.fs)) := funext fun r => by rw [hfr]
      have := await_goes (h := X.h) (cont := cont) (i := X.i) (Stop := Stop) ((0 : Nat) : Int) (f.top :: f.fs) (H (.wait 0 (3, [])) (boxO pb)) hoe (fun g hg => hH _ _ g (N'.good (fun _ _ h => by cases h)) ⟨xb, lb, cb, pb, c64, f, hm, rfl, hL, .inr ⟨hf, .inr ⟨rfl, wVal lb cb X.tb x 0 u, by rw [← ee, ← N'.at_.tb]; exact hg⟩⟩⟩) N'.at_.rel N'.at_.noRow N'.at_.mem hs N'.at_.thr (by rw [N'.at_.tb]; exact N'.at_.z) (by rw [N'.at_.tb, N'.at_.gc]; exact N'.at_.cont) (ob_wait hob hs N') code hcode
      rw [N'.at_.tb] at this
      exact this
end

set_option maxHeartbeats 1000000 in
noncomputable def pkgLatch : Pkg mcLatch 69 where
  fn := Try.f69
  code := Try.f69.body.getD .skip
  hf := Try.func69
  hname := by kernel_rfl
  hcode := rfl
  Mine X := ∃ xb lb cb, LMine X xb lb cb
  Sit := latSit
  start := by
    rintro X ok ⟨xb, lb, cb, hm⟩ hfid c hc cs bc ac ops q rest oc k hoc H z cont Ch Stop S K v w t A hH hob
    rw [hm.caps]
    show GoesI Try.prog (X.h == 0) (DT (ScZ z) Ch) Stop (G ((base 69).at { tmps := #[Pt X.tb 0, .agg #[I c.po, I c.ca, I c.cb, I c.cc], Pt xb 0] ++ Array.replicate 9 undef, defers := [] } [.code (Try.f69.body.getD .skip)]) (bc.at ac (.inRegion ops (q :: rest) :: k) :: cs)) w
    refine clo_goes c.po c.ca c.cb c.cc (hm.mem v A.pk).1 cs hoc A.rel A.noRow (fun v' w' bd ad od qd rd oe kd hr hn hg hbox hoe hL code hcode => ?_) _ rfl
    have hlt : v.heap.size + 1 < v'.heap.size := (Array.getElem?_eq_some_iff.1 hbox).1
    have N : Now X z cont Ch S K v (fun _ => none) (boxO (v.heap.size + 1)) (Gen.nv S) K S v' w' t := by
      refine ⟨⟨hr, hn, (A.mem.grows hg).mem, A.thr, A.tb, A.gc, A.kb, A.z, A.cont, fun b o hb => ?_, A.far⟩, Evo.toP (A.mem.grows hg), rfl, rfl, fun b o hb => ?_, fun b hb ho => ?_, fun b hb => ?_, boxO_row _⟩
      · have h1 := A.pk b o hb
        rw [hg.old b (Array.getElem?_eq_some_iff.1 h1).1]; exact h1
      · have e := boxO_eq (pb := v.heap.size + 1) (b := b) (by rw [hb]; simp)
        subst e
        rw [boxO_at] at hb
        cases hb
        exact hbox
      · have e := boxO_eq hb
        have := A.mem.lt ho
        omega
      · have e := boxO_eq hb
        exact .inr (by omega)
    by_cases h1 : c.po = 1
    · have es : mcLatch.start c = .turn 1 0 (0, []) := by simp [mcLatch, h1]
      rw [es] at hob
      rw [h1]
      exact call_down (v := v') _ hoe (fun bd2 ad2 od2 qd2 rd2 oe2 kd2 h2 hA code2 hcode2 => down_in _ (fun u => lat_down (f := ⟨bd2, ad2, od2, qd2, rd2, oe2, kd2, _⟩) hm hL ⟨h2, hA⟩ hH hob N u) code2 hcode2) code hcode
    · by_cases h2 : c.po = 2
      · have es : mcLatch.start c = .turn 1 0 (2, []) := by simp [mcLatch, h2]
        rw [es] at hob
        rw [h2]
        exact call_wait (v := v') _ hoe (fun bd2 ad2 od2 qd2 rd2 oe2 kd2 h2 hA code2 hcode2 => wait_in _ (fun u => lat_wait (f := ⟨bd2, ad2, od2, qd2, rd2, oe2, kd2, _⟩) hm hL ⟨h2, hA⟩ hH hob N u) code2 hcode2) code hcode
      · have es : mcLatch.start c = .ans 1 0 := by simp [mcLatch, h1, h2]
        rw [es] at hob
        exact call_none c.po h1 h2 _ hoe hr hn (fun w2 r2 => lat_ans (w := w2) hL 1 hob (.inl rfl) (N.same r2 hn rfl rfl rfl)) code hcode
  turn := by
    rintro X ok - hfid op j q Mo cu g ⟨xb, lb, cb, pb, c64, f, hm, rfl, hL, hsit⟩ H z cont Ch Stop y S K v w t A hH hop hce hl hMo hMf hMp hob
    have N0 := Now.here A hMo hMf (boxO_row pb)
    have hc := N0.cell hm.kb
    rcases hsit with ⟨hf, ⟨hx, u, hg⟩ | ⟨a, u, hx, hg⟩⟩ | ⟨hf, ⟨hx, u, hg⟩ | ⟨hx, _⟩⟩
    · cases hx
      refine hg z Ch Stop y w v S K t (cellAt K 0).2 A.rel A.noRow A.mem A.thr A.tb hop hce hc.1 hl (fun v1 w1 tv r1 n1 e1 => ?_)
      have sd := sta_did (i := X.i) S tv t (cellAt K 0).2 (cellAt K 0).2
      have N1 := N0.on e1 r1 n1 (nv_did tv t _ _) (did_thr A.thr) A.tb A.gc sd.bk
      have e2 : (cellAt K 0).1 = cb := by rw [hc.2]
      rw [e2] at hob
      exact lat_dseen hm hL hf hH (cellAt K 0).2 hob N1 u
    · cases hx
      refine hg z Ch Stop y w v S K t (cellAt K 0).2 A.rel A.noRow A.mem A.thr A.tb hop hce hc.1 hl (fun v1 w1 tv r1 n1 e1 => ?_)
      have sd := sta_did (i := X.i) S tv t (effCas a (wrap64 (a - 1)) (cellAt K 0).2).1.1 (effCas a (wrap64 (a - 1)) (cellAt K 0).2).1.2
      have N1 := N0.on e1 r1 n1 (nv_did tv t _ _) (did_thr A.thr) A.tb A.gc sd.bk
      have e2 : (cellAt K 0).1 = cb := by rw [hc.2]
      rw [e2] at hob
      have hob : Ob X H z cont Ch Stop cu S K v (boxO pb) (didS (Gen.nv S) undef X.i t (effCas a (wrap64 (a - 1)) (cellAt K 0).2).1.1 (effCas a (wrap64 (a - 1)) (cellAt K 0).2).1.2) (K.set 0 (cb, (effCas a (wrap64 (a - 1)) (cellAt K 0).2).2.1)) (if (cellAt K 0).2 = a then .ans 0 0 else .turn 1 0 (0, [])) := hob
      by_cases hx : (cellAt K 0).2 = a
      · rw [if_pos hx] at hob
        rw [show (effCas a (wrap64 (a - 1)) (cellAt K 0).2).2.2 = .bool true by unfold effCas; rw [if_pos hx]]
        exact down_won (bc := f.bd) (ac := f.ad) (ops := f.od) (q := f.qd) (rest := f.rd) (oc := f.oe) (k := f.kd) u f.fs hf.oe r1 n1 (fun v2 w2 r2 n2 a b c => hf.back 0 z Ch Stop w2 v2 r2 n2 (fun v3 w3 r3 n3 a' b' c' => lat_ans hL 0 hob (.inl rfl) ((N1.same r2 n2 a b c).same r3 n3 a' b' c')))
      · rw [if_neg hx] at hob
        rw [show (effCas a (wrap64 (a - 1)) (cellAt K 0).2).2.2 = .bool false by unfold effCas; rw [if_neg hx]]
        exact down_again u _ (fun u => lat_down hm hL hf hH hob N1 u)
    · cases hx
      refine hg z Ch Stop y w v S K t (cellAt K 0).2 A.rel A.noRow A.mem A.thr A.tb hop hce hc.1 hl (fun v1 w1 tv r1 n1 e1 => ?_)
      have sd := sta_did (i := X.i) S tv t (cellAt K 0).2 (cellAt K 0).2
      have N1 := N0.on e1 r1 n1 (nv_did tv t _ _) (did_thr A.thr) A.tb A.gc sd.bk
      have e2 : (cellAt K 0).1 = cb := by rw [hc.2]
      rw [e2] at hob
      exact lat_wseen hm hL hf hH (cellAt K 0).2 hob N1 u
    · cases hx
  wake := by
    rintro X ok - hfid j q Mo cu g ⟨xb, lb, cb, pb, c64, f, hm, rfl, hL, hsit⟩ H z cont Ch Stop y S K v w t A hH hl hMo hMf hMp hob1 hob2
    have N0 := Now.here A hMo hMf (boxO_row pb)
    rcases hsit with ⟨hf, ⟨hx, u, hg⟩ | ⟨a, u, hx, hg⟩⟩ | ⟨hf, ⟨hx, u, hg⟩ | ⟨hx, u, hg⟩⟩
    · cases hx
    · cases hx
    · cases hx
    · cases hx
      refine hg z Ch Stop y w v S K t A.rel A.noRow A.mem A.thr A.tb hl (fun v1 w1 tv hs r1 n1 e1 => ?_) (fun v1 w1 hs r1 n1 e1 => ?_)
      · have N1 := N0.on e1 r1 n1 rfl A.thr A.tb A.gc rfl
        exact wait_again u _ (fun u => lat_wait hm hL hf hH (hob2 hs) N1 u)
      · have N1 := N0.on e1 r1 n1 rfl A.thr A.tb A.gc rfl
        exact wait_no (bc := f.bd) (ac := f.ad) (ops := f.od) (q := f.qd) (rest := f.rd) (oc := f.oe) (k := f.kd) u f.fs hf.oe r1 n1 (fun v2 w2 r2 n2 a b c => hf.back false z Ch Stop w2 v2 r2 n2 (fun v3 w3 r3 n3 a' b' c' => lat_ans hL 4 (hob1 hs) (.inl rfl) ((N1.same r2 n2 a b c).same r3 n3 a' b' c')))
end Go.Proofs.Ytfjjoohflcchnaa.Gen
