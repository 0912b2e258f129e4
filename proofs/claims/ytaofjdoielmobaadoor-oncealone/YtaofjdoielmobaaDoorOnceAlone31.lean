/- OnceAlone holds, as a card tied to the program's text: a once of no world, asked by one free thread with any list of acts, carries out the first one alone and tells all of them what it came to; no condition besides the sizes that the statement itself names. Part 31 of 35. (Joined, by program, of: La5a, La5b.) -/
import Derived.Test.YtaofjdoielmobaaDoorOnceAlone19
import Derived.Test.YtaofjdoielmobaaDoorOnceAlone30

/- The law OnceAlone (5): once.New of no world, what an act comes to, the law's plain pieces. (Made by wip/tools/mko_l5.py.) -/
set_option linter.unusedSimpArgs false
set_option linter.unusedVariables false
namespace Go.Proofs.YtaofjdoielmobaaDoor.Gen
open Go Go.Lift Go.Conc Go.RowKit

/-- A once of no world has been made. -/
structure NwO (v w' : World) : Prop where
  kp : w'.heap[v.heap.size]? = some (.cells #[Pt (v.heap.size + 1) 0, Pt (v.heap.size + 2) 0] 103 (0, 0))
  cw : w'.heap[v.heap.size + 1]? = some (.cells #[I 0, I 0] 149 (0, 0))
  cv : w'.heap[v.heap.size + 2]? = some (.cells #[I 0, I 0] 149 (0, 0))
  ob : w'.heap[v.heap.size + 3]? = some (.cells #[Pt v.heap.size 0] 79 (0, 0))
  g : Grows v w'
set_option maxHeartbeats 4000000 in
set_option maxRecDepth 100000 in
theorem keptN (v : World) : Calls Tryd.prog 29 #[.pointer none] v (fun e w' => e = .returned (Pt v.heap.size 0) ∧ w'.heap.size = v.heap.size + 3 ∧ w'.heap[v.heap.size]? = some (.cells #[Pt (v.heap.size + 1) 0, Pt (v.heap.size + 2) 0] 103 (0, 0)) ∧ w'.heap[v.heap.size + 1]? = some (.cells #[I 0, I 0] 149 (0, 0)) ∧ w'.heap[v.heap.size + 2]? = some (.cells #[I 0, I 0] 149 (0, 0)) ∧ Hid (Grows v w')) := by
  have HB : Hid (∀ u, Calls Tryd.prog 43 #[.pointer none, I 0] u (fun e w' => ∃ r, e = .returned r ∧ (r = Pt u.heap.size 0 ∧ w'.heap = u.heap.push (.cells #[I 0, I 0] 149) ∧ w'.os = u.os ∧ w'.output = u.output))) := ⟨fun u => (body10n u 0).calls Tryd.func43 rfl⟩
  go_enter Tryd.func29, Tryd.ntmps29
  go_wp2_with fail
  refine (HB.out _).mono ?_
  rintro e w1 ⟨r, rfl, rfl, h1, o1, u1⟩
  have s1 : (v.alloc (.cells #[.pointer none, .pointer none] 103)).heap.size = v.heap.size + 1 := by simp
  rw [s1]
  have k1 : w1.heap[v.heap.size]? = some (.cells #[.pointer none, .pointer none] 103 (0, 0)) := by
    rw [h1, Array.getElem?_push, if_neg (by simp)]; exact Array.getElem?_push_size
  have c1 : w1.heap[v.heap.size + 1]? = some (.cells #[I 0, I 0] 149 (0, 0)) := by rw [h1, Array.getElem?_push, if_pos (by simp)]
  have z1 : w1.heap.size = v.heap.size + 2 := by rw [h1]; simp
  have g1 : Hid (Grows v w1) := ⟨⟨by omega, fun b hb => by rw [h1, Array.getElem?_push, if_neg (by simp; omega)]; show (v.heap.push _)[b]? = _; rw [Array.getElem?_push, if_neg (by omega)], o1, u1⟩⟩
  have p0 : w1.cell? ⟨v.heap.size, 0, none⟩ = some (.pointer none) := by simp [World.cell?, k1]
  have f0 : w1.frozen? ⟨v.heap.size, 0, none⟩ = false := by simp [World.frozen?, k1]
  have K1 : Hid (w1.heap[v.heap.size]? = some (.cells #[.pointer none, .pointer none] 103 (0, 0)) ∧ w1.heap[v.heap.size + 1]? = some (.cells #[I 0, I 0] 149 (0, 0)) ∧ w1.heap.size = v.heap.size + 2 ∧ Grows v w1) := ⟨⟨k1, c1, z1, g1.out⟩⟩
  clear h1 o1 u1 s1 k1 c1 z1 g1
  generalize hN : v.heap.size = N at p0 f0 K1 ⊢
  have HN : Hid (v.heap.size = N) := ⟨hN⟩
  clear hN
  go_wp2_with fail
  refine (HB.out _).mono ?_
  rintro e w2 ⟨r, rfl, rfl, h2, o2, u2⟩
  obtain ⟨k1, c1, z1, g1⟩ := K1.out
  have h2 : w2.heap = (w1.setCell ⟨N, 0, none⟩ (Pt (N + 1) 0)).heap.push (.cells #[I 0, I 0] 149) := h2
  have hk := heap_setCell_same (o := 0) k1 (Pt (N + 1) 0)
  have ho : ∀ b, b ≠ N → (w1.setCell ⟨N, 0, none⟩ (Pt (N + 1) 0)).heap[b]? = w1.heap[b]? := fun b hb => Below.heap_setCell _ _ _ _ hb
  have sz : (w1.setCell ⟨N, 0, none⟩ (Pt (N + 1) 0)).heap.size = N + 2 := by simpa [World.setCell] using z1
  rw [sz]
  have k2 : w2.heap[N]? = some (.cells #[Pt (N + 1) 0, .pointer none] 103 (0, 0)) := by
    rw [h2, Array.getElem?_push, if_neg (by omega)]; simpa using hk
  have c2 : w2.heap[N + 1]? = some (.cells #[I 0, I 0] 149 (0, 0)) := by rw [h2, Array.getElem?_push, if_neg (by omega), ho _ (by omega)]; exact c1
  have d2 : w2.heap[N + 2]? = some (.cells #[I 0, I 0] 149 (0, 0)) := by rw [h2, Array.getElem?_push, if_pos (by omega)]
  have z2 : w2.heap.size = N + 3 := by rw [h2]; simp; omega
  have p1 : w2.cell? ⟨N, 1, none⟩ = some (.pointer none) := by simp [World.cell?, k2]
  have f1 : w2.frozen? ⟨N, 1, none⟩ = false := by simp [World.frozen?, k2]
  have KK : Hid ((w2.setCell ⟨N, 1, none⟩ (Pt (N + 2) 0)).heap.size = N + 3 ∧ (w2.setCell ⟨N, 1, none⟩ (Pt (N + 2) 0)).heap[N]? = some (.cells #[Pt (N + 1) 0, Pt (N + 2) 0] 103 (0, 0)) ∧ (w2.setCell ⟨N, 1, none⟩ (Pt (N + 2) 0)).heap[N + 1]? = some (.cells #[I 0, I 0] 149 (0, 0)) ∧ (w2.setCell ⟨N, 1, none⟩ (Pt (N + 2) 0)).heap[N + 2]? = some (.cells #[I 0, I 0] 149 (0, 0)) ∧ Grows v (w2.setCell ⟨N, 1, none⟩ (Pt (N + 2) 0))) := ⟨by
    have hk2 := heap_setCell_same (o := 1) k2 (Pt (N + 2) 0)
    have ho2 : ∀ b, b ≠ N → (w2.setCell ⟨N, 1, none⟩ (Pt (N + 2) 0)).heap[b]? = w2.heap[b]? := fun b hb => Below.heap_setCell _ _ _ _ hb
    refine ⟨by simpa [World.setCell] using z2, by simpa using hk2, by rw [ho2 _ (by omega)]; exact c2, by rw [ho2 _ (by omega)]; exact d2, ⟨by have := g1.size; have := HN.out; simp [World.setCell]; omega, fun b hb => ?_, o2.trans g1.os, u2.trans g1.output⟩⟩
    have := HN.out
    rw [ho2 b (by omega), h2, Array.getElem?_push, if_neg (by omega), ho b (by omega)]
    exact g1.old b hb⟩
  clear h2 o2 u2 hk ho sz k2 c2 d2 z2 k1 c1 z1 g1
  go_wp2_with fail
  go_ret
  have e1 := HN.out
  obtain ⟨q1, q2, q3, q4, q5⟩ := KK.out
  rw [e1]
  exact ⟨rfl, q1, q2, q3, q4, ⟨q5⟩⟩
set_option maxHeartbeats 4000000 in
set_option maxRecDepth 100000 in
theorem onceN (v : World) : Calls Tryd.prog 16 #[.pointer none] v (fun e w' => e = .returned (Pt (v.heap.size + 3) 0) ∧ Hid (NwO v w')) := by
  have HC := Hid.mk (keptN v)
  go_enter Tryd.func16, Tryd.ntmps16
  go_wp2_with fail
  refine HC.out.mono ?_
  rintro e w1 ⟨rfl, z1, k1, k2, k3, g⟩
  have HN : Hid (NwO v (w1.alloc (.cells #[Pt v.heap.size 0] 79))) := ⟨by
    have ho : ∀ b, b < w1.heap.size → (w1.alloc (.cells #[Pt v.heap.size 0] 79)).heap[b]? = w1.heap[b]? := fun b hb => by
      show (w1.heap.push _)[b]? = _
      rw [Array.getElem?_push, if_neg (by omega)]
    refine ⟨by rw [ho _ (by omega)]; exact k1, by rw [ho _ (by omega)]; exact k2, by rw [ho _ (by omega)]; exact k3, ?_, gtrans g.out ⟨by simp, ho, rfl, rfl⟩⟩
    show (w1.heap.push _)[v.heap.size + 3]? = _
    rw [← z1]
    exact Array.getElem?_push_size⟩
  have Hz : Hid (w1.heap.size = v.heap.size + 3) := ⟨z1⟩
  clear z1 k1 k2 k3 g HC
  go_wp2_with fail
  go_ret
  exact ⟨by rw [← Hz.out]; rfl, HN⟩
set_option maxHeartbeats 4000000 in
set_option maxRecDepth 100000 in
theorem acts1 (v : World) (b : Int) : Calls Tryd.prog 12 #[I 1, I b] v (fun e w' => e = .returned (.agg #[I 0, I b]) ∧ Hid (Grows v w')) := by
  go_enter Tryd.func12, Tryd.ntmps12
  go_wp2_with fail
  have hrow : (v.alloc (.cells #[I 0, I b] 38)).heap[v.heap.size]? = some (.cells #[I 0, I b] 38 (0, 0)) := Array.getElem?_push_size
  have k0 : (v.alloc (.cells #[I 0, I b] 38)).cell? ⟨v.heap.size, 0, none⟩ = some (I 0) := cell_of hrow rfl
  have k1 : (v.alloc (.cells #[I 0, I b] 38)).cell? ⟨v.heap.size, 1, none⟩ = some (I b) := cell_of hrow rfl
  refine ⟨rfl, .agg #[I 0, I b], ?_, rfl, ⟨⟨by simp, fun b hb => by show (v.heap.push _)[b]? = _; rw [Array.getElem?_push, if_neg (by omega)], rfl, rfl⟩⟩⟩
  show (results Tryd.f12 _).run Tryd.prog (v.alloc (.cells #[I 0, I b] 38)) = _
  generalize v.alloc (.cells #[I 0, I b] 38) = V at k0 k1
  simp [results, go_sem, Tryd.f12, *]
set_option maxHeartbeats 4000000 in
set_option maxRecDepth 100000 in
theorem acts2 (v : World) (b : Int) : Calls Tryd.prog 12 #[I 2, I b] v (fun e w' => e = .returned (.agg #[I 70, I b]) ∧ Hid (Grows v w')) := by
  go_enter Tryd.func12, Tryd.ntmps12
  go_wp2_with fail
  have hrow : (v.alloc (.cells #[I 70, I b] 38)).heap[v.heap.size]? = some (.cells #[I 70, I b] 38 (0, 0)) := Array.getElem?_push_size
  have k0 : (v.alloc (.cells #[I 70, I b] 38)).cell? ⟨v.heap.size, 0, none⟩ = some (I 70) := cell_of hrow rfl
  have k1 : (v.alloc (.cells #[I 70, I b] 38)).cell? ⟨v.heap.size, 1, none⟩ = some (I b) := cell_of hrow rfl
  refine ⟨rfl, .agg #[I 70, I b], ?_, rfl, ⟨⟨by simp, fun b hb => by show (v.heap.push _)[b]? = _; rw [Array.getElem?_push, if_neg (by omega)], rfl, rfl⟩⟩⟩
  show (results Tryd.f12 _).run Tryd.prog (v.alloc (.cells #[I 70, I b] 38)) = _
  generalize v.alloc (.cells #[I 70, I b] 38) = V at k0 k1
  simp [results, go_sem, Tryd.f12, *]
set_option maxHeartbeats 4000000 in
set_option maxRecDepth 100000 in
theorem acts3 (v : World) (b : Int) : Calls Tryd.prog 12 #[I 3, I b] v (fun e w' => e = .returned (.agg #[I 71, I b]) ∧ Hid (Grows v w')) := by
  go_enter Tryd.func12, Tryd.ntmps12
  go_wp2_with fail
  have hrow : (v.alloc (.cells #[I 71, I b] 38)).heap[v.heap.size]? = some (.cells #[I 71, I b] 38 (0, 0)) := Array.getElem?_push_size
  have k0 : (v.alloc (.cells #[I 71, I b] 38)).cell? ⟨v.heap.size, 0, none⟩ = some (I 71) := cell_of hrow rfl
  have k1 : (v.alloc (.cells #[I 71, I b] 38)).cell? ⟨v.heap.size, 1, none⟩ = some (I b) := cell_of hrow rfl
  refine ⟨rfl, .agg #[I 71, I b], ?_, rfl, ⟨⟨by simp, fun b hb => by show (v.heap.push _)[b]? = _; rw [Array.getElem?_push, if_neg (by omega)], rfl, rfl⟩⟩⟩
  show (results Tryd.f12 _).run Tryd.prog (v.alloc (.cells #[I 71, I b] 38)) = _
  generalize v.alloc (.cells #[I 71, I b] 38) = V at k0 k1
  simp [results, go_sem, Tryd.f12, *]
set_option maxHeartbeats 4000000 in
set_option maxRecDepth 100000 in
theorem acts4 (v : World) (b : Int) : Calls Tryd.prog 12 #[I 4, I b] v (fun e w' => e = .returned (.agg #[I 70, I 72]) ∧ Hid (Grows v w')) := by
  go_enter Tryd.func12, Tryd.ntmps12
  go_wp2_with fail
  have hrow : (v.alloc (.cells #[I 70, I 72] 38)).heap[v.heap.size]? = some (.cells #[I 70, I 72] 38 (0, 0)) := Array.getElem?_push_size
  have k0 : (v.alloc (.cells #[I 70, I 72] 38)).cell? ⟨v.heap.size, 0, none⟩ = some (I 70) := cell_of hrow rfl
  have k1 : (v.alloc (.cells #[I 70, I 72] 38)).cell? ⟨v.heap.size, 1, none⟩ = some (I 72) := cell_of hrow rfl
  refine ⟨rfl, .agg #[I 70, I 72], ?_, rfl, ⟨⟨by simp, fun b hb => by show (v.heap.push _)[b]? = _; rw [Array.getElem?_push, if_neg (by omega)], rfl, rfl⟩⟩⟩
  show (results Tryd.f12 _).run Tryd.prog (v.alloc (.cells #[I 70, I 72] 38)) = _
  generalize v.alloc (.cells #[I 70, I 72] 38) = V at k0 k1
  simp [results, go_sem, Tryd.f12, *]
set_option maxHeartbeats 4000000 in
set_option maxRecDepth 100000 in
theorem comes0 (v : World) {kd : Int} (b : Int) (hkd : kd = 0) : Calls Tryd.prog 18 #[.agg #[I kd, I b]] v (fun e w' => e = .returned (.agg #[I 0, I b]) ∧ Hid (Grows v w')) := by
  subst hkd
  have HA : Hid (∀ u, Calls Tryd.prog 12 #[I 1, I b] u (fun e w' => e = .returned (.agg #[I 0, I b]) ∧ Hid (Grows u w'))) := ⟨fun u => acts1 u b⟩
  go_enter Tryd.func18, Tryd.ntmps18
  go_wp2_with fail
  refine (HA.out _).mono ?_
  rintro e w1 ⟨rfl, g1⟩
  have r1 : w1.heap[v.heap.size + 1]? = some (.cells #[I 0, I 0] 38 (0, 0)) := by
    rw [g1.out.old _ (by show _ < ((v.heap.push _).push _).size; simp)]
    show ((v.heap.push _).push _)[v.heap.size + 1]? = _
    rw [Array.getElem?_push, if_pos (by simp)]
  have g0 : Grows v w1 := gtrans (v' := (v.alloc _).alloc _) ⟨by show _ ≤ ((v.heap.push _).push _).size; simp; omega, fun b hb => by
    show ((v.heap.push _).push _)[b]? = _
    simp only [Array.getElem?_push, Array.size_push]
    repeat rw [if_neg (by omega)], rfl, rfl⟩ g1.out
  have p0 : w1.cell? ⟨v.heap.size + 1, 0, none⟩ = some (I 0) := by simp [World.cell?, r1]
  have p1 : w1.cell? ⟨v.heap.size + 1, 1, none⟩ = some (I 0) := by simp [World.cell?, r1]
  have f0 : w1.frozen? ⟨v.heap.size + 1, 0, none⟩ = false := by simp [World.frozen?, r1]
  have f1 : w1.frozen? ⟨v.heap.size + 1, 1, none⟩ = false := by simp [World.frozen?, r1]
  have hrow := ans_row r1 (0) (b)
  have HR : Hid ((ansW w1 (v.heap.size + 1) (0) (b)).heap[v.heap.size + 1]? = some (.cells #[I (0), I (b)] 38 (0, 0)) ∧ Grows v (ansW w1 (v.heap.size + 1) (0) (b))) := ⟨⟨hrow, grows_ans g0 (by omega)⟩⟩
  clear hrow r1 g0 g1 HA
  go_wp2_with fail
  obtain ⟨hrow, hg⟩ := HR.out
  have k0 : (ansW w1 (v.heap.size + 1) (0) (b)).cell? ⟨v.heap.size + 1, 0, none⟩ = some (I (0)) := cell_of hrow rfl
  have k1 : (ansW w1 (v.heap.size + 1) (0) (b)).cell? ⟨v.heap.size + 1, 1, none⟩ = some (I (b)) := cell_of hrow rfl
  refine ⟨rfl, .agg #[I 0, I b], ?_, rfl, ⟨hg⟩⟩
  show (results Tryd.f18 _).run Tryd.prog (ansW w1 (v.heap.size + 1) (0) (b)) = .ok (.agg #[I 0, I b]) (ansW w1 (v.heap.size + 1) (0) (b))
  generalize (ansW w1 (v.heap.size + 1) (0) (b)) = V at k0 k1
  simp [results, go_sem, Tryd.f18, k0, k1]
set_option maxHeartbeats 4000000 in
set_option maxRecDepth 100000 in
theorem comes1 (v : World) {kd : Int} (b : Int) (hkd : kd = 1) : Calls Tryd.prog 18 #[.agg #[I kd, I b]] v (fun e w' => e = .returned (.agg #[I 70, I b]) ∧ Hid (Grows v w')) := by
  subst hkd
  have HA : Hid (∀ u, Calls Tryd.prog 12 #[I 2, I b] u (fun e w' => e = .returned (.agg #[I 70, I b]) ∧ Hid (Grows u w'))) := ⟨fun u => acts2 u b⟩
  go_enter Tryd.func18, Tryd.ntmps18
  go_wp2_with fail
  refine (HA.out _).mono ?_
  rintro e w1 ⟨rfl, g1⟩
  have r1 : w1.heap[v.heap.size + 1]? = some (.cells #[I 0, I 0] 38 (0, 0)) := by
    rw [g1.out.old _ (by show _ < ((v.heap.push _).push _).size; simp)]
    show ((v.heap.push _).push _)[v.heap.size + 1]? = _
    rw [Array.getElem?_push, if_pos (by simp)]
  have g0 : Grows v w1 := gtrans (v' := (v.alloc _).alloc _) ⟨by show _ ≤ ((v.heap.push _).push _).size; simp; omega, fun b hb => by
    show ((v.heap.push _).push _)[b]? = _
    simp only [Array.getElem?_push, Array.size_push]
    repeat rw [if_neg (by omega)], rfl, rfl⟩ g1.out
  have p0 : w1.cell? ⟨v.heap.size + 1, 0, none⟩ = some (I 0) := by simp [World.cell?, r1]
  have p1 : w1.cell? ⟨v.heap.size + 1, 1, none⟩ = some (I 0) := by simp [World.cell?, r1]
  have f0 : w1.frozen? ⟨v.heap.size + 1, 0, none⟩ = false := by simp [World.frozen?, r1]
  have f1 : w1.frozen? ⟨v.heap.size + 1, 1, none⟩ = false := by simp [World.frozen?, r1]
  have hrow := ans_row r1 (70) (b)
  have HR : Hid ((ansW w1 (v.heap.size + 1) (70) (b)).heap[v.heap.size + 1]? = some (.cells #[I (70), I (b)] 38 (0, 0)) ∧ Grows v (ansW w1 (v.heap.size + 1) (70) (b))) := ⟨⟨hrow, grows_ans g0 (by omega)⟩⟩
  clear hrow r1 g0 g1 HA
  go_wp2_with fail
  obtain ⟨hrow, hg⟩ := HR.out
  have k0 : (ansW w1 (v.heap.size + 1) (70) (b)).cell? ⟨v.heap.size + 1, 0, none⟩ = some (I (70)) := cell_of hrow rfl
  have k1 : (ansW w1 (v.heap.size + 1) (70) (b)).cell? ⟨v.heap.size + 1, 1, none⟩ = some (I (b)) := cell_of hrow rfl
  refine ⟨rfl, .agg #[I 70, I b], ?_, rfl, ⟨hg⟩⟩
  show (results Tryd.f18 _).run Tryd.prog (ansW w1 (v.heap.size + 1) (70) (b)) = .ok (.agg #[I 70, I b]) (ansW w1 (v.heap.size + 1) (70) (b))
  generalize (ansW w1 (v.heap.size + 1) (70) (b)) = V at k0 k1
  simp [results, go_sem, Tryd.f18, k0, k1]
set_option maxHeartbeats 4000000 in
set_option maxRecDepth 100000 in
theorem comes2 (v : World) {kd : Int} (b : Int) (hkd : kd = 2) : Calls Tryd.prog 18 #[.agg #[I kd, I b]] v (fun e w' => e = .returned (.agg #[I 71, I b]) ∧ Hid (Grows v w')) := by
  subst hkd
  have HA : Hid (∀ u, Calls Tryd.prog 12 #[I 3, I b] u (fun e w' => e = .returned (.agg #[I 71, I b]) ∧ Hid (Grows u w'))) := ⟨fun u => acts3 u b⟩
  go_enter Tryd.func18, Tryd.ntmps18
  go_wp2_with fail
  refine (HA.out _).mono ?_
  rintro e w1 ⟨rfl, g1⟩
  have r1 : w1.heap[v.heap.size + 1]? = some (.cells #[I 0, I 0] 38 (0, 0)) := by
    rw [g1.out.old _ (by show _ < ((v.heap.push _).push _).size; simp)]
    show ((v.heap.push _).push _)[v.heap.size + 1]? = _
    rw [Array.getElem?_push, if_pos (by simp)]
  have g0 : Grows v w1 := gtrans (v' := (v.alloc _).alloc _) ⟨by show _ ≤ ((v.heap.push _).push _).size; simp; omega, fun b hb => by
    show ((v.heap.push _).push _)[b]? = _
    simp only [Array.getElem?_push, Array.size_push]
    repeat rw [if_neg (by omega)], rfl, rfl⟩ g1.out
  have p0 : w1.cell? ⟨v.heap.size + 1, 0, none⟩ = some (I 0) := by simp [World.cell?, r1]
  have p1 : w1.cell? ⟨v.heap.size + 1, 1, none⟩ = some (I 0) := by simp [World.cell?, r1]
  have f0 : w1.frozen? ⟨v.heap.size + 1, 0, none⟩ = false := by simp [World.frozen?, r1]
  have f1 : w1.frozen? ⟨v.heap.size + 1, 1, none⟩ = false := by simp [World.frozen?, r1]
  have hrow := ans_row r1 (71) (b)
  have HR : Hid ((ansW w1 (v.heap.size + 1) (71) (b)).heap[v.heap.size + 1]? = some (.cells #[I (71), I (b)] 38 (0, 0)) ∧ Grows v (ansW w1 (v.heap.size + 1) (71) (b))) := ⟨⟨hrow, grows_ans g0 (by omega)⟩⟩
  clear hrow r1 g0 g1 HA
  go_wp2_with fail
  obtain ⟨hrow, hg⟩ := HR.out
  have k0 : (ansW w1 (v.heap.size + 1) (71) (b)).cell? ⟨v.heap.size + 1, 0, none⟩ = some (I (71)) := cell_of hrow rfl
  have k1 : (ansW w1 (v.heap.size + 1) (71) (b)).cell? ⟨v.heap.size + 1, 1, none⟩ = some (I (b)) := cell_of hrow rfl
  refine ⟨rfl, .agg #[I 71, I b], ?_, rfl, ⟨hg⟩⟩
  show (results Tryd.f18 _).run Tryd.prog (ansW w1 (v.heap.size + 1) (71) (b)) = .ok (.agg #[I 71, I b]) (ansW w1 (v.heap.size + 1) (71) (b))
  generalize (ansW w1 (v.heap.size + 1) (71) (b)) = V at k0 k1
  simp [results, go_sem, Tryd.f18, k0, k1]
set_option maxHeartbeats 4000000 in
set_option maxRecDepth 100000 in
theorem comes3 (v : World) {kd : Int} (b : Int) (hkd : kd = 3) : Calls Tryd.prog 18 #[.agg #[I kd, I b]] v (fun e w' => e = .returned (.agg #[I 70, I 72]) ∧ Hid (Grows v w')) := by
  subst hkd
  have HA : Hid (∀ u, Calls Tryd.prog 12 #[I 4, I b] u (fun e w' => e = .returned (.agg #[I 70, I 72]) ∧ Hid (Grows u w'))) := ⟨fun u => acts4 u b⟩
  go_enter Tryd.func18, Tryd.ntmps18
  go_wp2_with fail
  refine (HA.out _).mono ?_
  rintro e w1 ⟨rfl, g1⟩
  have r1 : w1.heap[v.heap.size + 1]? = some (.cells #[I 0, I 0] 38 (0, 0)) := by
    rw [g1.out.old _ (by show _ < ((v.heap.push _).push _).size; simp)]
    show ((v.heap.push _).push _)[v.heap.size + 1]? = _
    rw [Array.getElem?_push, if_pos (by simp)]
  have g0 : Grows v w1 := gtrans (v' := (v.alloc _).alloc _) ⟨by show _ ≤ ((v.heap.push _).push _).size; simp; omega, fun b hb => by
    show ((v.heap.push _).push _)[b]? = _
    simp only [Array.getElem?_push, Array.size_push]
    repeat rw [if_neg (by omega)], rfl, rfl⟩ g1.out
  have p0 : w1.cell? ⟨v.heap.size + 1, 0, none⟩ = some (I 0) := by simp [World.cell?, r1]
  have p1 : w1.cell? ⟨v.heap.size + 1, 1, none⟩ = some (I 0) := by simp [World.cell?, r1]
  have f0 : w1.frozen? ⟨v.heap.size + 1, 0, none⟩ = false := by simp [World.frozen?, r1]
  have f1 : w1.frozen? ⟨v.heap.size + 1, 1, none⟩ = false := by simp [World.frozen?, r1]
  have hrow := ans_row r1 (70) (72)
  have HR : Hid ((ansW w1 (v.heap.size + 1) (70) (72)).heap[v.heap.size + 1]? = some (.cells #[I (70), I (72)] 38 (0, 0)) ∧ Grows v (ansW w1 (v.heap.size + 1) (70) (72))) := ⟨⟨hrow, grows_ans g0 (by omega)⟩⟩
  clear hrow r1 g0 g1 HA
  go_wp2_with fail
  obtain ⟨hrow, hg⟩ := HR.out
  have k0 : (ansW w1 (v.heap.size + 1) (70) (72)).cell? ⟨v.heap.size + 1, 0, none⟩ = some (I (70)) := cell_of hrow rfl
  have k1 : (ansW w1 (v.heap.size + 1) (70) (72)).cell? ⟨v.heap.size + 1, 1, none⟩ = some (I (72)) := cell_of hrow rfl
  refine ⟨rfl, .agg #[I 70, I 72], ?_, rfl, ⟨hg⟩⟩
  show (results Tryd.f18 _).run Tryd.prog (ansW w1 (v.heap.size + 1) (70) (72)) = .ok (.agg #[I 70, I 72]) (ansW w1 (v.heap.size + 1) (70) (72))
  generalize (ansW w1 (v.heap.size + 1) (70) (72)) = V at k0 k1
  simp [results, go_sem, Tryd.f18, k0, k1]
set_option maxHeartbeats 4000000 in
set_option maxRecDepth 100000 in
theorem comesA (v : World) {kd : Int} (b : Int) (hkd : kd < 0) : Calls Tryd.prog 18 #[.agg #[I kd, I b]] v (fun e w' => e = .returned (.agg #[I 1, I 0]) ∧ Hid (Grows v w')) := by
  have h1 : decide (kd < 0) = true := decide_eq_true hkd
  go_enter Tryd.func18, Tryd.ntmps18
  have r1 : ((v.alloc (.cells #[I kd, I b] 52)).alloc (.cells #[I 1, I 0] 38)).heap[v.heap.size + 1]? = some (.cells #[I 1, I 0] 38 (0, 0)) := by
    show ((v.heap.push _).push _)[v.heap.size + 1]? = _
    rw [Array.getElem?_push, if_pos (by simp)]
  have g0 : Grows v ((v.alloc (.cells #[I kd, I b] 52)).alloc (.cells #[I 1, I 0] 38)) := ⟨by show _ ≤ ((v.heap.push _).push _).size; simp; omega, fun b hb => by
    show ((v.heap.push _).push _)[b]? = _
    simp only [Array.getElem?_push, Array.size_push]
    repeat rw [if_neg (by omega)], rfl, rfl⟩
  have HR : Hid (((v.alloc (.cells #[I kd, I b] 52)).alloc (.cells #[I 1, I 0] 38)).heap[v.heap.size + 1]? = some (.cells #[I 1, I 0] 38 (0, 0)) ∧ Grows v ((v.alloc (.cells #[I kd, I b] 52)).alloc (.cells #[I 1, I 0] 38))) := ⟨⟨r1, g0⟩⟩
  clear r1 g0
  go_wp2_with fail
  obtain ⟨hrow, hg⟩ := HR.out
  have k0 : ((v.alloc (.cells #[I kd, I b] 52)).alloc (.cells #[I 1, I 0] 38)).cell? ⟨v.heap.size + 1, 0, none⟩ = some (I (1)) := cell_of hrow rfl
  have k1 : ((v.alloc (.cells #[I kd, I b] 52)).alloc (.cells #[I 1, I 0] 38)).cell? ⟨v.heap.size + 1, 1, none⟩ = some (I (0)) := cell_of hrow rfl
  refine ⟨rfl, .agg #[I 1, I 0], ?_, rfl, ⟨hg⟩⟩
  show (results Tryd.f18 _).run Tryd.prog ((v.alloc (.cells #[I kd, I b] 52)).alloc (.cells #[I 1, I 0] 38)) = .ok (.agg #[I 1, I 0]) ((v.alloc (.cells #[I kd, I b] 52)).alloc (.cells #[I 1, I 0] 38))
  generalize ((v.alloc (.cells #[I kd, I b] 52)).alloc (.cells #[I 1, I 0] 38)) = V at k0 k1
  simp [results, go_sem, Tryd.f18, k0, k1]
set_option maxHeartbeats 4000000 in
set_option maxRecDepth 100000 in
theorem comesB (v : World) {kd : Int} (b : Int) (hkd : 3 < kd) : Calls Tryd.prog 18 #[.agg #[I kd, I b]] v (fun e w' => e = .returned (.agg #[I 1, I 0]) ∧ Hid (Grows v w')) := by
  have h1 : decide (kd < 0) = false := decide_eq_false (by omega)
  have h2 : decide (kd > 3) = true := decide_eq_true hkd
  go_enter Tryd.func18, Tryd.ntmps18
  have r1 : ((v.alloc (.cells #[I kd, I b] 52)).alloc (.cells #[I 1, I 0] 38)).heap[v.heap.size + 1]? = some (.cells #[I 1, I 0] 38 (0, 0)) := by
    show ((v.heap.push _).push _)[v.heap.size + 1]? = _
    rw [Array.getElem?_push, if_pos (by simp)]
  have g0 : Grows v ((v.alloc (.cells #[I kd, I b] 52)).alloc (.cells #[I 1, I 0] 38)) := ⟨by show _ ≤ ((v.heap.push _).push _).size; simp; omega, fun b hb => by
    show ((v.heap.push _).push _)[b]? = _
    simp only [Array.getElem?_push, Array.size_push]
    repeat rw [if_neg (by omega)], rfl, rfl⟩
  have HR : Hid (((v.alloc (.cells #[I kd, I b] 52)).alloc (.cells #[I 1, I 0] 38)).heap[v.heap.size + 1]? = some (.cells #[I 1, I 0] 38 (0, 0)) ∧ Grows v ((v.alloc (.cells #[I kd, I b] 52)).alloc (.cells #[I 1, I 0] 38))) := ⟨⟨r1, g0⟩⟩
  clear r1 g0
  go_wp2_with fail
  obtain ⟨hrow, hg⟩ := HR.out
  have k0 : ((v.alloc (.cells #[I kd, I b] 52)).alloc (.cells #[I 1, I 0] 38)).cell? ⟨v.heap.size + 1, 0, none⟩ = some (I (1)) := cell_of hrow rfl
  have k1 : ((v.alloc (.cells #[I kd, I b] 52)).alloc (.cells #[I 1, I 0] 38)).cell? ⟨v.heap.size + 1, 1, none⟩ = some (I (0)) := cell_of hrow rfl
  refine ⟨rfl, .agg #[I 1, I 0], ?_, rfl, ⟨hg⟩⟩
  show (results Tryd.f18 _).run Tryd.prog ((v.alloc (.cells #[I kd, I b] 52)).alloc (.cells #[I 1, I 0] 38)) = .ok (.agg #[I 1, I 0]) ((v.alloc (.cells #[I kd, I b] 52)).alloc (.cells #[I 1, I 0] 38))
  generalize ((v.alloc (.cells #[I kd, I b] 52)).alloc (.cells #[I 1, I 0] 38)) = V at k0 k1
  simp [results, go_sem, Tryd.f18, k0, k1]
theorem comes_any (v : World) (kd b : Int) : Calls Tryd.prog 18 #[.agg #[I kd, I b]] v (fun e w' => e = .returned (.agg #[I (cmF kd b).1, I (cmF kd b).2]) ∧ Hid (Grows v w')) := by
  unfold cmF
  by_cases h0 : kd = 0
  · rw [if_pos h0]; exact comes0 v b h0
  rw [if_neg h0]
  by_cases h1 : kd = 1
  · rw [if_pos h1]; exact comes1 v b h1
  rw [if_neg h1]
  by_cases h2 : kd = 2
  · rw [if_pos h2]; exact comes2 v b h2
  rw [if_neg h2]
  by_cases h3 : kd = 3
  · rw [if_pos h3]; exact comes3 v b h3
  rw [if_neg h3]
  by_cases h4 : kd < 0
  · exact comesA v b h4
  · exact comesB v b (by omega)
end Go.Proofs.YtaofjdoielmobaaDoor.Gen

/- The law OnceAlone (5): its plain pieces. (Made by wip/tools/mko_l5b.py.) -/
set_option linter.unusedSimpArgs false
set_option linter.unusedVariables false
namespace Go.Proofs.YtaofjdoielmobaaDoor.Gen
open Go Go.Lift Go.Conc Go.RowKit

noncomputable def C5 : Code := Tryd.f5.body.getD .skip
noncomputable def q5_0 : Code := (seq1 C5)
noncomputable def q5_1 : Code := (seq1 (seq2 C5))
noncomputable def q5_2 : Code := (seq1 (seq2 (seq2 C5)))
noncomputable def q5_3 : Code := (seq1 (seq1 (seq2 (seq2 (seq2 C5)))))
noncomputable def q5_4 : Code := (seq1 (condA (seq2 (seq1 (seq2 (seq2 (seq2 C5)))))))
noncomputable def q5_5 : Code := (seq1 (seq2 (seq2 (seq2 (seq2 C5)))))
noncomputable def q5_6 : Code := (seq1 (seq2 (seq2 (seq2 (seq2 (seq2 C5))))))
noncomputable def q5_7 : Code := (seq1 (seq1 (seq2 (seq2 (seq2 (seq2 (seq2 (seq2 C5))))))))
noncomputable def q5_8 : Code := (seq1 (seq1 (loopC (blockC (seq2 (seq1 (seq2 (seq2 (seq2 (seq2 (seq2 (seq2 C5))))))))))))
noncomputable def q5_10 : Code := (seq1 (seq1 (blockC (seq1 (seq2 (loopC (blockC (seq2 (seq1 (seq2 (seq2 (seq2 (seq2 (seq2 (seq2 C5)))))))))))))))
noncomputable def q5_11 : Code := (condA (seq2 (seq1 (blockC (seq1 (seq2 (loopC (blockC (seq2 (seq1 (seq2 (seq2 (seq2 (seq2 (seq2 (seq2 C5))))))))))))))))
noncomputable def q5_12 : Code := (seq1 (seq2 (blockC (seq1 (seq2 (loopC (blockC (seq2 (seq1 (seq2 (seq2 (seq2 (seq2 (seq2 (seq2 C5)))))))))))))))
noncomputable def q5_13 : Code := (seq1 (seq2 (seq2 (blockC (seq1 (seq2 (loopC (blockC (seq2 (seq1 (seq2 (seq2 (seq2 (seq2 (seq2 (seq2 C5))))))))))))))))
noncomputable def q5_14 : Code := (seq1 (condA (seq2 (seq2 (seq2 (blockC (seq1 (seq2 (loopC (blockC (seq2 (seq1 (seq2 (seq2 (seq2 (seq2 (seq2 (seq2 C5))))))))))))))))))
noncomputable def q5_9 : Code := (seq2 (seq2 (loopC (blockC (seq2 (seq1 (seq2 (seq2 (seq2 (seq2 (seq2 (seq2 C5))))))))))))
noncomputable def q5_15 : Code := (seq1 (seq2 (seq2 (seq2 (seq2 (seq2 (seq2 (seq2 C5))))))))
noncomputable def K5_1 : Code := (.seq (.seq q5_10 (.cond ( .tmp 26 ) q5_11 .skip)) (.seq q5_12 (.seq q5_13 (.cond ( .tmp 40 ) (.seq q5_14 .ret) .skip))))
noncomputable def K5_0 : Code := (.loop (.seq (.seq q5_8 (.cond ( .tmp 22 ) .skip (.exit 0))) (.seq (.block 1 K5_1) q5_9)))
theorem e5 : C5 = (.seq q5_0 (.seq q5_1 (.seq q5_2 (.seq (.seq q5_3 (.cond ( .tmp 16 ) (.seq q5_4 .ret) .skip)) (.seq q5_5 (.seq q5_6 (.seq (.seq q5_7 (.block 0 K5_0)) (.seq q5_15 .ret)))))))) := by kernel_rfl

theorem fine5_2 : fineCode Tryd.prog true LV q5_2 := fineCode_askS callV extT (by kernel_rfl)
theorem fine5_3 : fineCode Tryd.prog true LV q5_3 := fineCode_askS callV extT (by kernel_rfl)
theorem fine5_5 : fineCode Tryd.prog true LV q5_5 := fineCode_askS callV extT (by kernel_rfl)
theorem fine5_6 : fineCode Tryd.prog true LV q5_6 := fineCode_askS callV extT (by kernel_rfl)
theorem fine5_7 : fineCode Tryd.prog true LV q5_7 := fineCode_askS callV extT (by kernel_rfl)
theorem fine5_8 : fineCode Tryd.prog true LV q5_8 := fineCode_askS callV extT (by kernel_rfl)
theorem fine5_9 : fineCode Tryd.prog true LV q5_9 := fineCode_askS callV extT (by kernel_rfl)
theorem fine5_10 : fineCode Tryd.prog true LV q5_10 := fineCode_askS callV extT (by kernel_rfl)
theorem fine5_11 : fineCode Tryd.prog true LV q5_11 := fineCode_askS callV extT (by kernel_rfl)
theorem fine5_13 : fineCode Tryd.prog true LV q5_13 := fineCode_askS callV extT (by kernel_rfl)
noncomputable def T5 : Code := .seq q5_15 .ret
theorem fine_T5 : fineCode Tryd.prog true LV T5 := ⟨fineCode_askS callV extT (c := q5_15) (by kernel_rfl), trivial⟩
set_option maxHeartbeats 1000000 in
set_option maxRecDepth 100000 in
theorem p5_2 {v : World} {a : Act} {l0 : Value}  (hA : Fl 41 [(0, l0), (3, .bool true)] a) :
    q5_2.wp Tryd.prog (fun e a' w' => e = .normal ∧ (Fl 41 [(0, l0), (3, .bool true), (4, Pt (v.heap.size + 3) 0)] a' ∧ NwO v w')) a v := by
  have HN := Hid.mk (onceN v)
  obtain ⟨hsz, hd, hp⟩ := hA
  obtain ⟨u, rfl, hg⟩ := litN hsz hd
  simp only [List.forall_mem_cons, hg] at hp
  obtain ⟨u0, u3, -⟩ := hp
  clear hg hsz hd
  unfold q5_2 C5 Tryd.f5 seq1 seq2
  simp only [Option.getD_some, lits, Nat.reduceAdd, u0, u3]
  clear u0 u3
  go_wp2_with fail
  refine HN.out.mono ?_
  rintro e w1 ⟨rfl, H1⟩
  clear HN
  go_wp2_with fail
  first
    | exact ⟨⟨rfl, rfl, by
      intro p hp
      simp only [List.mem_cons, List.not_mem_nil, or_false] at hp
      rcases hp with rfl | rfl | rfl <;> first | rfl | exact congrArg I (by omega) | exact congrArg Value.bool (by simp <;> omega) | exact congrArg Value.bool (by simp) | (simp; done)⟩, H1.out⟩
    | exact ⟨rfl, rfl, by
      intro p hp
      simp only [List.mem_cons, List.not_mem_nil, or_false] at hp
      rcases hp with rfl | rfl | rfl <;> first | rfl | exact congrArg I (by omega) | exact congrArg Value.bool (by simp <;> omega) | exact congrArg Value.bool (by simp) | (simp; done)⟩
    | exact ⟨rfl, ⟨rfl, rfl, by
      intro p hp
      simp only [List.mem_cons, List.not_mem_nil, or_false] at hp
      rcases hp with rfl | rfl | rfl <;> first | rfl | exact congrArg I (by omega) | exact congrArg Value.bool (by simp <;> omega) | exact congrArg Value.bool (by simp) | (simp; done)⟩, H1.out⟩

set_option maxHeartbeats 1000000 in
set_option maxRecDepth 100000 in
theorem p5_3 {v : World} {a : Act} {l0 : Value} {ob : Nat}  (hA : Fl 41 [(0, l0), (4, Pt ob 0), (3, .bool true)] a) :
    q5_3.wp Tryd.prog (fun e a' w' => e = .normal ∧ (Fl 41 [(16, .bool false), (0, l0), (4, Pt ob 0)] a' ∧ w' = v)) a v := by
  obtain ⟨hsz, hd, hp⟩ := hA
  obtain ⟨u, rfl, hg⟩ := litN hsz hd
  simp only [List.forall_mem_cons, hg] at hp
  obtain ⟨u0, u4, u3, -⟩ := hp
  clear hg hsz hd
  unfold q5_3 C5 Tryd.f5 seq1 seq2
  simp only [Option.getD_some, lits, Nat.reduceAdd, u0, u4, u3]
  clear u0 u4 u3
  go_wp2_with fail
  first
    | exact ⟨⟨rfl, rfl, by
      intro p hp
      simp only [List.mem_cons, List.not_mem_nil, or_false] at hp
      rcases hp with rfl | rfl | rfl <;> first | rfl | exact congrArg I (by omega) | exact congrArg Value.bool (by simp <;> omega) | exact congrArg Value.bool (by simp) | (simp; done)⟩, rfl⟩
    | exact ⟨rfl, rfl, by
      intro p hp
      simp only [List.mem_cons, List.not_mem_nil, or_false] at hp
      rcases hp with rfl | rfl | rfl <;> first | rfl | exact congrArg I (by omega) | exact congrArg Value.bool (by simp <;> omega) | exact congrArg Value.bool (by simp) | (simp; done)⟩
    | exact ⟨rfl, ⟨rfl, rfl, by
      intro p hp
      simp only [List.mem_cons, List.not_mem_nil, or_false] at hp
      rcases hp with rfl | rfl | rfl <;> first | rfl | exact congrArg I (by omega) | exact congrArg Value.bool (by simp <;> omega) | exact congrArg Value.bool (by simp) | (simp; done)⟩, rfl⟩

set_option maxHeartbeats 1000000 in
set_option maxRecDepth 100000 in
theorem p5_5 {v : World} {a : Act} {l0 : Value} {ob : Nat}  (hA : Fl 41 [(0, l0), (4, Pt ob 0)] a) :
    q5_5.wp Tryd.prog (fun e a' w' => e = .normal ∧ (Fl 41 [(0, l0), (4, Pt ob 0), (5, Pt v.heap.size 0)] a' ∧ w'.heap = v.heap.push (.cells #[.pointer none, I 7, .chan none, I 0, I 0, I 0, I 0] 81) ∧ w'.os = v.os ∧ w'.output = v.output)) a v := by
  have HN := Hid.mk ((body11 v 7).calls Tryd.func17 rfl)
  obtain ⟨hsz, hd, hp⟩ := hA
  obtain ⟨u, rfl, hg⟩ := litN hsz hd
  simp only [List.forall_mem_cons, hg] at hp
  obtain ⟨u0, u4, -⟩ := hp
  clear hg hsz hd
  unfold q5_5 C5 Tryd.f5 seq1 seq2
  simp only [Option.getD_some, lits, Nat.reduceAdd, u0, u4]
  clear u0 u4
  go_wp2_with fail
  refine HN.out.mono ?_
  rintro e w1 ⟨_, rfl, rfl, H1, H2, H3⟩
  have HH : Hid (w1.heap = v.heap.push (.cells #[.pointer none, I 7, .chan none, I 0, I 0, I 0, I 0] 81) ∧ w1.os = v.os ∧ w1.output = v.output) := ⟨⟨H1, H2, H3⟩⟩
  clear HN H1 H2 H3
  go_wp2_with fail
  first
    | exact ⟨⟨rfl, rfl, by
      intro p hp
      simp only [List.mem_cons, List.not_mem_nil, or_false] at hp
      rcases hp with rfl | rfl | rfl <;> first | rfl | exact congrArg I (by omega) | exact congrArg Value.bool (by simp <;> omega) | exact congrArg Value.bool (by simp) | (simp; done)⟩, HH.out⟩
    | exact ⟨rfl, rfl, by
      intro p hp
      simp only [List.mem_cons, List.not_mem_nil, or_false] at hp
      rcases hp with rfl | rfl | rfl <;> first | rfl | exact congrArg I (by omega) | exact congrArg Value.bool (by simp <;> omega) | exact congrArg Value.bool (by simp) | (simp; done)⟩
    | exact ⟨rfl, ⟨rfl, rfl, by
      intro p hp
      simp only [List.mem_cons, List.not_mem_nil, or_false] at hp
      rcases hp with rfl | rfl | rfl <;> first | rfl | exact congrArg I (by omega) | exact congrArg Value.bool (by simp <;> omega) | exact congrArg Value.bool (by simp) | (simp; done)⟩, HH.out⟩

set_option maxHeartbeats 1000000 in
set_option maxRecDepth 100000 in
theorem p5_6 {v : World} {a : Act} {l0 : Value} {ob : Nat} {tb : Nat}  (hA : Fl 41 [(0, l0), (4, Pt ob 0), (5, Pt tb 0)] a) :
    q5_6.wp Tryd.prog (fun e a' w' => e = .normal ∧ (Fl 41 [(0, l0), (4, Pt ob 0), (5, Pt tb 0), (6, Pt v.heap.size 0)] a' ∧ w' = v.alloc (.cells #[I 0, I 0] 38))) a v := by
  obtain ⟨hsz, hd, hp⟩ := hA
  obtain ⟨u, rfl, hg⟩ := litN hsz hd
  simp only [List.forall_mem_cons, hg] at hp
  obtain ⟨u0, u4, u5, -⟩ := hp
  clear hg hsz hd
  unfold q5_6 C5 Tryd.f5 seq1 seq2
  simp only [Option.getD_some, lits, Nat.reduceAdd, u0, u4, u5]
  clear u0 u4 u5
  go_wp2_with fail
  first
    | exact ⟨⟨rfl, rfl, by
      intro p hp
      simp only [List.mem_cons, List.not_mem_nil, or_false] at hp
      rcases hp with rfl | rfl | rfl | rfl <;> first | rfl | exact congrArg I (by omega) | exact congrArg Value.bool (by simp <;> omega) | exact congrArg Value.bool (by simp) | (simp; done)⟩, rfl⟩
    | exact ⟨rfl, rfl, by
      intro p hp
      simp only [List.mem_cons, List.not_mem_nil, or_false] at hp
      rcases hp with rfl | rfl | rfl | rfl <;> first | rfl | exact congrArg I (by omega) | exact congrArg Value.bool (by simp <;> omega) | exact congrArg Value.bool (by simp) | (simp; done)⟩
    | exact ⟨rfl, ⟨rfl, rfl, by
      intro p hp
      simp only [List.mem_cons, List.not_mem_nil, or_false] at hp
      rcases hp with rfl | rfl | rfl | rfl <;> first | rfl | exact congrArg I (by omega) | exact congrArg Value.bool (by simp <;> omega) | exact congrArg Value.bool (by simp) | (simp; done)⟩, rfl⟩

set_option maxHeartbeats 1000000 in
set_option maxRecDepth 100000 in
theorem p5_7 {v : World} {a : Act} {l0 : Value} {ob : Nat} {tb : Nat} {wk : Nat}  (hA : Fl 41 [(0, l0), (4, Pt ob 0), (5, Pt tb 0), (6, Pt wk 0)] a) :
    q5_7.wp Tryd.prog (fun e a' w' => e = .normal ∧ (Fl 41 [(0, l0), (4, Pt ob 0), (5, Pt tb 0), (6, Pt wk 0), (7, I ((0 : Nat) : Int))] a' ∧ w' = v)) a v := by
  obtain ⟨hsz, hd, hp⟩ := hA
  obtain ⟨u, rfl, hg⟩ := litN hsz hd
  simp only [List.forall_mem_cons, hg] at hp
  obtain ⟨u0, u4, u5, u6, -⟩ := hp
  clear hg hsz hd
  unfold q5_7 C5 Tryd.f5 seq1 seq2
  simp only [Option.getD_some, lits, Nat.reduceAdd, u0, u4, u5, u6]
  clear u0 u4 u5 u6
  go_wp2_with fail
  first
    | exact ⟨⟨rfl, rfl, by
      intro p hp
      simp only [List.mem_cons, List.not_mem_nil, or_false] at hp
      rcases hp with rfl | rfl | rfl | rfl | rfl <;> first | rfl | exact congrArg I (by omega) | exact congrArg Value.bool (by simp <;> omega) | exact congrArg Value.bool (by simp) | (simp; done)⟩, rfl⟩
    | exact ⟨rfl, rfl, by
      intro p hp
      simp only [List.mem_cons, List.not_mem_nil, or_false] at hp
      rcases hp with rfl | rfl | rfl | rfl | rfl <;> first | rfl | exact congrArg I (by omega) | exact congrArg Value.bool (by simp <;> omega) | exact congrArg Value.bool (by simp) | (simp; done)⟩
    | exact ⟨rfl, ⟨rfl, rfl, by
      intro p hp
      simp only [List.mem_cons, List.not_mem_nil, or_false] at hp
      rcases hp with rfl | rfl | rfl | rfl | rfl <;> first | rfl | exact congrArg I (by omega) | exact congrArg Value.bool (by simp <;> omega) | exact congrArg Value.bool (by simp) | (simp; done)⟩, rfl⟩

set_option maxHeartbeats 1000000 in
set_option maxRecDepth 100000 in
theorem p5_8 {v : World} {a : Act} {ob tb wk i : Nat} {p : Option Addr} {n cap : Nat}  (hA : Fl 41 [(0, .slice p n cap), (4, Pt ob 0), (5, Pt tb 0), (6, Pt wk 0), (7, I (i : Nat))] a) :
    q5_8.wp Tryd.prog (fun e a' w' => e = .normal ∧ (Fl 41 [(22, .bool (decide (i < n))), (0, .slice p n cap), (4, Pt ob 0), (5, Pt tb 0), (6, Pt wk 0), (7, I (i : Nat))] a' ∧ w' = v)) a v := by
  obtain ⟨hsz, hd, hp⟩ := hA
  obtain ⟨u, rfl, hg⟩ := litN hsz hd
  simp only [List.forall_mem_cons, hg] at hp
  obtain ⟨u0, u4, u5, u6, u7, -⟩ := hp
  clear hg hsz hd
  unfold q5_8 C5 Tryd.f5 seq1 seq2 blockC loopC
  simp only [Option.getD_some, lits, Nat.reduceAdd, u0, u4, u5, u6, u7]
  clear u0 u4 u5 u6 u7
  go_wp2_with fail
  first
    | exact ⟨⟨rfl, rfl, by
      intro p hp
      simp only [List.mem_cons, List.not_mem_nil, or_false] at hp
      rcases hp with rfl | rfl | rfl | rfl | rfl | rfl <;> first | rfl | exact congrArg I (by omega) | exact congrArg Value.bool (by simp <;> omega) | exact congrArg Value.bool (by simp) | (simp; done)⟩, rfl⟩
    | exact ⟨rfl, rfl, by
      intro p hp
      simp only [List.mem_cons, List.not_mem_nil, or_false] at hp
      rcases hp with rfl | rfl | rfl | rfl | rfl | rfl <;> first | rfl | exact congrArg I (by omega) | exact congrArg Value.bool (by simp <;> omega) | exact congrArg Value.bool (by simp) | (simp; done)⟩
    | exact ⟨rfl, ⟨rfl, rfl, by
      intro p hp
      simp only [List.mem_cons, List.not_mem_nil, or_false] at hp
      rcases hp with rfl | rfl | rfl | rfl | rfl | rfl <;> first | rfl | exact congrArg I (by omega) | exact congrArg Value.bool (by simp <;> omega) | exact congrArg Value.bool (by simp) | (simp; done)⟩, rfl⟩

set_option maxHeartbeats 1000000 in
set_option maxRecDepth 100000 in
theorem p5_9 {v : World} {a : Act} {l0 : Value} {ob tb wk i : Nat} (hq : (i : Int) < 9223372036854775807) (hA : Fl 41 [(0, l0), (4, Pt ob 0), (5, Pt tb 0), (6, Pt wk 0), (7, I (i : Nat))] a) :
    q5_9.wp Tryd.prog (fun e a' w' => e = .normal ∧ (Fl 41 [(0, l0), (4, Pt ob 0), (5, Pt tb 0), (6, Pt wk 0), (7, I ((i + 1 : Nat) : Int))] a' ∧ w' = v)) a v := by
  have h9 : wrap64 ((i : Int) + 1) = ((i + 1 : Nat) : Int) := by unfold wrap64; omega
  obtain ⟨hsz, hd, hp⟩ := hA
  obtain ⟨u, rfl, hg⟩ := litN hsz hd
  simp only [List.forall_mem_cons, hg] at hp
  obtain ⟨u0, u4, u5, u6, u7, -⟩ := hp
  clear hg hsz hd
  unfold q5_9 C5 Tryd.f5 seq1 seq2 blockC loopC
  simp only [Option.getD_some, lits, Nat.reduceAdd, u0, u4, u5, u6, u7]
  clear u0 u4 u5 u6 u7
  go_wp2_with fail
  first
    | exact ⟨⟨rfl, rfl, by
      intro p hp
      simp only [List.mem_cons, List.not_mem_nil, or_false] at hp
      rcases hp with rfl | rfl | rfl | rfl | rfl <;> first | rfl | exact congrArg I (by omega) | exact congrArg Value.bool (by simp <;> omega) | exact congrArg Value.bool (by simp) | (simp; done)⟩, rfl⟩
    | exact ⟨rfl, rfl, by
      intro p hp
      simp only [List.mem_cons, List.not_mem_nil, or_false] at hp
      rcases hp with rfl | rfl | rfl | rfl | rfl <;> first | rfl | exact congrArg I (by omega) | exact congrArg Value.bool (by simp <;> omega) | exact congrArg Value.bool (by simp) | (simp; done)⟩
    | exact ⟨rfl, ⟨rfl, rfl, by
      intro p hp
      simp only [List.mem_cons, List.not_mem_nil, or_false] at hp
      rcases hp with rfl | rfl | rfl | rfl | rfl <;> first | rfl | exact congrArg I (by omega) | exact congrArg Value.bool (by simp <;> omega) | exact congrArg Value.bool (by simp) | (simp; done)⟩, rfl⟩

set_option maxHeartbeats 1000000 in
set_option maxRecDepth 100000 in
theorem p5_10 {v : World} {a : Act} {l0 : Value} {ob tb wk i : Nat} {bb : Bool} (hb : ((i : Int) == 0) = bb) (hA : Fl 41 [(0, l0), (4, Pt ob 0), (5, Pt tb 0), (6, Pt wk 0), (7, I (i : Nat))] a) :
    q5_10.wp Tryd.prog (fun e a' w' => e = .normal ∧ (Fl 41 [(26, .bool bb), (0, l0), (4, Pt ob 0), (5, Pt tb 0), (6, Pt wk 0), (7, I (i : Nat))] a' ∧ w' = v)) a v := by
  obtain ⟨hsz, hd, hp⟩ := hA
  obtain ⟨u, rfl, hg⟩ := litN hsz hd
  simp only [List.forall_mem_cons, hg] at hp
  obtain ⟨u0, u4, u5, u6, u7, -⟩ := hp
  clear hg hsz hd
  unfold q5_10 C5 Tryd.f5 seq1 seq2 blockC loopC
  simp only [Option.getD_some, lits, Nat.reduceAdd, u0, u4, u5, u6, u7]
  clear u0 u4 u5 u6 u7
  go_wp2_with fail
  first
    | exact ⟨⟨rfl, rfl, by
      intro p hp
      simp only [List.mem_cons, List.not_mem_nil, or_false] at hp
      rcases hp with rfl | rfl | rfl | rfl | rfl | rfl <;> first | rfl | exact congrArg I (by omega) | exact congrArg Value.bool (by simp <;> omega) | exact congrArg Value.bool (by simp) | (simp; done)⟩, rfl⟩
    | exact ⟨rfl, rfl, by
      intro p hp
      simp only [List.mem_cons, List.not_mem_nil, or_false] at hp
      rcases hp with rfl | rfl | rfl | rfl | rfl | rfl <;> first | rfl | exact congrArg I (by omega) | exact congrArg Value.bool (by simp <;> omega) | exact congrArg Value.bool (by simp) | (simp; done)⟩
    | exact ⟨rfl, ⟨rfl, rfl, by
      intro p hp
      simp only [List.mem_cons, List.not_mem_nil, or_false] at hp
      rcases hp with rfl | rfl | rfl | rfl | rfl | rfl <;> first | rfl | exact congrArg I (by omega) | exact congrArg Value.bool (by simp <;> omega) | exact congrArg Value.bool (by simp) | (simp; done)⟩, rfl⟩

set_option maxHeartbeats 1000000 in
set_option maxRecDepth 100000 in
theorem p5_11 {v : World} {a : Act} {ob tb wk i : Nat} {b o n cap : Nat} {kd y e0 x0 : Int} (hn : 0 < n) (c0 : v.cell? ⟨b, o, none⟩ = some (I kd)) (c1 : v.cell? ⟨b, o + 1, none⟩ = some (I y)) (hw : v.heap[wk]? = some (.cells #[I e0, I x0] 38 (0, 0))) (hA : Fl 41 [(0, .slice (some ⟨b, o, none⟩) n cap), (4, Pt ob 0), (5, Pt tb 0), (6, Pt wk 0), (7, I (i : Nat))] a) :
    q5_11.wp Tryd.prog (fun e a' w' => e = .normal ∧ (Fl 41 [(0, .slice (some ⟨b, o, none⟩) n cap), (4, Pt ob 0), (5, Pt tb 0), (6, Pt wk 0), (7, I (i : Nat))] a' ∧ ∃ u, Grows v u ∧ u.heap[wk]? = some (.cells #[I e0, I x0] 38 (0, 0)) ∧ w' = ansW u wk (cmF kd y).1 (cmF kd y).2)) a v := by
  have HC := Hid.mk (comes_any v kd y)
  have HW := Hid.mk hw
  clear hw
  have hn' : (0 : Int) < (n : Int) := by omega
  obtain ⟨hsz, hd, hp⟩ := hA
  obtain ⟨u, rfl, hg⟩ := litN hsz hd
  simp only [List.forall_mem_cons, hg] at hp
  obtain ⟨u0, u4, u5, u6, u7, -⟩ := hp
  clear hg hsz hd
  unfold q5_11 C5 Tryd.f5 seq1 seq2 condA blockC loopC
  simp only [Option.getD_some, lits, Nat.reduceAdd, u0, u4, u5, u6, u7]
  clear u0 u4 u5 u6 u7
  go_wp2_with fail
  refine HC.out.mono ?_
  rintro e' w1 ⟨rfl, g1⟩
  have r1 : w1.heap[wk]? = some (.cells #[I e0, I x0] 38 (0, 0)) := grows_at g1.out HW.out
  have p0 : w1.cell? ⟨wk, 0, none⟩ = some (I e0) := cell_of r1 rfl
  have p1 : w1.cell? ⟨wk, 1, none⟩ = some (I x0) := cell_of r1 rfl
  have f0 : w1.frozen? ⟨wk, 0, none⟩ = false := by simp [World.frozen?, r1]
  have f1 : w1.frozen? ⟨wk, 1, none⟩ = false := by simp [World.frozen?, r1]
  have HR : Hid (∃ u, Grows v u ∧ u.heap[wk]? = some (.cells #[I e0, I x0] 38 (0, 0)) ∧ ansW w1 wk (cmF kd y).1 (cmF kd y).2 = ansW u wk (cmF kd y).1 (cmF kd y).2) := ⟨⟨w1, g1.out, r1, rfl⟩⟩
  clear r1 HC HW g1
  generalize hE : (cmF kd y).1 = E at HR ⊢
  generalize hZ : (cmF kd y).2 = Z at HR ⊢
  have HE := Hid.mk hE
  have HZ := Hid.mk hZ
  clear hE hZ
  go_wp2_with fail
  have h1 := HE.out
  have h2 := HZ.out
  subst h1 h2
  exact ⟨⟨rfl, rfl, by
      intro p hp
      simp only [List.mem_cons, List.not_mem_nil, or_false] at hp
      rcases hp with rfl | rfl | rfl | rfl | rfl <;> first | rfl | exact congrArg I (by omega) | exact congrArg Value.bool (by simp <;> omega) | exact congrArg Value.bool (by simp) | (simp; done)⟩, HR.out⟩

set_option maxHeartbeats 1000000 in
set_option maxRecDepth 100000 in
theorem p5_13 {v : World} {a : Act} {l0 : Value} {ob tb wk i : Nat} {an : Nat} {e0 x0 : Int} (c0 : v.cell? ⟨an, 0, none⟩ = some (I e0)) (c1 : v.cell? ⟨an, 1, none⟩ = some (I x0)) (d0 : v.cell? ⟨wk, 0, none⟩ = some (I e0)) (d1 : v.cell? ⟨wk, 1, none⟩ = some (I x0)) (hA : Fl 41 [(0, l0), (4, Pt ob 0), (5, Pt tb 0), (6, Pt wk 0), (7, I (i : Nat)), (8, Pt an 0)] a) :
    q5_13.wp Tryd.prog (fun e a' w' => e = .normal ∧ (Fl 41 [(40, .bool false), (0, l0), (4, Pt ob 0), (5, Pt tb 0), (6, Pt wk 0), (7, I (i : Nat))] a' ∧ w' = v)) a v := by
  obtain ⟨hsz, hd, hp⟩ := hA
  obtain ⟨u, rfl, hg⟩ := litN hsz hd
  simp only [List.forall_mem_cons, hg] at hp
  obtain ⟨u0, u4, u5, u6, u7, u8, -⟩ := hp
  clear hg hsz hd
  unfold q5_13 C5 Tryd.f5 seq1 seq2 blockC loopC
  simp only [Option.getD_some, lits, Nat.reduceAdd, u0, u4, u5, u6, u7, u8]
  clear u0 u4 u5 u6 u7 u8
  go_wp2_with fail
  first
    | exact ⟨⟨rfl, rfl, by
      intro p hp
      simp only [List.mem_cons, List.not_mem_nil, or_false] at hp
      rcases hp with rfl | rfl | rfl | rfl | rfl | rfl <;> first | rfl | exact congrArg I (by omega) | exact congrArg Value.bool (by simp <;> omega) | exact congrArg Value.bool (by simp) | (simp; done)⟩, rfl⟩
    | exact ⟨rfl, rfl, by
      intro p hp
      simp only [List.mem_cons, List.not_mem_nil, or_false] at hp
      rcases hp with rfl | rfl | rfl | rfl | rfl | rfl <;> first | rfl | exact congrArg I (by omega) | exact congrArg Value.bool (by simp <;> omega) | exact congrArg Value.bool (by simp) | (simp; done)⟩
    | exact ⟨rfl, ⟨rfl, rfl, by
      intro p hp
      simp only [List.mem_cons, List.not_mem_nil, or_false] at hp
      rcases hp with rfl | rfl | rfl | rfl | rfl | rfl <;> first | rfl | exact congrArg I (by omega) | exact congrArg Value.bool (by simp <;> omega) | exact congrArg Value.bool (by simp) | (simp; done)⟩, rfl⟩

set_option maxHeartbeats 1000000 in
set_option maxRecDepth 100000 in
theorem T5_wp {v : World} {a : Act} (hsz : a.tmps.size = 41) (hd : a.defers = []) : T5.wp Tryd.prog (fun e a' w' => e = .ret ∧ a'.tmps.getD 2 undef = .bool true ∧ w'.heap = v.heap ∧ w'.os = v.os ∧ w'.output = v.output) a v := by
  obtain ⟨u, rfl, hg⟩ := litN hsz hd
  clear hg hsz hd
  unfold T5 q5_15 C5 Tryd.f5 seq1 seq2
  simp only [Option.getD_some, lits, Nat.reduceAdd]
  go_wp2_with fail
  try exact ⟨rfl, rfl, rfl, rfl⟩
end Go.Proofs.YtaofjdoielmobaaDoor.Gen
