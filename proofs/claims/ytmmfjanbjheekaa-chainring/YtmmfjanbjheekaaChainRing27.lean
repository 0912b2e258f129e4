/- ChainRing: of a ring the last who writes down is told, under every schedule. Part 27 of 28. (Joined, by program, of: ChAw3, GFin, La3e.) -/
import Derived.Test.YtmmfjanbjheekaaChainRing21
import Derived.Test.YtmmfjanbjheekaaChainRing22
import Derived.Test.YtmmfjanbjheekaaChainRing26

/- The laws' first play of a chain (awake, 5), whole, by the machine: true. (Made by wip/tools/mkch.py.) -/
set_option linter.unusedSimpArgs false
set_option linter.unusedVariables false
namespace Go.Proofs.Ytmmfjanbjheekaa.Gen
open Go Go.Lift Go.Conc Go.RowKit
open Go.ConcN (upd upd_same upd_ne)

set_option maxHeartbeats 4000000 in
set_option maxRecDepth 100000 in
theorem haw_y8 {Ch : Nat → Prop} {Stop : Goroutine → World → Prop} {main : Bool} {v w : World} {M tb lb sb c0 c1 : Nat} {a : Act} {cs : List Frame} (hvw : Rel zn v w) (hn : NoRow Ch v) (h : C2 tb lb sb c0 c1 0 0 v) (hA : Fl 89 [(0, .bool false), (2, .slice (some ⟨M, 0, none⟩) 1 1), (3, I 0), (5, I 1), (6, Pt tb 0), (7, Pt lb 0)] a)
    (hk : ∀ a' v' w', Rel zn v' w' → NoRow Ch v' → C2 tb lb sb c0 c1 2 0 v' → Kp2 c0 c1 v v' → Fl 89 [(0, .bool false), (2, .slice (some ⟨M, 0, none⟩) 1 1), (3, I 0), (5, I 1), (6, Pt tb 0), (7, Pt lb 0), (8, .bool false)] a' → GoesI Try.prog main (DT (ScZ zn) Ch) Stop (G ((base 5).at a' [.code Y9]) cs) w') :
    GoesI Try.prog main (DT (ScZ zn) Ch) Stop (G ((base 5).at a [.code (.seq y8 Y9)]) cs) w := by
  obtain ⟨hsz, hd, hpp⟩ := hA
  obtain ⟨u, rfl, hg⟩ := litN hsz hd
  have u0 := (hg 0).symm.trans (hpp (0, .bool false) (by simp))
  have u2 := (hg 2).symm.trans (hpp (2, .slice (some ⟨M, 0, none⟩) 1 1) (by simp))
  have u3 := (hg 3).symm.trans (hpp (3, I 0) (by simp))
  have u5 := (hg 5).symm.trans (hpp (5, I 1) (by simp))
  have u6 := (hg 6).symm.trans (hpp (6, Pt tb 0) (by simp))
  have u7 := (hg 7).symm.trans (hpp (7, Pt lb 0) (by simp))
  clear hg hpp hsz hd
  have HA : Hid (Rel zn v w ∧ NoRow Ch v) := ⟨hvw, hn⟩
  clear hvw hn
  refine goesI_seq (dt_idle _ _) ?_
  generalize hT : Y9 = TT at hk ⊢
  unfold y8 hwB Try.f5 seq2 seq1
  simp only [Option.getD_some, lits, Nat.reduceAdd, u0, u2, u3, u5, u6, u7]
  clear u0 u2 u3 u5 u6 u7 hT
  refine goesI_region (dt_idle _ _) ?_
  simp only [List.size_toArray, List.length_cons, List.length_nil, Nat.reduceAdd, Nat.zero_add, List.range, List.range.loop]
  iterate 2
    (refine goesI_oper rfl rfl (by decide) (fun d K hK => ?_)
     go_simp
     refine hK _ _ ⟨dt_reads (fun e he => ?_), GoesI.at ?_ d⟩
     · have hm := mem_listed he
       simp [go_sem, *] at hm
       try exact ⟨_, _, hm⟩
     clear hK K)
  refine goesI_into (f := 13) (fn := Try.f13) (args := #[Pt lb 0, Pt tb 0, I 0, I 1]) (dt_idle _ _) rfl rfl (by decide) rfl (by simp [Act.eval]) Try.func13 (by decide) rfl ?_
  refine fask01 h cs rfl HA.out.1 HA.out.2 (fun v2 w2 r2 n2 h2 k2 => ?_) _ rfl
  have HK : Hid (∀ a', Fl 89 [(0, .bool false), (2, .slice (some ⟨M, 0, none⟩) 1 1), (3, I 0), (5, I 1), (6, Pt tb 0), (7, Pt lb 0), (8, .bool false)] a' → GoesI Try.prog main (DT (ScZ zn) Ch) Stop (G ((base 5).at a' [.code TT]) cs) w2) := ⟨fun a' h => hk a' v2 w2 r2 n2 h2 k2 h⟩
  clear hk h r2 n2 HA
  iterate 1
    (refine goesI_oper rfl rfl (by decide) (fun d K hK => ?_)
     go_simp
     refine hK _ _ ⟨dt_reads (fun e he => ?_), GoesI.at ?_ d⟩
     · have hm := mem_listed he
       simp [go_sem, *] at hm
       try exact ⟨_, _, hm⟩
     clear hK K)
  refine goesI_regionEnd (dt_idle _ _) ?_
  exact HK.out _ ⟨rfl, rfl, by
    intro p hp
    simp only [List.mem_cons, List.not_mem_nil, or_false] at hp
    rcases hp with rfl | rfl | rfl | rfl | rfl | rfl | rfl <;> rfl⟩

set_option maxHeartbeats 4000000 in
set_option maxRecDepth 100000 in
theorem haw_y9 {Ch : Nat → Prop} {Stop : Goroutine → World → Prop} {main : Bool} {v w : World} {M tb lb sb c0 c1 : Nat} {a : Act} {cs : List Frame} (hvw : Rel zn v w) (hn : NoRow Ch v) (h : C2 tb lb sb c0 c1 2 0 v) (hA : Fl 89 [(0, .bool false), (2, .slice (some ⟨M, 0, none⟩) 1 1), (3, I 0), (5, I 1), (6, Pt tb 0), (7, Pt lb 0), (8, .bool false)] a)
    (hk : ∀ a' v' w', Rel zn v' w' → NoRow Ch v' → C2 tb lb sb c0 c1 2 1 v' → Kp2 c0 c1 v v' → Fl 89 [(0, .bool false), (2, .slice (some ⟨M, 0, none⟩) 1 1), (3, I 0), (5, I 1), (6, Pt tb 0), (7, Pt lb 0), (8, .bool false), (9, .bool true)] a' → GoesI Try.prog main (DT (ScZ zn) Ch) Stop (G ((base 5).at a' [.code Y10]) cs) w') :
    GoesI Try.prog main (DT (ScZ zn) Ch) Stop (G ((base 5).at a [.code (.seq y9 Y10)]) cs) w := by
  obtain ⟨hsz, hd, hpp⟩ := hA
  obtain ⟨u, rfl, hg⟩ := litN hsz hd
  have u0 := (hg 0).symm.trans (hpp (0, .bool false) (by simp))
  have u2 := (hg 2).symm.trans (hpp (2, .slice (some ⟨M, 0, none⟩) 1 1) (by simp))
  have u3 := (hg 3).symm.trans (hpp (3, I 0) (by simp))
  have u5 := (hg 5).symm.trans (hpp (5, I 1) (by simp))
  have u6 := (hg 6).symm.trans (hpp (6, Pt tb 0) (by simp))
  have u7 := (hg 7).symm.trans (hpp (7, Pt lb 0) (by simp))
  have u8 := (hg 8).symm.trans (hpp (8, .bool false) (by simp))
  clear hg hpp hsz hd
  have HA : Hid (Rel zn v w ∧ NoRow Ch v) := ⟨hvw, hn⟩
  clear hvw hn
  refine goesI_seq (dt_idle _ _) ?_
  generalize hT : Y10 = TT at hk ⊢
  unfold y9 hwB Try.f5 seq2 seq1
  simp only [Option.getD_some, lits, Nat.reduceAdd, u0, u2, u3, u5, u6, u7, u8]
  clear u0 u2 u3 u5 u6 u7 u8 hT
  refine goesI_region (dt_idle _ _) ?_
  simp only [List.size_toArray, List.length_cons, List.length_nil, Nat.reduceAdd, Nat.zero_add, List.range, List.range.loop]
  iterate 2
    (refine goesI_oper rfl rfl (by decide) (fun d K hK => ?_)
     go_simp
     refine hK _ _ ⟨dt_reads (fun e he => ?_), GoesI.at ?_ d⟩
     · have hm := mem_listed he
       simp [go_sem, *] at hm
       try exact ⟨_, _, hm⟩
     clear hK K)
  refine goesI_into (f := 13) (fn := Try.f13) (args := #[Pt lb 0, Pt tb 0, I 1, I 0]) (dt_idle _ _) rfl rfl (by decide) rfl (by simp [Act.eval]) Try.func13 (by decide) rfl ?_
  refine fask10 h cs rfl HA.out.1 HA.out.2 (fun v2 w2 r2 n2 h2 k2 => ?_) _ rfl
  have HK : Hid (∀ a', Fl 89 [(0, .bool false), (2, .slice (some ⟨M, 0, none⟩) 1 1), (3, I 0), (5, I 1), (6, Pt tb 0), (7, Pt lb 0), (8, .bool false), (9, .bool true)] a' → GoesI Try.prog main (DT (ScZ zn) Ch) Stop (G ((base 5).at a' [.code TT]) cs) w2) := ⟨fun a' h => hk a' v2 w2 r2 n2 h2 k2 h⟩
  clear hk h r2 n2 HA
  iterate 1
    (refine goesI_oper rfl rfl (by decide) (fun d K hK => ?_)
     go_simp
     refine hK _ _ ⟨dt_reads (fun e he => ?_), GoesI.at ?_ d⟩
     · have hm := mem_listed he
       simp [go_sem, *] at hm
       try exact ⟨_, _, hm⟩
     clear hK K)
  refine goesI_regionEnd (dt_idle _ _) ?_
  exact HK.out _ ⟨rfl, rfl, by
    intro p hp
    simp only [List.mem_cons, List.not_mem_nil, or_false] at hp
    rcases hp with rfl | rfl | rfl | rfl | rfl | rfl | rfl | rfl <;> rfl⟩

set_option maxHeartbeats 4000000 in
set_option maxRecDepth 100000 in
theorem haw_y10 {Ch : Nat → Prop} {Stop : Goroutine → World → Prop} {main : Bool} {v w : World} {M tb lb sb c0 c1 : Nat} {a : Act} {cs : List Frame} (hvw : Rel zn v w) (hn : NoRow Ch v) (h : C2 tb lb sb c0 c1 2 1 v) (hA : Fl 89 [(0, .bool false), (2, .slice (some ⟨M, 0, none⟩) 1 1), (3, I 0), (5, I 1), (6, Pt tb 0), (7, Pt lb 0), (8, .bool false), (9, .bool true)] a)
    (hk : ∀ a' v' w', Rel zn v' w' → NoRow Ch v' → C2 tb lb sb c0 c1 2 1 v' → Kp2 c0 c1 v v' → Fl 89 [(0, .bool false), (2, .slice (some ⟨M, 0, none⟩) 1 1), (3, I 0), (5, I 1), (6, Pt tb 0), (7, Pt lb 0), (8, .bool false), (9, .bool true), (10, .bool false)] a' → GoesI Try.prog main (DT (ScZ zn) Ch) Stop (G ((base 5).at a' [.code y11]) cs) w') :
    GoesI Try.prog main (DT (ScZ zn) Ch) Stop (G ((base 5).at a [.code (.seq y10 y11)]) cs) w := by
  obtain ⟨hsz, hd, hpp⟩ := hA
  obtain ⟨u, rfl, hg⟩ := litN hsz hd
  have u0 := (hg 0).symm.trans (hpp (0, .bool false) (by simp))
  have u2 := (hg 2).symm.trans (hpp (2, .slice (some ⟨M, 0, none⟩) 1 1) (by simp))
  have u3 := (hg 3).symm.trans (hpp (3, I 0) (by simp))
  have u5 := (hg 5).symm.trans (hpp (5, I 1) (by simp))
  have u6 := (hg 6).symm.trans (hpp (6, Pt tb 0) (by simp))
  have u7 := (hg 7).symm.trans (hpp (7, Pt lb 0) (by simp))
  have u8 := (hg 8).symm.trans (hpp (8, .bool false) (by simp))
  have u9 := (hg 9).symm.trans (hpp (9, .bool true) (by simp))
  clear hg hpp hsz hd
  have HA : Hid (Rel zn v w ∧ NoRow Ch v) := ⟨hvw, hn⟩
  clear hvw hn
  refine goesI_seq (dt_idle _ _) ?_
  generalize hT : y11 = TT at hk ⊢
  unfold y10 hwB Try.f5 seq2 seq1
  simp only [Option.getD_some, lits, Nat.reduceAdd, u0, u2, u3, u5, u6, u7, u8, u9]
  clear u0 u2 u3 u5 u6 u7 u8 u9 hT
  refine goesI_region (dt_idle _ _) ?_
  simp only [List.size_toArray, List.length_cons, List.length_nil, Nat.reduceAdd, Nat.zero_add, List.range, List.range.loop]
  iterate 2
    (refine goesI_oper rfl rfl (by decide) (fun d K hK => ?_)
     go_simp
     refine hK _ _ ⟨dt_reads (fun e he => ?_), GoesI.at ?_ d⟩
     · have hm := mem_listed he
       simp [go_sem, *] at hm
       try exact ⟨_, _, hm⟩
     clear hK K)
  refine goesI_into (f := 13) (fn := Try.f13) (args := #[Pt lb 0, Pt tb 0, I 0, I 2]) (dt_idle _ _) rfl rfl (by decide) rfl (by simp [Act.eval]) Try.func13 (by decide) rfl ?_
  refine ask_no (n := 2) (fr := 0) (to := 2) (by omega) (by omega) h.row cs rfl HA.out.1 HA.out.2 (fun v2 w2 r2 n2 e2 o2 x2 => ?_) _ rfl
  have h2 : C2 tb lb sb c0 c1 2 1 v2 := ⟨by rw [World.cell?_of_block (w := v) (by rw [e2])]; exact h.row, by rw [World.cell?_of_block (w := v) (by rw [e2])]; exact h.s0, by rw [World.cell?_of_block (w := v) (by rw [e2])]; exact h.s1, h.f0.same e2, h.f1.same e2, h.ne, h.a0⟩
  have k2 : Kp2 c0 c1 v v2 := ⟨fun b _ _ => by rw [e2], by rw [e2], o2, x2⟩
  have HK : Hid (∀ a', Fl 89 [(0, .bool false), (2, .slice (some ⟨M, 0, none⟩) 1 1), (3, I 0), (5, I 1), (6, Pt tb 0), (7, Pt lb 0), (8, .bool false), (9, .bool true), (10, .bool false)] a' → GoesI Try.prog main (DT (ScZ zn) Ch) Stop (G ((base 5).at a' [.code TT]) cs) w2) := ⟨fun a' h => hk a' v2 w2 r2 n2 h2 k2 h⟩
  clear hk h r2 n2 HA h2 k2 e2 o2 x2
  iterate 1
    (refine goesI_oper rfl rfl (by decide) (fun d K hK => ?_)
     go_simp
     refine hK _ _ ⟨dt_reads (fun e he => ?_), GoesI.at ?_ d⟩
     · have hm := mem_listed he
       simp [go_sem, *] at hm
       try exact ⟨_, _, hm⟩
     clear hK K)
  refine goesI_regionEnd (dt_idle _ _) ?_
  exact HK.out _ ⟨rfl, rfl, by
    intro p hp
    simp only [List.mem_cons, List.not_mem_nil, or_false] at hp
    rcases hp with rfl | rfl | rfl | rfl | rfl | rfl | rfl | rfl | rfl <;> rfl⟩

set_option maxHeartbeats 4000000 in
set_option maxRecDepth 100000 in
theorem haw_y3 {Ch : Nat → Prop} {Stop : Goroutine → World → Prop} {main : Bool} {v w : World} {M : Nat} {a : Act} {cs : List Frame} (hvw : Rel zn v w) (hn : NoRow Ch v) (hA : Fl 89 [(0, .bool false), (2, .slice (some ⟨M, 0, none⟩) 1 1), (3, I 0)] a)
    (hk : ∀ a' v' w', Rel zn v' w' → NoRow Ch v' → Grows v v' → Fl 89 [(0, .bool false), (2, .slice (some ⟨M, 0, none⟩) 1 1), (3, I 0), (5, I 1)] a' → GoesI Try.prog main (DT (ScZ zn) Ch) Stop (G ((base 5).at a' [.code Y4]) cs) w') :
    GoesI Try.prog main (DT (ScZ zn) Ch) Stop (G ((base 5).at a [.code Y3]) cs) w := by
  unfold Y3
  obtain ⟨hsz, hd, hpp⟩ := hA
  obtain ⟨u, rfl, hg⟩ := litN hsz hd
  have u0 := (hg 0).symm.trans (hpp (0, .bool false) (by simp))
  have u2 := (hg 2).symm.trans (hpp (2, .slice (some ⟨M, 0, none⟩) 1 1) (by simp))
  have u3 := (hg 3).symm.trans (hpp (3, I 0) (by simp))
  clear hg hpp hsz hd
  refine goesI_seq (dt_idle _ _) ?_
  generalize hT : Y4 = TT at hk ⊢
  unfold y3 hwB Try.f5 seq2 seq1
  simp only [Option.getD_some, lits, Nat.reduceAdd, u0, u2, u3]
  clear u0 u2 u3 hT
  refine goesI_region (dt_idle _ _) ?_
  simp only [List.size_toArray, List.length_cons, List.length_nil, Nat.reduceAdd, Nat.zero_add, List.range, List.range.loop]
  refine goesI_opZ (L := LV) rfl rfl (by decide) (fineOp_ask callV extT (by kernel_rfl)) hvw hn (v' := v) (x := .agg #[I 1, I 0, I 0, I 0]) (by go_simp) rfl (fun w2 hr2 hn2 => ?_)
  refine goesI_opZ (L := LV) rfl rfl (by decide) (fineOp_ask callV extT (by kernel_rfl)) hr2 hn2 (v' := v.alloc (.cells #[I 1, I 0, I 0, I 0] 28)) (x := .slice (some ⟨v.heap.size, 0, none⟩) 1 1) (by go_simp) rfl (fun w3 hr3 hn3 => ?_)
  refine goesI_opZ (L := LV) rfl rfl (by decide) (fineOp_ask callV extT (by kernel_rfl)) hr3 hn3 (v' := (v.alloc (.cells #[I 1, I 0, I 0, I 0] 28)).alloc (.cells #[.slice (some ⟨v.heap.size, 0, none⟩) 1 1] 23)) (x := .slice (some ⟨v.heap.size + 1, 0, none⟩) 1 1) (by go_simp) rfl (fun w4 hr4 hn4 => ?_)
  refine goesI_into (f := 8) (fn := Try.f8) (args := #[.pointer none, I 3, .slice (some ⟨v.heap.size + 1, 0, none⟩) 1 1]) (dt_idle _ _) rfl rfl (by decide) rfl (by simp [Act.eval, Act.put]) Try.func8 (by decide) rfl ?_
  have hb : ((v.alloc (.cells #[I 1, I 0, I 0, I 0] 28)).alloc (.cells #[.slice (some ⟨v.heap.size, 0, none⟩) 1 1] 23)).heap[v.heap.size + 1]? = some (.cells #[.slice (some ⟨v.heap.size, 0, none⟩) 1 1] 23) := by
    show ((v.heap.push _).push _)[v.heap.size + 1]? = _
    rw [Array.getElem?_push, if_pos (by simp)]
  have gg : Grows v ((v.alloc (.cells #[I 1, I 0, I 0, I 0] 28)).alloc (.cells #[.slice (some ⟨v.heap.size, 0, none⟩) 1 1] 23)) := ⟨by show _ ≤ ((v.heap.push _).push _).size; simp; omega, fun b hb => by show ((v.heap.push _).push _)[b]? = _; rw [Array.getElem?_push, if_neg (by simp; omega), Array.getElem?_push, if_neg (by omega)], rfl, rfl⟩
  refine hplay_nil 3 (v.heap.size + 1) (cell_of hb rfl) cs rfl hr4 hn4 (fun v5 w5 r5 n5 e5 o5 u5 => ?_)
  have HK : Hid (∀ a', Fl 89 [(0, .bool false), (2, .slice (some ⟨M, 0, none⟩) 1 1), (3, I 0), (5, I 1)] a' → GoesI Try.prog main (DT (ScZ zn) Ch) Stop (G ((base 5).at a' [.code TT]) cs) w5) := ⟨fun a' h => hk a' v5 w5 r5 n5 (grow_trans gg (grow_same e5 o5 u5)) h⟩
  clear hk hb gg r5 n5 e5 o5 u5 hr2 hr3 hr4 hn2 hn3 hn4 hvw hn
  iterate 5
    (refine goesI_oper rfl rfl (by decide) (fun d K hK => ?_)
     go_simp
     refine hK _ _ ⟨dt_reads (fun e he => ?_), GoesI.at ?_ d⟩
     · have hm := mem_listed he
       simp [go_sem, *] at hm
       try exact ⟨_, _, hm⟩
     clear hK K)
  refine goesI_regionEnd (dt_idle _ _) ?_
  exact HK.out _ ⟨rfl, rfl, by
    intro p hp
    simp only [List.mem_cons, List.not_mem_nil, or_false] at hp
    rcases hp with rfl | rfl | rfl | rfl <;> rfl⟩

/-- What lies there behind Play. -/
structure Done5 (M A0 : Nat) (u : World) : Prop where
  m0 : u.cell? ⟨M, 0, none⟩ = some (.slice (some ⟨A0, 0, none⟩) 3 3)
  x3 : u.cell? ⟨A0, 3, none⟩ = some (I 0)
  x4 : u.cell? ⟨A0, 4, none⟩ = some (I 0)
  x5 : u.cell? ⟨A0, 5, none⟩ = some (I 1)
theorem Done5.go {M A0 : Nat} {u u' : World} (h : Done5 M A0 u) (g : ∀ b, b < u.heap.size → u'.heap[b]? = u.heap[b]?) : Done5 M A0 u' := by
  have hc : ∀ (a : Addr) (x : Value), u.cell? a = some x → u'.cell? a = some x := fun a x ha => by rw [World.cell?_of_block (w := u) (w' := u') (g _ (World.block_lt_of_cell? _ _ ha))]; exact ha
  exact ⟨hc _ _ h.m0, hc _ _ h.x3, hc _ _ h.x4, hc _ _ h.x5⟩
set_option maxHeartbeats 1000000 in
/-- Behind Play: the rest is true. -/
theorem haw_tail {Ch : Nat → Prop} {Stop : Goroutine → World → Prop} {main : Bool} {v w : World} {M A0 : Nat} {a : Act} {cs : List Frame} {bc : Frame} {ac : Act} {ops : Array Oper} {q : Nat} {rest : List Nat} {oc : Oper} {k0 : List Item} (hoc : ops[q]? = some oc) (hvw : Rel zn v w) (hn : NoRow Ch v) (hD : Done5 M A0 v) (hA : Fl 89 [(0, .bool false), (2, .slice (some ⟨M, 0, none⟩) 1 1), (3, I 0)] a)
    (hk : ∀ v' w', Rel zn v' w' → NoRow Ch v' → Grows v v' → GoesI Try.prog main (DT (ScZ zn) Ch) Stop (G (bc.at (ac.put oc.dst (.bool true)) (.inRegion ops rest :: k0)) cs) w') :
    GoesI Try.prog main (DT (ScZ zn) Ch) Stop (G ((base 5).at a [.code Y3]) (bc.at ac (.inRegion ops (q :: rest) :: k0) :: cs)) w := by
  refine haw_y3 hvw hn hA (fun a1 v1 w1 r1 n1 g1 hA1 => ?_)
  unfold Y4
  refine goesI_seq (dt_idle _ _) ?_
  refine goesI_plain (z := zn) (wr := true) (L := LV) (I := NoRow Ch) hE fineV noRow_keeps (fun v v' w w' es hi hr ho he => dt_of_z v v' w w' es hi hr ho he) r1 fine_y4 hA1.2.1 (by simp [base]) n1 (Q := fun a w' => Fl 89 [(0, .bool false), (2, .slice (some ⟨M, 0, none⟩) 1 1), (3, I 0), (5, I 1), (6, Pt v1.heap.size 0)] a ∧ w'.heap = v1.heap.push (.cells #[.pointer none, I 0, .chan none, I 0, I 0, I 0, I 0] 59) ∧ w'.os = v1.os ∧ w'.output = v1.output) (fun τ => y4_wp (v := onTape v1 τ 0) hA1) ?_
  rintro a2 v2 w2 ⟨hA2, e2, o2, u2⟩ r2 n2 -
  refine goesI_seq (dt_idle _ _) ?_
  refine goesI_plain (z := zn) (wr := true) (L := LV) (I := NoRow Ch) hE fineV noRow_keeps (fun v v' w w' es hi hr ho he => dt_of_z v v' w w' es hi hr ho he) r2 fine_y5 hA2.2.1 (by simp [base]) n2 (Q := fun a w' => Fl 89 [(0, .bool false), (2, .slice (some ⟨M, 0, none⟩) 1 1), (3, I 0), (5, I 1), (6, Pt v1.heap.size 0), (7, Pt (v2.heap.size + 1) 0)] a ∧ NwC v2 2 v2.heap.size 2 w') (fun τ => wp_mono (y5_wp (v := onTape v2 τ 0) hA2) (fun e a w' hq => ⟨hq.1, hq.2.1, ⟨hq.2.2.row, hq.2.2.ctr, hq.2.2.cel, hq.2.2.size, hq.2.2.old, hq.2.2.os, hq.2.2.out⟩⟩)) ?_
  rintro a3 v3 w3 ⟨hA3, hN⟩ r3 n3 -
  have s2 : v2.heap.size = v1.heap.size + 1 := by rw [e2]; simp
  have ht2 : v2.heap[v1.heap.size]? = some (.cells #[.pointer none, I 0, .chan none, I 0, I 0, I 0, I 0] 59) := by rw [e2]; exact Array.getElem?_push_size
  have ht3 : v3.heap[v1.heap.size]? = some (.cells #[.pointer none, I 0, .chan none, I 0, I 0, I 0, I 0] 59) := by rw [hN.old _ (by omega)]; exact ht2
  have g23 : Grows v2 v3 := ⟨by have := hN.size; omega, hN.old, hN.os, hN.out⟩
  have g13 : Grows v1 v3 := grow_trans (grow_push e2 o2 u2) g23
  have gv3 : Grows v v3 := grow_trans g1 g13
  have hD3 := hD.go gv3.old
  refine goesI_seq (dt_idle _ _) ?_
  refine goesI_seq (dt_idle _ _) ?_
  refine goesI_plain (z := zn) (wr := true) (L := LV) (I := NoRow Ch) hE fineV noRow_keeps (fun v v' w w' es hi hr ho he => dt_of_z v v' w w' es hi hr ho he) r3 fine_y6 hA3.2.1 (by simp [base]) n3 (Q := fun a w' => Fl 89 [(0, .bool false), (2, .slice (some ⟨M, 0, none⟩) 1 1), (3, I 0), (5, I 1), (6, Pt v1.heap.size 0), (7, Pt (v2.heap.size + 1) 0), (44, .bool false)] a ∧ w'.heap = v3.heap ∧ w'.os = v3.os ∧ w'.output = v3.output) (fun τ => y6_wp (v := onTape v3 τ 0) hD3.m0 hA3) ?_
  rintro a4 v4 w4 ⟨hA4, e4, o4, u4⟩ r4 n4 -
  refine goesI_cond (dt_idle _ _) (t := false) (hA4.at 44 (.bool false) (by simp)) ?_
  simp only [if_false, Bool.false_eq_true]
  refine goesI_skip (dt_idle _ _) ?_
  have hA4' : Fl 89 [(0, .bool false), (2, .slice (some ⟨M, 0, none⟩) 1 1), (3, I 0), (5, I 1), (6, Pt v1.heap.size 0), (7, Pt (v2.heap.size + 1) 0)] a4 := hA4.sub (by simp)
  have ht4 : v4.cell? ⟨v1.heap.size, 0, none⟩ = some (.pointer none) := cell_of (by rw [e4]; exact ht3) rfl
  have hC : C2 v1.heap.size (v2.heap.size + 1) v2.heap.size (v2.heap.size + 2 + 0) (v2.heap.size + 2 + 1) 0 0 v4 := by
    refine ⟨cell_of (by rw [e4]; exact hN.ctr) rfl, cell_of (by rw [e4]; exact hN.row) ?_, cell_of (by rw [e4]; exact hN.row) ?_, ⟨ht4, by omega, by rw [e4]; exact hN.cel 0 (by omega)⟩, ⟨ht4, by omega, by rw [e4]; exact hN.cel 1 (by omega)⟩, by omega, ⟨by omega, by omega, by omega, by omega⟩⟩
    · simp [rowP, kbN, List.range, List.range.loop]
    · simp [rowP, kbN, List.range, List.range.loop]
  unfold Y8
  refine haw_y8 r4 n4 hC hA4' (fun a5 v5 w5 r5 n5 h5 k5 hA5 => ?_)
  unfold Y9
  refine haw_y9 r5 n5 h5 hA5 (fun a6 v6 w6 r6 n6 h6 k6 hA6 => ?_)
  unfold Y10
  refine haw_y10 r6 n6 h6 hA6 (fun a7 v7 w7 r7 n7 h7 k7 hA7 => ?_)
  have k9 := (k5.trans k6).trans k7
  have g9 : Grows v v7 := by
    refine ⟨by rw [k9.size, e4]; exact gv3.size, fun b hb => ?_, ?_, ?_⟩
    · have hb2 : b < v2.heap.size := by have := g1.size; omega
      rw [k9.old b (by omega) (by omega), e4]; exact gv3.old b hb
    · rw [k9.os, o4]; exact gv3.os
    · rw [k9.out, u4]; exact gv3.output
  have hD9 := hD.go g9.old
  refine goesI_outZ (c := y11) (f := 5) (fn := Try.f5) (L := LV) hE fineV r7 n7 Try.func5 fine_y11 hA7.2.1 hoc (R := fun r w' => r = .bool true ∧ w'.heap = v7.heap ∧ w'.os = v7.os ∧ w'.output = v7.output) (fun τ => wp_mono (y11_wp (v := onTape v7 τ 0) hD9.m0 hD9.x3 hD9.x4 hD9.x5 hA7) (fun e a' w' hq => ⟨hq.1, .bool true, by
    rw [results_tmp (t := 0) rfl]
    have := hq.2.1.at 0 (.bool true) (by simp)
    rw [show a'.tmps.getD 0 undef = .bool true from this], rfl, hq.2.2⟩)) (fun r v' w' hR hr' hn' => ?_)
  obtain ⟨rfl, h1, h2, h3⟩ := hR
  exact hk v' w' hr' hn' (grow_trans g9 (grow_same h1 h2 h3))

/-- What lies there at chain.Play's entry. -/
structure Set5 (v : World) (wb bk : Nat) (sc : Value) (c : Nat) (u : World) : Prop where
  mem : Mem zn (newS wb bk v.heap.size sc []) [] u
  opn : Open u bk
  calls : u.heap[c]? = some (.cells #[I 1, I 0, I 1, I 0, I 1, I 1, I 2, I 0, I 1, I 2, I 0, I 0] 28)
  scr : u.heap[c + 1]? = some (.cells #[.slice (some ⟨c, 0, none⟩) 3 3] 23)
  own : ∀ b, Own (newS wb bk v.heap.size sc []) [] b ∨ b = bk → v.heap.size ≤ b ∧ b < c
  old : Grows v u
theorem Set5.same {v : World} {wb bk : Nat} {sc : Value} {c : Nat} {u u' : World} (h : Set5 v wb bk sc c u) (e : u'.heap = u.heap) (e1 : u'.os = u.os) (e2 : u'.output = u.output) : Set5 v wb bk sc c u' := by
  have g : Grows u u' := ⟨by rw [e]; exact Nat.le_refl _, fun b _ => by rw [e], e1, e2⟩
  refine ⟨(h.mem.grows g).mem, ?_, by rw [e]; exact h.calls, by rw [e]; exact h.scr, h.own, ⟨by rw [e]; exact h.old.size, fun b hb => by rw [e]; exact h.old.old b hb, e1.trans h.old.os, e2.trans h.old.output⟩⟩
  obtain ⟨c, m, hh⟩ := h.opn
  exact ⟨c, m, by rw [e]; exact hh⟩
set_option maxHeartbeats 4000000 in
set_option maxRecDepth 100000 in
theorem hawake_in {Ch : Nat → Prop} {Stop : Goroutine → World → Prop} {main : Bool} {v w : World} (cs : List Frame)
    (hk : ∀ v' w' (wb bk : Nat) (sc : Value) (c : Nat) (bd : Frame) (ad : Act) (od : Array Oper) (qd : Nat) (rd : List Nat) (oe : Oper) (kd : List Item), Rel zn v' w' → NoRow Ch v' → Set5 v wb bk sc c v' → od[qd]? = some oe →
      (∀ (Ch : Nat → Prop) (Stop : Goroutine → World → Prop) (M : Nat) (w : World), (∀ a, Fl 89 [(0, .bool false), (2, .slice (some ⟨M, 0, none⟩) 1 1), (3, I 0)] a → GoesI Try.prog main (DT (ScZ zn) Ch) Stop (G ((base 5).at a [.code Y3]) cs) w) → GoesI Try.prog main (DT (ScZ zn) Ch) Stop (G (bd.at (ad.put oe.dst (.tuple #[.slice (some ⟨M, 0, none⟩) 1 1, I 0])) (.inRegion od rd :: kd)) cs) w) →
      GoesI Try.prog main (DT (ScZ zn) Ch) Stop (G ((base 8).at { tmps := #[Pt wb 0, I 3, .slice (some ⟨c + 1, 0, none⟩) 1 1] ++ Array.replicate 25 undef, defers := [] } [.code B8c]) (bd.at ad (.inRegion od (qd :: rd) :: kd) :: cs)) w') (hvw : Rel zn v w) (hn : NoRow Ch v) :
    GoesI Try.prog main (DT (ScZ zn) Ch) Stop (G ((base 5).at { tmps := Array.replicate 89 undef, defers := [] } [.code hwB]) cs) w := by
  rw [eHwB]
  have hA : Fl 89 [] { tmps := Array.replicate 89 undef, defers := [] } := ⟨by simp, rfl, fun p hp => by cases hp⟩
  refine goesI_seq (dt_idle _ _) ?_
  refine goesI_plain (z := zn) (wr := true) (L := LV) (I := NoRow Ch) hE fineV noRow_keeps (fun v v' w w' es hi hr ho he => dt_of_z v v' w w' es hi hr ho he) hvw fine_y0 hA.2.1 (by simp [base]) hn (Q := fun a w' => Fl 89 [(0, .bool false)] a ∧ w'.heap = v.heap ∧ w'.os = v.os ∧ w'.output = v.output) (fun τ => y0_wp (v := onTape v τ 0) hA) ?_
  rintro a0 v0 w0 ⟨hA0, e0, o0, u0⟩ hr0 hn0 -
  refine goesI_seq (dt_idle _ _) ?_
  refine goesI_plain (z := zn) (wr := true) (L := LV) (I := NoRow Ch) hE fineV noRow_keeps (fun v v' w w' es hi hr ho he => dt_of_z v v' w w' es hi hr ho he) hr0 fine_y1 hA0.2.1 (by simp [base]) hn0
    (Q := fun a w' => ∃ wb bk sc, Fl 89 [(0, .bool false), (1, Pt wb 0)] a ∧ IsNew v0 [] wb bk sc w') (fun τ => ?_) ?_
  · refine wp_mono (y1_wp (v := onTape v0 τ 0) hA0) (fun e a w' hq => ⟨hq.1, ?_⟩)
    obtain ⟨_, wb, bk, sc, h1, h2⟩ := hq
    exact ⟨wb, bk, sc, h1, ⟨h2.mem, h2.opn, h2.new, ⟨h2.old.size, h2.old.old, h2.old.os, h2.old.output⟩⟩⟩
  rintro a1 v1 w1 ⟨wb, bk, sc, hA, hnew⟩ hr1 hn1 -
  have hset : Set5 v wb bk sc v1.heap.size ((v1.alloc (.cells #[I 1, I 0, I 1, I 0, I 1, I 1, I 2, I 0, I 1, I 2, I 0, I 0] 28)).alloc (.cells #[.slice (some ⟨v1.heap.size, 0, none⟩) 3 3] 23)) := by
    have g1 : Grows v1 ((v1.alloc (.cells #[I 1, I 0, I 1, I 0, I 1, I 1, I 2, I 0, I 1, I 2, I 0, I 0] 28)).alloc (.cells #[.slice (some ⟨v1.heap.size, 0, none⟩) 3 3] 23)) := ⟨by show _ ≤ ((v1.heap.push _).push _).size; simp; omega, fun b hb => by show ((v1.heap.push _).push _)[b]? = _; rw [Array.getElem?_push, if_neg (by simp; omega), Array.getElem?_push, if_neg (by omega)], rfl, rfl⟩
    have hm1 := hnew.mem
    have hnn := hnew.new
    rw [e0] at hm1 hnn
    refine ⟨(hm1.grows g1).mem, ?_, ?_, ?_, fun b hb => ⟨hnn b hb, ?_⟩, ⟨?_, fun b hb => ?_, ?_, ?_⟩⟩
    · obtain ⟨c, m, h⟩ := hnew.opn
      exact ⟨c, m, by rw [g1.old _ (Array.getElem?_eq_some_iff.1 h).1]; exact h⟩
    · show ((v1.heap.push _).push _)[v1.heap.size]? = _
      rw [Array.getElem?_push, if_neg (by simp)]
      exact Array.getElem?_push_size
    · show ((v1.heap.push _).push _)[v1.heap.size + 1]? = _
      rw [Array.getElem?_push, if_pos (by simp)]
    · rcases hb with hb | rfl
      · exact hm1.lt hb
      · obtain ⟨c, m, h⟩ := hnew.opn
        exact (Array.getElem?_eq_some_iff.1 h).1
    · have := hnew.old.size; have := g1.size; rw [e0] at *; omega
    · rw [g1.old b (by have := hnew.old.size; rw [e0] at this; omega), hnew.old.old b (by rw [e0]; exact hb), e0]
    · exact hnew.old.os.trans o0
    · exact hnew.old.output.trans u0
  clear hnew hr0 hn0 e0 o0 u0 hvw hn
  obtain ⟨hsz, hd, hpp⟩ := hA
  obtain ⟨u, rfl, hg⟩ := litN hsz hd
  have u0 := (hg 0).symm.trans (hpp (0, .bool false) (by simp))
  have u1 := (hg 1).symm.trans (hpp (1, Pt wb 0) (by simp))
  clear hg hpp hsz hd
  refine goesI_seq (dt_idle _ _) ?_
  generalize hT : Y3 = TT at hk ⊢
  unfold y2 hwB Try.f5 seq2 seq1
  simp only [Option.getD_some, lits, Nat.reduceAdd, u0, u1]
  clear u0 u1 hT
  refine goesI_region (dt_idle _ _) ?_
  simp only [List.size_toArray, List.length_cons, List.length_nil, Nat.reduceAdd, Nat.zero_add, List.range, List.range.loop]
  iterate 1
    (refine goesI_oper rfl rfl (by decide) (fun d K hK => ?_)
     go_simp
     refine hK _ _ ⟨dt_reads (fun e he => ?_), GoesI.at ?_ d⟩
     · have hm := mem_listed he
       simp [go_sem, *] at hm
       try exact ⟨_, _, hm⟩
     clear hK K)
  refine goesI_opZ (L := LV) rfl rfl (by decide) (fineOp_ask callV extT (by kernel_rfl)) hr1 hn1 (v' := v1) (x := .agg #[I 1, I 0, I 1, I 0]) (by go_simp) rfl (fun w2 hr2 hn2 => ?_)
  refine goesI_opZ (L := LV) rfl rfl (by decide) (fineOp_ask callV extT (by kernel_rfl)) hr2 hn2 (v' := v1) (x := .agg #[I 1, I 1, I 2, I 0]) (by go_simp) rfl (fun w3 hr3 hn3 => ?_)
  refine goesI_opZ (L := LV) rfl rfl (by decide) (fineOp_ask callV extT (by kernel_rfl)) hr3 hn3 (v' := v1) (x := .agg #[I 1, I 2, I 0, I 0]) (by go_simp) rfl (fun w4 hr4 hn4 => ?_)
  refine goesI_opZ (L := LV) rfl rfl (by decide) (fineOp_ask callV extT (by kernel_rfl)) hr4 hn4 (v' := v1.alloc (.cells #[I 1, I 0, I 1, I 0, I 1, I 1, I 2, I 0, I 1, I 2, I 0, I 0] 28)) (x := .slice (some ⟨v1.heap.size, 0, none⟩) 3 3) (by go_simp) rfl (fun w5 hr5 hn5 => ?_)
  refine goesI_opZ (L := LV) rfl rfl (by decide) (fineOp_ask callV extT (by kernel_rfl)) hr5 hn5 (v' := ((v1.alloc (.cells #[I 1, I 0, I 1, I 0, I 1, I 1, I 2, I 0, I 1, I 2, I 0, I 0] 28)).alloc (.cells #[.slice (some ⟨v1.heap.size, 0, none⟩) 3 3] 23))) (x := .slice (some ⟨v1.heap.size + 1, 0, none⟩) 1 1) (by go_simp) rfl (fun w6 hr6 hn6 => ?_)
  refine goesI_into (f := 8) (fn := Try.f8) (args := #[Pt wb 0, I 3, .slice (some ⟨v1.heap.size + 1, 0, none⟩) 1 1]) (dt_idle _ _) rfl rfl (by decide) rfl (by simp [Act.eval, Act.put]) Try.func8 (by decide) rfl ?_
  refine hk _ w6 wb bk sc v1.heap.size _ _ _ _ _ _ _ hr6 hn6 hset rfl (fun Ch Stop M ww hg => ?_)
  clear hk hset hr1 hr2 hr3 hr4 hr5 hr6 hn1 hn2 hn3 hn4 hn5 hn6
  iterate 5
    (refine goesI_oper rfl rfl (by decide) (fun d K hK => ?_)
     go_simp
     refine hK _ _ ⟨dt_reads (fun e he => ?_), GoesI.at ?_ d⟩
     · have hm := mem_listed he
       simp [go_sem, *] at hm
       try exact ⟨_, _, hm⟩
     clear hK K)
  refine goesI_regionEnd (dt_idle _ _) ?_
  exact hg _ ⟨rfl, rfl, by
    intro p hp
    simp only [List.mem_cons, List.not_mem_nil, or_false] at hp
    rcases hp with rfl | rfl | rfl <;> rfl⟩

section
variable {wb bk base : Nat} {sc cv : Value} {c0 c1 c2 : Nat} {l0 : Nat → Ph}
theorem hires_aw {caps : Array Value} {pk : Nat → Option Obj} {N c : Nat} {S1 : TS} {l1 : Nat → Ph} (h : Hires (mcH 3) 0 (scrs (mcH 3) 16 caps pk N 1 [(c0, 0), (c1, 0), (c2, 0)] (fun _ => some ⟨c, 0, none⟩) (fun _ => 3) (fun _ => 3) (fun _ => c) (fun _ => clsH)) (awSH wb bk base sc cv 3) l0 S1 l1) :
    ∃ tv0 tb0 gc0, (⟨S1, [(c0, 0), (c1, 0), (c2, 0)], l1⟩ : PSt) = awPH wb bk base sc cv tv0 tb0 gc0 c0 c1 c2 l0 := by
  have e : (scrs (mcH 3) 16 caps pk N 1 [(c0, 0), (c1, 0), (c2, 0)] (fun _ => some ⟨c, 0, none⟩) (fun _ => 3) (fun _ => 3) (fun _ => c) (fun _ => clsH)) = [scrOf (mcH 3) 16 caps pk N 1 [c0, c1, c2] (fun _ => some ⟨c, 0, none⟩) (fun _ => 3) (fun _ => 3) (fun _ => c) (fun _ => clsH) 0] := rfl
  rw [e] at h
  cases h with
  | cons tv0 tb0 gc0 h =>
    cases h
    exact ⟨tv0, tb0, gc0, rfl⟩
end
theorem asked5 {v u : World} {wb bk : Nat} {sc : Value} {c : Nat} (s : Set5 v wb bk sc c u) : Asked u (newS wb bk v.heap.size sc []) 1 (c + 1) 0 (fun _ => some ⟨c, 0, none⟩) (fun _ => 3) (fun _ => 3) (fun _ => c) (fun _ => clsH) := by
  refine ⟨fun j hj => ⟨rfl, by decide⟩, fun k hk => ?_, fun h => by have := (s.own _ (.inl h)).2; omega, fun j hj _ => ⟨rfl, fun h => by have := (s.own _ (.inl h)).2; omega⟩, fun j hj k x hx => ?_, fun j hj x hx => ?_⟩
  · obtain rfl : k = 0 := by omega
    exact cell_of s.scr rfl
  · match k, hx with
    | 0, hx =>
      cases hx
      exact ⟨cell_of s.calls rfl, cell_of s.calls rfl, cell_of s.calls rfl, cell_of s.calls rfl⟩
    | 1, hx =>
      cases hx
      exact ⟨cell_of s.calls rfl, cell_of s.calls rfl, cell_of s.calls rfl, cell_of s.calls rfl⟩
    | 2, hx =>
      cases hx
      exact ⟨cell_of s.calls rfl, cell_of s.calls rfl, cell_of s.calls rfl, cell_of s.calls rfl⟩
    | k + 3, hx => simp [clsH] at hx
  · unfold clsH at hx
    simp only [List.mem_cons, List.not_mem_nil, or_false] at hx
    rcases hx with rfl | rfl | rfl <;> decide
theorem K_three {K : List (Nat × Int)} (hK : K.map (·.2) = [0, 0, 0]) : ∃ a b c, K = [(a, 0), (b, 0), (c, 0)] := by
  match K, hK with
  | [], hK => simp at hK
  | [_], hK => simp at hK
  | [_, _], hK => simp at hK
  | [x, y, z], hK =>
    obtain ⟨a, a'⟩ := x
    obtain ⟨b, b'⟩ := y
    obtain ⟨c, c'⟩ := z
    simp only [List.map_cons, List.map_nil, List.cons.injEq, and_true] at hK
    obtain ⟨rfl, rfl, rfl⟩ := hK
    exact ⟨a, b, c, rfl⟩
  | _ :: _ :: _ :: _ :: _, hK => simp at hK

set_option maxHeartbeats 1000000 in
theorem hawake_all {cs : List Frame} {bc : Frame} {ac : Act} {ops : Array Oper} {q0 : Nat} {rest : List Nat} {oc : Oper} {k0 : List Item} (hoc : ops[q0]? = some oc) {w : World} {T : Trace} {gs : Array Goroutine} {q : Nat → Nat} (sl : Option (Nat × Nat)) (A : Alone gs w T q)
    (hg : gs[0]? = some (G ((base 5).at { tmps := Array.replicate 89 undef, defers := [] } [.code hwB]) (bc.at ac (.inRegion ops (q0 :: rest) :: k0) :: cs))) :
    ∃ (N' : Nat) (gs' : Array Goroutine) (w' : World) (sl' : Option (Nat × Nat)) (T' : Trace) (q' : Nat → Nat),
      runNT Try.prog N' (crowd gs w sl) T = (.next (crowd gs' w' sl'), T') ∧ gs'[0]? = some (G (bc.at (ac.put oc.dst (.bool true)) (.inRegion ops rest :: k0)) cs) ∧ Alone gs' w' T' q' ∧ Grows w w' := by
  obtain ⟨N1, gs1, a1, w1, sl1, T1, q1, r1, z1, h1, ⟨wb, bk, sc, c, bd, ad, od, qd, rd, oe, kd, s, hoe, hback, rfl⟩, A1⟩ := alone_goes A hg sl (Stop := fun g w' => ∃ (wb bk : Nat) (sc : Value) (c : Nat) (bd : Frame) (ad : Act) (od : Array Oper) (qd : Nat) (rd : List Nat) (oe : Oper) (kd : List Item), Set5 w wb bk sc c w' ∧ od[qd]? = some oe ∧
      (∀ (Ch : Nat → Prop) (Stop : Goroutine → World → Prop) (M : Nat) (w : World), (∀ a, Fl 89 [(0, .bool false), (2, .slice (some ⟨M, 0, none⟩) 1 1), (3, I 0)] a → GoesI Try.prog true (DT (ScZ zn) Ch) Stop (G ((base 5).at a [.code Y3]) (bc.at ac (.inRegion ops (q0 :: rest) :: k0) :: cs)) w) → GoesI Try.prog true (DT (ScZ zn) Ch) Stop (G (bd.at (ad.put oe.dst (.tuple #[.slice (some ⟨M, 0, none⟩) 1 1, I 0])) (.inRegion od rd :: kd)) (bc.at ac (.inRegion ops (q0 :: rest) :: k0) :: cs)) w) ∧
      g = G ((base 8).at { tmps := #[Pt wb 0, I 3, .slice (some ⟨c + 1, 0, none⟩) 1 1] ++ Array.replicate 25 undef, defers := [] } [.code B8c]) (bd.at ad (.inRegion od (qd :: rd) :: kd) :: bc.at ac (.inRegion ops (q0 :: rest) :: k0) :: cs))
    (hawake_in _ (fun v' w' wb bk sc c bd ad od qd rd oe kd hr hn hset ho hback => GoesI.stop fun d => ⟨wb, bk, sc, c, bd, ad, od, qd, rd, oe, kd, hset.same hr.eq hr.os hr.output, ho, hback, rfl⟩) (Rel.refl w) (fun c hc => hc.elim))
  have l0 : Nat → Ph := fun _ => .done []
  obtain ⟨N2, gs2, w2, sl2, T2, q2, caps, pk, N, cv, K, S', S1, l1, m, p', r2, z2, h2, A2, hK, hnv, hH, hT, O⟩ := cplay_all 3 (by decide) (by decide) (S := newS wb bk w.heap.size sc []) (n := 1) (sb := c + 1) (so := 0) (cap := 1) (pc := fun _ => some ⟨c, 0, none⟩) (ln := fun _ => 3) (cp := fun _ => 3) (rb := fun _ => c) (cl := fun _ => clsH) hoe sl1 7 A1 h1 s.mem rfl rfl rfl s.opn (asked5 s) (by decide) (fun caps pk N K => by show 0 + 2 * (3 + 0) ≤ 1000000; decide) (by show 0 ≤ 4611686018427387904; decide) (by show ∀ x ∈ ([] : List Int), _; simp) l0 (fun caps pk N cv K hK S1 l1 hH => by
      obtain ⟨k0, k1, k2, rfl⟩ := K_three hK
      obtain ⟨tv0, tb0, gc0, e⟩ := hires_aw (wb := wb) (bk := bk) (base := w.heap.size) (sc := sc) (cv := cv) hH
      exact ⟨7, _, Nat.le_refl _, by rw [e]; exact turns_of 7 _ (awh_runs wb bk _ sc cv tv0 tb0 gc0 k0 k1 k2 l0), by rw [awh_n]; decide⟩)
  obtain ⟨b0, b1, b2, rfl⟩ := K_three hK
  obtain ⟨tv0, tb0, gc0, e⟩ := hires_aw (wb := wb) (bk := bk) (base := w.heap.size) (sc := sc) (cv := cv) hH
  have hT' : Turns (mcH 3) m (⟨S1, [(b0, 0), (b1, 0), (b2, 0)], l1⟩ : PSt) p' := hT
  rw [e] at hT'
  have hp := turns_det hT' (turns_of 7 _ (awh_runs wb bk w.heap.size sc cv tv0 tb0 gc0 b0 b1 b2 l0))
  have hans := awh_ans wb bk w.heap.size sc cv tv0 tb0 gc0 b0 b1 b2 l0
  rw [← hp] at hans
  have a0 := (O.ans 0 (by decide)).2.1 (by decide)
  rw [hans] at a0
  have hD : Done5 (N + 1) (N + 4 + 3 * 0 + 2) w2 := ⟨O.rows 0 (by decide), cell_of a0 rfl, cell_of a0 rfl, cell_of a0 rfl⟩
  obtain ⟨N3, gs3, a3, w3, sl3, T3, q3, r3, z3, h3, ⟨rfl, hg3⟩, A3⟩ := alone_goes A2 h2 sl2 (hback (fun _ => False) (fun g w' => g = G (bc.at (ac.put oc.dst (.bool true)) (.inRegion ops rest :: k0)) cs ∧ Grows w2 w') (N + 1) w2 (fun a hA => haw_tail hoc (Rel.refl w2) (fun c hc => hc.elim) hD hA (fun v' w' hr hn hgr => GoesI.stop fun d => ⟨rfl, hgr.toAt hr d⟩)))
  refine ⟨N1 + N2 + N3, gs3, w3, sl3, T3, q3, runNT_then (runNT_then r1 r2) r3, h3, A3, ⟨by have := s.old.size; have := O.size; have := hg3.size; omega, fun b hb => ?_, hg3.os.trans (O.os.trans s.old.os), hg3.output.trans (O.out.trans s.old.output)⟩⟩
  have hs1 := s.old.size
  have hno : ¬ (Own (newS wb bk w.heap.size sc []) [] b ∨ b = bk) := fun h => by have := (s.own b h).1; omega
  have h5 := O.old b (by omega) (fun h => hno (.inl h)) (fun h => hno (.inr h))
  rw [hg3.old b (by have := O.size; omega), h5.1, s.old.old b hb]
end Go.Proofs.Ytmmfjanbjheekaa.Gen

/- A run's end; the scripts as the pure machine has them. -/
set_option linter.unusedSimpArgs false
set_option linter.unusedVariables false
namespace Go.Proofs.Ytmmfjanbjheekaa.Gen
open Go Go.Lift Go.Conc Go.RowKit

theorem alone_ends {gs : Array Goroutine} {w : World} {T : Trace} {q : Nat → Nat} (A : Alone gs w T q) {a : Goroutine} (hg : gs[0]? = some a) (sl : Option (Nat × Nat)) {Post : Value → World → Prop} (hE : ∀ B, ∀ d, AtEnd Try.prog (fun _ => False) B Post a (w.at d)) :
    ∃ N last o w' t', runNT Try.prog (N + 1) (crowd gs w sl) T = (.ended o w', t') ∧ runN Try.prog N (crowd gs w sl) = .next last ∧ step Try.prog last = .ended o w' ∧ Go.Conc.Good Try.prog Post last o w' t' := by
  obtain ⟨B, hB, hP⟩ := A.past
  refine beside_ends (D := fun _ _ es => es = #[]) (Shun := fun _ => False) (B := B) (n := 0) (fun _ _ es h e he => by subst h; simp at he) hg A.left hP ?_
  rintro w1 ⟨d, rfl⟩
  exact hE B d
section
variable (mc : Mc) (fid : FuncId) (caps : Array Value) (pk : Nat → Option Obj) (N n : Nat) (K : List (Nat × Int)) (pc : Nat → Option Addr) (ln cp rb : Nat → Nat) (cl : Nat → List Cl)
theorem scrs_calls : (scrs mc fid caps pk N n K pc ln cp rb cl).map (·.calls) = (List.range' 0 n).map cl := by
  unfold scrs
  rw [List.map_map]
  rfl
theorem scrs_ans (hlen : ∀ j, j < n → (cl j).length = ln j) : ∀ x ∈ scrs mc fid caps pk N n K pc ln cp rb cl, x.ans = List.replicate x.calls.length (0, 0) := fun s hs => by
  simp only [scrs, List.mem_map, List.mem_range'] at hs
  obtain ⟨j, ⟨i, hi, rfl⟩, rfl⟩ := hs
  show List.replicate (ln (0 + 1 * i)) (0, 0) = List.replicate (cl (0 + 1 * i)).length (0, 0)
  rw [hlen _ (by omega)]
end
end Go.Proofs.Ytmmfjanbjheekaa.Gen

/- The law ChainRing (3): main alone, from its entry to awake, from there to Play, and behind it; whole, by the machine. (Made by wip/tools/mk3f.py.) -/
set_option linter.unusedSimpArgs false
set_option linter.unusedVariables false
namespace Go.Proofs.Ytmmfjanbjheekaa.Gen
open Go Go.Lift Go.Conc Go.RowKit

noncomputable def B3_0 : Code := .seq q3_3 (.block 0 K3_0)
noncomputable def B3_14 : Code := .seq q3_14 (.cond ( .tmp 69 ) (.seq q3_15 .ret) .skip)
noncomputable def B3_4 : Code := .seq q3_17 (.block 4 K3_4)
noncomputable def B3_6 : Code := .seq q3_22 (.block 6 K3_6)
noncomputable def P3 : Code := .seq q3_2 (.seq B3_0 (.seq B3_14 (.seq q3_16 (.seq B3_4 (.seq B3_6 (.seq q3_29 (.seq q3_30 T3)))))))
theorem eC3 : C3 = .seq q3_0 (.seq q3_1 P3) := e3
theorem fine_q3_2 : fineCode Try.prog true LV q3_2 := fineCode_askS callV extT (by kernel_rfl)
theorem fine_B3_0 : fineCode Try.prog true LV B3_0 := fineCode_askS callV extT (by kernel_rfl)
theorem fine_B3_14 : fineCode Try.prog true LV B3_14 := fineCode_askS callV extT (by kernel_rfl)
theorem fine_q3_16 : fineCode Try.prog true LV q3_16 := fineCode_askS callV extT (by kernel_rfl)
theorem fine_B3_4 : fineCode Try.prog true LV B3_4 := fineCode_askS callV extT (by kernel_rfl)
theorem fine_B3_6 : fineCode Try.prog true LV B3_6 := fineCode_askS callV extT (by kernel_rfl)
theorem fine_q3_29 : fineCode Try.prog true LV q3_29 := fineCode_askS callV extT (by kernel_rfl)
set_option maxHeartbeats 4000000 in
set_option maxRecDepth 100000 in
theorem q3_29_wp {v : World} {a : Act} {s1 : Value} (p : Option Addr) (cap vb vo : Nat) (xs : List Int) (hp : 0 < xs.length → p = some ⟨vb, vo, none⟩) (hx1 : xs.length ≤ 17592186043904) (hv : ∀ k x, xs[k]? = some x → v.cell? ⟨vb, vo + k, none⟩ = some (I x)) (hA : Fl 254 [(0, .slice p xs.length cap), (9, .bool true), (15, s1)] a) :
    q3_29.wp Try.prog (fun e a w' => e = .normal ∧ ∃ wb bk sc, Fl 254 [(9, .bool true), (15, s1), (20, Pt wb 0)] a ∧ IsNew v xs wb bk sc w') a v := by
  have H7 : Hid (Calls Try.prog 7 #[.slice p xs.length cap] v _) := ⟨(body7A p vb vo cap xs hp hx1 hv).calls Try.func7 rfl⟩
  clear hp hx1 hv
  obtain ⟨hsz, hd, hp⟩ := hA
  obtain ⟨u, rfl, hg⟩ := litN hsz hd
  simp only [List.forall_mem_cons, hg] at hp
  obtain ⟨u0, u9, u15, -⟩ := hp
  clear hg hsz hd
  unfold q3_29 C3 Try.f3 seq2 seq1
  simp only [Option.getD_some, lits, Nat.reduceAdd, u0, u9, u15]
  clear u0 u9 u15
  go_wp2_with (first
    | (go_at_call 7; refine H7.out.mono ?_; rintro e w1 ⟨_, rfl, wb, bk, sc, rfl, hnew⟩))
  exact ⟨wb, ⟨rfl, rfl, by
    intro p hp
    simp only [List.mem_cons, List.not_mem_nil, or_false] at hp
    rcases hp with rfl | rfl | rfl <;> rfl⟩, bk, sc, hnew⟩

set_option maxHeartbeats 4000000 in
set_option maxRecDepth 100000 in
theorem law3_in {Ch : Nat → Prop} {Stop : Goroutine → World → Prop} {main : Bool} {w : World} (x0 x1 x2 x3 : Value)
    (hk : ∀ (w' : World) (bd : Frame) (ad : Act) (od : Array Oper) (qd : Nat) (rd : List Nat) (oe : Oper) (kd : List Item), (∃ d, w' = w.at d) → od[qd]? = some oe →
      (∀ (Ch : Nat → Prop) (Stop : Goroutine → World → Prop) (w1 : World), (∀ a, Fl 254 [(0, x0), (1, x1), (2, x2), (3, x3), (9, .bool true)] a → GoesI Try.prog main (DT (ScZ zn) Ch) Stop (G ((base 3).at a [.code P3]) []) w1) → GoesI Try.prog main (DT (ScZ zn) Ch) Stop (G (bd.at (ad.put oe.dst (.bool true)) (.inRegion od rd :: kd)) []) w1) →
      GoesI Try.prog main (DT (ScZ zn) Ch) Stop (G ((base 5).at { tmps := Array.replicate 89 undef, defers := [] } [.code hwB]) [bd.at ad (.inRegion od (qd :: rd) :: kd)]) w') :
    GoesI Try.prog main (DT (ScZ zn) Ch) Stop (G ((base 3).at { tmps := #[x0, x1, x2, x3] ++ Array.replicate 250 undef, defers := [] } [.code C3]) []) w := by
  rw [eC3]
  simp only [Array.replicate_succ, Array.replicate_zero, List.push_toArray, List.append_toArray, List.nil_append, List.cons_append]
  refine goesI_seq (dt_idle _ _) ?_
  generalize hR : P3 = R9 at hk ⊢
  unfold q3_0 q3_1 C3 Try.f3 seq1 seq2
  simp only [Option.getD_some]
  refine goesI_region (dt_idle _ _) ?_
  simp only [List.size_toArray, List.length_cons, List.length_nil, Nat.reduceAdd, Nat.zero_add, List.range, List.range.loop]
  iterate 1
    (refine goesI_oper rfl rfl (by decide) (fun d K hK => ?_)
     go_simp
     refine hK _ _ ⟨dt_reads (fun e he => ?_), GoesI.at ?_ d⟩
     · have hm := mem_listed he
       simp [go_sem, *] at hm
       try exact ⟨_, _, hm⟩
     clear hK K)
  refine goesI_regionEnd (dt_idle _ _) ?_
  refine goesI_seq (dt_idle _ _) ?_
  refine goesI_region (dt_idle _ _) ?_
  simp only [List.size_toArray, List.length_cons, List.length_nil, Nat.reduceAdd, Nat.zero_add, List.range, List.range.loop]
  refine goesI_into (f := 5) (fn := Try.f5) (args := #[]) (dt_idle _ _) rfl rfl (by decide) rfl (by simp [Act.eval]) Try.func5 (by decide) rfl ?_
  refine hk w _ _ _ _ _ _ _ ⟨w.drawn, rfl⟩ rfl (fun Ch Stop w1 hg => ?_)
  clear hk
  iterate 1
    (refine goesI_oper rfl rfl (by decide) (fun d K hK => ?_)
     go_simp
     refine hK _ _ ⟨dt_reads (fun e he => ?_), GoesI.at ?_ d⟩
     · have hm := mem_listed he
       simp [go_sem, *] at hm
       try exact ⟨_, _, hm⟩
     clear hK K)
  refine goesI_regionEnd (dt_idle _ _) ?_
  exact hg _ ⟨rfl, rfl, by
    intro p hp
    simp only [List.mem_cons, List.not_mem_nil, or_false] at hp
    rcases hp with rfl | rfl | rfl | rfl | rfl <;> rfl⟩

theorem end3 {a : Act} {todo : List Item} {w : World} (hd : a.defers = []) (h4 : a.tmps.getD 8 undef = .bool true) : stepG Try.prog true (G { (base 3).at a todo with mode := .returning } []) w = .ended (.done (.bool true)) w #[] := by
  have hr : (results Try.f3 a.tmps).run Try.prog w = .ok (.bool true) w := by rw [results_tmp (t := 8) rfl, h4]
  have he : (results Try.f3 a.tmps).events Try.prog w #[] = #[] := by simp [results, go_sem, Try.f3]
  simp [G, stepG, unwind, Frame.at, hd, Try.func3, base, hr, he, doReturn, GStep.after, seen]
/-- All is made for Play. -/
structure Rdy (W u : World) (xs : List Int) (Sb wb bk : Nat) (sc : Value) (pc : Nat → Option Addr) (ln cp rb : Nat → Nat) (cl : Nat → List Cl) (v' : World) : Prop where
  gr : Grows W u
  ins : InS u (some ⟨Sb, 0, none⟩) Sb 0 4 pc ln cp rb cl
  len : ∀ j, j < 4 → ln j ≤ 64
  ring : ∃ R, Rg 4 20 R cl
  new : IsNew u xs wb bk sc v'
theorem gr_tape (v : World) (τ : Tape) : Grows v (onTape v τ 0) := ⟨Nat.le_refl _, fun _ _ => rfl, rfl, rfl⟩

set_option maxHeartbeats 4000000 in
set_option maxRecDepth 100000 in
theorem law3_b {Ch : Nat → Prop} {Stop : Goroutine → World → Prop} {main : Bool} {v w : World} {p0 p1 p2 p3 : Option Addr} {b0 o0 c0 b1 o1 c1 b2 o2 c2 b3 o3 c3 : Nat} {xs pk se : List Int} {ns : List Cl} (i0 : InI v p0 b0 o0 xs) (i1 : InI v p1 b1 o1 pk) (i2 : InI v p2 b2 o2 se) (i3 : InK v p3 b3 o3 ns) (hvw : Rel zn v w) (hn : NoRow Ch v)
    (hend : ∀ a' v' w' todo, Rel zn v' w' → Grows v v' → a'.defers = [] → a'.tmps.getD 8 undef = .bool true → GoesI Try.prog main (DT (ScZ zn) Ch) Stop (G { (base 3).at a' todo with mode := .returning } []) w')
    (hk : ∀ (u v' w' : World) (Sb wb bk : Nat) (sc : Value) (pc : Nat → Option Addr) (ln cp rb : Nat → Nat) (cl : Nat → List Cl) (bd : Frame) (ad : Act) (od : Array Oper) (qd : Nat) (rd : List Nat) (oe : Oper) (kd : List Item), Rel zn v' w' → NoRow Ch v' → Rdy v u xs Sb wb bk sc pc ln cp rb cl v' → od[qd]? = some oe →
      (∀ (Ch : Nat → Prop) (Stop : Goroutine → World → Prop) (w2 : World) (A : Value) (E : Int), (∀ a, Fl 254 [(9, .bool true), (15, .slice (some ⟨Sb, 0, none⟩) 4 4), (20, Pt wb 0), (21, A), (22, I E)] a → GoesI Try.prog main (DT (ScZ zn) Ch) Stop (G ((base 3).at a [.code T3]) []) w2) →
        GoesI Try.prog main (DT (ScZ zn) Ch) Stop (G (bd.at (ad.put oe.dst (.tuple #[A, I E])) (.inRegion od rd :: kd)) []) w2) →
      GoesI Try.prog main (DT (ScZ zn) Ch) Stop (G ((base 8).at { tmps := #[Pt wb 0, I 20, .slice (some ⟨Sb, 0, none⟩) 4 4] ++ Array.replicate 25 undef, defers := [] } [.code B8c]) [bd.at ad (.inRegion od (qd :: rd) :: kd)]) w') :
    ∀ a, Fl 254 [(0, .slice p0 xs.length c0), (1, .slice p1 pk.length c1), (2, .slice p2 se.length c2), (3, .slice p3 ns.length c3), (9, .bool true)] a → GoesI Try.prog main (DT (ScZ zn) Ch) Stop (G ((base 3).at a [.code P3]) []) w := by
  intro a0 hA0
  unfold P3
  refine goesI_seq (dt_idle _ _) ?_
  refine goesI_plain (z := zn) (wr := true) (L := LV) (I := NoRow Ch) hE fineV noRow_keeps (fun v v' w w' es hi hr ho he => dt_of_z v v' w w' es hi hr ho he) hvw fine_q3_2 hA0.2.1 (by simp [base]) hn
    (Q := fun a w' => Fl 254 [(0, .slice p0 xs.length c0), (1, .slice p1 pk.length c1), (2, .slice p2 se.length c2), (3, .slice p3 ns.length c3), (9, .bool true), (10, .slice none 0 0)] a ∧ Grows v w') (fun τ => wp_mono (p3_2 (v := onTape v τ 0) hA0) (fun e a w' hq => ⟨hq.1, hq.2.1, by rw [hq.2.2]; exact gr_tape v τ⟩)) ?_
  rintro a1 v1 w1 ⟨hA1, g1⟩ hr1 hn1 -
  refine goesI_seq (dt_idle _ _) ?_
  refine goesI_plain (z := zn) (wr := true) (L := LV) (I := NoRow Ch) hE fineV noRow_keeps (fun v v' w w' es hi hr ho he => dt_of_z v v' w w' es hi hr ho he) hr1 fine_B3_0 hA1.2.1 (by simp [base]) hn1
    (Q := fun a w' => ∃ R lp lc, Fl 254 [(0, .slice p0 xs.length c0), (1, .slice p1 pk.length c1), (2, .slice p2 se.length c2), (3, .slice p3 ns.length c3), (9, .bool true), (10, .slice lp R.length lc)] a ∧ RgI v1 (.slice lp R.length lc) R w' ∧ R.length ≤ 12) (fun τ => la3_ring (v0 := onTape v1 τ 0) ((i1.grows g1).grows (gr_tape v1 τ)) hA1 (fun a' u' R lp lc h1 h2 h3 => ⟨rfl, R, lp, lc, h1, (show RgI v1 (.slice lp R.length lc) R u' from ⟨h2.own, ⟨h2.gr.size, h2.gr.old, h2.gr.os, h2.gr.output⟩, h2.nd, h2.lt⟩), h3⟩)) ?_
  rintro a2 v2 w2 ⟨R, lp, lc, hA2, hR, h12⟩ hr2 hn2 -
  have g2 : Grows v v2 := grow_trans g1 hR.gr
  refine goesI_seq (dt_idle _ _) ?_
  by_cases hR0 : R.length = 0
  · refine goesI_retZ (Q := fun a w' => Fl 254 [(8, .bool true)] a ∧ Grows v2 w') hr2 hn2 fine_B3_14 hA2.2.1 (fun τ => ?_) (fun a' v' w' todo hQ hd hr hn' => hend a' v' w' todo hr (grow_trans g2 hQ.2) hd (hQ.1.at 8 (.bool true) (by simp)))
    unfold B3_14
    refine wp_then (p3_14 hA2) fun a3 w3 h => ?_
    obtain ⟨h3, rfl⟩ := h
    refine wp_cond_true (h3.hd (by simp [hR0])) ?_
    refine wp_then (p3_15 (h3.sub (by simp))) fun a4 w4 h => ?_
    obtain ⟨h4, rfl⟩ := h
    exact wp_ret ⟨rfl, h4, gr_tape v2 τ⟩
  refine goesI_plain (z := zn) (wr := true) (L := LV) (I := NoRow Ch) hE fineV noRow_keeps (fun v v' w w' es hi hr ho he => dt_of_z v v' w w' es hi hr ho he) hr2 fine_B3_14 hA2.2.1 (by simp [base]) hn2
    (Q := fun a w' => Fl 254 [(0, .slice p0 xs.length c0), (1, .slice p1 pk.length c1), (2, .slice p2 se.length c2), (3, .slice p3 ns.length c3), (9, .bool true), (10, .slice lp R.length lc)] a ∧ Grows v2 w') (fun τ => by
      unfold B3_14
      refine wp_then (p3_14 hA2) fun a3 w3 h => ?_
      obtain ⟨h3, rfl⟩ := h
      exact wp_cond_false (h3.hf (by rw [beq_eq_false_iff_ne]; omega)) (wp_skip ⟨rfl, h3.tl, gr_tape v2 τ⟩)) ?_
  rintro a3 v3 w3 ⟨hA3, g3⟩ hr3 hn3 -
  obtain ⟨g, hg, hgc⟩ := own_get hR.own (by omega)
  subst hg
  have hRc : ∀ j x, R[j]? = some x → v3.cell? ⟨g, j, none⟩ = some (I (x : Nat)) := fun j x hx => g3.cell (hgc j _ (by simp [rgV, hx]))
  have hr12 : ∀ j, rg R j < 12 := fun j => hR.lt _ (rg_mem (by omega) j)
  have g3' : Grows v v3 := grow_trans g2 g3
  refine goesI_seq (dt_idle _ _) ?_
  refine goesI_plain (z := zn) (wr := true) (L := LV) (I := NoRow Ch) hE fineV noRow_keeps (fun v v' w w' es hi hr ho he => dt_of_z v v' w w' es hi hr ho he) hr3 fine_q3_16 hA3.2.1 (by simp [base]) hn3
    (Q := fun a w' => Fl 254 [(0, .slice p0 xs.length c0), (1, .slice p1 pk.length c1), (2, .slice p2 se.length c2), (3, .slice p3 ns.length c3), (9, .bool true), (10, .slice (some ⟨g, 0, none⟩) R.length lc), (15, .slice (some ⟨v3.heap.size, 0, none⟩) 4 4)] a ∧ Scs v3 v3.heap.size (fun _ => .slice none 0 0) (fun _ => []) w') (fun τ => wp_mono (p3_16 (v := onTape v3 τ 0) hA3) (fun e a w' hq => ⟨hq.1, hq.2.1, by
      have hw := hq.2.2
      have hm := World.rowIs_made (onTape v3 τ 0) (.slice none 0 0) 4 23
      rw [← hw] at hm
      refine ⟨hm, Nat.le_refl _, ⟨by rw [hw, size_alloc]; exact Nat.le_succ _, fun b hb => by rw [hw]; show (v3.heap.push _)[b]? = _; rw [Array.getElem?_push, if_neg (by omega)], by rw [hw]; rfl, by rw [hw]; rfl⟩, fun t ht => World.ownsRow_nil _ _ _ _, fun t ht => ⟨none, 0, rfl⟩, fun t t' _ _ _ g hg => (by cases hg), fun t ht hg => (by cases hg)⟩⟩)) ?_
  rintro a4 v4 w4 ⟨hA4, hS4⟩ hr4 hn4 -
  refine goesI_seq (dt_idle _ _) ?_
  have hO4 : Ops R (fun _ => []) 0 0 := ⟨fun t ht => Nat.le_refl _, fun t ht c hc => (by cases hc), fun i0 h => by omega⟩
  refine goesI_plain (z := zn) (wr := true) (L := LV) (I := NoRow Ch) hE fineV noRow_keeps (fun v v' w w' es hi hr ho he => dt_of_z v v' w w' es hi hr ho he) hr4 fine_B3_4 hA4.2.1 (by simp [base]) hn4
    (Q := fun a w' => ∃ rows ops, Fl 254 [(0, .slice p0 xs.length c0), (1, .slice p1 pk.length c1), (2, .slice p2 se.length c2), (3, .slice p3 ns.length c3), (9, .bool true), (10, .slice (some ⟨g, 0, none⟩) R.length lc), (15, .slice (some ⟨v3.heap.size, 0, none⟩) 4 4)] a ∧ Scs v3 v3.heap.size rows ops w' ∧ Ops R ops 0 20) (fun τ => la3_noise (i3.grows g3') (hS4.same (gr_tape v4 τ)) hO4 hA4 (fun a' u' rows ops h1 h2 h3 => ⟨rfl, rows, ops, h1, h2, h3⟩)) ?_
  rintro a5 v5 w5 ⟨rows5, ops5, hA5, hS5, hO5⟩ hr5 hn5 -
  refine goesI_seq (dt_idle _ _) ?_
  refine goesI_plain (z := zn) (wr := true) (L := LV) (I := NoRow Ch) hE fineV noRow_keeps (fun v v' w w' es hi hr ho he => dt_of_z v v' w w' es hi hr ho he) hr5 fine_B3_6 hA5.2.1 (by simp [base]) hn5
    (Q := fun a w' => ∃ rows ops, Fl 254 [(0, .slice p0 xs.length c0), (1, .slice p1 pk.length c1), (2, .slice p2 se.length c2), (3, .slice p3 ns.length c3), (9, .bool true), (10, .slice (some ⟨g, 0, none⟩) R.length lc), (15, .slice (some ⟨v3.heap.size, 0, none⟩) 4 4)] a ∧ Scs v3 v3.heap.size rows ops w' ∧ Ops R ops R.length 32) (fun τ => la3_calls (i2.grows g3') (by omega) h12 hR.lt hRc (hS5.same (gr_tape v5 τ)) hO5 hA5 (fun a' u' rows ops h1 h2 h3 => ⟨rfl, rows, ops, h1, h2, h3⟩)) ?_
  rintro a6 v6 w6 ⟨rows, ops, hA6, hS6, hO6⟩ hr6 hn6 -
  have g6 : Grows v v6 := grow_trans g3' hS6.gr
  have hins := scs_in hS6 hO6 hr12
  have hrg : Rg 4 20 R ops := ops_rg (by omega) h12 hR.nd hR.lt hO6
  refine goesI_seq (dt_idle _ _) ?_
  refine goesI_plain (z := zn) (wr := true) (L := LV) (I := NoRow Ch) hE fineV noRow_keeps (fun v v' w w' es hi hr ho he => dt_of_z v v' w w' es hi hr ho he) hr6 fine_q3_29 hA6.2.1 (by simp [base]) hn6
    (Q := fun a w' => ∃ wb bk sc, Fl 254 [(9, .bool true), (15, .slice (some ⟨v3.heap.size, 0, none⟩) 4 4), (20, Pt wb 0)] a ∧ IsNew v6 xs wb bk sc w') (fun τ => wp_mono (q3_29_wp (v := onTape v6 τ 0) (s1 := .slice (some ⟨v3.heap.size, 0, none⟩) 4 4) p0 c0 b0 o0 xs i0.at_ i0.len (i0.grows g6).cell (hA6.sub (by simp))) (fun e a w' hq => ⟨hq.1, by
      obtain ⟨_, wb, bk, sc, h1, h2⟩ := hq
      exact ⟨wb, bk, sc, h1, h2.mem, h2.opn, h2.new, ⟨h2.old.size, h2.old.old, h2.old.os, h2.old.output⟩⟩⟩)) ?_
  rintro a7 v7 w7 ⟨wb, bk, sc, hB, hnew⟩ hr7 hn7 -
  have hrdy : Rdy v v6 xs v3.heap.size wb bk sc (fun j => slP (rows j)) (fun j => (ops j).length) (fun j => slC (rows j)) (fun j => ((rows j).ownBlock).getD 0) ops v7 := ⟨g6, hins, fun j hj => by have := hO6.len j hj; show (ops j).length ≤ 64; omega, ⟨R, hrg⟩, hnew⟩
  generalize v3.heap.size = Sb at hB hrdy
  obtain ⟨hsz, hd, hpp⟩ := hB
  obtain ⟨u, rfl, hg⟩ := litN hsz hd
  simp only [List.forall_mem_cons, hg] at hpp
  obtain ⟨u9, u15, u20, -⟩ := hpp
  clear hg hsz hd hA0 hA1 hA2 hA3 hA4 hA5 hA6
  refine goesI_seq (dt_idle _ _) ?_
  clear hvw hn hnew hend i0 i1 i2 i3 hS4 hS5 hS6 hO4 hO5 hO6 hins hrg hRc hgc
  generalize hT : T3 = T at hk ⊢
  unfold q3_30 C3 Try.f3 seq1 seq2
  simp only [Option.getD_some, lits, Nat.reduceAdd, u9, u15, u20]
  clear u9 u15 u20
  refine goesI_region (dt_idle _ _) ?_
  simp only [List.size_toArray, List.length_cons, List.length_nil, Nat.reduceAdd, Nat.zero_add, List.range, List.range.loop]
  iterate 2
    (refine goesI_oper rfl rfl (by decide) (fun d K hK => ?_)
     go_simp
     refine hK _ _ ⟨dt_reads (fun e he => ?_), GoesI.at ?_ d⟩
     · have hm := mem_listed he
       simp [go_sem, *] at hm
       try exact ⟨_, _, hm⟩
     clear hK K)
  refine goesI_into (f := 8) (fn := Try.f8) (args := #[Pt wb 0, I 20, .slice (some ⟨Sb, 0, none⟩) 4 4]) (dt_idle _ _) rfl rfl (by decide) rfl (by simp [Act.eval]) Try.func8 (by decide) rfl ?_
  refine hk v6 v7 w7 Sb wb bk sc _ _ _ _ _ _ _ _ _ _ _ _ hr7 hn7 hrdy rfl (fun Ch Stop w2 A E hwp => ?_)
  clear hk hrdy hr7 hn7
  iterate 5
    (refine goesI_oper rfl rfl (by decide) (fun d K hK => ?_)
     go_simp
     refine hK _ _ ⟨dt_reads (fun e he => ?_), GoesI.at ?_ d⟩
     · have hm := mem_listed he
       simp [go_sem, *] at hm
       try exact ⟨_, _, hm⟩
     clear hK K)
  refine goesI_regionEnd (dt_idle _ _) ?_
  exact hwp _ ⟨rfl, rfl, by
    intro p hp
    simp only [List.mem_cons, List.not_mem_nil, or_false] at hp
    rcases hp with rfl | rfl | rfl | rfl | rfl <;> rfl⟩

/-- Play has answered. -/
theorem law3_yes {Ch : Nat → Prop} {Stop : Goroutine → World → Prop} {main : Bool} {v w : World} {a : Act} {S : TS} {Sb M : Nat} {A ln cp rb ro : Nat → Nat} {pc : Nat → Option Addr} {cl : Nat → List Cl} {l : Nat → Ph} {L : List Stp}
    (hS : SL 4 Sb 0 ln cp rb ro pc cl v) (hL : AL 4 M A ln l v) (hR : Rep zn S v) (htr : S.tr = flat L) (hSn : S.n = L.length) (hs4 : S.n ≤ 4000000) (hst : StsR 4 20 cl rh0 L)
    (hlast : ∃ i k, i < 4 ∧ (repH cl L).last = some (i, k) ∧ k < (cl i).length ∧ (l i).ans[k]? = some (0, 1)) (hvw : Rel zn v w) (hn : NoRow Ch v)
    (hA : Fl 254 [(9, .bool true), (15, .slice (some ⟨Sb, 0, none⟩) 4 4), (20, Pt S.wb 0), (21, .slice (some ⟨M, 0, none⟩) 4 4), (22, I 0)] a)
    (hend : ∀ a' v' w' todo, Rel zn v' w' → Grows v v' → a'.defers = [] → a'.tmps.getD 8 undef = .bool true → GoesI Try.prog main (DT (ScZ zn) Ch) Stop (G { (base 3).at a' todo with mode := .returning } []) w') :
    GoesI Try.prog main (DT (ScZ zn) Ch) Stop (G ((base 3).at a [.code T3]) []) w :=
  goesI_retZ (Q := fun a w' => Fl 254 [(8, .bool true)] a ∧ Kq v.heap.size v w') hvw hn fine_T3 hA.2.1 (fun τ => wp_mono (tail3 (v := onTape v τ 0) (hS.go (Kq.same rfl rfl rfl)) (hL.go (Kq.same rfl rfl rfl)) (hR.same (v' := onTape v τ 0) rfl) htr hSn hs4 hst hlast hA) (fun e a w' hq => ⟨hq.1, hq.2.1, hq.2.2.os, hq.2.2.out, hq.2.2.size, hq.2.2.old⟩)) (fun a' v' w' todo hQ hd hr hn' => hend a' v' w' todo hr (hQ.2.grows (Nat.le_refl _)) hd (hQ.1.at 8 (.bool true) (by simp)))
end Go.Proofs.Ytmmfjanbjheekaa.Gen
