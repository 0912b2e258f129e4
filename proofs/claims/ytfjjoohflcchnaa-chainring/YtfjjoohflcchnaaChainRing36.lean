/- ChainRing: of a ring the last who writes down is told, under every schedule. Part 36 of 37. (Joined, by program, of: ChAw3, GFin.) -/
import Derived.Test.YtfjjoohflcchnaaChainRing28
import Derived.Test.YtfjjoohflcchnaaChainRing30
import Derived.Test.YtfjjoohflcchnaaChainRing35
set_option linter.unusedSimpArgs false
set_option linter.unusedVariables false
namespace Go.Proofs.Ytfjjoohflcchnaa.Gen
open Go Go.Lift Go.Conc Go.RowKit
open Go.ConcN (upd upd_same upd_ne)

set_option maxHeartbeats 4000000 in
set_option maxRecDepth 100000 in
theorem haw_y8 {Ch : Nat → Prop} {Stop : Goroutine → World → Prop} {main : Bool} {v w : World} {M tb lb sb c0 c1 : Nat} {a : Act} {cs : List Frame} (hvw : Rel zn v w) (hn : NoRow Ch v) (h : C2 tb lb sb c0 c1 0 0 v) (hA : Fl 89 [(0, .bool false), (2, .slice (some ⟨M, 0, none⟩) 1 1), (3, I 0), (5, I 1), (6, Pt tb 0), (7, Pt lb 0)] a)
    (hk : ∀ a' v' w', Rel zn v' w' → NoRow Ch v' → C2 tb lb sb c0 c1 2 0 v' → Kp2 c0 c1 v v' → Fl 89 [(0, .bool false), (2, .slice (some ⟨M, 0, none⟩) 1 1), (3, I 0), (5, I 1), (6, Pt tb 0), (7, Pt lb 0), (8, .bool false)] a' → GoesI Try.prog main (DT (ScZ zn) Ch) Stop (G ((base 50).at a' [.code Y9]) cs) w') :
    GoesI Try.prog main (DT (ScZ zn) Ch) Stop (G ((base 50).at a [.code (.seq y8 Y9)]) cs) w := by
  obtain ⟨hsz, hd, hpp⟩ := hA
  obtain ⟨u, rfl, hg⟩ := litN hsz hd
  have u0 := (hg 0).symm.trans (hpp (0, .bool false) (by simp))
  have u2 := (hg 2).symm.trans (hpp (2, .slice (some ⟨M, 0, none⟩) 1 1) (by simp))
  have u3 := (hg 3).symm.trans (hpp (3, I 0) (by simp))
  have u5 := (hg 5).symm.trans (hpp (5, I 1) (by simp))
  have u6 := (hg 6).symm.trans (hpp (6, Pt tb 0) (by simp))
  have u7 := (hg 7).symm.trans (hpp (7, Pt lb 0) (by simp))
  clear hg hpp hsz hd
  have HA : Hid (Rel zn v w ∧ NoRow Ch v) := ⟨hvw, hn⟩
  clear hvw hn
  refine goesI_seq (dt_idle _ _) ?_
  generalize hT : Y9 = TT at hk ⊢
  unfold y8 hwB Try.f50 seq2 seq1
  simp only [Option.getD_some, lits, Nat.reduceAdd, u0, u2, u3, u5, u6, u7]
  clear u0 u2 u3 u5 u6 u7 hT
  refine goesI_region (dt_idle _ _) ?_
  simp only [List.size_toArray, List.length_cons, List.length_nil, Nat.reduceAdd, Nat.zero_add, List.range, List.range.loop]
  iterate 2
    (refine goesI_oper rfl rfl (by decide) (fun d K hK => ?_)
     go_simp
     refine hK _ _ ⟨dt_reads (fun e he => ?_), GoesI.at ?_ d⟩
     · have hm := mem_listed he
       simp [go_sem, *] at hm
       try exact ⟨_, _, hm⟩
     clear hK K)
  refine goesI_into (f := 80) (fn := Try.f80) (args := #[Pt lb 0, Pt tb 0, I 0, I 1]) (dt_idle _ _) rfl rfl (by decide) rfl (by simp [Act.eval]) Try.func80 (by decide) rfl ?_
  refine fask01 h cs rfl HA.out.1 HA.out.2 (fun v2 w2 r2 n2 h2 k2 => ?_) _ rfl
  have HK : Hid (∀ a', Fl 89 [(0, .bool false), (2, .slice (some ⟨M, 0, none⟩) 1 1), (3, I 0), (5, I 1), (6, Pt tb 0), (7, Pt lb 0), (8, .bool false)] a' → GoesI Try.prog main (DT (ScZ zn) Ch) Stop (G ((base 50).at a' [.code TT]) cs) w2) := ⟨fun a' h => hk a' v2 w2 r2 n2 h2 k2 h⟩
  clear hk h r2 n2 HA
  iterate 1
    (refine goesI_oper rfl rfl (by decide) (fun d K hK => ?_)
     go_simp
     refine hK _ _ ⟨dt_reads (fun e he => ?_), GoesI.at ?_ d⟩
     · have hm := mem_listed he
       simp [go_sem, *] at hm
       try exact ⟨_, _, hm⟩
     clear hK K)
  refine goesI_regionEnd (dt_idle _ _) ?_
  exact HK.out _ ⟨rfl, rfl, by
    intro p hp
    simp only [List.mem_cons, List.not_mem_nil, or_false] at hp
    rcases hp with rfl | rfl | rfl | rfl | rfl | rfl | rfl <;> rfl⟩

set_option maxHeartbeats 4000000 in
set_option maxRecDepth 100000 in
theorem haw_y9 {Ch : Nat → Prop} {Stop : Goroutine → World → Prop} {main : Bool} {v w : World} {M tb lb sb c0 c1 : Nat} {a : Act} {cs : List Frame} (hvw : Rel zn v w) (hn : NoRow Ch v) (h : C2 tb lb sb c0 c1 2 0 v) (hA : Fl 89 [(0, .bool false), (2, .slice (some ⟨M, 0, none⟩) 1 1), (3, I 0), (5, I 1), (6, Pt tb 0), (7, Pt lb 0), (8, .bool false)] a)
    (hk : ∀ a' v' w', Rel zn v' w' → NoRow Ch v' → C2 tb lb sb c0 c1 2 1 v' → Kp2 c0 c1 v v' → Fl 89 [(0, .bool false), (2, .slice (some ⟨M, 0, none⟩) 1 1), (3, I 0), (5, I 1), (6, Pt tb 0), (7, Pt lb 0), (8, .bool false), (9, .bool true)] a' → GoesI Try.prog main (DT (ScZ zn) Ch) Stop (G ((base 50).at a' [.code Y10]) cs) w') :
    GoesI Try.prog main (DT (ScZ zn) Ch) Stop (G ((base 50).at a [.code (.seq y9 Y10)]) cs) w := by
  obtain ⟨hsz, hd, hpp⟩ := hA
  obtain ⟨u, rfl, hg⟩ := litN hsz hd
  have u0 := (hg 0).symm.trans (hpp (0, .bool false) (by simp))
  have u2 := (hg 2).symm.trans (hpp (2, .slice (some ⟨M, 0, none⟩) 1 1) (by simp))
  have u3 := (hg 3).symm.trans (hpp (3, I 0) (by simp))
  have u5 := (hg 5).symm.trans (hpp (5, I 1) (by simp))
  have u6 := (hg 6).symm.trans (hpp (6, Pt tb 0) (by simp))
  have u7 := (hg 7).symm.trans (hpp (7, Pt lb 0) (by simp))
  have u8 := (hg 8).symm.trans (hpp (8, .bool false) (by simp))
  clear hg hpp hsz hd
  have HA : Hid (Rel zn v w ∧ NoRow Ch v) := ⟨hvw, hn⟩
  clear hvw hn
  refine goesI_seq (dt_idle _ _) ?_
  generalize hT : Y10 = TT at hk ⊢
  unfold y9 hwB Try.f50 seq2 seq1
  simp only [Option.getD_some, lits, Nat.reduceAdd, u0, u2, u3, u5, u6, u7, u8]
  clear u0 u2 u3 u5 u6 u7 u8 hT
  refine goesI_region (dt_idle _ _) ?_
  simp only [List.size_toArray, List.length_cons, List.length_nil, Nat.reduceAdd, Nat.zero_add, List.range, List.range.loop]
  iterate 2
    (refine goesI_oper rfl rfl (by decide) (fun d K hK => ?_)
     go_simp
     refine hK _ _ ⟨dt_reads (fun e he => ?_), GoesI.at ?_ d⟩
     · have hm := mem_listed he
       simp [go_sem, *] at hm
       try exact ⟨_, _, hm⟩
     clear hK K)
  refine goesI_into (f := 80) (fn := Try.f80) (args := #[Pt lb 0, Pt tb 0, I 1, I 0]) (dt_idle _ _) rfl rfl (by decide) rfl (by simp [Act.eval]) Try.func80 (by decide) rfl ?_
  refine fask10 h cs rfl HA.out.1 HA.out.2 (fun v2 w2 r2 n2 h2 k2 => ?_) _ rfl
  have HK : Hid (∀ a', Fl 89 [(0, .bool false), (2, .slice (some ⟨M, 0, none⟩) 1 1), (3, I 0), (5, I 1), (6, Pt tb 0), (7, Pt lb 0), (8, .bool false), (9, .bool true)] a' → GoesI Try.prog main (DT (ScZ zn) Ch) Stop (G ((base 50).at a' [.code TT]) cs) w2) := ⟨fun a' h => hk a' v2 w2 r2 n2 h2 k2 h⟩
  clear hk h r2 n2 HA
  iterate 1
    (refine goesI_oper rfl rfl (by decide) (fun d K hK => ?_)
     go_simp
     refine hK _ _ ⟨dt_reads (fun e he => ?_), GoesI.at ?_ d⟩
     · have hm := mem_listed he
       simp [go_sem, *] at hm
       try exact ⟨_, _, hm⟩
     clear hK K)
  refine goesI_regionEnd (dt_idle _ _) ?_
  exact HK.out _ ⟨rfl, rfl, by
    intro p hp
    simp only [List.mem_cons, List.not_mem_nil, or_false] at hp
    rcases hp with rfl | rfl | rfl | rfl | rfl | rfl | rfl | rfl <;> rfl⟩

set_option maxHeartbeats 4000000 in
set_option maxRecDepth 100000 in
theorem haw_y10 {Ch : Nat → Prop} {Stop : Goroutine → World → Prop} {main : Bool} {v w : World} {M tb lb sb c0 c1 : Nat} {a : Act} {cs : List Frame} (hvw : Rel zn v w) (hn : NoRow Ch v) (h : C2 tb lb sb c0 c1 2 1 v) (hA : Fl 89 [(0, .bool false), (2, .slice (some ⟨M, 0, none⟩) 1 1), (3, I 0), (5, I 1), (6, Pt tb 0), (7, Pt lb 0), (8, .bool false), (9, .bool true)] a)
    (hk : ∀ a' v' w', Rel zn v' w' → NoRow Ch v' → C2 tb lb sb c0 c1 2 1 v' → Kp2 c0 c1 v v' → Fl 89 [(0, .bool false), (2, .slice (some ⟨M, 0, none⟩) 1 1), (3, I 0), (5, I 1), (6, Pt tb 0), (7, Pt lb 0), (8, .bool false), (9, .bool true), (10, .bool false)] a' → GoesI Try.prog main (DT (ScZ zn) Ch) Stop (G ((base 50).at a' [.code y11]) cs) w') :
    GoesI Try.prog main (DT (ScZ zn) Ch) Stop (G ((base 50).at a [.code (.seq y10 y11)]) cs) w := by
  obtain ⟨hsz, hd, hpp⟩ := hA
  obtain ⟨u, rfl, hg⟩ := litN hsz hd
  have u0 := (hg 0).symm.trans (hpp (0, .bool false) (by simp))
  have u2 := (hg 2).symm.trans (hpp (2, .slice (some ⟨M, 0, none⟩) 1 1) (by simp))
  have u3 := (hg 3).symm.trans (hpp (3, I 0) (by simp))
  have u5 := (hg 5).symm.trans (hpp (5, I 1) (by simp))
  have u6 := (hg 6).symm.trans (hpp (6, Pt tb 0) (by simp))
  have u7 := (hg 7).symm.trans (hpp (7, Pt lb 0) (by simp))
  have u8 := (hg 8).symm.trans (hpp (8, .bool false) (by simp))
  have u9 := (hg 9).symm.trans (hpp (9, .bool true) (by simp))
  clear hg hpp hsz hd
  have HA : Hid (Rel zn v w ∧ NoRow Ch v) := ⟨hvw, hn⟩
  clear hvw hn
  refine goesI_seq (dt_idle _ _) ?_
  generalize hT : y11 = TT at hk ⊢
  unfold y10 hwB Try.f50 seq2 seq1
  simp only [Option.getD_some, lits, Nat.reduceAdd, u0, u2, u3, u5, u6, u7, u8, u9]
  clear u0 u2 u3 u5 u6 u7 u8 u9 hT
  refine goesI_region (dt_idle _ _) ?_
  simp only [List.size_toArray, List.length_cons, List.length_nil, Nat.reduceAdd, Nat.zero_add, List.range, List.range.loop]
  iterate 2
    (refine goesI_oper rfl rfl (by decide) (fun d K hK => ?_)
     go_simp
     refine hK _ _ ⟨dt_reads (fun e he => ?_), GoesI.at ?_ d⟩
     · have hm := mem_listed he
       simp [go_sem, *] at hm
       try exact ⟨_, _, hm⟩
     clear hK K)
  refine goesI_into (f := 80) (fn := Try.f80) (args := #[Pt lb 0, Pt tb 0, I 0, I 2]) (dt_idle _ _) rfl rfl (by decide) rfl (by simp [Act.eval]) Try.func80 (by decide) rfl ?_
  refine ask_no (n := 2) (fr := 0) (to := 2) (by omega) (by omega) h.row cs rfl HA.out.1 HA.out.2 (fun v2 w2 r2 n2 e2 o2 x2 => ?_) _ rfl
  have h2 : C2 tb lb sb c0 c1 2 1 v2 := ⟨by rw [World.cell?_of_block (w := v) (by rw [e2])]; exact h.row, by rw [World.cell?_of_block (w := v) (by rw [e2])]; exact h.s0, by rw [World.cell?_of_block (w := v) (by rw [e2])]; exact h.s1, h.f0.same e2, h.f1.same e2, h.ne, h.a0⟩
  have k2 : Kp2 c0 c1 v v2 := ⟨fun b _ _ => by rw [e2], by rw [e2], o2, x2⟩
  have HK : Hid (∀ a', Fl 89 [(0, .bool false), (2, .slice (some ⟨M, 0, none⟩) 1 1), (3, I 0), (5, I 1), (6, Pt tb 0), (7, Pt lb 0), (8, .bool false), (9, .bool true), (10, .bool false)] a' → GoesI Try.prog main (DT (ScZ zn) Ch) Stop (G ((base 50).at a' [.code TT]) cs) w2) := ⟨fun a' h => hk a' v2 w2 r2 n2 h2 k2 h⟩
  clear hk h r2 n2 HA h2 k2 e2 o2 x2
  iterate 1
    (refine goesI_oper rfl rfl (by decide) (fun d K hK => ?_)
     go_simp
     refine hK _ _ ⟨dt_reads (fun e he => ?_), GoesI.at ?_ d⟩
     · have hm := mem_listed he
       simp [go_sem, *] at hm
       try exact ⟨_, _, hm⟩
     clear hK K)
  refine goesI_regionEnd (dt_idle _ _) ?_
  exact HK.out _ ⟨rfl, rfl, by
    intro p hp
    simp only [List.mem_cons, List.not_mem_nil, or_false] at hp
    rcases hp with rfl | rfl | rfl | rfl | rfl | rfl | rfl | rfl | rfl <;> rfl⟩

set_option maxHeartbeats 4000000 in
set_option maxRecDepth 100000 in
theorem haw_y3 {Ch : Nat → Prop} {Stop : Goroutine → World → Prop} {main : Bool} {v w : World} {M : Nat} {a : Act} {cs : List Frame} (hvw : Rel zn v w) (hn : NoRow Ch v) (hA : Fl 89 [(0, .bool false), (2, .slice (some ⟨M, 0, none⟩) 1 1), (3, I 0)] a)
    (hk : ∀ a' v' w', Rel zn v' w' → NoRow Ch v' → Grows v v' → Fl 89 [(0, .bool false), (2, .slice (some ⟨M, 0, none⟩) 1 1), (3, I 0), (5, I 1)] a' → GoesI Try.prog main (DT (ScZ zn) Ch) Stop (G ((base 50).at a' [.code Y4]) cs) w') :
    GoesI Try.prog main (DT (ScZ zn) Ch) Stop (G ((base 50).at a [.code Y3]) cs) w := by
  unfold Y3
  obtain ⟨hsz, hd, hpp⟩ := hA
  obtain ⟨u, rfl, hg⟩ := litN hsz hd
  have u0 := (hg 0).symm.trans (hpp (0, .bool false) (by simp))
  have u2 := (hg 2).symm.trans (hpp (2, .slice (some ⟨M, 0, none⟩) 1 1) (by simp))
  have u3 := (hg 3).symm.trans (hpp (3, I 0) (by simp))
  clear hg hpp hsz hd
  refine goesI_seq (dt_idle _ _) ?_
  generalize hT : Y4 = TT at hk ⊢
  unfold y3 hwB Try.f50 seq2 seq1
  simp only [Option.getD_some, lits, Nat.reduceAdd, u0, u2, u3]
  clear u0 u2 u3 hT
  refine goesI_region (dt_idle _ _) ?_
  simp only [List.size_toArray, List.length_cons, List.length_nil, Nat.reduceAdd, Nat.zero_add, List.range, List.range.loop]
  refine goesI_opZ (L := LV) rfl rfl (by decide) (fineOp_ask callV extT (by kernel_rfl)) hvw hn (v' := v) (x := .agg #[I 1, I 0, I 0, I 0]) (by go_simp) rfl (fun w2 hr2 hn2 => ?_)
  refine goesI_opZ (L := LV) rfl rfl (by decide) (fineOp_ask callV extT (by kernel_rfl)) hr2 hn2 (v' := v.alloc (.cells #[I 1, I 0, I 0, I 0] 39)) (x := .slice (some ⟨v.heap.size, 0, none⟩) 1 1) (by go_simp) rfl (fun w3 hr3 hn3 => ?_)
  refine goesI_opZ (L := LV) rfl rfl (by decide) (fineOp_ask callV extT (by kernel_rfl)) hr3 hn3 (v' := (v.alloc (.cells #[I 1, I 0, I 0, I 0] 39)).alloc (.cells #[.slice (some ⟨v.heap.size, 0, none⟩) 1 1] 37)) (x := .slice (some ⟨v.heap.size + 1, 0, none⟩) 1 1) (by go_simp) rfl (fun w4 hr4 hn4 => ?_)
  refine goesI_into (f := 52) (fn := Try.f52) (args := #[.pointer none, I 3, .slice (some ⟨v.heap.size + 1, 0, none⟩) 1 1]) (dt_idle _ _) rfl rfl (by decide) rfl (by simp [Act.eval, Act.put]) Try.func52 (by decide) rfl ?_
  have hb : ((v.alloc (.cells #[I 1, I 0, I 0, I 0] 39)).alloc (.cells #[.slice (some ⟨v.heap.size, 0, none⟩) 1 1] 37)).heap[v.heap.size + 1]? = some (.cells #[.slice (some ⟨v.heap.size, 0, none⟩) 1 1] 37) := by
    show ((v.heap.push _).push _)[v.heap.size + 1]? = _
    rw [Array.getElem?_push, if_pos (by simp)]
  have gg : Grows v ((v.alloc (.cells #[I 1, I 0, I 0, I 0] 39)).alloc (.cells #[.slice (some ⟨v.heap.size, 0, none⟩) 1 1] 37)) := ⟨by show _ ≤ ((v.heap.push _).push _).size; simp; omega, fun b hb => by show ((v.heap.push _).push _)[b]? = _; rw [Array.getElem?_push, if_neg (by simp; omega), Array.getElem?_push, if_neg (by omega)], rfl, rfl⟩
  refine hplay_nil 3 (v.heap.size + 1) (cell_of hb rfl) cs rfl hr4 hn4 (fun v5 w5 r5 n5 e5 o5 u5 => ?_)
  have HK : Hid (∀ a', Fl 89 [(0, .bool false), (2, .slice (some ⟨M, 0, none⟩) 1 1), (3, I 0), (5, I 1)] a' → GoesI Try.prog main (DT (ScZ zn) Ch) Stop (G ((base 50).at a' [.code TT]) cs) w5) := ⟨fun a' h => hk a' v5 w5 r5 n5 (grow_trans gg (grow_same e5 o5 u5)) h⟩
  clear hk hb gg r5 n5 e5 o5 u5 hr2 hr3 hr4 hn2 hn3 hn4 hvw hn
  iterate 5
    (refine goesI_oper rfl rfl (by decide) (fun d K hK => ?_)
     go_simp
     refine hK _ _ ⟨dt_reads (fun e he => ?_), GoesI.at ?_ d⟩
     · have hm := mem_listed he
       simp [go_sem, *] at hm
       try exact ⟨_, _, hm⟩
     clear hK K)
  refine goesI_regionEnd (dt_idle _ _) ?_
  exact HK.out _ ⟨rfl, rfl, by
    intro p hp
    simp only [List.mem_cons, List.not_mem_nil, or_false] at hp
    rcases hp with rfl | rfl | rfl | rfl <;> rfl⟩

/-- What lies there behind Play. -/
structure Done5 (M A0 : Nat) (u : World) : Prop where
  m0 : u.cell? ⟨M, 0, none⟩ = some (.slice (some ⟨A0, 0, none⟩) 3 3)
  x3 : u.cell? ⟨A0, 3, none⟩ = some (I 0)
  x4 : u.cell? ⟨A0, 4, none⟩ = some (I 0)
  x5 : u.cell? ⟨A0, 5, none⟩ = some (I 1)
theorem Done5.go {M A0 : Nat} {u u' : World} (h : Done5 M A0 u) (g : ∀ b, b < u.heap.size → u'.heap[b]? = u.heap[b]?) : Done5 M A0 u' := by
  have hc : ∀ (a : Addr) (x : Value), u.cell? a = some x → u'.cell? a = some x := fun a x ha => by rw [World.cell?_of_block (w := u) (w' := u') (g _ (World.block_lt_of_cell? _ _ ha))]; exact ha
  exact ⟨hc _ _ h.m0, hc _ _ h.x3, hc _ _ h.x4, hc _ _ h.x5⟩
set_option maxHeartbeats 1000000 in
/-- Behind Play: the rest is true. -/
theorem haw_tail {Ch : Nat → Prop} {Stop : Goroutine → World → Prop} {main : Bool} {v w : World} {M A0 : Nat} {a : Act} {cs : List Frame} {bc : Frame} {ac : Act} {ops : Array Oper} {q : Nat} {rest : List Nat} {oc : Oper} {k0 : List Item} (hoc : ops[q]? = some oc) (hvw : Rel zn v w) (hn : NoRow Ch v) (hD : Done5 M A0 v) (hA : Fl 89 [(0, .bool false), (2, .slice (some ⟨M, 0, none⟩) 1 1), (3, I 0)] a)
    (hk : ∀ v' w', Rel zn v' w' → NoRow Ch v' → Grows v v' → GoesI Try.prog main (DT (ScZ zn) Ch) Stop (G (bc.at (ac.put oc.dst (.bool true)) (.inRegion ops rest :: k0)) cs) w') :
    GoesI Try.prog main (DT (ScZ zn) Ch) Stop (G ((base 50).at a [.code Y3]) (bc.at ac (.inRegion ops (q :: rest) :: k0) :: cs)) w := by
  refine haw_y3 hvw hn hA (fun a1 v1 w1 r1 n1 g1 hA1 => ?_)
  unfold Y4
  refine goesI_seq (dt_idle _ _) ?_
  refine goesI_plain (z := zn) (wr := true) (L := LV) (I := NoRow Ch) hE fineV noRow_keeps (fun v v' w w' es hi hr ho he => dt_of_z v v' w w' es hi hr ho he) r1 fine_y4 hA1.2.1 (by simp [base]) n1 (Q := fun a w' => Fl 89 [(0, .bool false), (2, .slice (some ⟨M, 0, none⟩) 1 1), (3, I 0), (5, I 1), (6, Pt v1.heap.size 0)] a ∧ w'.heap = v1.heap.push (.cells #[.pointer none, I 0, .chan none, I 0, I 0, I 0, I 0] 97) ∧ w'.os = v1.os ∧ w'.output = v1.output) (fun τ => y4_wp (v := onTape v1 τ 0) hA1) ?_
  rintro a2 v2 w2 ⟨hA2, e2, o2, u2⟩ r2 n2 -
  refine goesI_seq (dt_idle _ _) ?_
  refine goesI_plain (z := zn) (wr := true) (L := LV) (I := NoRow Ch) hE fineV noRow_keeps (fun v v' w w' es hi hr ho he => dt_of_z v v' w w' es hi hr ho he) r2 fine_y5 hA2.2.1 (by simp [base]) n2 (Q := fun a w' => Fl 89 [(0, .bool false), (2, .slice (some ⟨M, 0, none⟩) 1 1), (3, I 0), (5, I 1), (6, Pt v1.heap.size 0), (7, Pt (v2.heap.size + 1) 0)] a ∧ NwC v2 2 v2.heap.size 2 w') (fun τ => wp_mono (y5_wp (v := onTape v2 τ 0) hA2) (fun e a w' hq => ⟨hq.1, hq.2.1, ⟨hq.2.2.row, hq.2.2.ctr, hq.2.2.cel, hq.2.2.size, hq.2.2.old, hq.2.2.os, hq.2.2.out⟩⟩)) ?_
  rintro a3 v3 w3 ⟨hA3, hN⟩ r3 n3 -
  have s2 : v2.heap.size = v1.heap.size + 1 := by rw [e2]; simp
  have ht2 : v2.heap[v1.heap.size]? = some (.cells #[.pointer none, I 0, .chan none, I 0, I 0, I 0, I 0] 97) := by rw [e2]; exact Array.getElem?_push_size
  have ht3 : v3.heap[v1.heap.size]? = some (.cells #[.pointer none, I 0, .chan none, I 0, I 0, I 0, I 0] 97) := by rw [hN.old _ (by omega)]; exact ht2
  have g23 : Grows v2 v3 := ⟨by have := hN.size; omega, hN.old, hN.os, hN.out⟩
  have g13 : Grows v1 v3 := grow_trans (grow_push e2 o2 u2) g23
  have gv3 : Grows v v3 := grow_trans g1 g13
  have hD3 := hD.go gv3.old
  refine goesI_seq (dt_idle _ _) ?_
  refine goesI_seq (dt_idle _ _) ?_
  refine goesI_plain (z := zn) (wr := true) (L := LV) (I := NoRow Ch) hE fineV noRow_keeps (fun v v' w w' es hi hr ho he => dt_of_z v v' w w' es hi hr ho he) r3 fine_y6 hA3.2.1 (by simp [base]) n3 (Q := fun a w' => Fl 89 [(0, .bool false), (2, .slice (some ⟨M, 0, none⟩) 1 1), (3, I 0), (5, I 1), (6, Pt v1.heap.size 0), (7, Pt (v2.heap.size + 1) 0), (44, .bool false)] a ∧ w'.heap = v3.heap ∧ w'.os = v3.os ∧ w'.output = v3.output) (fun τ => y6_wp (v := onTape v3 τ 0) hD3.m0 hA3) ?_
  rintro a4 v4 w4 ⟨hA4, e4, o4, u4⟩ r4 n4 -
  refine goesI_cond (dt_idle _ _) (t := false) (hA4.at 44 (.bool false) (by simp)) ?_
  simp only [if_false, Bool.false_eq_true]
  refine goesI_skip (dt_idle _ _) ?_
  have hA4' : Fl 89 [(0, .bool false), (2, .slice (some ⟨M, 0, none⟩) 1 1), (3, I 0), (5, I 1), (6, Pt v1.heap.size 0), (7, Pt (v2.heap.size + 1) 0)] a4 := hA4.sub (by simp)
  have ht4 : v4.cell? ⟨v1.heap.size, 0, none⟩ = some (.pointer none) := cell_of (by rw [e4]; exact ht3) rfl
  have hC : C2 v1.heap.size (v2.heap.size + 1) v2.heap.size (v2.heap.size + 2 + 0) (v2.heap.size + 2 + 1) 0 0 v4 := by
    refine ⟨cell_of (by rw [e4]; exact hN.ctr) rfl, cell_of (by rw [e4]; exact hN.row) ?_, cell_of (by rw [e4]; exact hN.row) ?_, ⟨ht4, by omega, by rw [e4]; exact hN.cel 0 (by omega)⟩, ⟨ht4, by omega, by rw [e4]; exact hN.cel 1 (by omega)⟩, by omega, ⟨by omega, by omega, by omega, by omega⟩⟩
    · simp [rowP, kbN, List.range, List.range.loop]
    · simp [rowP, kbN, List.range, List.range.loop]
  unfold Y8
  refine haw_y8 r4 n4 hC hA4' (fun a5 v5 w5 r5 n5 h5 k5 hA5 => ?_)
  unfold Y9
  refine haw_y9 r5 n5 h5 hA5 (fun a6 v6 w6 r6 n6 h6 k6 hA6 => ?_)
  unfold Y10
  refine haw_y10 r6 n6 h6 hA6 (fun a7 v7 w7 r7 n7 h7 k7 hA7 => ?_)
  have k9 := (k5.trans k6).trans k7
  have g9 : Grows v v7 := by
    refine ⟨by rw [k9.size, e4]; exact gv3.size, fun b hb => ?_, ?_, ?_⟩
    · have hb2 : b < v2.heap.size := by have := g1.size; omega
      rw [k9.old b (by omega) (by omega), e4]; exact gv3.old b hb
    · rw [k9.os, o4]; exact gv3.os
    · rw [k9.out, u4]; exact gv3.output
  have hD9 := hD.go g9.old
  refine goesI_outZ (c := y11) (f := 50) (fn := Try.f50) (L := LV) hE fineV r7 n7 Try.func50 fine_y11 hA7.2.1 hoc (R := fun r w' => r = .bool true ∧ w'.heap = v7.heap ∧ w'.os = v7.os ∧ w'.output = v7.output) (fun τ => wp_mono (y11_wp (v := onTape v7 τ 0) hD9.m0 hD9.x3 hD9.x4 hD9.x5 hA7) (fun e a' w' hq => ⟨hq.1, .bool true, by
    rw [results_tmp (t := 0) rfl]
    have := hq.2.1.at 0 (.bool true) (by simp)
    rw [show a'.tmps.getD 0 undef = .bool true from this], rfl, hq.2.2⟩)) (fun r v' w' hR hr' hn' => ?_)
  obtain ⟨rfl, h1, h2, h3⟩ := hR
  exact hk v' w' hr' hn' (grow_trans g9 (grow_same h1 h2 h3))

/-- What lies there at chain.Play's entry. -/
structure Set5 (v : World) (wb bk : Nat) (sc : Value) (c : Nat) (u : World) : Prop where
  mem : Mem zn (newS wb bk v.heap.size sc []) [] u
  opn : Open u bk
  calls : u.heap[c]? = some (.cells #[I 1, I 0, I 1, I 0, I 1, I 1, I 2, I 0, I 1, I 2, I 0, I 0] 39)
  scr : u.heap[c + 1]? = some (.cells #[.slice (some ⟨c, 0, none⟩) 3 3] 37)
  own : ∀ b, Own (newS wb bk v.heap.size sc []) [] b ∨ b = bk → v.heap.size ≤ b ∧ b < c
  old : Grows v u
theorem Set5.same {v : World} {wb bk : Nat} {sc : Value} {c : Nat} {u u' : World} (h : Set5 v wb bk sc c u) (e : u'.heap = u.heap) (e1 : u'.os = u.os) (e2 : u'.output = u.output) : Set5 v wb bk sc c u' := by
  have g : Grows u u' := ⟨by rw [e]; exact Nat.le_refl _, fun b _ => by rw [e], e1, e2⟩
  refine ⟨(h.mem.grows g).mem, ?_, by rw [e]; exact h.calls, by rw [e]; exact h.scr, h.own, ⟨by rw [e]; exact h.old.size, fun b hb => by rw [e]; exact h.old.old b hb, e1.trans h.old.os, e2.trans h.old.output⟩⟩
  obtain ⟨c, m, hh⟩ := h.opn
  exact ⟨c, m, by rw [e]; exact hh⟩
set_option maxHeartbeats 4000000 in
set_option maxRecDepth 100000 in
theorem hawake_in {Ch : Nat → Prop} {Stop : Goroutine → World → Prop} {main : Bool} {v w : World} (cs : List Frame)
    (hk : ∀ v' w' (wb bk : Nat) (sc : Value) (c : Nat) (bd : Frame) (ad : Act) (od : Array Oper) (qd : Nat) (rd : List Nat) (oe : Oper) (kd : List Item), Rel zn v' w' → NoRow Ch v' → Set5 v wb bk sc c v' → od[qd]? = some oe →
      (∀ (Ch : Nat → Prop) (Stop : Goroutine → World → Prop) (M : Nat) (w : World), (∀ a, Fl 89 [(0, .bool false), (2, .slice (some ⟨M, 0, none⟩) 1 1), (3, I 0)] a → GoesI Try.prog main (DT (ScZ zn) Ch) Stop (G ((base 50).at a [.code Y3]) cs) w) → GoesI Try.prog main (DT (ScZ zn) Ch) Stop (G (bd.at (ad.put oe.dst (.tuple #[.slice (some ⟨M, 0, none⟩) 1 1, I 0])) (.inRegion od rd :: kd)) cs) w) →
      GoesI Try.prog main (DT (ScZ zn) Ch) Stop (G ((base 52).at { tmps := #[Pt wb 0, I 3, .slice (some ⟨c + 1, 0, none⟩) 1 1] ++ Array.replicate 25 undef, defers := [] } [.code B8c]) (bd.at ad (.inRegion od (qd :: rd) :: kd) :: cs)) w') (hvw : Rel zn v w) (hn : NoRow Ch v) :
    GoesI Try.prog main (DT (ScZ zn) Ch) Stop (G ((base 50).at { tmps := Array.replicate 89 undef, defers := [] } [.code hwB]) cs) w := by
  rw [eHwB]
  have hA : Fl 89 [] { tmps := Array.replicate 89 undef, defers := [] } := ⟨by simp, rfl, fun p hp => by cases hp⟩
  refine goesI_seq (dt_idle _ _) ?_
  refine goesI_plain (z := zn) (wr := true) (L := LV) (I := NoRow Ch) hE fineV noRow_keeps (fun v v' w w' es hi hr ho he => dt_of_z v v' w w' es hi hr ho he) hvw fine_y0 hA.2.1 (by simp [base]) hn (Q := fun a w' => Fl 89 [(0, .bool false)] a ∧ w'.heap = v.heap ∧ w'.os = v.os ∧ w'.output = v.output) (fun τ => y0_wp (v := onTape v τ 0) hA) ?_
  rintro a0 v0 w0 ⟨hA0, e0, o0, u0⟩ hr0 hn0 -
  refine goesI_seq (dt_idle _ _) ?_
  refine goesI_plain (z := zn) (wr := true) (L := LV) (I := NoRow Ch) hE fineV noRow_keeps (fun v v' w w' es hi hr ho he => dt_of_z v v' w w' es hi hr ho he) hr0 fine_y1 hA0.2.1 (by simp [base]) hn0
    (Q := fun a w' => ∃ wb bk sc, Fl 89 [(0, .bool false), (1, Pt wb 0)] a ∧ IsNew v0 [] wb bk sc w') (fun τ => ?_) ?_
  · refine wp_mono (y1_wp (v := onTape v0 τ 0) hA0) (fun e a w' hq => ⟨hq.1, ?_⟩)
    obtain ⟨_, wb, bk, sc, h1, h2⟩ := hq
    exact ⟨wb, bk, sc, h1, ⟨h2.mem, h2.opn, h2.new, ⟨h2.old.size, h2.old.old, h2.old.os, h2.old.output⟩⟩⟩
  rintro a1 v1 w1 ⟨wb, bk, sc, hA, hnew⟩ hr1 hn1 -
  have hset : Set5 v wb bk sc v1.heap.size ((v1.alloc (.cells #[I 1, I 0, I 1, I 0, I 1, I 1, I 2, I 0, I 1, I 2, I 0, I 0] 39)).alloc (.cells #[.slice (some ⟨v1.heap.size, 0, none⟩) 3 3] 37)) := by
    have g1 : Grows v1 ((v1.alloc (.cells #[I 1, I 0, I 1, I 0, I 1, I 1, I 2, I 0, I 1, I 2, I 0, I 0] 39)).alloc (.cells #[.slice (some ⟨v1.heap.size, 0, none⟩) 3 3] 37)) := ⟨by show _ ≤ ((v1.heap.push _).push _).size; simp; omega, fun b hb => by show ((v1.heap.push _).push _)[b]? = _; rw [Array.getElem?_push, if_neg (by simp; omega), Array.getElem?_push, if_neg (by omega)], rfl, rfl⟩
    have hm1 := hnew.mem
    have hnn := hnew.new
    rw [e0] at hm1 hnn
    refine ⟨(hm1.grows g1).mem, ?_, ?_, ?_, fun b hb => ⟨hnn b hb, ?_⟩, ⟨?_, fun b hb => ?_, ?_, ?_⟩⟩
    · obtain ⟨c, m, h⟩ := hnew.opn
      exact ⟨c, m, by rw [g1.old _ (Array.getElem?_eq_some_iff.1 h).1]; exact h⟩
    · show ((v1.heap.push _).push _)[v1.heap.size]? = _
      rw [Array.getElem?_push, if_neg (by simp)]
      exact Array.getElem?_push_size
    · show ((v1.heap.push _).push _)[v1.heap.size + 1]? = _
      rw [Array.getElem?_push, if_pos (by simp)]
    · rcases hb with hb | rfl
      · exact hm1.lt hb
      · obtain ⟨c, m, h⟩ := hnew.opn
        exact (Array.getElem?_eq_some_iff.1 h).1
    · have := hnew.old.size; have := g1.size; rw [e0] at *; omega
    · rw [g1.old b (by have := hnew.old.size; rw [e0] at this; omega), hnew.old.old b (by rw [e0]; exact hb), e0]
    · exact hnew.old.os.trans o0
    · exact hnew.old.output.trans u0
  clear hnew hr0 hn0 e0 o0 u0 hvw hn
  obtain ⟨hsz, hd, hpp⟩ := hA
  obtain ⟨u, rfl, hg⟩ := litN hsz hd
  have u0 := (hg 0).symm.trans (hpp (0, .bool false) (by simp))
  have u1 := (hg 1).symm.trans (hpp (1, Pt wb 0) (by simp))
  clear hg hpp hsz hd
  refine goesI_seq (dt_idle _ _) ?_
  generalize hT : Y3 = TT at hk ⊢
  unfold y2 hwB Try.f50 seq2 seq1
  simp only [Option.getD_some, lits, Nat.reduceAdd, u0, u1]
  clear u0 u1 hT
  refine goesI_region (dt_idle _ _) ?_
  simp only [List.size_toArray, List.length_cons, List.length_nil, Nat.reduceAdd, Nat.zero_add, List.range, List.range.loop]
  iterate 1
    (refine goesI_oper rfl rfl (by decide) (fun d K hK => ?_)
     go_simp
     refine hK _ _ ⟨dt_reads (fun e he => ?_), GoesI.at ?_ d⟩
     · have hm := mem_listed he
       simp [go_sem, *] at hm
       try exact ⟨_, _, hm⟩
     clear hK K)
  refine goesI_opZ (L := LV) rfl rfl (by decide) (fineOp_ask callV extT (by kernel_rfl)) hr1 hn1 (v' := v1) (x := .agg #[I 1, I 0, I 1, I 0]) (by go_simp) rfl (fun w2 hr2 hn2 => ?_)
  refine goesI_opZ (L := LV) rfl rfl (by decide) (fineOp_ask callV extT (by kernel_rfl)) hr2 hn2 (v' := v1) (x := .agg #[I 1, I 1, I 2, I 0]) (by go_simp) rfl (fun w3 hr3 hn3 => ?_)
  refine goesI_opZ (L := LV) rfl rfl (by decide) (fineOp_ask callV extT (by kernel_rfl)) hr3 hn3 (v' := v1) (x := .agg #[I 1, I 2, I 0, I 0]) (by go_simp) rfl (fun w4 hr4 hn4 => ?_)
  refine goesI_opZ (L := LV) rfl rfl (by decide) (fineOp_ask callV extT (by kernel_rfl)) hr4 hn4 (v' := v1.alloc (.cells #[I 1, I 0, I 1, I 0, I 1, I 1, I 2, I 0, I 1, I 2, I 0, I 0] 39)) (x := .slice (some ⟨v1.heap.size, 0, none⟩) 3 3) (by go_simp) rfl (fun w5 hr5 hn5 => ?_)
  refine goesI_opZ (L := LV) rfl rfl (by decide) (fineOp_ask callV extT (by kernel_rfl)) hr5 hn5 (v' := ((v1.alloc (.cells #[I 1, I 0, I 1, I 0, I 1, I 1, I 2, I 0, I 1, I 2, I 0, I 0] 39)).alloc (.cells #[.slice (some ⟨v1.heap.size, 0, none⟩) 3 3] 37))) (x := .slice (some ⟨v1.heap.size + 1, 0, none⟩) 1 1) (by go_simp) rfl (fun w6 hr6 hn6 => ?_)
  refine goesI_into (f := 52) (fn := Try.f52) (args := #[Pt wb 0, I 3, .slice (some ⟨v1.heap.size + 1, 0, none⟩) 1 1]) (dt_idle _ _) rfl rfl (by decide) rfl (by simp [Act.eval, Act.put]) Try.func52 (by decide) rfl ?_
  refine hk _ w6 wb bk sc v1.heap.size _ _ _ _ _ _ _ hr6 hn6 hset rfl (fun Ch Stop M ww hg => ?_)
  clear hk hset hr1 hr2 hr3 hr4 hr5 hr6 hn1 hn2 hn3 hn4 hn5 hn6
  iterate 5
    (refine goesI_oper rfl rfl (by decide) (fun d K hK => ?_)
     go_simp
     refine hK _ _ ⟨dt_reads (fun e he => ?_), GoesI.at ?_ d⟩
     · have hm := mem_listed he
       simp [go_sem, *] at hm
       try exact ⟨_, _, hm⟩
     clear hK K)
  refine goesI_regionEnd (dt_idle _ _) ?_
  exact hg _ ⟨rfl, rfl, by
    intro p hp
    simp only [List.mem_cons, List.not_mem_nil, or_false] at hp
    rcases hp with rfl | rfl | rfl <;> rfl⟩

section
variable {wb bk base : Nat} {sc cv : Value} {c0 c1 c2 : Nat} {l0 : Nat → Ph}
theorem hires_aw {caps : Array Value} {pk : Nat → Option Obj} {N c : Nat} {S1 : TS} {l1 : Nat → Ph} (h : Hires (mcH 3) 0 (scrs (mcH 3) 81 caps pk N 1 [(c0, 0), (c1, 0), (c2, 0)] (fun _ => some ⟨c, 0, none⟩) (fun _ => 3) (fun _ => 3) (fun _ => c) (fun _ => clsH)) (awSH wb bk base sc cv 3) l0 S1 l1) :
    ∃ tv0 tb0 gc0, (⟨S1, [(c0, 0), (c1, 0), (c2, 0)], l1⟩ : PSt) = awPH wb bk base sc cv tv0 tb0 gc0 c0 c1 c2 l0 := by
  have e : (scrs (mcH 3) 81 caps pk N 1 [(c0, 0), (c1, 0), (c2, 0)] (fun _ => some ⟨c, 0, none⟩) (fun _ => 3) (fun _ => 3) (fun _ => c) (fun _ => clsH)) = [scrOf (mcH 3) 81 caps pk N 1 [c0, c1, c2] (fun _ => some ⟨c, 0, none⟩) (fun _ => 3) (fun _ => 3) (fun _ => c) (fun _ => clsH) 0] := rfl
  rw [e] at h
  cases h with
  | cons tv0 tb0 gc0 h =>
    cases h
    exact ⟨tv0, tb0, gc0, rfl⟩
end
theorem asked5 {v u : World} {wb bk : Nat} {sc : Value} {c : Nat} (s : Set5 v wb bk sc c u) : Asked u (newS wb bk v.heap.size sc []) 1 (c + 1) 0 (fun _ => some ⟨c, 0, none⟩) (fun _ => 3) (fun _ => 3) (fun _ => c) (fun _ => clsH) := by
  refine ⟨fun j hj => ⟨rfl, by decide⟩, fun k hk => ?_, fun h => by have := (s.own _ (.inl h)).2; omega, fun j hj _ => ⟨rfl, fun h => by have := (s.own _ (.inl h)).2; omega⟩, fun j hj k x hx => ?_, fun j hj x hx => ?_⟩
  · obtain rfl : k = 0 := by omega
    exact cell_of s.scr rfl
  · match k, hx with
    | 0, hx =>
      cases hx
      exact ⟨cell_of s.calls rfl, cell_of s.calls rfl, cell_of s.calls rfl, cell_of s.calls rfl⟩
    | 1, hx =>
      cases hx
      exact ⟨cell_of s.calls rfl, cell_of s.calls rfl, cell_of s.calls rfl, cell_of s.calls rfl⟩
    | 2, hx =>
      cases hx
      exact ⟨cell_of s.calls rfl, cell_of s.calls rfl, cell_of s.calls rfl, cell_of s.calls rfl⟩
    | k + 3, hx => simp [clsH] at hx
  · unfold clsH at hx
    simp only [List.mem_cons, List.not_mem_nil, or_false] at hx
    rcases hx with rfl | rfl | rfl <;> decide
theorem K_three {K : List (Nat × Int)} (hK : K.map (·.2) = [0, 0, 0]) : ∃ a b c, K = [(a, 0), (b, 0), (c, 0)] := by
  match K, hK with
  | [], hK => simp at hK
  | [_], hK => simp at hK
  | [_, _], hK => simp at hK
  | [x, y, z], hK =>
    obtain ⟨a, a'⟩ := x
    obtain ⟨b, b'⟩ := y
    obtain ⟨c, c'⟩ := z
    simp only [List.map_cons, List.map_nil, List.cons.injEq, and_true] at hK
    obtain ⟨rfl, rfl, rfl⟩ := hK
    exact ⟨a, b, c, rfl⟩
  | _ :: _ :: _ :: _ :: _, hK => simp at hK

set_option maxHeartbeats 1000000 in
theorem hawake_all {cs : List Frame} {bc : Frame} {ac : Act} {ops : Array Oper} {q0 : Nat} {rest : List Nat} {oc : Oper} {k0 : List Item} (hoc : ops[q0]? = some oc) {w : World} {T : Trace} {gs : Array Goroutine} {q : Nat → Nat} (sl : Option (Nat × Nat)) (A : Alone gs w T q)
    (hg : gs[0]? = some (G ((base 50).at { tmps := Array.replicate 89 undef, defers := [] } [.code hwB]) (bc.at ac (.inRegion ops (q0 :: rest) :: k0) :: cs))) :
    ∃ (N' : Nat) (gs' : Array Goroutine) (w' : World) (sl' : Option (Nat × Nat)) (T' : Trace) (q' : Nat → Nat),
      runNT Try.prog N' (crowd gs w sl) T = (.next (crowd gs' w' sl'), T') ∧ gs'[0]? = some (G (bc.at (ac.put oc.dst (.bool true)) (.inRegion ops rest :: k0)) cs) ∧ Alone gs' w' T' q' ∧ Grows w w' := by
  obtain ⟨N1, gs1, a1, w1, sl1, T1, q1, r1, z1, h1, ⟨wb, bk, sc, c, bd, ad, od, qd, rd, oe, kd, s, hoe, hback, rfl⟩, A1⟩ := alone_goes A hg sl (Stop := fun g w' => ∃ (wb bk : Nat) (sc : Value) (c : Nat) (bd : Frame) (ad : Act) (od : Array Oper) (qd : Nat) (rd : List Nat) (oe : Oper) (kd : List Item), Set5 w wb bk sc c w' ∧ od[qd]? = some oe ∧
      (∀ (Ch : Nat → Prop) (Stop : Goroutine → World → Prop) (M : Nat) (w : World), (∀ a, Fl 89 [(0, .bool false), (2, .slice (some ⟨M, 0, none⟩) 1 1), (3, I 0)] a → GoesI Try.prog true (DT (ScZ zn) Ch) Stop (G ((base 50).at a [.code Y3]) (bc.at ac (.inRegion ops (q0 :: rest) :: k0) :: cs)) w) → GoesI Try.prog true (DT (ScZ zn) Ch) Stop (G (bd.at (ad.put oe.dst (.tuple #[.slice (some ⟨M, 0, none⟩) 1 1, I 0])) (.inRegion od rd :: kd)) (bc.at ac (.inRegion ops (q0 :: rest) :: k0) :: cs)) w) ∧
      g = G ((base 52).at { tmps := #[Pt wb 0, I 3, .slice (some ⟨c + 1, 0, none⟩) 1 1] ++ Array.replicate 25 undef, defers := [] } [.code B8c]) (bd.at ad (.inRegion od (qd :: rd) :: kd) :: bc.at ac (.inRegion ops (q0 :: rest) :: k0) :: cs))
    (hawake_in _ (fun v' w' wb bk sc c bd ad od qd rd oe kd hr hn hset ho hback => GoesI.stop fun d => ⟨wb, bk, sc, c, bd, ad, od, qd, rd, oe, kd, hset.same hr.eq hr.os hr.output, ho, hback, rfl⟩) (Rel.refl w) (fun c hc => hc.elim))
  have l0 : Nat → Ph := fun _ => .done []
  obtain ⟨N2, gs2, w2, sl2, T2, q2, caps, pk, N, cv, K, S', S1, l1, m, p', r2, z2, h2, A2, hK, hnv, hH, hT, O⟩ := cplay_all 3 (by decide) (by decide) (S := newS wb bk w.heap.size sc []) (n := 1) (sb := c + 1) (so := 0) (cap := 1) (pc := fun _ => some ⟨c, 0, none⟩) (ln := fun _ => 3) (cp := fun _ => 3) (rb := fun _ => c) (cl := fun _ => clsH) hoe sl1 7 A1 h1 s.mem rfl rfl rfl s.opn (asked5 s) (by decide) (fun caps pk N K => by show 0 + 2 * (3 + 0) ≤ 1000000; decide) (by show 0 ≤ 4611686018427387904; decide) (by show ∀ x ∈ ([] : List Int), _; simp) l0 (fun caps pk N cv K hK S1 l1 hH => by
      obtain ⟨k0, k1, k2, rfl⟩ := K_three hK
      obtain ⟨tv0, tb0, gc0, e⟩ := hires_aw (wb := wb) (bk := bk) (base := w.heap.size) (sc := sc) (cv := cv) hH
      exact ⟨7, _, Nat.le_refl _, by rw [e]; exact turns_of 7 _ (awh_runs wb bk _ sc cv tv0 tb0 gc0 k0 k1 k2 l0), by rw [awh_n]; decide⟩)
  obtain ⟨b0, b1, b2, rfl⟩ := K_three hK
  obtain ⟨tv0, tb0, gc0, e⟩ := hires_aw (wb := wb) (bk := bk) (base := w.heap.size) (sc := sc) (cv := cv) hH
  have hT' : Turns (mcH 3) m (⟨S1, [(b0, 0), (b1, 0), (b2, 0)], l1⟩ : PSt) p' := hT
  rw [e] at hT'
  have hp := turns_det hT' (turns_of 7 _ (awh_runs wb bk w.heap.size sc cv tv0 tb0 gc0 b0 b1 b2 l0))
  have hans := awh_ans wb bk w.heap.size sc cv tv0 tb0 gc0 b0 b1 b2 l0
  rw [← hp] at hans
  have a0 := (O.ans 0 (by decide)).2.1 (by decide)
  rw [hans] at a0
  have hD : Done5 (N + 1) (N + 4 + 3 * 0 + 2) w2 := ⟨O.rows 0 (by decide), cell_of a0 rfl, cell_of a0 rfl, cell_of a0 rfl⟩
  obtain ⟨N3, gs3, a3, w3, sl3, T3, q3, r3, z3, h3, ⟨rfl, hg3⟩, A3⟩ := alone_goes A2 h2 sl2 (hback (fun _ => False) (fun g w' => g = G (bc.at (ac.put oc.dst (.bool true)) (.inRegion ops rest :: k0)) cs ∧ Grows w2 w') (N + 1) w2 (fun a hA => haw_tail hoc (Rel.refl w2) (fun c hc => hc.elim) hD hA (fun v' w' hr hn hgr => GoesI.stop fun d => ⟨rfl, hgr.toAt hr d⟩)))
  refine ⟨N1 + N2 + N3, gs3, w3, sl3, T3, q3, runNT_then (runNT_then r1 r2) r3, h3, A3, ⟨by have := s.old.size; have := O.size; have := hg3.size; omega, fun b hb => ?_, hg3.os.trans (O.os.trans s.old.os), hg3.output.trans (O.out.trans s.old.output)⟩⟩
  have hs1 := s.old.size
  have hno : ¬ (Own (newS wb bk w.heap.size sc []) [] b ∨ b = bk) := fun h => by have := (s.own b h).1; omega
  have h5 := O.old b (by omega) (fun h => hno (.inl h)) (fun h => hno (.inr h))
  rw [hg3.old b (by have := O.size; omega), h5.1, s.old.old b hb]
end Go.Proofs.Ytfjjoohflcchnaa.Gen

namespace Go.Proofs.Ytfjjoohflcchnaa.Gen
open Go Go.Lift Go.Conc Go.RowKit

theorem alone_ends {gs : Array Goroutine} {w : World} {T : Trace} {q : Nat → Nat} (A : Alone gs w T q) {a : Goroutine} (hg : gs[0]? = some a) (sl : Option (Nat × Nat)) {Post : Value → World → Prop} (hE : ∀ B, ∀ d, AtEnd Try.prog (fun _ => False) B Post a (w.at d)) :
    ∃ N last o w' t', runNT Try.prog (N + 1) (crowd gs w sl) T = (.ended o w', t') ∧ runN Try.prog N (crowd gs w sl) = .next last ∧ step Try.prog last = .ended o w' ∧ Go.Conc.Good Try.prog Post last o w' t' := by
  obtain ⟨B, hB, hP⟩ := A.past
  refine beside_ends (D := fun _ _ es => es = #[]) (Shun := fun _ => False) (B := B) (n := 0) (fun _ _ es h e he => by subst h; simp at he) hg A.left hP ?_
  rintro w1 ⟨d, rfl⟩
  exact hE B d
section
variable (mc : Mc) (fid : FuncId) (caps : Array Value) (pk : Nat → Option Obj) (N n : Nat) (K : List (Nat × Int)) (pc : Nat → Option Addr) (ln cp rb : Nat → Nat) (cl : Nat → List Cl)
theorem scrs_calls : (scrs mc fid caps pk N n K pc ln cp rb cl).map (·.calls) = (List.range' 0 n).map cl := by
  unfold scrs
  rw [List.map_map]
  rfl
theorem scrs_ans (hlen : ∀ j, j < n → (cl j).length = ln j) : ∀ x ∈ scrs mc fid caps pk N n K pc ln cp rb cl, x.ans = List.replicate x.calls.length (0, 0) := fun s hs => by
  simp only [scrs, List.mem_map, List.mem_range'] at hs
  obtain ⟨j, ⟨i, hi, rfl⟩, rfl⟩ := hs
  show List.replicate (ln (0 + 1 * i)) (0, 0) = List.replicate (cl (0 + 1 * i)).length (0, 0)
  rw [hlen _ (by omega)]
end
end Go.Proofs.Ytfjjoohflcchnaa.Gen
