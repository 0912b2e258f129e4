/- CounterAlone, whatever the shards, the numbers and the ids: a counter of no world, added to by free threads; behind each Add its Sum is the sum of the shards' amounts, each within 32 bits with a sign; the law answers true and its input reads as it did. Part 31 of 35. (Joined, by program, of: La15c, La15d.) -/
import Derived.Test.YtcfmffmcammbjaaDoorCounterAlone30

/- The law CounterAlone (15): ahead of its loop, behind it, main alone. (Made by wip/tools/mkla15.py.) -/
set_option linter.unusedSimpArgs false
set_option linter.unusedVariables false
namespace Go.Proofs.YtcfmffmcammbjaaDoor.Gen
open Go Go.Lift Go.Conc Go.RowKit

set_option maxHeartbeats 4000000 in
set_option maxRecDepth 100000 in
theorem y2_wp {v : World} {a : Act} {l1 l2 : Value} {n0 : Int}  (hA : Fl 90 [(0, I n0), (1, l1), (2, l2), (7, .bool true)] a) : y2.wp Tryd.prog (fun e a' w' => e = .normal ∧ Fl 90 [(0, I n0), (1, l1), (2, l2), (7, .bool true), (8, Pt (v.heap.size + 1) 0)] a' ∧ NwC v (shN n0) v.heap.size (shN n0) w') a v := by
  obtain ⟨hsz, hd, hp⟩ := hA
  obtain ⟨u, rfl, hg⟩ := litN hsz hd
  simp only [List.forall_mem_cons, hg] at hp
  obtain ⟨u0, u1, u2, u7, -⟩ := hp
  clear hg hsz hd
  unfold y2 LB15 Tryd.f15 seq2 seq1
  simp only [Option.getD_some, lits, Nat.reduceAdd, u0, u1, u2, u7]
  clear u0 u1 u2 u7
  go_wp2_with (first
    | (go_at_call 54; refine ((body54n v n0).calls Tryd.func54 rfl).mono ?_; rintro e w1 ⟨_, rfl, rfl, q1⟩))
  first
    | exact ⟨rfl, rfl, by
        intro p hp
        simp only [List.mem_cons, List.not_mem_nil, or_false] at hp
        rcases hp with rfl | rfl | rfl | rfl | rfl <;> rfl⟩
    | exact ⟨⟨rfl, rfl, by
        intro p hp
        simp only [List.mem_cons, List.not_mem_nil, or_false] at hp
        rcases hp with rfl | rfl | rfl | rfl | rfl <;> rfl⟩, rfl⟩
    | exact ⟨⟨rfl, rfl, by
        intro p hp
        simp only [List.mem_cons, List.not_mem_nil, or_false] at hp
        rcases hp with rfl | rfl | rfl | rfl | rfl <;> rfl⟩, rfl, rfl⟩
    | exact ⟨⟨rfl, rfl, by
        intro p hp
        simp only [List.mem_cons, List.not_mem_nil, or_false] at hp
        rcases hp with rfl | rfl | rfl | rfl | rfl <;> rfl⟩, rfl, rfl, rfl⟩
    | exact ⟨⟨rfl, rfl, by
        intro p hp
        simp only [List.mem_cons, List.not_mem_nil, or_false] at hp
        rcases hp with rfl | rfl | rfl | rfl | rfl <;> rfl⟩, rfl, rfl, rfl, rfl⟩
    | exact ⟨⟨rfl, rfl, by
        intro p hp
        simp only [List.mem_cons, List.not_mem_nil, or_false] at hp
        rcases hp with rfl | rfl | rfl | rfl | rfl <;> rfl⟩, rfl, rfl, rfl, rfl, rfl⟩
    | exact ⟨rfl, ⟨rfl, rfl, by
    intro p hp
    simp only [List.mem_cons, List.not_mem_nil, or_false] at hp
    rcases hp with rfl | rfl | rfl | rfl | rfl <;> rfl⟩, q1⟩
    | exact ⟨⟨rfl, rfl, by
    intro p hp
    simp only [List.mem_cons, List.not_mem_nil, or_false] at hp
    rcases hp with rfl | rfl | rfl | rfl | rfl <;> rfl⟩, q1⟩

set_option maxHeartbeats 4000000 in
set_option maxRecDepth 100000 in
theorem y3_wp {v : World} {a : Act} {l1 l2 : Value} {n0 : Int} {c : Nat}  (hA : Fl 90 [(0, I n0), (1, l1), (2, l2), (7, .bool true), (8, Pt c 0)] a) : y3.wp Tryd.prog (fun e a' w' => e = .normal ∧ Fl 90 [(0, I n0), (1, l1), (2, l2), (7, .bool true), (8, Pt c 0)] a' ∧ w'.heap = v.heap ∧ w'.os = v.os ∧ w'.output = v.output) a v := by
  obtain ⟨hsz, hd, hp⟩ := hA
  obtain ⟨u, rfl, hg⟩ := litN hsz hd
  simp only [List.forall_mem_cons, hg] at hp
  obtain ⟨u0, u1, u2, u7, u8, -⟩ := hp
  clear hg hsz hd
  unfold y3 LB15 Tryd.f15 seq2 seq1
  simp only [Option.getD_some, lits, Nat.reduceAdd, u0, u1, u2, u7, u8]
  clear u0 u1 u2 u7 u8
  go_wp2_with fail
  first
    | exact ⟨rfl, rfl, by
        intro p hp
        simp only [List.mem_cons, List.not_mem_nil, or_false] at hp
        rcases hp with rfl | rfl | rfl | rfl | rfl <;> rfl⟩
    | exact ⟨⟨rfl, rfl, by
        intro p hp
        simp only [List.mem_cons, List.not_mem_nil, or_false] at hp
        rcases hp with rfl | rfl | rfl | rfl | rfl <;> rfl⟩, rfl⟩
    | exact ⟨⟨rfl, rfl, by
        intro p hp
        simp only [List.mem_cons, List.not_mem_nil, or_false] at hp
        rcases hp with rfl | rfl | rfl | rfl | rfl <;> rfl⟩, rfl, rfl⟩
    | exact ⟨⟨rfl, rfl, by
        intro p hp
        simp only [List.mem_cons, List.not_mem_nil, or_false] at hp
        rcases hp with rfl | rfl | rfl | rfl | rfl <;> rfl⟩, rfl, rfl, rfl⟩
    | exact ⟨⟨rfl, rfl, by
        intro p hp
        simp only [List.mem_cons, List.not_mem_nil, or_false] at hp
        rcases hp with rfl | rfl | rfl | rfl | rfl <;> rfl⟩, rfl, rfl, rfl, rfl⟩
    | exact ⟨⟨rfl, rfl, by
        intro p hp
        simp only [List.mem_cons, List.not_mem_nil, or_false] at hp
        rcases hp with rfl | rfl | rfl | rfl | rfl <;> rfl⟩, rfl, rfl, rfl, rfl, rfl⟩

set_option maxHeartbeats 4000000 in
set_option maxRecDepth 100000 in
theorem y5_wp {v : World} {a : Act} {l1 l2 : Value} {n0 : Int} {c s : Nat} (hs : shN n0 = s) (hA : Fl 90 [(0, I n0), (1, l1), (2, l2), (7, .bool true), (8, Pt c 0)] a) : y5.wp Tryd.prog (fun e a' w' => e = .normal ∧ Fl 90 [(0, I n0), (1, l1), (2, l2), (7, .bool true), (8, Pt c 0), (9, I (s : Int))] a' ∧ w'.heap = v.heap ∧ w'.os = v.os ∧ w'.output = v.output) a v := by
  obtain ⟨hsz, hd, hp⟩ := hA
  obtain ⟨u, rfl, hg⟩ := litN hsz hd
  simp only [List.forall_mem_cons, hg] at hp
  obtain ⟨u0, u1, u2, u7, u8, -⟩ := hp
  clear hg hsz hd
  have hmx := shN_max n0
  have hmn := shN_min n0
  rw [hs] at hmn
  generalize (if (1 : Int) > n0 then 1 else n0) = M at hmx hmn
  unfold y5 LB15 Tryd.f15 seq2 seq1
  simp only [Option.getD_some, lits, Nat.reduceAdd, u0, u1, u2, u7, u8]
  clear u0 u1 u2 u7 u8
  go_wp2_with fail
  first
    | exact ⟨rfl, rfl, by
        intro p hp
        simp only [List.mem_cons, List.not_mem_nil, or_false] at hp
        rcases hp with rfl | rfl | rfl | rfl | rfl | rfl <;> rfl⟩
    | exact ⟨⟨rfl, rfl, by
        intro p hp
        simp only [List.mem_cons, List.not_mem_nil, or_false] at hp
        rcases hp with rfl | rfl | rfl | rfl | rfl | rfl <;> rfl⟩, rfl⟩
    | exact ⟨⟨rfl, rfl, by
        intro p hp
        simp only [List.mem_cons, List.not_mem_nil, or_false] at hp
        rcases hp with rfl | rfl | rfl | rfl | rfl | rfl <;> rfl⟩, rfl, rfl⟩
    | exact ⟨⟨rfl, rfl, by
        intro p hp
        simp only [List.mem_cons, List.not_mem_nil, or_false] at hp
        rcases hp with rfl | rfl | rfl | rfl | rfl | rfl <;> rfl⟩, rfl, rfl, rfl⟩
    | exact ⟨⟨rfl, rfl, by
        intro p hp
        simp only [List.mem_cons, List.not_mem_nil, or_false] at hp
        rcases hp with rfl | rfl | rfl | rfl | rfl | rfl <;> rfl⟩, rfl, rfl, rfl, rfl⟩
    | exact ⟨⟨rfl, rfl, by
        intro p hp
        simp only [List.mem_cons, List.not_mem_nil, or_false] at hp
        rcases hp with rfl | rfl | rfl | rfl | rfl | rfl <;> rfl⟩, rfl, rfl, rfl, rfl, rfl⟩

set_option maxHeartbeats 4000000 in
set_option maxRecDepth 100000 in
theorem y6_wp {v : World} {a : Act} {l1 l2 : Value} {n0 : Int} {c s : Nat} (hs : s ≤ 16) (hA : Fl 90 [(0, I n0), (1, l1), (2, l2), (7, .bool true), (8, Pt c 0), (9, I (s : Int))] a) : y6.wp Tryd.prog (fun e a' w' => e = .normal ∧ Fl 90 [(1, l1), (2, l2), (8, Pt c 0), (9, I (s : Int)), (10, .slice (some ⟨v.heap.size, 0, none⟩) s s)] a' ∧ w'.heap = v.heap.push (rowI (List.replicate s 0)) ∧ w'.os = v.os ∧ w'.output = v.output) a v := by
  obtain ⟨hsz, hd, hp⟩ := hA
  obtain ⟨u, rfl, hg⟩ := litN hsz hd
  simp only [List.forall_mem_cons, hg] at hp
  obtain ⟨u0, u1, u2, u7, u8, u9, -⟩ := hp
  clear hg hsz hd
  have hmk := make_nums s (by omega)
  rw [made_rowI] at hmk
  unfold y6 LB15 Tryd.f15 seq2 seq1
  simp only [Option.getD_some, lits, Nat.reduceAdd, u0, u1, u2, u7, u8, u9]
  clear u0 u1 u2 u7 u8 u9
  go_wp2_with fail
  first
    | exact ⟨rfl, rfl, by
        intro p hp
        simp only [List.mem_cons, List.not_mem_nil, or_false] at hp
        rcases hp with rfl | rfl | rfl | rfl | rfl <;> rfl⟩
    | exact ⟨⟨rfl, rfl, by
        intro p hp
        simp only [List.mem_cons, List.not_mem_nil, or_false] at hp
        rcases hp with rfl | rfl | rfl | rfl | rfl <;> rfl⟩, rfl⟩
    | exact ⟨⟨rfl, rfl, by
        intro p hp
        simp only [List.mem_cons, List.not_mem_nil, or_false] at hp
        rcases hp with rfl | rfl | rfl | rfl | rfl <;> rfl⟩, rfl, rfl⟩
    | exact ⟨⟨rfl, rfl, by
        intro p hp
        simp only [List.mem_cons, List.not_mem_nil, or_false] at hp
        rcases hp with rfl | rfl | rfl | rfl | rfl <;> rfl⟩, rfl, rfl, rfl⟩
    | exact ⟨⟨rfl, rfl, by
        intro p hp
        simp only [List.mem_cons, List.not_mem_nil, or_false] at hp
        rcases hp with rfl | rfl | rfl | rfl | rfl <;> rfl⟩, rfl, rfl, rfl, rfl⟩
    | exact ⟨⟨rfl, rfl, by
        intro p hp
        simp only [List.mem_cons, List.not_mem_nil, or_false] at hp
        rcases hp with rfl | rfl | rfl | rfl | rfl <;> rfl⟩, rfl, rfl, rfl, rfl, rfl⟩

set_option maxHeartbeats 4000000 in
set_option maxRecDepth 100000 in
theorem y7_wp {v : World} {a : Act} {l1 l2 : Value} {c s ab : Nat}  (hA : Fl 90 [(1, l1), (2, l2), (8, Pt c 0), (9, I (s : Int)), (10, .slice (some ⟨ab, 0, none⟩) s s)] a) : y7.wp Tryd.prog (fun e a' w' => e = .normal ∧ Fl 90 [(1, l1), (2, l2), (8, Pt c 0), (9, I (s : Int)), (10, .slice (some ⟨ab, 0, none⟩) s s), (11, I 0)] a' ∧ w'.heap = v.heap ∧ w'.os = v.os ∧ w'.output = v.output) a v := by
  obtain ⟨hsz, hd, hp⟩ := hA
  obtain ⟨u, rfl, hg⟩ := litN hsz hd
  simp only [List.forall_mem_cons, hg] at hp
  obtain ⟨u1, u2, u8, u9, u10, -⟩ := hp
  clear hg hsz hd
  unfold y7 C15 LB15 Tryd.f15 seq2 seq1
  simp only [Option.getD_some, lits, Nat.reduceAdd, u1, u2, u8, u9, u10]
  clear u1 u2 u8 u9 u10
  go_wp2_with fail
  first
    | exact ⟨rfl, rfl, by
        intro p hp
        simp only [List.mem_cons, List.not_mem_nil, or_false] at hp
        rcases hp with rfl | rfl | rfl | rfl | rfl | rfl <;> rfl⟩
    | exact ⟨⟨rfl, rfl, by
        intro p hp
        simp only [List.mem_cons, List.not_mem_nil, or_false] at hp
        rcases hp with rfl | rfl | rfl | rfl | rfl | rfl <;> rfl⟩, rfl⟩
    | exact ⟨⟨rfl, rfl, by
        intro p hp
        simp only [List.mem_cons, List.not_mem_nil, or_false] at hp
        rcases hp with rfl | rfl | rfl | rfl | rfl | rfl <;> rfl⟩, rfl, rfl⟩
    | exact ⟨⟨rfl, rfl, by
        intro p hp
        simp only [List.mem_cons, List.not_mem_nil, or_false] at hp
        rcases hp with rfl | rfl | rfl | rfl | rfl | rfl <;> rfl⟩, rfl, rfl, rfl⟩
    | exact ⟨⟨rfl, rfl, by
        intro p hp
        simp only [List.mem_cons, List.not_mem_nil, or_false] at hp
        rcases hp with rfl | rfl | rfl | rfl | rfl | rfl <;> rfl⟩, rfl, rfl, rfl, rfl⟩
    | exact ⟨⟨rfl, rfl, by
        intro p hp
        simp only [List.mem_cons, List.not_mem_nil, or_false] at hp
        rcases hp with rfl | rfl | rfl | rfl | rfl | rfl <;> rfl⟩, rfl, rfl, rfl, rfl, rfl⟩

set_option maxHeartbeats 4000000 in
set_option maxRecDepth 100000 in
theorem T15_wp {v : World} {a : Act} (hs : a.tmps.size = 90) (hd : a.defers = []) : T15.wp Tryd.prog (fun e a' w' => e = .ret ∧ a'.tmps.getD 6 undef = .bool true ∧ w'.heap = v.heap ∧ w'.os = v.os ∧ w'.output = v.output) a v := by
  obtain ⟨u, rfl, hg⟩ := litN hs hd
  clear hg hs hd
  unfold T15 LB15 Tryd.f15 seq2
  simp only [Option.getD_some, lits, Nat.reduceAdd]
  go_wp2_with fail

end Go.Proofs.YtcfmffmcammbjaaDoor.Gen

/- The law CounterAlone (15): its calls, a round, its loop, main alone. (Made by wip/tools/mkla15.py.) -/
set_option linter.unusedSimpArgs false
set_option linter.unusedVariables false
namespace Go.Proofs.YtcfmffmcammbjaaDoor.Gen
open Go Go.Lift Go.Conc Go.RowKit

set_option maxHeartbeats 4000000 in
set_option maxRecDepth 100000 in
theorem p14_goes {Ch : Nat → Prop} {Stop : Goroutine → World → Prop} {main : Bool} {v w : World} {a : Act} {l1 l2 : Value} {c s ab i d tb : Nat} {b1 o1 n cap sb cb : Nat} {kb : List Nat} {x y : Int} (hl : l1 = .slice (some ⟨b1, o1, none⟩) n cap) (hin : i < n) (c1 : v.cell? ⟨b1, o1 + i, none⟩ = some (I x)) (hC : Ctr v c sb s kb) (h1 : v.cell? ⟨tb, 1, none⟩ = some (I d)) (hcb : kb[d % s]? = some cb) (hF : R1.Flds v) (m0 : Fm tb cb y v) (cs : List Frame) (kk : List Item) (hvw : Rel zn v w) (hn : NoRow Ch v) (hA : Fl 90 [(1, l1), (2, l2), (8, Pt c 0), (9, I (s : Int)), (10, .slice (some ⟨ab, 0, none⟩) s s), (11, I (i : Int)), (12, I (d : Int)), (13, Pt tb 0)] a)
    (hk : ∀ a' v' w', Rel zn v' w' → NoRow Ch v' → Ftg cb (R1.addI y x) v v' → Fl 90 [(1, l1), (2, l2), (8, Pt c 0), (9, I (s : Int)), (10, .slice (some ⟨ab, 0, none⟩) s s), (11, I (i : Int)), (12, I (d : Int)), (13, Pt tb 0)] a' → GoesI Tryd.prog main (DT (ScZ zn) Ch) Stop (G ((base 15).at a' kk) cs) w') :
    GoesI Tryd.prog main (DT (ScZ zn) Ch) Stop (G ((base 15).at a (.code p14 :: kk)) cs) w := by
  subst hl
  have e0 : w.cell? ⟨b1, o1 + i, none⟩ = some (I x) := by rw [hvw.cell?]; exact c1
  have hin' : (i : Int) < (n : Int) := by omega
  obtain ⟨hsz, hd, hp⟩ := hA
  obtain ⟨u, rfl, hg⟩ := litN hsz hd
  simp only [List.forall_mem_cons, hg] at hp
  obtain ⟨u1, u2, u8, u9, u10, u11, u12, u13, -⟩ := hp
  clear hg hsz hd
  unfold p14 I15 L15 C15 LB15 Tryd.f15 seq2 seq1 blockC loopC
  simp only [Option.getD_some, lits, Nat.reduceAdd, u1, u2, u8, u9, u10, u11, u12, u13]
  clear u1 u2 u8 u9 u10 u11 u12 u13
  refine goesI_region (dt_idle _ _) ?_
  simp only [List.size_toArray, List.length_cons, List.length_nil, Nat.reduceAdd, Nat.zero_add, List.range, List.range.loop]
  iterate 6
    (refine goesI_oper rfl rfl (by decide) (fun d K hK => ?_)
     go_simp
     refine hK _ _ ⟨dt_reads (fun e he => ?_), GoesI.at ?_ d⟩
     · have hm := mem_listed he
       simp [go_sem, *] at hm
       try exact ⟨_, _, hm⟩
     clear hK K)
  refine goesI_into (f := 55) (fn := Tryd.f55) (args := #[Pt c 0, Pt tb 0, I x]) (dt_idle _ _) rfl rfl (by decide) rfl (by simp [Act.eval]) Tryd.func55 (by decide) rfl ?_
  refine fadd x rfl hvw hn hC h1 hcb hF m0 (fun v1 w1 r1 n1 f1 => ?_) _ rfl
  refine goesI_regionEnd (dt_idle _ _) ?_
  exact hk _ v1 w1 r1 n1 f1 ⟨rfl, rfl, by
    intro p hp
    simp only [List.mem_cons, List.not_mem_nil, or_false] at hp
    rcases hp with rfl | rfl | rfl | rfl | rfl | rfl | rfl | rfl <;> rfl⟩

set_option maxHeartbeats 4000000 in
set_option maxRecDepth 100000 in
theorem p21_goes {Ch : Nat → Prop} {Stop : Goroutine → World → Prop} {main : Bool} {v w : World} {a : Act} {l1 l2 : Value} {c s ab i d tb : Nat} {sb : Nat} {kb : List Nat} {xs : List Int} {k : Int} (hC : Fcs v c sb s kb xs) (ht : v.cell? ⟨tb, 0, none⟩ = some (.pointer none)) (hF : R1.Flds v) (cs : List Frame) (kk : List Item) (hvw : Rel zn v w) (hn : NoRow Ch v) (hA : Fl 90 [(1, l1), (2, l2), (8, Pt c 0), (9, I (s : Int)), (10, .slice (some ⟨ab, 0, none⟩) s s), (11, I (i : Int)), (12, I (d : Int)), (13, Pt tb 0), (14, I k)] a)
    (hk : ∀ a' v' w', Rel zn v' w' → NoRow Ch v' → Grows v v' → Fl 90 [(1, l1), (2, l2), (8, Pt c 0), (9, I (s : Int)), (10, .slice (some ⟨ab, 0, none⟩) s s), (11, I (i : Int)), (12, I (d : Int)), (13, Pt tb 0), (14, I k), (16, I (R1.totI xs))] a' → GoesI Tryd.prog main (DT (ScZ zn) Ch) Stop (G ((base 15).at a' kk) cs) w') :
    GoesI Tryd.prog main (DT (ScZ zn) Ch) Stop (G ((base 15).at a (.code p21 :: kk)) cs) w := by
  obtain ⟨hsz, hd, hp⟩ := hA
  obtain ⟨u, rfl, hg⟩ := litN hsz hd
  simp only [List.forall_mem_cons, hg] at hp
  obtain ⟨u1, u2, u8, u9, u10, u11, u12, u13, u14, -⟩ := hp
  clear hg hsz hd
  unfold p21 I15 L15 C15 LB15 Tryd.f15 seq2 seq1 blockC loopC
  simp only [Option.getD_some, lits, Nat.reduceAdd, u1, u2, u8, u9, u10, u11, u12, u13, u14]
  clear u1 u2 u8 u9 u10 u11 u12 u13 u14
  refine goesI_region (dt_idle _ _) ?_
  simp only [List.size_toArray, List.length_cons, List.length_nil, Nat.reduceAdd, Nat.zero_add, List.range, List.range.loop]
  iterate 2
    (refine goesI_oper rfl rfl (by decide) (fun d K hK => ?_)
     go_simp
     refine hK _ _ ⟨dt_reads (fun e he => ?_), GoesI.at ?_ d⟩
     · have hm := mem_listed he
       simp [go_sem, *] at hm
       try exact ⟨_, _, hm⟩
     clear hK K)
  refine goesI_into (f := 57) (fn := Tryd.f57) (args := #[Pt c 0, Pt tb 0]) (dt_idle _ _) rfl rfl (by decide) rfl (by simp [Act.eval]) Tryd.func57 (by decide) rfl ?_
  refine fsum rfl hvw hn hC ht hF (fun v1 w1 r1 n1 f1 => ?_) _ rfl
  iterate 1
    (refine goesI_oper rfl rfl (by decide) (fun d K hK => ?_)
     go_simp
     refine hK _ _ ⟨dt_reads (fun e he => ?_), GoesI.at ?_ d⟩
     · have hm := mem_listed he
       simp [go_sem, *] at hm
       try exact ⟨_, _, hm⟩
     clear hK K)
  refine goesI_regionEnd (dt_idle _ _) ?_
  exact hk _ v1 w1 r1 n1 f1 ⟨rfl, rfl, by
    intro p hp
    simp only [List.mem_cons, List.not_mem_nil, or_false] at hp
    rcases hp with rfl | rfl | rfl | rfl | rfl | rfl | rfl | rfl | rfl | rfl <;> rfl⟩

theorem Fcs.keep {v v' : World} {c sb s : Nat} {kb : List Nat} {xs : List Int} (h : Fcs v c sb s kb xs) (hs : ∀ b, b = c ∨ b = sb ∨ b ∈ kb → v'.heap[b]? = v.heap[b]?) : Fcs v' c sb s kb xs := by
  refine ⟨⟨?_, fun j hj => ?_, h.ctr.s0, h.ctr.s1⟩, h.len, h.klen, fun j cb x hc hx => ?_, h.nd, h.csb, h.ckb⟩
  · rw [World.cell?_of_block (w := v) (w' := v') (hs c (.inl rfl))]; exact h.ctr.row
  · obtain ⟨cb, e1, e2⟩ := h.ctr.cel j hj
    exact ⟨cb, e1, by rw [World.cell?_of_block (w := v) (w' := v') (hs sb (.inr (.inl rfl)))]; exact e2⟩
  · rw [hs cb (.inr (.inr (List.mem_of_getElem? hc)))]; exact h.cel j cb x hc hx
theorem Fcs.ftg {v v' : World} {c sb s cb j : Nat} {kb : List Nat} {xs : List Int} {y : Int} (h : Fcs v c sb s kb xs) (hj : kb[j]? = some cb) (f : Ftg cb y v v') : Fcs v' c sb s kb (xs.set j y) := by
  obtain ⟨l1, l2, l3⟩ := h.lt
  obtain ⟨n1, n2⟩ := h.ckb cb (List.mem_of_getElem? hj)
  refine ⟨⟨?_, fun j hj => ?_, h.ctr.s0, h.ctr.s1⟩, by rw [List.length_set]; exact h.len, h.klen, fun j' cb' x hc hx => ?_, h.nd, h.csb, h.ckb⟩
  · rw [World.cell?_of_block (w := v) (w' := v') (f.old c l1 (Ne.symm n1))]; exact h.ctr.row
  · obtain ⟨cb, e1, e2⟩ := h.ctr.cel j hj
    exact ⟨cb, e1, by rw [World.cell?_of_block (w := v) (w' := v') (f.old sb l2 (Ne.symm n2))]; exact e2⟩
  · rw [List.getElem?_set] at hx
    by_cases e : j = j'
    · subst e
      rw [if_pos rfl] at hx
      split at hx
      · cases hx
        rw [hj] at hc
        cases hc
        exact f.cel
      · cases hx
    · rw [if_neg e] at hx
      have hne : cb' ≠ cb := fun e2 => by
        subst e2
        exact e ((List.getElem?_inj (List.getElem?_eq_some_iff.1 hj).1 h.nd).1 (hj.trans hc.symm))
      rw [f.old cb' (l3 cb' (List.mem_of_getElem? hc)) hne]
      exact h.cel j' cb' x hc hx
/-- The law's memory. -/
structure M15 (u0 : World) (c sb s ab : Nat) (kb : List Nat) (xs : List Int) (v : World) : Prop where
  fcs : Fcs v c sb s kb xs
  am : v.heap[ab]? = some (rowI (xs.map R1.amtS))
  abn : ab ≠ c ∧ ab ≠ sb ∧ ab ∉ kb
  bl : Bl u0.heap.size u0 v
  lo : u0.heap.size ≤ c ∧ u0.heap.size ≤ sb ∧ u0.heap.size ≤ ab ∧ ∀ cb ∈ kb, u0.heap.size ≤ cb
section
variable {u0 v v' v3 v4 v5 : World} {c sb s ab cb j : Nat} {kb : List Nat} {xs : List Int} {x y : Int}
theorem M15.ablt (h : M15 u0 c sb s ab kb xs v) : ab < v.heap.size := (Array.getElem?_eq_some_iff.1 h.am).1
theorem M15.grows (h : M15 u0 c sb s ab kb xs v) (g : Grows v v') : M15 u0 c sb s ab kb xs v' :=
  ⟨h.fcs.bl ⟨g.old, g.size, g.os, g.output⟩, by rw [g.old ab h.ablt]; exact h.am, h.abn, h.bl.trans (Grows.bl g h.bl.size), h.lo⟩
theorem M15.same (h : M15 u0 c sb s ab kb xs v) (e : v'.heap = v.heap) (e1 : v'.os = v.os) (e2 : v'.output = v.output) : M15 u0 c sb s ab kb xs v' :=
  h.grows ⟨by rw [e]; exact Nat.le_refl _, fun b _ => by rw [e], e1, e2⟩
theorem M15.am4 (h : M15 u0 c sb s ab kb xs v3) (hj : kb[j]? = some cb) (f : Ftg cb (R1.addI y x) v3 v4) : v4.heap[ab]? = some (rowI (xs.map R1.amtS)) := by
  rw [f.old ab h.ablt (fun e => h.abn.2.2 (e ▸ List.mem_of_getElem? hj))]; exact h.am
theorem M15.bl4 (h : M15 u0 c sb s ab kb xs v3) (hj : kb[j]? = some cb) (f : Ftg cb (R1.addI y x) v3 v4) : Bl u0.heap.size u0 v4 :=
  h.bl.trans ⟨fun b hb => f.old b (by have := h.bl.size; omega) (fun e => by have := h.lo.2.2.2 cb (List.mem_of_getElem? hj); omega), f.size, f.os, f.out⟩
theorem M15.next (h : M15 u0 c sb s ab kb xs v3) (hj : kb[j]? = some cb) (hy : xs[j]? = some y) (f : Ftg cb (R1.addI y x) v3 v4) (e5 : v5.heap = (v4.setCell ⟨ab, j, none⟩ (I (R1.wr56 (wrap64 (R1.amtS y + x.tmod 4294967296))))).heap) (o5 : v5.os = v4.os) (u5 : v5.output = v4.output) : M15 u0 c sb s ab kb (xs.set j (R1.addI y x)) v5 := by
  have oth : ∀ b, b ≠ ab → v5.heap[b]? = v4.heap[b]? := fun b hb => by rw [e5]; exact Below.heap_setCell _ _ _ _ hb
  refine ⟨(h.fcs.ftg hj f).keep (fun b hb => oth b (fun e => ?_)), ?_, h.abn, (h.bl4 hj f).trans ⟨fun b hb => oth b (by have := h.lo.2.2.1; omega), by rw [e5]; simp [World.setCell], o5, u5⟩, h.lo⟩
  · subst e
    rcases hb with e | e | e
    · exact h.abn.1 e
    · exact h.abn.2.1 e
    · exact h.abn.2.2 e
  · rw [e5, R1.amtS_add, rowI_set (h.am4 hj f) j, List.map_set]
end
/-- The numbers lie there. -/
def InN (w : World) (lb lo : Nat) (xs : List Int) : Prop := ∀ (k : Nat) (c : Int), xs[k]? = some c → w.cell? ⟨lb, lo + k, none⟩ = some (I c)
theorem InN.bl {v v' : World} {lb lo : Nat} {xs : List Int} (h : InN v lb lo xs) (g : Bl v.heap.size v v') : InN v' lb lo xs := fun k c hc => g.cell (World.block_lt_of_cell? _ _ (h k c hc)) (h k c hc)
theorem flds_bl {v v' : World} (h : R1.Flds v) (g : Bl v.heap.size v v') : R1.Flds v' := h.of fun a x ha => by
  rw [World.cell?_of_block (w := v) (w' := v') (g.old _ (World.block_lt_of_cell? _ _ ha))]; exact ha

section
variable {Ch : Nat → Prop} {Stop : Goroutine → World → Prop} {main : Bool} {v w : World} {a : Act} {u0 : World} {c sb s ab i : Nat} {kb : List Nat} {xs : List Int} {b1 o1 n1 cap1 b2 o2 n2 cap2 : Nat} {p2 : Option Addr} {ad wh : List Int}
set_option maxHeartbeats 4000000 in
set_option maxRecDepth 100000 in
/-- A round. -/
theorem round15 (hF : R1.Flds u0) (hl1 : ad.length = n1) (hI1 : InN u0 b1 o1 ad) (hp2 : 0 < n2 → p2 = some ⟨b2, o2, none⟩) (hl2 : wh.length = n2) (hI2 : InN u0 b2 o2 wh) (hin : i < n1) (hM : M15 u0 c sb s ab kb xs v) (cs : List Frame) (kk : List Item) (hvw : Rel zn v w) (hn : NoRow Ch v) (hA : Fl 90 [(1, .slice (some ⟨b1, o1, none⟩) n1 cap1), (2, .slice p2 n2 cap2), (8, Pt c 0), (9, I (s : Int)), (10, .slice (some ⟨ab, 0, none⟩) s s), (11, I (i : Int))] a)
    (hK : ∀ a' v' w' xs', Rel zn v' w' → NoRow Ch v' → M15 u0 c sb s ab kb xs' v' → Fl 90 [(1, .slice (some ⟨b1, o1, none⟩) n1 cap1), (2, .slice p2 n2 cap2), (8, Pt c 0), (9, I (s : Int)), (10, .slice (some ⟨ab, 0, none⟩) s s), (11, I (i : Int))] a' → GoesI Tryd.prog main (DT (ScZ zn) Ch) Stop (G ((base 15).at a' kk) cs) w') :
    GoesI Tryd.prog main (DT (ScZ zn) Ch) Stop (G ((base 15).at a (.code I15 :: .inBlock 1 :: kk)) cs) w := by
  generalize hq1 : Value.slice (some ⟨b1, o1, none⟩) n1 cap1 = l1 at hA hK
  generalize hq2 : Value.slice p2 n2 cap2 = l2 at hA hK
  obtain ⟨x, hx⟩ : ∃ x, ad[i]? = some x := ⟨_, List.getElem?_eq_getElem (by omega)⟩
  rw [eI15]
  refine goesI_seq (dt_idle _ _) ?_
  refine goesI_plain (z := zn) (wr := true) (L := LV) (I := NoRow Ch) hE fineV noRow_keeps (fun v v' w w' es hi hr ho he => dt_of_z v v' w w' es hi hr ho he) hvw fine_p10 hA.2.1 (by simp [base]) hn (Q := fun a w' => Fl 90 [(1, l1), (2, l2), (8, Pt c 0), (9, I (s : Int)), (10, .slice (some ⟨ab, 0, none⟩) s s), (11, I (i : Int)), (12, I 0)] a ∧ w'.heap = v.heap ∧ w'.os = v.os ∧ w'.output = v.output) (fun τ => p10_wp (v := onTape v τ 0) hA) ?_
  rintro a1 v1 w1 ⟨hA1, e1, q1, z1⟩ hr1 hn1 -
  have hM1 := hM.same e1 q1 z1
  refine goesI_seq (dt_idle _ _) ?_
  refine goesI_plain (z := zn) (wr := true) (L := LV) (I := NoRow Ch) hE fineV noRow_keeps (fun v v' w w' es hi hr ho he => dt_of_z v v' w w' es hi hr ho he) hr1 fine_p11 hA1.2.1 (by simp [base]) hn1 (Q := fun a w' => ∃ d : Nat, Fl 90 [(1, l1), (2, l2), (8, Pt c 0), (9, I (s : Int)), (10, .slice (some ⟨ab, 0, none⟩) s s), (11, I (i : Int)), (12, I (d : Int))] a ∧ w'.heap = v1.heap ∧ w'.os = v1.os ∧ w'.output = v1.output) (fun τ => ?_) ?_
  · by_cases hi : i < n2
    · obtain ⟨y, hy⟩ : ∃ y, wh[i]? = some y := ⟨_, List.getElem?_eq_getElem (by omega)⟩
      obtain ⟨d, hd⟩ := R1.and255 y
      have h2 : (onTape v1 τ 0).cell? ⟨b2, o2 + i, none⟩ = some (I y) := (hI2.bl hM1.bl) i y hy
      have := p11_wpy (v := onTape v1 τ 0) (x := y) (by rw [← hq2, hp2 (by omega)]) hi h2 hA1
      rw [hd] at this
      exact wp_mono this fun e a w hq => ⟨hq.1, d, hq.2⟩
    · exact wp_mono (p11_wpn (v := onTape v1 τ 0) hq2.symm hi hA1) fun e a w hq => ⟨hq.1, 0, hq.2⟩
  rintro a2 v2 w2 ⟨d, hA2, e2, q2, z2⟩ hr2 hn2 -
  have hM2 := hM1.same e2 q2 z2
  refine goesI_seq (dt_idle _ _) ?_
  refine goesI_plain (z := zn) (wr := true) (L := LV) (I := NoRow Ch) hE fineV noRow_keeps (fun v v' w w' es hi hr ho he => dt_of_z v v' w w' es hi hr ho he) hr2 fine_p13 hA2.2.1 (by simp [base]) hn2 (Q := fun a w' => Fl 90 [(1, l1), (2, l2), (8, Pt c 0), (9, I (s : Int)), (10, .slice (some ⟨ab, 0, none⟩) s s), (11, I (i : Int)), (12, I (d : Int)), (13, Pt v2.heap.size 0)] a ∧ w'.heap = v2.heap.push (.cells #[.pointer none, I (d : Int), .chan none, I 0, I 0, I 0, I 0] 107) ∧ w'.os = v2.os ∧ w'.output = v2.output) (fun τ => p13_wp (v := onTape v2 τ 0) hA2) ?_
  rintro a3 v3 w3 ⟨hA3, e3, q3, z3⟩ hr3 hn3 -
  have g3 : Grows v2 v3 := ⟨by rw [e3]; simp, fun b hb => by rw [e3, Array.getElem?_push, if_neg (by omega)], q3, z3⟩
  have hM3 := hM2.grows g3
  have hb3 : v3.heap[v2.heap.size]? = some (.cells #[.pointer none, I (d : Int), .chan none, I 0, I 0, I 0, I 0] 107 (0, 0)) := by rw [e3, Array.getElem?_push_size]
  have ht0 : v3.cell? ⟨v2.heap.size, 0, none⟩ = some (.pointer none) := cell_of hb3 rfl
  have ht1 : v3.cell? ⟨v2.heap.size, 1, none⟩ = some (I (d : Int)) := cell_of hb3 rfl
  have hs0 := hM3.fcs.ctr.s0
  have hjs : d % s < s := Nat.mod_lt _ hs0
  obtain ⟨cb, hcb⟩ : ∃ cb, kb[d % s]? = some cb := ⟨_, List.getElem?_eq_getElem (by rw [hM3.fcs.klen]; exact hjs)⟩
  obtain ⟨y, hy⟩ : ∃ y, xs[d % s]? = some y := ⟨_, List.getElem?_eq_getElem (by rw [hM3.fcs.len]; exact hjs)⟩
  have m3 : Fm v2.heap.size cb y v3 := hM3.fcs.fm hcb hy ht0
  refine goesI_seq (dt_idle _ _) ?_
  refine p14_goes hq1.symm hin ((hI1.bl hM3.bl) i x hx) hM3.fcs.ctr ht1 hcb (flds_bl hF hM3.bl) m3 cs _ hr3 hn3 hA3 (fun a4 v4 w4 hr4 hn4 f4 hA4 => ?_)
  have htl : v2.heap.size < v3.heap.size := by rw [e3]; simp
  have ht4 : v4.cell? ⟨v2.heap.size, 0, none⟩ = some (.pointer none) := by rw [World.cell?_of_block (w := v3) (w' := v4) (f4.old _ htl m3.ne)]; exact ht0
  refine goesI_seq (dt_idle _ _) ?_
  refine goesI_plain (z := zn) (wr := true) (L := LV) (I := NoRow Ch) hE fineV noRow_keeps (fun v v' w w' es hi hr ho he => dt_of_z v v' w w' es hi hr ho he) hr4 fine_p15 hA4.2.1 (by simp [base]) hn4 (Q := fun a w' => Fl 90 [(1, l1), (2, l2), (8, Pt c 0), (9, I (s : Int)), (10, .slice (some ⟨ab, 0, none⟩) s s), (11, I (i : Int)), (12, I (d : Int)), (13, Pt v2.heap.size 0)] a ∧ w'.heap = (v4.setCell ⟨ab, d % s, none⟩ (I (R1.wr56 (wrap64 (R1.amtS y + x.tmod 4294967296))))).heap ∧ w'.os = v4.os ∧ w'.output = v4.output) (fun τ => wp_nrm (p15_wp0 (v := onTape v4 τ 0) hq1.symm hin hs0 rfl ((hI1.bl (hM3.bl4 hcb f4)) i x hx) (rowI_cell (v := v4) (hM3.am4 hcb f4) (by rw [List.getElem?_map, hy]; rfl)) (rowI_froz (v := v4) (hM3.am4 hcb f4) _) hA4)) ?_
  rintro a5 v5 w5 ⟨hA5, e5, q5, z5⟩ hr5 hn5 -
  have hM5 := hM3.next hcb hy f4 e5 q5 z5
  have ht5 : v5.cell? ⟨v2.heap.size, 0, none⟩ = some (.pointer none) := by
    rw [World.cell?_of_block (w := v4) (w' := v5) (by rw [e5]; exact Below.heap_setCell _ _ _ _ (by have := hM2.ablt; simp only; omega))]; exact ht4
  generalize xs.set (d % s) (R1.addI y x) = xs' at hM5
  refine goesI_seq (dt_idle _ _) ?_
  refine goesI_plain (z := zn) (wr := true) (L := LV) (I := NoRow Ch) hE fineV noRow_keeps (fun v v' w w' es hi hr ho he => dt_of_z v v' w w' es hi hr ho he) hr5 fine_p16 hA5.2.1 (by simp [base]) hn5 (Q := fun a w' => Fl 90 [(1, l1), (2, l2), (8, Pt c 0), (9, I (s : Int)), (10, .slice (some ⟨ab, 0, none⟩) s s), (11, I (i : Int)), (12, I (d : Int)), (13, Pt v2.heap.size 0), (14, I 0)] a ∧ w'.heap = v5.heap ∧ w'.os = v5.os ∧ w'.output = v5.output) (fun τ => p16_wp (v := onTape v5 τ 0) hA5) ?_
  rintro a6 v6 w6 ⟨hA6, e6, q6, z6⟩ hr6 hn6 -
  have hM6 := hM5.same e6 q6 z6
  refine goesI_seq (dt_idle _ _) ?_
  refine goesI_plain (z := zn) (wr := true) (L := LV) (I := NoRow Ch) hE fineV noRow_keeps (fun v v' w w' es hi hr ho he => dt_of_z v v' w w' es hi hr ho he) hr6 fine_p17 hA6.2.1 (by simp [base]) hn6 (Q := fun a w' => Fl 90 [(1, l1), (2, l2), (8, Pt c 0), (9, I (s : Int)), (10, .slice (some ⟨ab, 0, none⟩) s s), (11, I (i : Int)), (12, I (d : Int)), (13, Pt v2.heap.size 0), (14, I (R1.totI xs'))] a ∧ w'.heap = v6.heap ∧ w'.os = v6.os ∧ w'.output = v6.output) (fun τ => ?_) ?_
  · have := wp_nrm (p17_wp0 (v := onTape v6 τ 0) hM6.am (by rw [List.length_map]; exact hM6.fcs.len) hM6.fcs.ctr.s1 hA6)
    rw [totA_map] at this
    exact this
  rintro a7 v7 w7 ⟨hA7, e7, q7, z7⟩ hr7 hn7 -
  have hM7 := hM6.same e7 q7 z7
  refine goesI_seq (dt_idle _ _) ?_
  refine p21_goes hM7.fcs (by rw [World.cell?_of_block (w := v5) (w' := v7) (by rw [e7, e6])]; exact ht5) (flds_bl hF hM7.bl) cs _ hr7 hn7 hA7 (fun a8 v8 w8 hr8 hn8 g8 hA8 => ?_)
  have hM8 := hM7.grows g8
  refine goesI_plain (z := zn) (wr := true) (L := LV) (I := NoRow Ch) hE fineV noRow_keeps (fun v v' w w' es hi hr ho he => dt_of_z v v' w w' es hi hr ho he) hr8 fine_p22 hA8.2.1 (by simp [base]) hn8 (Q := fun a w' => Fl 90 [(1, l1), (2, l2), (8, Pt c 0), (9, I (s : Int)), (10, .slice (some ⟨ab, 0, none⟩) s s), (11, I (i : Int))] a ∧ w'.heap = v8.heap ∧ w'.os = v8.os ∧ w'.output = v8.output) (fun τ => p22_wp (v := onTape v8 τ 0) hA8) ?_
  rintro a9 v9 w9 ⟨hA9, e9, q9, z9⟩ hr9 hn9 -
  refine goesI_inBlock (dt_idle _ _) ?_
  exact hK a9 v9 w9 xs' hr9 hn9 (hM8.same e9 q9 z9) hA9
end
end Go.Proofs.YtcfmffmcammbjaaDoor.Gen
