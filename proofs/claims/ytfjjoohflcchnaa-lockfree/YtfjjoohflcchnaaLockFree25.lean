/- LockFree is true of the program at this commit: by one free thread alone, of two locks of no world, Lock, Try and Unlock answer as two numbers each say, whatever the calls; no conditions. Part 25 of 30. (Joined, by program, of: Fr9b, Store.) -/
import Derived.Test.YtfjjoohflcchnaaLockFree08
import Derived.Test.YtfjjoohflcchnaaLockFree24
set_option linter.unusedSimpArgs false
set_option linter.unusedVariables false
namespace Go.Proofs.Ytfjjoohflcchnaa.Gen
open Go Go.Lift Go.Conc Go.RowKit

set_option maxHeartbeats 4000000 in
set_option maxRecDepth 100000 in
theorem q21_goes {Ch : Nat → Prop} {Stop : Goroutine → World → Prop} {main : Bool} {v w : World} {a : Act} {lst e10 : Value} {tb la lc N W i l c0 c1 : Nat} {x y : Int} (hxy : wrap64 (wrap64 (x + 1) - 1) = y) (h0 : v.cell? ⟨l, 0, none⟩ = some (Pt c0 0)) (h1 : v.cell? ⟨l, 1, none⟩ = some (Pt c1 0)) (m0 : Fm tb c0 x v) (m1 : Fm tb c1 y v) (hne : c1 ≠ c0) (hlb : l ≠ c0) (cs : List Frame) (kk : List Item) (hvw : Rel zn v w) (hn : NoRow Ch v) (hA : A9 lst tb la lc N W i a) (h10 : a.tmps.getD 10 undef = e10) (h11 : a.tmps.getD 11 undef = Pt l 0)
    (hk : ∀ a' v' w', Rel zn v' w' → NoRow Ch v' → Fto tb c0 (wrap64 (x + 1)) v v' → A9 lst tb la lc N W i a' → a'.tmps.getD 10 undef = e10 → a'.tmps.getD 12 undef = .bool true → GoesI Try.prog main (DT (ScZ zn) Ch) Stop (G ((base 9).at a' kk) cs) w') :
    GoesI Try.prog main (DT (ScZ zn) Ch) Stop (G ((base 9).at a (.code q21 :: kk)) cs) w := by
  obtain ⟨u, rfl, hg⟩ := litN hA.size hA.defers
  have u0 := (hg 0).symm.trans hA.t0
  have u4 := (hg 4).symm.trans hA.t4
  have u5 := (hg 5).symm.trans hA.t5
  have u6 := (hg 6).symm.trans hA.t6
  have u7 := (hg 7).symm.trans hA.t7
  have u8 := (hg 8).symm.trans hA.t8
  have u9 := (hg 9).symm.trans hA.t9
  have u10 := (hg 10).symm.trans h10
  have u11 := (hg 11).symm.trans h11
  clear hg hA h10 h11
  unfold q21 K1 S9 I9 L9 C9 B9 Try.f9 seq2 seq1 blockC loopC condA
  simp only [Option.getD_some, lits, Nat.reduceAdd, u0, u4, u5, u6, u7, u8, u9, u10, u11]
  clear u0 u4 u5 u6 u7 u8 u9 u10 u11
  refine goesI_region (dt_idle _ _) ?_
  simp only [List.size_toArray, List.length_cons, List.length_nil, Nat.reduceAdd, Nat.zero_add, List.range, List.range.loop]
  iterate 2
    (refine goesI_oper rfl rfl (by decide) (fun d K hK => ?_)
     go_simp
     refine hK _ _ ⟨dt_reads (fun e he => ?_), GoesI.at ?_ d⟩
     · have hm := mem_listed he
       simp [go_sem, *] at hm
       try exact ⟨_, _, hm⟩
     clear hK K)
  refine goesI_into (f := 38) (fn := Try.f38) (args := #[Pt l 0, Pt tb 0]) (dt_idle _ _) rfl rfl (by decide) rfl (by simp [Act.eval]) Try.func38 (by decide) rfl ?_
  refine flock hxy rfl hvw hn h0 h1 m0 m1 hne hlb (fun v1 w1 r1 n1 f1 => ?_) _ rfl
  iterate 1
    (refine goesI_oper rfl rfl (by decide) (fun d K hK => ?_)
     go_simp
     refine hK _ _ ⟨dt_reads (fun e he => ?_), GoesI.at ?_ d⟩
     · have hm := mem_listed he
       simp [go_sem, *] at hm
       try exact ⟨_, _, hm⟩
     clear hK K)
  refine goesI_regionEnd (dt_idle _ _) ?_
  exact hk _ v1 w1 r1 n1 f1 ⟨rfl, rfl, rfl, rfl, rfl, rfl, rfl, rfl, rfl⟩ rfl rfl

set_option maxHeartbeats 4000000 in
set_option maxRecDepth 100000 in
theorem q26_goes {Ch : Nat → Prop} {Stop : Goroutine → World → Prop} {main : Bool} {v w : World} {a : Act} {lst e10 : Value} {tb la lc N W i l c0 c1 : Nat} {x y : Int} (h0 : v.cell? ⟨l, 0, none⟩ = some (Pt c0 0)) (h1 : v.cell? ⟨l, 1, none⟩ = some (Pt c1 0)) (m0 : Fm tb c0 x v) (m1 : Fm tb c1 y v)  (cs : List Frame) (kk : List Item) (hvw : Rel zn v w) (hn : NoRow Ch v) (hA : A9 lst tb la lc N W i a) (h10 : a.tmps.getD 10 undef = e10) (h11 : a.tmps.getD 11 undef = Pt l 0)
    (hk : ∀ a' v' w', Rel zn v' w' → NoRow Ch v' → Fto tb c0 (if x = y then wrap64 (y + 1) else x) v v' → A9 lst tb la lc N W i a' → a'.tmps.getD 10 undef = e10 → a'.tmps.getD 13 undef = .bool (decide (x = y)) → GoesI Try.prog main (DT (ScZ zn) Ch) Stop (G ((base 9).at a' kk) cs) w') :
    GoesI Try.prog main (DT (ScZ zn) Ch) Stop (G ((base 9).at a (.code q26 :: kk)) cs) w := by
  obtain ⟨u, rfl, hg⟩ := litN hA.size hA.defers
  have u0 := (hg 0).symm.trans hA.t0
  have u4 := (hg 4).symm.trans hA.t4
  have u5 := (hg 5).symm.trans hA.t5
  have u6 := (hg 6).symm.trans hA.t6
  have u7 := (hg 7).symm.trans hA.t7
  have u8 := (hg 8).symm.trans hA.t8
  have u9 := (hg 9).symm.trans hA.t9
  have u10 := (hg 10).symm.trans h10
  have u11 := (hg 11).symm.trans h11
  clear hg hA h10 h11
  unfold q26 K2 D9 S9 I9 L9 C9 B9 Try.f9 seq2 seq1 blockC loopC condA condB
  simp only [Option.getD_some, lits, Nat.reduceAdd, u0, u4, u5, u6, u7, u8, u9, u10, u11]
  clear u0 u4 u5 u6 u7 u8 u9 u10 u11
  refine goesI_region (dt_idle _ _) ?_
  simp only [List.size_toArray, List.length_cons, List.length_nil, Nat.reduceAdd, Nat.zero_add, List.range, List.range.loop]
  iterate 2
    (refine goesI_oper rfl rfl (by decide) (fun d K hK => ?_)
     go_simp
     refine hK _ _ ⟨dt_reads (fun e he => ?_), GoesI.at ?_ d⟩
     · have hm := mem_listed he
       simp [go_sem, *] at hm
       try exact ⟨_, _, hm⟩
     clear hK K)
  refine goesI_into (f := 39) (fn := Try.f39) (args := #[Pt l 0, Pt tb 0]) (dt_idle _ _) rfl rfl (by decide) rfl (by simp [Act.eval]) Try.func39 (by decide) rfl ?_
  refine ftry rfl hvw hn h0 h1 m0 m1 (fun v1 w1 r1 n1 f1 => ?_) _ rfl
  iterate 1
    (refine goesI_oper rfl rfl (by decide) (fun d K hK => ?_)
     go_simp
     refine hK _ _ ⟨dt_reads (fun e he => ?_), GoesI.at ?_ d⟩
     · have hm := mem_listed he
       simp [go_sem, *] at hm
       try exact ⟨_, _, hm⟩
     clear hK K)
  refine goesI_regionEnd (dt_idle _ _) ?_
  exact hk _ v1 w1 r1 n1 f1 ⟨rfl, rfl, rfl, rfl, rfl, rfl, rfl, rfl, rfl⟩ rfl rfl

set_option maxHeartbeats 4000000 in
set_option maxRecDepth 100000 in
theorem q17_goes {Ch : Nat → Prop} {Stop : Goroutine → World → Prop} {main : Bool} {v w : World} {a : Act} {lst e10 : Value} {tb la lc N W i l c0 c1 : Nat} {x y : Int} (h1 : v.cell? ⟨l, 1, none⟩ = some (Pt c1 0)) (m1 : Fm tb c1 y v)  (cs : List Frame) (kk : List Item) (hvw : Rel zn v w) (hn : NoRow Ch v) (hA : A9 lst tb la lc N W i a) (h10 : a.tmps.getD 10 undef = e10) (h11 : a.tmps.getD 11 undef = Pt l 0)
    (hk : ∀ a' v' w', Rel zn v' w' → NoRow Ch v' → Fto tb c1 (wrap64 (y + 1)) v v' → A9 lst tb la lc N W i a' → a'.tmps.getD 10 undef = e10 → GoesI Try.prog main (DT (ScZ zn) Ch) Stop (G ((base 9).at a' kk) cs) w') :
    GoesI Try.prog main (DT (ScZ zn) Ch) Stop (G ((base 9).at a (.code q17 :: kk)) cs) w := by
  obtain ⟨u, rfl, hg⟩ := litN hA.size hA.defers
  have u0 := (hg 0).symm.trans hA.t0
  have u4 := (hg 4).symm.trans hA.t4
  have u5 := (hg 5).symm.trans hA.t5
  have u6 := (hg 6).symm.trans hA.t6
  have u7 := (hg 7).symm.trans hA.t7
  have u8 := (hg 8).symm.trans hA.t8
  have u9 := (hg 9).symm.trans hA.t9
  have u10 := (hg 10).symm.trans h10
  have u11 := (hg 11).symm.trans h11
  clear hg hA h10 h11
  unfold q17 K3 D9 S9 I9 L9 C9 B9 Try.f9 seq2 seq1 blockC loopC condB
  simp only [Option.getD_some, lits, Nat.reduceAdd, u0, u4, u5, u6, u7, u8, u9, u10, u11]
  clear u0 u4 u5 u6 u7 u8 u9 u10 u11
  refine goesI_region (dt_idle _ _) ?_
  simp only [List.size_toArray, List.length_cons, List.length_nil, Nat.reduceAdd, Nat.zero_add, List.range, List.range.loop]
  iterate 2
    (refine goesI_oper rfl rfl (by decide) (fun d K hK => ?_)
     go_simp
     refine hK _ _ ⟨dt_reads (fun e he => ?_), GoesI.at ?_ d⟩
     · have hm := mem_listed he
       simp [go_sem, *] at hm
       try exact ⟨_, _, hm⟩
     clear hK K)
  refine goesI_into (f := 40) (fn := Try.f40) (args := #[Pt l 0, Pt tb 0]) (dt_idle _ _) rfl rfl (by decide) rfl (by simp [Act.eval]) Try.func40 (by decide) rfl ?_
  refine funlock rfl hvw hn h1 m1 (fun v1 w1 r1 n1 f1 => ?_) _ rfl
  refine goesI_regionEnd (dt_idle _ _) ?_
  exact hk _ v1 w1 r1 n1 f1 ⟨rfl, rfl, rfl, rfl, rfl, rfl, rfl, rfl, rfl⟩ rfl

/-- Two locks of no world, a free thread, and two rows of numbers. -/
structure M9 (tb : Nat) (lk c0 c1 : Nat → Nat) (N W : Nat) (x y xs ys : Nat → Int) (v : World) : Prop where
  lok : ∀ k, k = 0 ∨ k = 1 → v.heap[lk k]? = some (.cells #[Pt (c0 k) 0, Pt (c1 k) 0] 104)
  f0 : ∀ k, k = 0 ∨ k = 1 → Fm tb (c0 k) (x k) v
  f1 : ∀ k, k = 0 ∨ k = 1 → Fm tb (c1 k) (y k) v
  nx : v.heap[N]? = some (.cells #[I (xs 0), I (xs 1)] 3)
  nw : v.heap[W]? = some (.cells #[I (ys 0), I (ys 1)] 3)
structure Apt (c0 c1 : Nat → Nat) (N W : Nat) : Prop where
  a0 : c0 0 ≠ c0 1
  a1 : c1 0 ≠ c1 1
  a2 : ∀ j k, c0 j ≠ c1 k
  a3 : N ≠ W
def up (f : Nat → Int) (k : Nat) (z : Int) : Nat → Int := fun j => if j = k then z else f j
theorem up_at (f : Nat → Int) (k : Nat) (z : Int) : up f k z k = z := by unfold up; rw [if_pos rfl]
theorem up_ne (f : Nat → Int) {k j : Nat} (z : Int) (h : j ≠ k) : up f k z j = f j := by unfold up; rw [if_neg h]
section
variable {tb : Nat} {lk c0 c1 : Nat → Nat} {N W : Nat} {x y xs ys : Nat → Int} {v v' : World}
theorem M9.same (h : M9 tb lk c0 c1 N W x y xs ys v) (e : v'.heap = v.heap) : M9 tb lk c0 c1 N W x y xs ys v' :=
  ⟨fun k hk => by rw [e]; exact h.lok k hk, fun k hk => (h.f0 k hk).same e, fun k hk => (h.f1 k hk).same e, by rw [e]; exact h.nx, by rw [e]; exact h.nw⟩
theorem M9.cells (h : M9 tb lk c0 c1 N W x y xs ys v) : (v.cell? ⟨N, 0, none⟩ = some (I (xs 0)) ∧ v.cell? ⟨N, 1, none⟩ = some (I (xs 1))) ∧ v.cell? ⟨W, 0, none⟩ = some (I (ys 0)) ∧ v.cell? ⟨W, 1, none⟩ = some (I (ys 1)) :=
  ⟨⟨cell_of h.nx rfl, cell_of h.nx rfl⟩, cell_of h.nw rfl, cell_of h.nw rfl⟩
theorem M9.fz (h : M9 tb lk c0 c1 N W x y xs ys v) {k : Nat} (hk : k = 0 ∨ k = 1) : v.frozen? ⟨N, k, none⟩ = false ∧ v.frozen? ⟨W, k, none⟩ = false := by
  constructor
  · unfold World.frozen?
    rw [show v.heap[N]? = _ from h.nx]
    rcases hk with rfl | rfl <;> rfl
  · unfold World.frozen?
    rw [show v.heap[W]? = _ from h.nw]
    rcases hk with rfl | rfl <;> rfl
theorem M9.lkne (h : M9 tb lk c0 c1 N W x y xs ys v) {j k : Nat} (hj : j = 0 ∨ j = 1) (hk : k = 0 ∨ k = 1) : lk j ≠ c0 k ∧ lk j ≠ c1 k := by
  constructor <;> intro e
  · have h1 := h.lok j hj
    rw [e, (h.f0 k hk).cel] at h1
    simp at h1
  · have h1 := h.lok j hj
    rw [e, (h.f1 k hk).cel] at h1
    simp at h1
theorem M9.nwne (h : M9 tb lk c0 c1 N W x y xs ys v) {k : Nat} (hk : k = 0 ∨ k = 1) : N ≠ c0 k ∧ N ≠ c1 k ∧ W ≠ c0 k ∧ W ≠ c1 k := by
  refine ⟨fun e => ?_, fun e => ?_, fun e => ?_, fun e => ?_⟩
  · have h1 := h.nx
    rw [e, (h.f0 k hk).cel] at h1
    simp at h1
  · have h1 := h.nx
    rw [e, (h.f1 k hk).cel] at h1
    simp at h1
  · have h1 := h.nw
    rw [e, (h.f0 k hk).cel] at h1
    simp at h1
  · have h1 := h.nw
    rw [e, (h.f1 k hk).cel] at h1
    simp at h1
theorem M9.add0 (h : M9 tb lk c0 c1 N W x y xs ys v) (p : Apt c0 c1 N W) {k : Nat} (hk : k = 0 ∨ k = 1) {z : Int} (f : Fto tb (c0 k) z v v') : M9 tb lk c0 c1 N W (up x k z) y xs ys v' := by
  have q := h.nwne hk
  refine ⟨fun j hj => by rw [f.old _ (h.lkne hj hk).1]; exact h.lok j hj, fun j hj => ?_, fun j hj => f.other (h.f1 j hj) (fun e => p.a2 k j e.symm), by rw [f.old _ q.1]; exact h.nx, by rw [f.old _ q.2.2.1]; exact h.nw⟩
  by_cases e : j = k
  · subst e
    rw [up_at]
    exact f.fm
  · rw [up_ne _ _ e]
    refine f.other (h.f0 j hj) ?_
    rcases hj with rfl | rfl <;> rcases hk with rfl | rfl
    · exact absurd rfl e
    · exact p.a0
    · exact p.a0.symm
    · exact absurd rfl e
theorem M9.add1 (h : M9 tb lk c0 c1 N W x y xs ys v) (p : Apt c0 c1 N W) {k : Nat} (hk : k = 0 ∨ k = 1) {z : Int} (f : Fto tb (c1 k) z v v') : M9 tb lk c0 c1 N W x (up y k z) xs ys v' := by
  have q := h.nwne hk
  refine ⟨fun j hj => by rw [f.old _ (h.lkne hj hk).2]; exact h.lok j hj, fun j hj => f.other (h.f0 j hj) (p.a2 j k), fun j hj => ?_, by rw [f.old _ q.2.1]; exact h.nx, by rw [f.old _ q.2.2.2]; exact h.nw⟩
  by_cases e : j = k
  · subst e
    rw [up_at]
    exact f.fm
  · rw [up_ne _ _ e]
    refine f.other (h.f1 j hj) ?_
    rcases hj with rfl | rfl <;> rcases hk with rfl | rfl
    · exact absurd rfl e
    · exact p.a1
    · exact p.a1.symm
    · exact absurd rfl e
theorem set_two {b k : Nat} {s : Nat → Int} (hk : k = 0 ∨ k = 1) (h : v.heap[b]? = some (.cells #[I (s 0), I (s 1)] 3)) (z : Int) (e : v'.heap = (v.setCell ⟨b, k, none⟩ (I z)).heap) : v'.heap[b]? = some (.cells #[I (up s k z 0), I (up s k z 1)] 3) := by
  rw [e, heap_setCell_same h]
  rcases hk with rfl | rfl <;> rfl
theorem M9.setN (h : M9 tb lk c0 c1 N W x y xs ys v) (p : Apt c0 c1 N W) {k : Nat} (hk : k = 0 ∨ k = 1) {z : Int} (e : v'.heap = (v.setCell ⟨N, k, none⟩ (I z)).heap) : M9 tb lk c0 c1 N W x y (up xs k z) ys v' := by
  have old : ∀ b, b ≠ N → v'.heap[b]? = v.heap[b]? := fun b hb => by rw [e]; exact Below.heap_setCell _ _ _ _ hb
  have hlN : ∀ j, j = 0 ∨ j = 1 → lk j ≠ N := fun j hj e => by
    have h1 := h.lok j hj
    rw [e, h.nx] at h1
    simp at h1
  have htN : tb ≠ N := fun e => by
    have h1 := (h.f0 0 (.inl rfl)).thr
    rw [e, h.nx] at h1
    simp at h1
  refine ⟨fun j hj => by rw [old _ (hlN j hj)]; exact h.lok j hj, fun j hj => ⟨?_, ?_⟩, fun j hj => ⟨?_, ?_⟩, set_two hk h.nx z e, by rw [old _ p.a3.symm]; exact h.nw⟩
  · rw [old _ htN]; exact (h.f0 j hj).thr
  · rw [old _ (h.nwne hj).1.symm]; exact (h.f0 j hj).cel
  · rw [old _ htN]; exact (h.f1 j hj).thr
  · rw [old _ (h.nwne hj).2.1.symm]; exact (h.f1 j hj).cel
theorem M9.setW (h : M9 tb lk c0 c1 N W x y xs ys v) (p : Apt c0 c1 N W) {k : Nat} (hk : k = 0 ∨ k = 1) {z : Int} (e : v'.heap = (v.setCell ⟨W, k, none⟩ (I z)).heap) : M9 tb lk c0 c1 N W x y xs (up ys k z) v' := by
  have old : ∀ b, b ≠ W → v'.heap[b]? = v.heap[b]? := fun b hb => by rw [e]; exact Below.heap_setCell _ _ _ _ hb
  have hlN : ∀ j, j = 0 ∨ j = 1 → lk j ≠ W := fun j hj e => by
    have h1 := h.lok j hj
    rw [e, h.nw] at h1
    simp at h1
  have htN : tb ≠ W := fun e => by
    have h1 := (h.f0 0 (.inl rfl)).thr
    rw [e, h.nw] at h1
    simp at h1
  refine ⟨fun j hj => by rw [old _ (hlN j hj)]; exact h.lok j hj, fun j hj => ⟨?_, ?_⟩, fun j hj => ⟨?_, ?_⟩, by rw [old _ p.a3]; exact h.nx, set_two hk h.nw z e⟩
  · rw [old _ htN]; exact (h.f0 j hj).thr
  · rw [old _ (h.nwne hj).2.2.1.symm]; exact (h.f0 j hj).cel
  · rw [old _ htN]; exact (h.f1 j hj).thr
  · rw [old _ (h.nwne hj).2.2.2.symm]; exact (h.f1 j hj).cel
end
/-- What the rounds write. -/
def Mi9 (c0 c1 : Nat → Nat) (N W b : Nat) : Prop := (∃ k, (k = 0 ∨ k = 1) ∧ (b = c0 k ∨ b = c1 k)) ∨ b = N ∨ b = W
theorem fr_fto {S : Nat → Prop} {tb c : Nat} {z : Int} {v v' : World} (f : Fto tb c z v v') (h : S c) : Fr S v v' := ⟨f.os, f.out, Nat.le_of_eq f.size.symm, fun b _ hb => f.old b (fun e => hb (e ▸ h))⟩
theorem fr_set {S : Nat → Prop} {B k : Nat} {z : Value} {v v' : World} (e : v'.heap = (v.setCell ⟨B, k, none⟩ z).heap) (e1 : v'.os = v.os) (e2 : v'.output = v.output) (h : S B) : Fr S v v' :=
  ⟨e1, e2, by rw [e]; simp [World.setCell], fun b _ hb => by rw [e]; exact Below.heap_setCell _ _ _ _ (fun e => hb (e ▸ h))⟩
theorem fr_same {S : Nat → Prop} {v v' : World} (e : v'.heap = v.heap) (e1 : v'.os = v.os) (e2 : v'.output = v.output) : Fr S v v' := ⟨e1, e2, by rw [e]; exact Nat.le_refl _, fun b _ _ => by rw [e]⟩

theorem and_one (ca : Int) : bits .and .i64 ca 1 = 0 ∨ bits .and .i64 ca 1 = 1 := by
  have hw : ∀ B : BitVec 64, wrap64 (B.toNat : Int) = B.toInt := fun B => by
    have h := B.isLt
    rw [BitVec.toInt_eq_toNat_cond]
    unfold wrap64
    split <;> omega
  have e : bits .and .i64 ca 1 = wrap64 ((BitVec.ofInt 64 ca &&& BitVec.ofInt 64 1).toNat : Int) := by
    rw [← Go.IntWalk.i64_left]; rfl
  have hb : (BitVec.ofInt 64 ca &&& BitVec.ofInt 64 1).toNat < 2 := by
    rw [BitVec.toNat_and]
    have : (BitVec.ofInt 64 1).toNat = 1 := by decide
    rw [this]
    have := Nat.and_le_right (n := (BitVec.ofInt 64 ca).toNat) (m := 1)
    omega
  rw [e]
  generalize (BitVec.ofInt 64 ca &&& BitVec.ofInt 64 1).toNat = n at hb
  unfold wrap64
  omega
/-- An int that fits in 64 bits. -/
def Fit64 (x : Int) : Prop := -9223372036854775808 ≤ x ∧ x ≤ 9223372036854775807
theorem fit_wrap (n : Int) : Fit64 (wrap64 n) := by unfold wrap64 Fit64; omega
theorem wrap_back {x : Int} (h : Fit64 x) : wrap64 (wrap64 (x + 1) - 1) = x := by unfold Fit64 at h; unfold wrap64; omega
def Rng (x : Nat → Int) : Prop := ∀ k, Fit64 (x k)
theorem Rng.up {x : Nat → Int} (h : Rng x) (k : Nat) {z : Int} (hz : Fit64 z) : Rng (Gen.up x k z) := fun j => by
  unfold Gen.up
  split
  · exact hz
  · exact h j

section
variable {Ch : Nat → Prop} {Stop : Goroutine → World → Prop} {main : Bool} {v w : World} {a : Act} {lst : Value} {tb N W i : Nat} {lk c0 c1 : Nat → Nat} {x y : Nat → Int}
/-- Lock. -/
theorem case1 (hM : M9 tb lk c0 c1 N W x y x y v) (p : Apt c0 c1 N W) (hx : Rng x) {k : Nat} (hk : k = 0 ∨ k = 1) (cs : List Frame) (kk : List Item) (hvw : Rel zn v w) (hn : NoRow Ch v) (hA : A9 lst tb (lk 0) (lk 1) N W i a) (h10 : a.tmps.getD 10 undef = I (k : Int)) (h11 : a.tmps.getD 11 undef = Pt (lk k) 0)
    (hK : ∀ a' v' w' x' y', Rel zn v' w' → NoRow Ch v' → M9 tb lk c0 c1 N W x' y' x' y' v' → Rng x' → Fr (Mi9 c0 c1 N W) v v' → A9 lst tb (lk 0) (lk 1) N W i a' → GoesI Try.prog main (DT (ScZ zn) Ch) Stop (G ((base 9).at a' kk) cs) w') :
    GoesI Try.prog main (DT (ScZ zn) Ch) Stop (G ((base 9).at a (.code K1 :: .inBlock 2 :: .inBlock 1 :: kk)) cs) w := by
  rw [eK1]
  refine goesI_seq (dt_idle _ _) ?_
  refine goesI_seq (dt_idle _ _) ?_
  refine goesI_plain (z := zn) (wr := true) (L := LV) (I := NoRow Ch) hE fineV noRow_keeps (fun v v' w w' es hi hr ho he => dt_of_z v v' w w' es hi hr ho he) hvw fine_q20 hA.defers (by simp [base]) hn (Q := fun a w' => A9 lst tb (lk 0) (lk 1) N W i a ∧ a.tmps.getD 10 undef = I (k : Int) ∧ a.tmps.getD 11 undef = Pt (lk k) 0 ∧ a.tmps.getD 70 undef = .bool (x k != y k) ∧ w'.heap = v.heap ∧ w'.os = v.os ∧ w'.output = v.output) (fun τ => q20_wp (v := onTape v τ 0) hk hM.cells.1.1 hM.cells.1.2 hM.cells.2.1 hM.cells.2.2 hA h10 h11) ?_
  rintro a1 v1 w1 ⟨hA1, k10, k11, k70, e1, o1, u1⟩ hr1 hn1 -
  have hM1 := hM.same e1
  by_cases hxy : x k = y k
  · refine goesI_cond (dt_idle _ _) (t := false) (by show a1.tmps.getD 70 undef = _; rw [k70, hxy]; simp) ?_
    simp only [if_true, if_false, Bool.false_eq_true]
    refine goesI_skip (dt_idle _ _) ?_
    refine goesI_seq (dt_idle _ _) ?_
    refine q21_goes (x := x k) (y := y k) (c0 := c0 k) (c1 := c1 k) (by rw [← hxy]; exact wrap_back (hx k)) (cell_of (hM1.lok k hk) rfl) (cell_of (hM1.lok k hk) rfl) (hM1.f0 k hk) (hM1.f1 k hk) (fun e => p.a2 k k e.symm) (hM1.lkne hk hk).1 cs _ hr1 hn1 hA1 k10 k11 (fun a2 v2 w2 hr2 hn2 f2 hA2 q10 q12 => ?_)
    have hM2 := hM1.add0 p hk f2
    refine goesI_seq (dt_idle _ _) ?_
    refine goesI_plain (z := zn) (wr := true) (L := LV) (I := NoRow Ch) hE fineV noRow_keeps (fun v v' w w' es hi hr ho he => dt_of_z v v' w w' es hi hr ho he) hr2 fine_q22 hA2.defers (by simp [base]) hn2 (Q := fun a w' => A9 lst tb (lk 0) (lk 1) N W i a ∧ a.tmps.getD 10 undef = I (k : Int) ∧ w'.heap = v2.heap ∧ w'.os = v2.os ∧ w'.output = v2.output) (fun τ => q22_wp (v := onTape v2 τ 0) hA2 q10 q12) ?_
    rintro a3 v3 w3 ⟨hA3, r10, e3, o3, u3⟩ hr3 hn3 -
    have hM3 := hM2.same e3
    refine goesI_plain (z := zn) (wr := true) (L := LV) (I := NoRow Ch) hE fineV noRow_keeps (fun v v' w w' es hi hr ho he => dt_of_z v v' w w' es hi hr ho he) hr3 fine_q24 hA3.defers (by simp [base]) hn3 (Q := fun a w' => A9 lst tb (lk 0) (lk 1) N W i a ∧ w'.heap = (v3.setCell ⟨N, k, none⟩ (I (wrap64 (x k + 1)))).heap ∧ w'.os = v3.os ∧ w'.output = v3.output) (fun τ => q24_wp (v := onTape v3 τ 0) (x := x) (y := y) hk hM3.cells.1.1 hM3.cells.1.2 (hM3.fz hk).1 hA3 r10) ?_
    rintro a4 v4 w4 ⟨hA4, e4, o4, u4⟩ hr4 hn4 -
    have hM4 := hM3.setN p hk e4
    refine goesI_inBlock (dt_idle _ _) ?_
    refine goesI_inBlock (dt_idle _ _) ?_
    refine hK a4 v4 w4 _ _ hr4 hn4 hM4 (hx.up k (fit_wrap _)) ?_ hA4
    exact (((fr_same e1 o1 u1).trans (fr_fto f2 (.inl ⟨k, hk, .inl rfl⟩))).trans (fr_same e3 o3 u3)).trans (fr_set e4 o4 u4 (.inr (.inl rfl)))
  · refine goesI_cond (dt_idle _ _) (t := true) (by show a1.tmps.getD 70 undef = _; rw [k70]; simp [hxy]) ?_
    simp only [if_true, if_false, Bool.false_eq_true]
    refine goesI_exit (dt_idle _ _) (k' := kk) (by simp [exitTo]) ?_
    exact hK a1 v1 w1 _ _ hr1 hn1 hM1 hx (fr_same e1 o1 u1) hA1

/-- Try. -/
theorem case2 (hM : M9 tb lk c0 c1 N W x y x y v) (p : Apt c0 c1 N W) (hx : Rng x) {k : Nat} (hk : k = 0 ∨ k = 1) (cs : List Frame) (kk : List Item) (hvw : Rel zn v w) (hn : NoRow Ch v) (hA : A9 lst tb (lk 0) (lk 1) N W i a) (h10 : a.tmps.getD 10 undef = I (k : Int)) (h11 : a.tmps.getD 11 undef = Pt (lk k) 0)
    (hK : ∀ a' v' w' x' y', Rel zn v' w' → NoRow Ch v' → M9 tb lk c0 c1 N W x' y' x' y' v' → Rng x' → Fr (Mi9 c0 c1 N W) v v' → A9 lst tb (lk 0) (lk 1) N W i a' → GoesI Try.prog main (DT (ScZ zn) Ch) Stop (G ((base 9).at a' kk) cs) w') :
    GoesI Try.prog main (DT (ScZ zn) Ch) Stop (G ((base 9).at a (.code K2 :: .inBlock 2 :: .inBlock 1 :: kk)) cs) w := by
  rw [eK2]
  refine goesI_seq (dt_idle _ _) ?_
  refine q26_goes (x := x k) (y := y k) (c0 := c0 k) (c1 := c1 k) (cell_of (hM.lok k hk) rfl) (cell_of (hM.lok k hk) rfl) (hM.f0 k hk) (hM.f1 k hk) cs _ hvw hn hA h10 h11 (fun a2 v2 w2 hr2 hn2 f2 hA2 q10 q13 => ?_)
  have hM2 := hM.add0 p hk f2
  refine goesI_seq (dt_idle _ _) ?_
  refine goesI_plain (z := zn) (wr := true) (L := LV) (I := NoRow Ch) hE fineV noRow_keeps (fun v v' w w' es hi hr ho he => dt_of_z v v' w w' es hi hr ho he) hr2 fine_q27 hA2.defers (by simp [base]) hn2 (Q := fun a w' => A9 lst tb (lk 0) (lk 1) N W i a ∧ a.tmps.getD 10 undef = I (k : Int) ∧ a.tmps.getD 13 undef = .bool (decide (x k = y k)) ∧ w'.heap = v2.heap ∧ w'.os = v2.os ∧ w'.output = v2.output) (fun τ => q27_wp (v := onTape v2 τ 0) (x := x) (y := y) hk hM2.cells.1.1 hM2.cells.1.2 hM2.cells.2.1 hM2.cells.2.2 _ (by by_cases e : x k = y k <;> simp [e]) hA2 q10 q13) ?_
  rintro a3 v3 w3 ⟨hA3, r10, r13, e3, o3, u3⟩ hr3 hn3 -
  have hM3 := hM2.same e3
  by_cases hxy : x k = y k
  · rw [show decide (x k = y k) = true by simp [hxy]] at r13
    rw [if_pos hxy] at hM3 f2
    refine goesI_plain (z := zn) (wr := true) (L := LV) (I := NoRow Ch) hE fineV noRow_keeps (fun v v' w w' es hi hr ho he => dt_of_z v v' w w' es hi hr ho he) hr3 fine_q29 hA3.defers (by simp [base]) hn3 (Q := fun a w' => A9 lst tb (lk 0) (lk 1) N W i a ∧ w'.heap = (v3.setCell ⟨N, k, none⟩ (I (wrap64 (x k + 1)))).heap ∧ w'.os = v3.os ∧ w'.output = v3.output) (fun τ => q29_wpy (v := onTape v3 τ 0) (x := x) (y := y) hk hM3.cells.1.1 hM3.cells.1.2 (hM3.fz hk).1 hA3 r10 r13) ?_
    rintro a4 v4 w4 ⟨hA4, e4, o4, u4⟩ hr4 hn4 -
    have hM4 := hM3.setN p hk e4
    rw [← hxy] at hM4
    refine goesI_inBlock (dt_idle _ _) ?_
    refine goesI_inBlock (dt_idle _ _) ?_
    refine hK a4 v4 w4 _ _ hr4 hn4 hM4 (hx.up k (fit_wrap _)) ?_ hA4
    exact ((fr_fto f2 (.inl ⟨k, hk, .inl rfl⟩)).trans (fr_same e3 o3 u3)).trans (fr_set e4 o4 u4 (.inr (.inl rfl)))
  · rw [show decide (x k = y k) = false by simp [hxy]] at r13
    rw [if_neg hxy] at hM3 f2
    have ex : up x k (x k) = x := funext fun j => by
      unfold up
      split
      · rename_i e; rw [e]
      · rfl
    rw [ex] at hM3
    refine goesI_plain (z := zn) (wr := true) (L := LV) (I := NoRow Ch) hE fineV noRow_keeps (fun v v' w w' es hi hr ho he => dt_of_z v v' w w' es hi hr ho he) hr3 fine_q29 hA3.defers (by simp [base]) hn3 (Q := fun a w' => A9 lst tb (lk 0) (lk 1) N W i a ∧ w'.heap = v3.heap ∧ w'.os = v3.os ∧ w'.output = v3.output) (fun τ => q29_wpn (v := onTape v3 τ 0) hA3 r13) ?_
    rintro a4 v4 w4 ⟨hA4, e4, o4, u4⟩ hr4 hn4 -
    refine goesI_inBlock (dt_idle _ _) ?_
    refine goesI_inBlock (dt_idle _ _) ?_
    refine hK a4 v4 w4 _ _ hr4 hn4 (hM3.same e4) hx ?_ hA4
    exact ((fr_fto f2 (.inl ⟨k, hk, .inl rfl⟩)).trans (fr_same e3 o3 u3)).trans (fr_same e4 o4 u4)

/-- Unlock. -/
theorem case3 (hM : M9 tb lk c0 c1 N W x y x y v) (p : Apt c0 c1 N W) (hx : Rng x) {k : Nat} (hk : k = 0 ∨ k = 1) (cs : List Frame) (kk : List Item) (hvw : Rel zn v w) (hn : NoRow Ch v) (hA : A9 lst tb (lk 0) (lk 1) N W i a) (h10 : a.tmps.getD 10 undef = I (k : Int)) (h11 : a.tmps.getD 11 undef = Pt (lk k) 0)
    (hK : ∀ a' v' w' x' y', Rel zn v' w' → NoRow Ch v' → M9 tb lk c0 c1 N W x' y' x' y' v' → Rng x' → Fr (Mi9 c0 c1 N W) v v' → A9 lst tb (lk 0) (lk 1) N W i a' → GoesI Try.prog main (DT (ScZ zn) Ch) Stop (G ((base 9).at a' kk) cs) w') :
    GoesI Try.prog main (DT (ScZ zn) Ch) Stop (G ((base 9).at a (.code K3 :: .inBlock 2 :: .inBlock 1 :: kk)) cs) w := by
  rw [eK3]
  refine goesI_seq (dt_idle _ _) ?_
  refine q17_goes (c0 := 0) (x := 0) (y := y k) (c1 := c1 k) (cell_of (hM.lok k hk) rfl) (hM.f1 k hk) cs _ hvw hn hA h10 h11 (fun a2 v2 w2 hr2 hn2 f2 hA2 q10 => ?_)
  have hM2 := hM.add1 p hk f2
  refine goesI_plain (z := zn) (wr := true) (L := LV) (I := NoRow Ch) hE fineV noRow_keeps (fun v v' w w' es hi hr ho he => dt_of_z v v' w w' es hi hr ho he) hr2 fine_q18 hA2.defers (by simp [base]) hn2 (Q := fun a w' => A9 lst tb (lk 0) (lk 1) N W i a ∧ w'.heap = (v2.setCell ⟨W, k, none⟩ (I (wrap64 (y k + 1)))).heap ∧ w'.os = v2.os ∧ w'.output = v2.output) (fun τ => q18_wp (v := onTape v2 τ 0) (y := y) hk hM2.cells.2.1 hM2.cells.2.2 (hM2.fz hk).2 hA2 q10) ?_
  rintro a4 v4 w4 ⟨hA4, e4, o4, u4⟩ hr4 hn4 -
  have hM4 := hM2.setW p hk e4
  refine goesI_inBlock (dt_idle _ _) ?_
  refine goesI_inBlock (dt_idle _ _) ?_
  refine hK a4 v4 w4 _ _ hr4 hn4 hM4 hx ?_ hA4
  exact (fr_fto f2 (.inl ⟨k, hk, .inr rfl⟩)).trans (fr_set e4 o4 u4 (.inr (.inr rfl)))

/-- A round. -/
theorem round9 {lb lo n cap : Nat} {c : Cl} (hl : lst = .slice (some ⟨lb, lo, none⟩) n cap) (hin : i < n) (g0 : v.cell? ⟨lb, lo + i * 4, none⟩ = some (I c.po)) (g1 : v.cell? ⟨lb, lo + i * 4 + 1, none⟩ = some (I c.ca)) (hM : M9 tb lk c0 c1 N W x y x y v) (p : Apt c0 c1 N W) (hx : Rng x) (cs : List Frame) (kk : List Item) (hvw : Rel zn v w) (hn : NoRow Ch v) (hA : A9 lst tb (lk 0) (lk 1) N W i a)
    (hK : ∀ a' v' w' x' y', Rel zn v' w' → NoRow Ch v' → M9 tb lk c0 c1 N W x' y' x' y' v' → Rng x' → Fr (Mi9 c0 c1 N W) v v' → A9 lst tb (lk 0) (lk 1) N W i a' → GoesI Try.prog main (DT (ScZ zn) Ch) Stop (G ((base 9).at a' kk) cs) w') :
    GoesI Try.prog main (DT (ScZ zn) Ch) Stop (G ((base 9).at a (.code I9 :: .inBlock 1 :: kk)) cs) w := by
  rw [eI9]
  obtain ⟨k, hk, hkb⟩ : ∃ k : Nat, (k = 0 ∨ k = 1) ∧ bits .and .i64 c.ca 1 = (k : Int) := by
    rcases and_one c.ca with h | h
    · exact ⟨0, .inl rfl, h⟩
    · exact ⟨1, .inr rfl, h⟩
  refine goesI_seq (dt_idle _ _) ?_
  refine goesI_plain (z := zn) (wr := true) (L := LV) (I := NoRow Ch) hE fineV noRow_keeps (fun v v' w w' es hi hr ho he => dt_of_z v v' w w' es hi hr ho he) hvw fine_q12 hA.defers (by simp [base]) hn (Q := fun a w' => A9 lst tb (lk 0) (lk 1) N W i a ∧ a.tmps.getD 10 undef = I (bits .and .i64 c.ca 1) ∧ w'.heap = v.heap ∧ w'.os = v.os ∧ w'.output = v.output) (fun τ => q12_wp (v := onTape v τ 0) hl hin g1 hA) ?_
  rintro a1 v1 w1 ⟨hA1, k10, e1, o1, u1⟩ hr1 hn1 -
  rw [hkb] at k10
  refine goesI_seq (dt_idle _ _) ?_
  refine goesI_plain (z := zn) (wr := true) (L := LV) (I := NoRow Ch) hE fineV noRow_keeps (fun v v' w w' es hi hr ho he => dt_of_z v v' w w' es hi hr ho he) hr1 fine_q13 hA1.defers (by simp [base]) hn1 (Q := fun a w' => A9 lst tb (lk 0) (lk 1) N W i a ∧ a.tmps.getD 10 undef = I (k : Int) ∧ a.tmps.getD 11 undef = Pt (lk 0) 0 ∧ w'.heap = v1.heap ∧ w'.os = v1.os ∧ w'.output = v1.output) (fun τ => q13_wp (v := onTape v1 τ 0) hA1 k10) ?_
  rintro a2 v2 w2 ⟨hA2, l10, l11, e2, o2, u2⟩ hr2 hn2 -
  refine goesI_seq (dt_idle _ _) ?_
  refine goesI_plain (z := zn) (wr := true) (L := LV) (I := NoRow Ch) hE fineV noRow_keeps (fun v v' w w' es hi hr ho he => dt_of_z v v' w w' es hi hr ho he) hr2 fine_q14 hA2.defers (by simp [base]) hn2 (Q := fun a w' => A9 lst tb (lk 0) (lk 1) N W i a ∧ a.tmps.getD 10 undef = I (k : Int) ∧ a.tmps.getD 11 undef = Pt (if k = 1 then lk 1 else lk 0) 0 ∧ w'.heap = v2.heap ∧ w'.os = v2.os ∧ w'.output = v2.output) (fun τ => q14_wp (v := onTape v2 τ 0) hk hA2 l10 l11) ?_
  rintro a3 v3 w3 ⟨hA3, m10, m11, e3, o3, u3⟩ hr3 hn3 -
  rw [show (if k = 1 then lk 1 else lk 0) = lk k by rcases hk with rfl | rfl <;> rfl] at m11
  have e30 : v3.heap = v.heap := e3.trans (e2.trans e1)
  refine goesI_seq (dt_idle _ _) ?_
  refine goesI_plain (z := zn) (wr := true) (L := LV) (I := NoRow Ch) hE fineV noRow_keeps (fun v v' w w' es hi hr ho he => dt_of_z v v' w w' es hi hr ho he) hr3 fine_q16 hA3.defers (by simp [base]) hn3 (Q := fun a w' => A9 lst tb (lk 0) (lk 1) N W i a ∧ a.tmps.getD 10 undef = I (k : Int) ∧ a.tmps.getD 11 undef = Pt (lk k) 0 ∧ a.tmps.getD 50 undef = I c.po ∧ w'.heap = v3.heap ∧ w'.os = v3.os ∧ w'.output = v3.output) (fun τ => q16_wp (v := onTape v3 τ 0) hl hin (by rw [World.cell?_of_block (w := v) (w' := onTape v3 τ 0) (by show v3.heap[_]? = _; rw [e30])]; exact g0) hA3 m10 m11) ?_
  rintro a4 v4 w4 ⟨hA4, n10, n11, n50, e4, o4, u4⟩ hr4 hn4 -
  refine goesI_block (dt_idle _ _) ?_
  rw [eS9]
  refine goesI_seq (dt_idle _ _) ?_
  refine goesI_plain (z := zn) (wr := true) (L := LV) (I := NoRow Ch) hE fineV noRow_keeps (fun v v' w w' es hi hr ho he => dt_of_z v v' w w' es hi hr ho he) hr4 fine_q19 hA4.defers (by simp [base]) hn4 (Q := fun a w' => A9 lst tb (lk 0) (lk 1) N W i a ∧ a.tmps.getD 10 undef = I (k : Int) ∧ a.tmps.getD 11 undef = Pt (lk k) 0 ∧ a.tmps.getD 50 undef = I c.po ∧ a.tmps.getD 60 undef = .bool (c.po == 1) ∧ w'.heap = v4.heap ∧ w'.os = v4.os ∧ w'.output = v4.output) (fun τ => q19_wp (v := onTape v4 τ 0) hA4 n10 n11 n50) ?_
  rintro a5 v5 w5 ⟨hA5, p10, p11, p50, p60, e5, o5, u5⟩ hr5 hn5 -
  have e50 : v5.heap = v.heap := e5.trans (e4.trans e30)
  have f50 : Fr (Mi9 c0 c1 N W) v v5 := fr_same e50 (o5.trans (o4.trans (o3.trans (o2.trans o1)))) (u5.trans (u4.trans (u3.trans (u2.trans u1))))
  have hM5 := hM.same e50
  have hK5 : ∀ a' v' w' x' y', Rel zn v' w' → NoRow Ch v' → M9 tb lk c0 c1 N W x' y' x' y' v' → Rng x' → Fr (Mi9 c0 c1 N W) v5 v' → A9 lst tb (lk 0) (lk 1) N W i a' → GoesI Try.prog main (DT (ScZ zn) Ch) Stop (G ((base 9).at a' kk) cs) w' := fun a' v' w' x' y' q1 q2 q3 q4 q5 q6 => hK a' v' w' x' y' q1 q2 q3 q4 (f50.trans q5) q6
  by_cases h1 : c.po = 1
  · refine goesI_cond (dt_idle _ _) (t := true) (by show a5.tmps.getD 60 undef = _; rw [p60, h1]; rfl) ?_
    simp only [if_true]
    exact case1 hM5 p hx hk cs kk hr5 hn5 hA5 p10 p11 hK5
  · refine goesI_cond (dt_idle _ _) (t := false) (by show a5.tmps.getD 60 undef = _; rw [p60]; simp [h1]) ?_
    simp only [if_false, Bool.false_eq_true]
    rw [eD9]
    refine goesI_seq (dt_idle _ _) ?_
    refine goesI_plain (z := zn) (wr := true) (L := LV) (I := NoRow Ch) hE fineV noRow_keeps (fun v v' w w' es hi hr ho he => dt_of_z v v' w w' es hi hr ho he) hr5 fine_q25 hA5.defers (by simp [base]) hn5 (Q := fun a w' => A9 lst tb (lk 0) (lk 1) N W i a ∧ a.tmps.getD 10 undef = I (k : Int) ∧ a.tmps.getD 11 undef = Pt (lk k) 0 ∧ a.tmps.getD 82 undef = .bool (c.po == 2) ∧ w'.heap = v5.heap ∧ w'.os = v5.os ∧ w'.output = v5.output) (fun τ => q25_wp (v := onTape v5 τ 0) hA5 p10 p11 p50) ?_
    rintro a6 v6 w6 ⟨hA6, r10, r11, r82, e6, o6, u6⟩ hr6 hn6 -
    have hM6 := hM5.same e6
    have f6 : Fr (Mi9 c0 c1 N W) v5 v6 := fr_same e6 o6 u6
    by_cases h2 : c.po = 2
    · refine goesI_cond (dt_idle _ _) (t := true) (by show a6.tmps.getD 82 undef = _; rw [r82, h2]; rfl) ?_
      simp only [if_true]
      exact case2 hM6 p hx hk cs kk hr6 hn6 hA6 r10 r11 (fun a' v' w' x' y' q1 q2 q3 q4 q5 q6 => hK5 a' v' w' x' y' q1 q2 q3 q4 (f6.trans q5) q6)
    · refine goesI_cond (dt_idle _ _) (t := false) (by show a6.tmps.getD 82 undef = _; rw [r82]; simp [h2]) ?_
      simp only [if_false, Bool.false_eq_true]
      exact case3 hM6 p hx hk cs kk hr6 hn6 hA6 r10 r11 (fun a' v' w' x' y' q1 q2 q3 q4 q5 q6 => hK5 a' v' w' x' y' q1 q2 q3 q4 (f6.trans q5) q6)
end

/-- The calls lie there. -/
def InC (w : World) (lb lo : Nat) (calls : List Cl) : Prop := ∀ (k : Nat) (c : Cl), calls[k]? = some c → w.cell? ⟨lb, lo + k * 4, none⟩ = some (I c.po) ∧ w.cell? ⟨lb, lo + k * 4 + 1, none⟩ = some (I c.ca)
theorem loop9 {Ch : Nat → Prop} {Stop : Goroutine → World → Prop} {main : Bool} {p0 : Option Addr} {lb lo n cap : Nat} {tb N W : Nat} {lk c0 c1 : Nat → Nat} (hp : 0 < n → p0 = some ⟨lb, lo, none⟩) (calls : List Cl) (hl : calls.length = n) (hn9 : (n : Int) < 9223372036854775808) (p : Apt c0 c1 N W) (hlb : 0 < n → ¬ Mi9 c0 c1 N W lb) (cs : List Frame) (kk : List Item) : ∀ (m i : Nat) (a : Act) (v w : World) (x y : Nat → Int), i + m = n → Rel zn v w → NoRow Ch v → A9 (.slice p0 n cap) tb (lk 0) (lk 1) N W i a → M9 tb lk c0 c1 N W x y x y v → Rng x → InC v lb lo calls →
    (∀ a' v' w' i', Rel zn v' w' → NoRow Ch v' → Fr (Mi9 c0 c1 N W) v v' → A9 (.slice p0 n cap) tb (lk 0) (lk 1) N W i' a' → GoesI Try.prog main (DT (ScZ zn) Ch) Stop (G ((base 9).at a' kk) cs) w') →
    GoesI Try.prog main (DT (ScZ zn) Ch) Stop (G ((base 9).at a (.code L9 :: .inLoop L9 :: .inBlock 0 :: kk)) cs) w := by
  intro m
  induction m with
  | zero =>
    intro i a v w x y hi hvw hn hA hM hx hI hK
    rw [eL9]
    refine goesI_seq (dt_idle _ _) ?_
    refine goesI_seq (dt_idle _ _) ?_
    refine goesI_plain (z := zn) (wr := true) (L := LV) (I := NoRow Ch) hE fineV noRow_keeps (fun v v' w w' es hi hr ho he => dt_of_z v v' w w' es hi hr ho he) hvw fine_q10 hA.defers (by simp [base]) hn (Q := fun a w' => A9 (.slice p0 n cap) tb (lk 0) (lk 1) N W i a ∧ a.tmps.getD 33 undef = .bool (decide ((i : Int) < (n : Int))) ∧ w'.heap = v.heap ∧ w'.os = v.os ∧ w'.output = v.output) (fun τ => q10_wp (v := onTape v τ 0) rfl hA) ?_
    rintro a1 v1 w1 ⟨hA1, k33, e1, o1, u1⟩ hr1 hn1 -
    refine goesI_cond (dt_idle _ _) (t := false) (by show a1.tmps.getD 33 undef = _; rw [k33, decide_eq_false (by omega)]) ?_
    simp only [if_false, Bool.false_eq_true]
    refine goesI_exit (dt_idle _ _) (k' := kk) (by simp [exitTo]) ?_
    exact hK a1 v1 w1 i hr1 hn1 (fr_same e1 o1 u1) hA1
  | succ m ih =>
    intro i a v w x y hi hvw hn hA hM hx hI hK
    have hin : i < n := by omega
    obtain rfl := hp (by omega)
    obtain ⟨c, hc⟩ : ∃ c, calls[i]? = some c := ⟨_, List.getElem?_eq_getElem (by omega)⟩
    rw [eL9]
    refine goesI_seq (dt_idle _ _) ?_
    refine goesI_seq (dt_idle _ _) ?_
    refine goesI_plain (z := zn) (wr := true) (L := LV) (I := NoRow Ch) hE fineV noRow_keeps (fun v v' w w' es hi hr ho he => dt_of_z v v' w w' es hi hr ho he) hvw fine_q10 hA.defers (by simp [base]) hn (Q := fun a w' => A9 (.slice (some ⟨lb, lo, none⟩) n cap) tb (lk 0) (lk 1) N W i a ∧ a.tmps.getD 33 undef = .bool (decide ((i : Int) < (n : Int))) ∧ w'.heap = v.heap ∧ w'.os = v.os ∧ w'.output = v.output) (fun τ => q10_wp (v := onTape v τ 0) rfl hA) ?_
    rintro a1 v1 w1 ⟨hA1, k33, e1, o1, u1⟩ hr1 hn1 -
    refine goesI_cond (dt_idle _ _) (t := true) (by show a1.tmps.getD 33 undef = _; rw [k33, decide_eq_true (by omega)]) ?_
    simp only [if_true]
    refine goesI_skip (dt_idle _ _) ?_
    refine goesI_seq (dt_idle _ _) ?_
    refine goesI_block (dt_idle _ _) ?_
    have g01 := hI i c hc
    have cw : ∀ (a : Addr) (u : Value), v.cell? a = some u → v1.cell? a = some u := fun a u h => by rw [World.cell?_of_block (w := v) (w' := v1) (by rw [e1])]; exact h
    rw [← eL9]
    refine round9 rfl hin (cw _ _ g01.1) (cw _ _ g01.2) (hM.same e1) p hx cs _ hr1 hn1 hA1 (fun a2 v2 w2 x' y' hr2 hn2 hM2 hx2 f2 hA2 => ?_)
    have f12 : Fr (Mi9 c0 c1 N W) v v2 := (fr_same e1 o1 u1).trans f2
    refine goesI_plain (z := zn) (wr := true) (L := LV) (I := NoRow Ch) hE fineV noRow_keeps (fun v v' w w' es hi hr ho he => dt_of_z v v' w w' es hi hr ho he) hr2 fine_q11 hA2.defers (by simp [base]) hn2 (Q := fun a w' => A9 (.slice (some ⟨lb, lo, none⟩) n cap) tb (lk 0) (lk 1) N W (i + 1) a ∧ w'.heap = v2.heap ∧ w'.os = v2.os ∧ w'.output = v2.output) (fun τ => q11_wp (v := onTape v2 τ 0) (by unfold wrap64; omega) hA2) ?_
    rintro a3 v3 w3 ⟨hA3, e3, o3, u3⟩ hr3 hn3 -
    refine goesI_inLoop (dt_idle _ _) ?_
    have f13 : Fr (Mi9 c0 c1 N W) v v3 := f12.trans (fr_same e3 o3 u3)
    refine ih (i + 1) a3 v3 w3 x' y' (by omega) hr3 hn3 hA3 (hM2.same e3) hx2 (fun k c hc => ?_) (fun a' v' w' i' q1 q2 q3 q4 => hK a' v' w' i' q1 q2 (f13.trans q3) q4)
    have h4 := hI k c hc
    have hb : v3.heap[lb]? = v.heap[lb]? := f13.block lb (World.block_lt_of_cell? _ _ h4.1) (hlb (by omega))
    exact ⟨by rw [World.cell?_of_block (w := v) (w' := v3) hb]; exact h4.1, by rw [World.cell?_of_block (w := v) (w' := v3) hb]; exact h4.2⟩
end Go.Proofs.Ytfjjoohflcchnaa.Gen

namespace Go.Proofs.Ytfjjoohflcchnaa
open Go Go.Lift Go.Conc Go.RowKit

def effStore (y x : Int) : (Int × Int) × Int × Value := ((x, y), y, .tuple #[])
noncomputable def rest12 : Code := seq2 (Try.f23.body.getD .skip)
theorem fine12 : fineCode Try.prog true LT rest12 := fineCode_ask callT extT (by kernel_rfl)

set_option maxHeartbeats 1000000 in
set_option maxRecDepth 100000 in
theorem tail12 {z : Nat → Option Nat} {S : TS} {K : List (Nat × Int)} {v : World} {i j cb : Nat} {t : Thr} {x : Int} {y : Int} (hm : Mem z S K v) (ht : S.thr[i]? = some t) (hK : K[j]? = some (cb, x)) (hn : (S.n + 1) * 40 ≤ 140737488355328) (a7 a8 a9 a10 a11 a12 : Value) :
    rest12.wp Try.prog (bodyPost Try.prog Try.f23 (fun e w' => ∃ r, e = .returned r ∧ (r = (effStore y x).2.2 ∧ ∃ tv, Evo z S K v (didS S tv i t (effStore y x).1.1 (effStore y x).1.2) (K.set j (cb, (effStore y x).2.1)) w')))
      { tmps := #[Pt cb 0, Pt t.tb 0, I y, undef, undef, undef, undef, a7, a8, a9, a10, a11, a12, undef, undef, undef, undef, undef, undef, undef, undef, undef], defers := [] } v := by
  obtain ⟨_, c1, f1⟩ := hm.cells hK
  have HM : Hid (Mem z S K v) := ⟨hm⟩
  have HW : Hid (Evo z S K v S (K.set j (cb, y)) (v.setCell ⟨cb, 1, none⟩ (I y))) := ⟨Evo.write hm hK _⟩
  clear hm hK
  simp only at c1 f1
  show Code.wp Try.prog (seq2 (Try.f23.body.getD .skip)) _ _ _
  unfold Try.f23 seq2
  simp only [Option.getD_some]
  go_wp2_with (first
    | (go_at_call 59; refine ((body25 cb x y _ c1 f1).calls Try.func59 rfl).mono ?_; rintro e w1 ⟨_, rfl, rfl, rfl⟩)
    | (go_at_call 61; refine ((body27 HW.out.mem.rep ht x y hn).calls Try.func61 rfl).mono ?_; rintro e w2 ⟨_, rfl, rfl, tv, hev⟩))
  exact ⟨rfl, _, results_none rfl _ _ _, _, rfl, rfl, tv, HW.out.did hev⟩

theorem res12 (tmps : Array Value) : ∃ v, (∀ w, (results Try.f23 tmps).run Try.prog w = .ok v w) ∧ ∀ w, (results Try.f23 tmps).events Try.prog w #[] = #[] :=
  ⟨_, fun _ => results_none rfl _ _ _, fun _ => by simp [results, go_sem]⟩

set_option maxHeartbeats 1000000 in
set_option maxRecDepth 100000 in
theorem store_goes {z : Nat → Option Nat} {Ch : Nat → Prop} {Stop : Goroutine → World → Prop} {h : Nat} {cont : Addr → Value} {S : TS} {K : List (Nat × Int)} {v w : World} {i j cb : Nat} {t : Thr} (y : Int) (x : Int) (cs : List Frame) (Hm : Goroutine → Prop) {bc : Frame} {ac : Act} {ops : Array Oper} {q : Nat} {rest : List Nat} {oc : Oper} {k : List Item} (hoc : ops[q]? = some oc)
    (hH : ∀ g, OpBack (h == 0) i j cb t.tb 2 (effStore y) (fun r => G (bc.at (ac.put oc.dst r) (.inRegion ops rest :: k)) cs) g → Hm g)
    (hvw : Rel z v w) (hn : NoRow Ch v) (hm : Mem z S K v) (ht : S.thr[i]? = some t) (hK : K[j]? = some (cb, x)) (hz : z t.tb = some 2) (hcont : cont ⟨t.tb, 2, none⟩ = .chan (some t.gc))
    (hstop : ∀ g w', GiveT z cont h S.bk t.gc Hm (Then z Ch S K v (waiting S i t 1 2 j) K) g w' → Stop g w') (code : Code) (hc : Try.f23.body = some code) :
    GoesI Try.prog (h == 0) (DT (ScZ z) Ch) Stop (G ((base 23).at { tmps := #[Pt cb 0, Pt t.tb 0, I y] ++ Array.replicate 19 undef, defers := [] } [.code code]) (bc.at ac (.inRegion ops (q :: rest) :: k) :: cs)) w := by
  obtain rfl := Option.some.inj hc
  clear hc
  have e0 : w.cell? ⟨cb, 0, none⟩ = some (I j) := by rw [hvw.cell?]; exact (hm.cells hK).1
  simp only [Array.replicate_succ, Array.replicate_zero, List.push_toArray, List.append_toArray, List.nil_append, List.cons_append]
  have HM : Hid (Mem z S K v) := ⟨hm⟩
  clear hm
  refine goesI_seq (dt_idle _ _) ?_
  refine goesI_region (dt_idle _ _) ?_
  simp only [List.size_toArray, List.length_cons, List.length_nil, Nat.reduceAdd, Nat.zero_add, List.range, List.range.loop]
  iterate 5
    (refine goesI_oper rfl rfl (by decide) (fun d K hK => ?_)
     go_simp
     refine hK _ _ ⟨dt_reads (fun e he => ?_), GoesI.at ?_ d⟩
     · have hm := mem_listed he
       simp [go_sem, *] at hm
       try exact ⟨_, _, hm⟩
     clear hK K)
  refine goesI_into (f := 60) (fn := Try.f60) (args := #[Pt t.tb 0, I j, I 2]) (dt_idle _ _) rfl rfl (by decide) rfl (by simp [Act.eval]) Try.func60 (by decide) rfl ?_
  refine turn_mem 2 j _ Hm rfl (fun g hg => hH g ?_) hvw hn HM.out ht hz hcont hstop _ rfl
  intro z1 Ch1 St yy w1 v1 S1 K1 t1 x1 r1 n1 m1 h1 htb hop hce hK1 hn1 hk
  refine hg _ St yy w1 (dt_idle _ _) ?_
  refine goesI_regionEnd (dt_idle _ _) ?_
  rw [← htb]
  refine goesI_rest (f := 23) (fn := Try.f23) (c := rest12) hE fineT r1 n1 Try.func23 fine12 rfl hoc res12 (fun τ => ?_) (fun r v' w' hR hr' hn' => ?_) (R := fun r w' => r = (effStore y x1).2.2 ∧ ∃ tv, Evo z1 S1 K1 v1 (didS S1 tv i t1 (effStore y x1).1.1 (effStore y x1).1.2) (K1.set j (cb, (effStore y x1).2.1)) w')
  · refine wp_mono (tail12 (m1.same (v' := onTape v1 τ 0) rfl) h1 hK1 hn1 _ _ _ _ _ _) (bp_mono fun r u hq => ⟨hq.1, hq.2.choose, hq.2.choose_spec.base rfl rfl rfl⟩)
  · obtain ⟨rfl, tv, he⟩ := hR
    exact hk v' w' tv hr' hn' he
end Go.Proofs.Ytfjjoohflcchnaa
