/- ChainRing: of a ring the last who writes down is told, under every schedule. Part 28 of 37. (Joined, by program, of: La3Q, La3R, La3S, La4a, La4b, GIns, La3a.) -/
import Derived.Test.YtfjjoohflcchnaaChainRing06
import Derived.Test.YtfjjoohflcchnaaChainRing24
import Derived.Test.YtfjjoohflcchnaaChainRing26
import Derived.Test.YtfjjoohflcchnaaChainRing27
import Derived.Deep.RegionLaw
import Derived.Deep.RegionHeldLaw
set_option linter.unusedSimpArgs false
set_option linter.unusedVariables false
namespace Go.Proofs.Ytfjjoohflcchnaa.Gen
open Go Go.Lift Go.Conc Go.RowKit

/-- A list that the call has made itself has grown by some cells. -/
structure Apd (lo ty sz : Nat) (l : Value) (n : Nat) (xs news : List Value) (v : World) (l' : Value) (v' : World) : Prop where
  own : v'.ownsRow lo ty sz l' (n + 1) (xs ++ news)
  size : v.heap.size ≤ v'.heap.size
  old : ∀ b, b < v.heap.size → some b ≠ l.ownBlock → v'.heap[b]? = v.heap[b]?
  os : v'.os = v.os
  output : v'.output = v.output
  at_ : ∃ g c, l' = .slice (some ⟨g, 0, none⟩) (n + 1) c ∧ (l.ownBlock = some g ∨ v.heap.size ≤ g)
theorem newsL (w : World) (x : Value) (t : TypeId) : ∀ j u, [x][j]? = some u → (w.alloc (.cells #[x] t)).cell? ((⟨w.heap.size, 0, none⟩ : Addr).add j) = some u := by
  intro j u hj
  have hb : (w.alloc (.cells #[x] t)).heap[w.heap.size]? = some (.cells #[x] t) := Array.getElem?_push_size
  exact World.news_of_block hb j u hj
theorem news4 (w : World) (a b c d : Int) (t : TypeId) : ∀ j u, [I a, I b, I c, I d][j]? = some u → (w.alloc (.cells #[I a, I b, I c, I d] t)).cell? ((⟨w.heap.size, 0, none⟩ : Addr).add j) = some u := by
  intro j u hj
  have hb : (w.alloc (.cells #[I a, I b, I c, I d] t)).heap[w.heap.size]? = some (.cells #[I a, I b, I c, I d] t) := Array.getElem?_push_size
  exact World.news_of_block hb j u hj
theorem one4 (a b c d : Int) : ∀ u ∈ [I a, I b, I c, I d], u.oneCell' = true := by
  intro u hu
  simp at hu
  rcases hu with rfl | rfl | rfl | rfl <;> rfl
theorem info28 : (Try.prog.info? 39).map (fun i => (i.zero, i.size, i.bytes)) = some (some (.agg #[I 0, I 0, I 0, I 0]), 4, 32) := by kernel_rfl
theorem info3c : (Try.prog.info? 3).map (fun i => (i.zero, i.size, i.bytes)) = some (some (I 0), 1, 8) := by kernel_rfl
/-- A script has grown by a call. -/
def Put (Sb t : Nat) (tv : Value) (n lo : Nat) (xs news : List Value) (w w' : World) : Prop :=
  ∃ g cap, (∀ f, w.rowIs Sb 37 4 f → w'.rowIs Sb 37 4 (fun j => if j = t then .slice (some ⟨g, 0, none⟩) (n + 1) cap else f j)) ∧
    w'.ownsRow lo 39 4 (.slice (some ⟨g, 0, none⟩) (n + 1) cap) (n + 1) (xs ++ news) ∧ (tv.ownBlock = some g ∨ w.heap.size ≤ g) ∧ Fr (fun b => b = Sb ∨ some b = tv.ownBlock) w w'
theorem put_of {Sb t : Nat} {tv : Value} {n lo : Nat} {xs news : List Value} {w u w6 : World} {g cap : Nat} (hb : Below w.heap.size w u) (hw : Sb < w.heap.size) (hg : u.grownBy w6 tv.ownBlock) (hown : w6.ownsRow lo 39 4 (.slice (some ⟨g, 0, none⟩) (n + 1) cap) (n + 1) (xs ++ news))
    (hat : tv.ownBlock = some g ∨ g = u.heap.size) (hne : tv.ownBlock ≠ some Sb) : Put Sb t tv n lo xs news w (w6.setCell ⟨Sb, t, none⟩ (.slice (some ⟨g, 0, none⟩) (n + 1) cap)) := by
  have hgw : g ≠ Sb := by
    rcases hat with h | h
    · exact fun e => hne (by rw [h, e])
    · have := hb.size; omega
  have e6 : w6.heap[Sb]? = w.heap[Sb]? := (hg.block Sb (Nat.lt_of_lt_of_le hw hb.size) (Ne.symm hne)).trans (hb.block Sb hw)
  refine ⟨g, cap, fun f h => (h.of_block e6).set t _, own_set hown _ _ (fun e => hgw (Option.some.inj e)), ?_, ?_⟩
  · rcases hat with h | h
    · exact .inl h
    · exact .inr (by have := hb.size; omega)
  · refine ⟨by show w6.os = _; rw [hg.os, hb.os], by show w6.output = _; rw [hg.output, hb.output], ?_, fun b hlt hs => ?_⟩
    · have := hb.size
      have := hg.size
      simp only [World.setCell, Array.size_modify]
      omega
    · rw [Below.heap_setCell _ _ _ _ (fun e => hs (.inl e)), hg.block b (Nat.lt_of_lt_of_le hlt hb.size) (fun e => hs (.inr e)), hb.block b hlt]
theorem keepB {u u' : World} (hb : Below u.heap.size u u') {a : Addr} {x : Value} (h : u.cell? a = some x) : u'.cell? a = some x := kcell hb h
set_option maxHeartbeats 4000000 in
set_option maxRecDepth 100000 in
theorem p3_13 {v : World} {a : Act} {s0 s1 s2 s3 : Value} {lp : Option Addr} {m lc : Nat} {i k lo : Nat} {kn : Bool} {xs : List Value} (hown : v.ownsRow lo 3 1 (.slice lp m lc) m xs) (hn : m ≤ 1000) (hlo : lo ≤ v.heap.size) (hA : Fl 254 [(0, s0), (1, s1), (2, s2), (3, s3), (9, .bool true), (10, .slice lp m lc), (11, I (i : Nat)), (12, I (k : Nat)), (13, .bool kn)] a) :
    q3_13.wp Try.prog (fun e a' w' => e = .normal ∧ ∃ l', Apd lo 3 1 (.slice lp m lc) m xs [I (k : Nat)] v l' w' ∧ Fl 254 [(0, s0), (1, s1), (2, s2), (3, s3), (9, .bool true), (10, l'), (11, I (i : Nat))] a') a v := by
  have HO : Hid (v.ownsRow lo 3 1 (.slice lp m lc) m xs) := ⟨hown⟩
  clear hown
  obtain ⟨j0, hj, hj0, hj1, hj2⟩ := info_parts info3c
  obtain ⟨hsz, hd, hp⟩ := hA
  obtain ⟨u, rfl, hg⟩ := litN hsz hd
  simp only [List.forall_mem_cons, hg] at hp
  obtain ⟨u0, u1, u2, u3, u9, u10, u11, u12, u13, -⟩ := hp
  clear hg hsz hd
  unfold q3_13 C3 Try.f15 seq1 seq2 condA blockC loopC
  simp only [Option.getD_some, lits, Nat.reduceAdd, u0, u1, u2, u3, u9, u10, u11, u12, u13]
  clear u0 u1 u2 u3 u9 u10 u11 u12 u13
  go_wp2_with (first
    | (refine wpList_append_lies _ rfl (.tmp 63) (.tmp 65) 22 rfl lo 3 j0 _ 1 8 Try.underlying22 hj hj0 hj1 hj2 rfl (by decide) (.slice lp m lc) m xs rfl (own_later (below_alloc (Below.refl _ _) _) (own_stay (fun _ _ => rfl) HO.out)) ⟨_, 0, none⟩ 1 1 [I (k : Nat)] rfl rfl (newsL _ _ _) (fun u hu => by rw [List.mem_singleton] at hu; subst hu; rfl) (by decide) (by unfold maxLen; omega) (by omega) (by simp; omega) _ rfl ?_
       intro g2 cp2 w6 hown6 hgrow6 hat6 hlt6))
  have hal : Below v.heap.size v (v.alloc (.cells #[I (k : Nat)] 3)) := below_alloc (Below.refl _ _) _
  refine ⟨_, ⟨hown6, ?_, ?_, ?_, ?_, g2, cp2, rfl, ?_⟩, ⟨rfl, rfl, by
    intro p hp
    simp only [List.mem_cons, List.not_mem_nil, or_false] at hp
    rcases hp with rfl | rfl | rfl | rfl | rfl | rfl | rfl <;> first | rfl | exact congrArg I (by omega) | exact congrArg Value.bool (by simp <;> omega) | exact congrArg Value.bool (by simp) | (simp; done)⟩⟩
  · have := hal.size; have := hgrow6.size; omega
  · intro b1 hb hne; rw [hgrow6.block b1 (by have := hal.size; omega) hne, hal.block b1 hb]
  · rw [hgrow6.os, hal.os]
  · rw [hgrow6.output, hal.output]
  · rcases hat6 with h | h
    · exact .inl h
    · right; rw [h]; exact hal.size

set_option maxHeartbeats 4000000 in
set_option maxRecDepth 100000 in
theorem p3_20 {v : World} {a : Act} {s0 s1 s2 : Value} {lp : Option Addr} {m lc Sb b3 o3 n3 c3 i : Nat} {x y : Int} (hi : i < n3) (d1 : v.cell? ⟨b3, o3 + i * 4 + 1, none⟩ = some (I x)) (d2 : v.cell? ⟨b3, o3 + i * 4 + 2, none⟩ = some (I y)) (hA : Fl 254 [(0, s0), (1, s1), (2, s2), (3, .slice (some ⟨b3, o3, none⟩) n3 c3), (9, .bool true), (10, .slice lp m lc), (15, .slice (some ⟨Sb, 0, none⟩) 4 4), (16, I (i : Nat))] a) :
    q3_20.wp Try.prog (Nrm fun a' w' => Fl 254 [(0, s0), (1, s1), (2, s2), (3, .slice (some ⟨b3, o3, none⟩) n3 c3), (9, .bool true), (10, .slice lp m lc), (15, .slice (some ⟨Sb, 0, none⟩) 4 4), (16, I (i : Nat)), (17, Pt v.heap.size 0)] a' ∧ (w'.heap = (v.alloc (.cells #[I 1, I ((12 + which x 8 : Nat) : Int), I y, I 0] 39)).heap ∧ w'.os = v.os ∧ w'.output = v.output)) a v := by
  have hi' : (i : Int) < (n3 : Int) := by omega
  have q1 := World.block_lt_of_cell? _ _ d1
  simp only at q1
  have n1 : b3 ≠ v.heap.size := by omega
  have n1' : v.heap.size ≠ b3 := by omega
  have H1 : Hid (∀ (w : World), Calls Try.prog 51 #[I x, I 8] w (fun e w' => ∃ r, e = .returned r ∧ (r = I (which x 8 : Nat) ∧ w' = w))) := ⟨fun w => (body6w x 8 (by omega) (by omega) w).calls Try.func51 rfl⟩
  have hw := which_lt x (show 0 < 8 by omega)
  generalize which x 8 = W at *
  have hw2 : wrap64 (12 + (W : Int)) = ((12 + W : Nat) : Int) := by unfold wrap64; omega
  have hw3 : IntKind.i64.wrap (12 + (W : Int)) = ((12 + W : Nat) : Int) := by rw [Go.IntWalk.i64_left]; exact hw2
  obtain ⟨hsz, hd, hp⟩ := hA
  obtain ⟨u, rfl, hg⟩ := litN hsz hd
  simp only [List.forall_mem_cons, hg] at hp
  obtain ⟨u0, u1, u2, u3, u9, u10, u15, u16, -⟩ := hp
  clear hg hsz hd
  unfold q3_20 C3 Try.f15 seq1 seq2 blockC loopC
  simp only [Option.getD_some, lits, Nat.reduceAdd, u0, u1, u2, u3, u9, u10, u15, u16]
  clear u0 u1 u2 u3 u9 u10 u15 u16
  go_region_with (first
    | (go_at_call 51; refine (H1.out _).mono ?_; rintro e w1 ⟨_, rfl, rfl, rfl⟩))
  all_goals exact ⟨⟨rfl, rfl, by
    intro p hp
    simp only [List.mem_cons, List.not_mem_nil, or_false] at hp
    rcases hp with rfl | rfl | rfl | rfl | rfl | rfl | rfl | rfl | rfl <;> first | rfl | exact congrArg I (by omega) | exact congrArg Value.bool (by simp <;> omega) | exact congrArg Value.bool (by simp) | (simp; done)⟩, rfl, rfl, rfl⟩

set_option maxHeartbeats 4000000 in
set_option maxRecDepth 100000 in
theorem p3_21 {v : World} {a : Act} {s0 s1 s2 s3 : Value} {lp tp : Option Addr} {m lc Sb i q N lo tc : Nat} {x0 x1 x2 x3 : Int} {xs : List Value} (hi : i < 1000) (hS : v.cell? ⟨Sb, i % 4, none⟩ = some (.slice tp N tc)) (hf : v.frozen? ⟨Sb, i % 4, none⟩ = false) (d0 : v.cell? ⟨q, 0, none⟩ = some (I x0)) (d1 : v.cell? ⟨q, 1, none⟩ = some (I x1)) (d2 : v.cell? ⟨q, 2, none⟩ = some (I x2)) (d3 : v.cell? ⟨q, 3, none⟩ = some (I x3)) (hown : v.ownsRow lo 39 4 (.slice tp N tc) N xs) (hne : (Value.slice tp N tc).ownBlock ≠ some Sb) (hn : N ≤ 1000) (hlo : lo ≤ v.heap.size) (hA : Fl 254 [(0, s0), (1, s1), (2, s2), (3, s3), (9, .bool true), (10, .slice lp m lc), (15, .slice (some ⟨Sb, 0, none⟩) 4 4), (16, I (i : Nat)), (17, Pt q 0)] a) :
    q3_21.wp Try.prog (Nrm fun a' w' => Fl 254 [(0, s0), (1, s1), (2, s2), (3, s3), (9, .bool true), (10, .slice lp m lc), (15, .slice (some ⟨Sb, 0, none⟩) 4 4), (16, I (i : Nat))] a' ∧ Put Sb (i % 4) (.slice tp N tc) N lo xs [I x0, I x1, I x2, I x3] v w') a v := by
  have h4 : (i : Int).tmod 4 = ((i % 4 : Nat) : Int) := by rw [Int.tmod_eq_emod_of_nonneg (by omega)]; omega
  have h4' : wrap64 ((i : Int).tmod 4) = ((i % 4 : Nat) : Int) := by rw [h4]; unfold wrap64; omega
  have hT : i % 4 < 4 := Nat.mod_lt _ (by omega)
  generalize i % 4 = t at *
  have hT' : (t : Int) < 4 := by omega
  have HO : Hid (v.ownsRow lo 39 4 (.slice tp N tc) N xs) := ⟨hown⟩
  clear hown
  obtain ⟨j0, hj, hj0, hj1, hj2⟩ := info_parts info28
  have q0 := World.block_lt_of_cell? _ _ hS
  have q1 := World.block_lt_of_cell? _ _ d0
  simp only at q0 q1
  have n0 : Sb ≠ v.heap.size := by omega
  have n1 : q ≠ v.heap.size := by omega
  have n0' : v.heap.size ≠ Sb := by omega
  have n1' : v.heap.size ≠ q := by omega
  obtain ⟨hsz, hd, hp⟩ := hA
  obtain ⟨u, rfl, hg⟩ := litN hsz hd
  simp only [List.forall_mem_cons, hg] at hp
  obtain ⟨u0, u1, u2, u3, u9, u10, u15, u16, u17, -⟩ := hp
  clear hg hsz hd
  unfold q3_21 C3 Try.f15 seq1 seq2 blockC loopC
  simp only [Option.getD_some, lits, Nat.reduceAdd, u0, u1, u2, u3, u9, u10, u15, u16, u17]
  clear u0 u1 u2 u3 u9 u10 u15 u16 u17
  go_region_law (refine step_append_lies _ rfl (.tmp 102) (.tmp 104) 37 rfl lo 39 j0 _ 4 32 Try.underlying37 hj hj0 hj1 hj2 rfl (by decide) (.slice tp N tc) N xs rfl (own_later (by first | exact below_alloc (Below.refl _ _).drew _ | exact (below_alloc (Below.refl _ _) _).drew) HO.out) ⟨_, 0, none⟩ 1 1 [I x0, I x1, I x2, I x3] rfl rfl (news4 _ _ _ _ _ _) (one4 _ _ _ _) (by decide) (by unfold maxLen; omega) (by omega) (by simp; omega) _ rfl ?_
                 intro g cpg w6 hown6 hgrow6 hat6 hlt6
                 have k5 : w6.cell? ⟨Sb, t, none⟩ = some (.slice tp N tc) := by rw [hgrow6.cell_far _ (by simp; omega) (Ne.symm hne)]; first | exact keepB (below_alloc (Below.refl _ v).drew _) hS | exact keepB (below_alloc (Below.refl _ v) _).drew hS
                 have k6 : w6.frozen? ⟨Sb, t, none⟩ = false := by rw [hgrow6.frozen_far _ (by simp; omega) (Ne.symm hne)]; first | (rw [Below.frozen (below_alloc (Below.refl _ v).drew _) q0]; exact hf) | (rw [Below.frozen (below_alloc (Below.refl _ v) _).drew q0]; exact hf))
  all_goals exact ⟨⟨rfl, rfl, by
    intro p hp
    simp only [List.mem_cons, List.not_mem_nil, or_false] at hp
    rcases hp with rfl | rfl | rfl | rfl | rfl | rfl | rfl | rfl <;> first | rfl | exact congrArg I (by omega) | exact congrArg Value.bool (by simp <;> omega) | exact congrArg Value.bool (by simp) | (simp; done)⟩, by first | exact put_of (below_alloc (Below.refl _ _).drew _) q0 hgrow6 hown6 hat6 hne | exact put_of (below_alloc (Below.refl _ _) _).drew q0 hgrow6 hown6 hat6 hne⟩

end Go.Proofs.Ytfjjoohflcchnaa.Gen

namespace Go.Proofs.Ytfjjoohflcchnaa.Gen
open Go Go.Lift Go.Conc Go.RowKit

set_option maxHeartbeats 4000000 in
set_option maxRecDepth 100000 in
theorem p3_28 {v : World} {a : Act} {s0 s1 s2 s3 : Value} {tp : Option Addr} {m lc Sb i t j g N lo tc : Nat} {x1 x2 : Int} {xs : List Value} (hi : i < m) (hm : m < 1000) (hj : j = (i + 1) % m) (hT : t < 4) (hS : v.cell? ⟨Sb, t, none⟩ = some (.slice tp N tc)) (hf : v.frozen? ⟨Sb, t, none⟩ = false) (d1 : v.cell? ⟨g, i, none⟩ = some (I x1)) (d2 : v.cell? ⟨g, j, none⟩ = some (I x2)) (hown : v.ownsRow lo 39 4 (.slice tp N tc) N xs) (hne : (Value.slice tp N tc).ownBlock ≠ some Sb) (hng : (Value.slice tp N tc).ownBlock ≠ some g) (hn : N ≤ 1000) (hlo : lo ≤ v.heap.size) (hA : Fl 254 [(0, s0), (1, s1), (2, s2), (3, s3), (9, .bool true), (10, .slice (some ⟨g, 0, none⟩) m lc), (15, .slice (some ⟨Sb, 0, none⟩) 4 4), (18, I (i : Nat)), (19, I (t : Nat))] a) :
    q3_28.wp Try.prog (Nrm fun a' w' => Fl 254 [(0, s0), (1, s1), (2, s2), (3, s3), (9, .bool true), (10, .slice (some ⟨g, 0, none⟩) m lc), (15, .slice (some ⟨Sb, 0, none⟩) 4 4), (18, I (i : Nat))] a' ∧ Put Sb t (.slice tp N tc) N lo xs [I 1, I x1, I x2, I 0] v w') a v := by
  have hw0 : wrap64 ((i : Int) + 1) = (i : Int) + 1 := by unfold wrap64; omega
  have hw1 : IntKind.i64.wrap ((i : Int) + 1) = (i : Int) + 1 := by rw [Go.IntWalk.i64_left]; exact hw0
  have h4 : ((i : Int) + 1).tmod (m : Int) = (j : Int) := by rw [Int.tmod_eq_emod_of_nonneg (by omega), hj, Int.natCast_emod]; push_cast; rfl
  have hjm : j < m := by rw [hj]; exact Nat.mod_lt _ (by omega)
  have h4' : wrap64 (((i : Int) + 1).tmod (m : Int)) = (j : Int) := by rw [h4]; unfold wrap64; omega
  have hm0 : ¬ (m : Int) = 0 := by omega
  have hm2 : ¬ m = 0 := by omega
  have hi' : (i : Int) < (m : Int) := Int.ofNat_lt.2 hi
  have hj' : (j : Int) < (m : Int) := Int.ofNat_lt.2 hjm
  have hT' : (t : Int) < 4 := by omega
  clear hj
  have HO : Hid (v.ownsRow lo 39 4 (.slice tp N tc) N xs) := ⟨hown⟩
  clear hown
  obtain ⟨j0, hj, hj0, hj1, hj2⟩ := info_parts info28
  have q0 := World.block_lt_of_cell? _ _ hS
  have q1 := World.block_lt_of_cell? _ _ d1
  simp only at q0 q1
  have n0 : Sb ≠ v.heap.size := by omega
  have n1 : g ≠ v.heap.size := by omega
  have n0' : v.heap.size ≠ Sb := by omega
  have n1' : v.heap.size ≠ g := by omega
  obtain ⟨hsz, hd, hp⟩ := hA
  obtain ⟨u, rfl, hg⟩ := litN hsz hd
  simp only [List.forall_mem_cons, hg] at hp
  obtain ⟨u0, u1, u2, u3, u9, u10, u15, u18, u19, -⟩ := hp
  clear hg hsz hd
  unfold q3_28 C3 Try.f15 seq1 seq2 blockC loopC
  simp only [Option.getD_some, lits, Nat.reduceAdd, u0, u1, u2, u3, u9, u10, u15, u18, u19]
  clear u0 u1 u2 u3 u9 u10 u15 u18 u19
  go_region_law (refine step_append_lies _ rfl (.tmp 129) (.tmp 143) 37 rfl lo 39 j0 _ 4 32 Try.underlying37 hj hj0 hj1 hj2 rfl (by decide) (.slice tp N tc) N xs rfl (own_later (by first | exact below_alloc (Below.refl _ _).drew _ | exact (below_alloc (Below.refl _ _) _).drew) HO.out) ⟨_, 0, none⟩ 1 1 [I 1, I x1, I x2, I 0] rfl rfl (news4 _ _ _ _ _ _) (one4 _ _ _ _) (by decide) (by unfold maxLen; omega) (by omega) (by simp; omega) _ rfl ?_
                 intro g6 cpg w6 hown6 hgrow6 hat6 hlt6
                 have k5 : w6.cell? ⟨Sb, t, none⟩ = some (.slice tp N tc) := by rw [hgrow6.cell_far _ (by simp; omega) (Ne.symm hne)]; first | exact keepB (below_alloc (Below.refl _ v).drew _) hS | exact keepB (below_alloc (Below.refl _ v) _).drew hS
                 have k6 : w6.frozen? ⟨Sb, t, none⟩ = false := by rw [hgrow6.frozen_far _ (by simp; omega) (Ne.symm hne)]; first | (rw [Below.frozen (below_alloc (Below.refl _ v).drew _) q0]; exact hf) | (rw [Below.frozen (below_alloc (Below.refl _ v) _).drew q0]; exact hf))
  all_goals exact ⟨⟨rfl, rfl, by
    intro p hp
    simp only [List.mem_cons, List.not_mem_nil, or_false] at hp
    rcases hp with rfl | rfl | rfl | rfl | rfl | rfl | rfl | rfl <;> first | rfl | exact congrArg I (by omega) | exact congrArg Value.bool (by simp <;> omega) | exact congrArg Value.bool (by simp) | (simp; done)⟩, by first | exact put_of (below_alloc (Below.refl _ _).drew _) q0 hgrow6 hown6 hat6 hne | exact put_of (below_alloc (Below.refl _ _) _).drew q0 hgrow6 hown6 hat6 hne⟩

end Go.Proofs.Ytfjjoohflcchnaa.Gen

namespace Go.Proofs.Ytfjjoohflcchnaa.Gen
open Go Go.Lift Go.Conc Go.RowKit

/-- A copy of the trace. -/
def Tr34 (Sb wb M Lb : Nat) (S : TS) (v : World) (a : Act) (w : World) : Prop := ∃ p g ct, Fl 254 [(15, .slice (some ⟨Sb, 0, none⟩) 4 4), (20, Pt wb 0), (21, .slice (some ⟨M, 0, none⟩) 4 4), (23, Pt Lb 0), (24, .slice p S.n ct)] a ∧ (0 < S.n → p = some ⟨g, 0, none⟩ ∧ v.heap.size ≤ g) ∧ (∀ j u, S.tr[j]? = some u → w.cell? ⟨g, j, none⟩ = some u) ∧ Grows v w
set_option maxHeartbeats 4000000 in
set_option maxRecDepth 100000 in
theorem p3_34 {v : World} {a : Act} {Sb wb M Lb : Nat} {S : TS} (hR : Rep zn S v) (hwb : wb = S.wb) (hn : S.n * 40 ≤ 140737488355328) (h1 : ∀ u ∈ S.tr, u.oneCell' = true) (hA : Fl 254 [(15, .slice (some ⟨Sb, 0, none⟩) 4 4), (20, Pt wb 0), (21, .slice (some ⟨M, 0, none⟩) 4 4), (23, Pt Lb 0)] a) :
    q3_34.wp Try.prog (fun e a' w' => e = .normal ∧ Tr34 Sb wb M Lb S v a' w') a v := by
  subst hwb
  have H3 : Hid (Calls Try.prog 20 #[Pt S.wb 0] v _) := ⟨(body9A hR hn h1).calls Try.func20 rfl⟩
  clear hR hn h1
  obtain ⟨hsz, hd, hp⟩ := hA
  obtain ⟨u, rfl, hg⟩ := litN hsz hd
  simp only [List.forall_mem_cons, hg] at hp
  obtain ⟨u15, u20, u21, u23, -⟩ := hp
  clear hg hsz hd
  unfold q3_34 C3 Try.f15 seq1 seq2
  simp only [Option.getD_some, lits, Nat.reduceAdd, u15, u20, u21, u23]
  clear u15 u20 u21 u23
  go_wp2_with (first | (go_at_call 20; refine H3.out.mono ?_; rintro e w1 ⟨_, rfl, p, g, ct, rfl, k1, k2, k3⟩))
  first | exact ⟨p, g, ct, ⟨rfl, rfl, by
      intro p hp
      simp only [List.mem_cons, List.not_mem_nil, or_false] at hp
      rcases hp with rfl | rfl | rfl | rfl | rfl <;> first | rfl | exact congrArg I (by omega) | exact congrArg Value.bool (by simp <;> omega) | exact congrArg Value.bool (by simp) | (simp; done)⟩, k1, k2, k3⟩ | exact ⟨rfl, p, g, ct, ⟨rfl, rfl, by
      intro p hp
      simp only [List.mem_cons, List.not_mem_nil, or_false] at hp
      rcases hp with rfl | rfl | rfl | rfl | rfl <;> first | rfl | exact congrArg I (by omega) | exact congrArg Value.bool (by simp <;> omega) | exact congrArg Value.bool (by simp) | (simp; done)⟩, k1, k2, k3⟩

set_option maxHeartbeats 4000000 in
set_option maxRecDepth 100000 in
theorem p3_45 {v : World} {a : Act} {Sb wb M Lb Z g T ct k x c : Nat} {t L cc A : Nat} {tp : Option Addr} (c0 : v.cell? ⟨x, 0, none⟩ = some (I (t : Nat))) (ht : t < 4) (d : v.cell? ⟨Sb, t, none⟩ = some (.slice tp L cc)) (e : v.cell? ⟨M, t, none⟩ = some (.slice (some ⟨A, 0, none⟩) L L)) (hc : c < L) (hA : Fl 254 [(15, .slice (some ⟨Sb, 0, none⟩) 4 4), (20, Pt wb 0), (21, .slice (some ⟨M, 0, none⟩) 4 4), (23, Pt Lb 0), (24, .slice (some ⟨g, 0, none⟩) T ct), (25, .slice (some ⟨Z, 0, none⟩) 4 4), (26, I (k : Nat)), (27, Pt x 0), (28, I (c : Nat))] a) :
    q3_45.wp Try.prog (Nrm fun a' w' => Fl 254 [(227, .bool false), (15, .slice (some ⟨Sb, 0, none⟩) 4 4), (20, Pt wb 0), (21, .slice (some ⟨M, 0, none⟩) 4 4), (23, Pt Lb 0), (24, .slice (some ⟨g, 0, none⟩) T ct), (25, .slice (some ⟨Z, 0, none⟩) 4 4), (26, I (k : Nat)), (27, Pt x 0), (28, I (c : Nat))] a' ∧ (w'.heap = v.heap ∧ w'.os = v.os ∧ w'.output = v.output)) a v := by
  have ht' : (t : Int) < 4 := by omega
  have hc1 : ¬ (c : Int) < 0 := by omega
  have hc2 : ¬ (c : Int) ≥ (L : Int) := by omega
  obtain ⟨hsz, hd, hp⟩ := hA
  obtain ⟨u, rfl, hg⟩ := litN hsz hd
  simp only [List.forall_mem_cons, hg] at hp
  obtain ⟨u15, u20, u21, u23, u24, u25, u26, u27, u28, -⟩ := hp
  clear hg hsz hd
  unfold q3_45 C3 Try.f15 seq1 seq2 blockC loopC
  simp only [Option.getD_some, lits, Nat.reduceAdd, u15, u20, u21, u23, u24, u25, u26, u27, u28]
  clear u15 u20 u21 u23 u24 u25 u26 u27 u28
  go_region
  all_goals exact ⟨⟨rfl, rfl, by
    intro p hp
    simp only [List.mem_cons, List.not_mem_nil, or_false] at hp
    rcases hp with rfl | rfl | rfl | rfl | rfl | rfl | rfl | rfl | rfl | rfl <;> first | rfl | exact congrArg I (by omega) | exact congrArg Value.bool (by simp <;> omega) | exact congrArg Value.bool (by simp) | (simp; done)⟩, rfl, rfl, rfl⟩

end Go.Proofs.Ytfjjoohflcchnaa.Gen

namespace Go.Proofs.Ytfjjoohflcchnaa.Gen
open Go Go.Lift Go.Conc Go.RowKit

section
variable {n N b o cap M wb G : Nat} {Q : Exit → Act → World → Prop} {a : Act} {u v : World}
theorem size_alloc (w : World) (o : Obj) : (w.alloc o).heap.size = w.heap.size + 1 := by show (w.heap.push o).size = _; simp
theorem Fl.hc {n k : Nat} {c : Bool} {l : List (Nat × Value)} {a : Act} (h : Fl n ((k, .bool c) :: l) a) : a.eval (.tmp k) = .bool c := h.2.2 (k, .bool c) (.head _)

/-- The edges. -/
def Ed (N n : Nat) (cl : Nat → List Cl) (i j : Nat) : Prop := ∃ t, t < N ∧ ∃ c ∈ cl t, c.po = 1 ∧ i = keyH n c.ca ∧ j = keyH n c.cb
end
end Go.Proofs.Ytfjjoohflcchnaa.Gen

namespace Go.Proofs.Ytfjjoohflcchnaa.Gen
open Go Go.Lift Go.Conc Go.RowKit


open Go.ConcN (upd upd_same upd_ne)
section
variable {n N b o cap M wb Z : Nat} {Q : Exit → Act → World → Prop} {a : Act} {u v : World}
end

noncomputable def T4 : Code := .seq (.seq q4_4 (.cond ( .tmp 41 ) (.seq q4_5 .ret) .skip)) (.seq (.seq q4_6 (.cond ( .tmp 59 ) (.seq q4_7 .ret) .skip)) (.seq q4_8 (.seq (.seq q4_9 (.block 0 K4_0)) (.seq (.seq q4_13 (.block 2 K4_2)) (.seq (.seq q4_22 (.block 6 K4_6)) (.seq (.seq q4_32 (.block 12 K4_12)) (.seq q4_43 (.seq q4_44 (.seq (.seq q4_45 (.block 16 K4_16)) (.seq q4_56 .ret))))))))))
end Go.Proofs.Ytfjjoohflcchnaa.Gen

namespace Go.Proofs.Ytfjjoohflcchnaa.Gen
open Go Go.Lift Go.Conc Go.RowKit

def InR (x : Int) : Prop := -9223372036854775808 ≤ x ∧ x < 9223372036854775808
def Cl.ok (c : Cl) : Prop := InR c.cb ∧ InR c.cc
/-- Where a list of ints lies that came in. -/
structure InI (W : World) (p : Option Addr) (b o : Nat) (xs : List Int) : Prop where
  at_ : 0 < xs.length → p = some ⟨b, o, none⟩
  cell : ∀ k x, xs[k]? = some x → W.cell? ⟨b, o + k, none⟩ = some (I x)
  inr : ∀ x ∈ xs, InR x
  len : xs.length ≤ 17592186043904
theorem InI.grows {W W' : World} {p : Option Addr} {b o : Nat} {xs : List Int} (h : InI W p b o xs) (g : Grows W W') : InI W' p b o xs :=
  ⟨h.at_, fun k x hk => g.cell (h.cell k x hk), h.inr, h.len⟩
/-- Where scripts lie that came in. -/
structure InS (W : World) (p : Option Addr) (b o n : Nat) (pc : Nat → Option Addr) (ln cp rb : Nat → Nat) (cl : Nat → List Cl) : Prop where
  at_ : 0 < n → p = some ⟨b, o, none⟩
  row : ∀ k, k < n → W.cell? ⟨b, o + k, none⟩ = some (.slice (pc k) (ln k) (cp k))
  len : ∀ j, j < n → (cl j).length = ln j
  pq : ∀ j, j < n → 0 < ln j → pc j = some ⟨rb j, roOf (pc j), none⟩
  call : ∀ j, j < n → ∀ (k : Nat) (c : Cl), (cl j)[k]? = some c → W.cell? ⟨rb j, roOf (pc j) + k * 4, none⟩ = some (I c.po) ∧ W.cell? ⟨rb j, roOf (pc j) + k * 4 + 1, none⟩ = some (I c.ca) ∧ W.cell? ⟨rb j, roOf (pc j) + k * 4 + 2, none⟩ = some (I c.cb) ∧ W.cell? ⟨rb j, roOf (pc j) + k * 4 + 3, none⟩ = some (I c.cc)
  ok : ∀ j, j < n → ∀ c ∈ cl j, InR c.ca ∧ c.ok
  n : n ≤ 17592186043904
theorem InS.grows {W W' : World} {p : Option Addr} {b o n : Nat} {pc : Nat → Option Addr} {ln cp rb : Nat → Nat} {cl : Nat → List Cl} (h : InS W p b o n pc ln cp rb cl) (g : Grows W W') : InS W' p b o n pc ln cp rb cl :=
  ⟨h.at_, fun k hk => g.cell (h.row k hk), h.len, h.pq, fun j hj k c hc => by
    have := h.call j hj k c hc
    exact ⟨g.cell this.1, g.cell this.2.1, g.cell this.2.2.1, g.cell this.2.2.2⟩, h.ok, h.n⟩

theorem lens_scrs (mc : Mc) (fid : FuncId) (caps : Array Value) (pk : Nat → Option Obj) (N n : Nat) (K : List (Nat × Int)) (pc : Nat → Option Addr) (ln cp rb : Nat → Nat) (cl : Nat → List Cl) (hl : ∀ j, j < n → (cl j).length ≤ 64) : lens (scrs mc fid caps pk N n K pc ln cp rb cl) ≤ 64 * n := by
  unfold lens scrs
  rw [List.map_map]
  have : ∀ (m j : Nat), j + m ≤ n → ((List.range' j m).map ((fun s : Scr mc => s.calls.length) ∘ scrOf mc fid caps pk N n (K.map (·.1)) pc ln cp rb cl)).sum ≤ 64 * m := by
    intro m
    induction m with
    | zero => intro j _; simp
    | succ m ih =>
      intro j hj
      rw [List.range'_succ, List.map_cons, List.sum_cons]
      have h1 := ih (j + 1) (by omega)
      have h2 : ((fun s : Scr mc => s.calls.length) ∘ scrOf mc fid caps pk N n (K.map (·.1)) pc ln cp rb cl) j ≤ 64 := hl j (by omega)
      omega
  exact this n 0 (by omega)
theorem scrs_len (mc : Mc) (fid : FuncId) (caps : Array Value) (pk : Nat → Option Obj) (N n : Nat) (K : List (Nat × Int)) (pc : Nat → Option Addr) (ln cp rb : Nat → Nat) (cl : Nat → List Cl) : (scrs mc fid caps pk N n K pc ln cp rb cl).length = n := by simp [scrs]
/-- The world is new: the scripts lie there for Play. -/
theorem asked_of {W v : World} {p : Option Addr} {b o n : Nat} {pc : Nat → Option Addr} {ln cp rb : Nat → Nat} {cl : Nat → List Cl} (h : InS W p b o n pc ln cp rb cl) {xs : List Int} {wb bk : Nat} {sc : Value} (hn : IsNew W xs wb bk sc v) (h64 : ∀ j, j < n → ln j ≤ 64) (h0 : 0 < n) : Asked v (newS wb bk W.heap.size sc xs) n b o pc ln cp rb cl := by
  have g := h.grows hn.old
  have far : ∀ (a : Addr) (x : Value), W.cell? a = some x → ¬ Own (newS wb bk W.heap.size sc xs) [] a.block := fun a x ha ho => by
    have := hn.new _ (.inl ho)
    have := World.block_lt_of_cell? _ _ ha
    omega
  refine ⟨fun j hj => ⟨h.len j hj, h64 j hj⟩, g.row, far _ _ (h.row 0 h0), fun j hj hl => ⟨h.pq j hj hl, ?_⟩, g.call, fun j hj c hc => (h.ok j hj c hc).1⟩
  obtain ⟨c, hc⟩ : ∃ c, (cl j)[0]? = some c := ⟨_, List.getElem?_eq_getElem (by rw [h.len j hj]; exact hl)⟩
  exact far _ _ (h.call j hj 0 c hc).1

end Go.Proofs.Ytfjjoohflcchnaa.Gen

namespace Go.Proofs.Ytfjjoohflcchnaa.Gen
open Go Go.Lift Go.Conc Go.RowKit

set_option maxHeartbeats 1000000 in
set_option maxRecDepth 100000 in
theorem p3_5x {v : World} {a : Act} {s0 s1 s2 s3 : Value} {lp : Option Addr} {m lc : Nat} {i : Nat} (hq : i < 4611686018427387904) (hA : Fl 254 [(0, s0), (1, s1), (2, s2), (3, s3), (9, .bool true), (10, .slice lp m lc), (11, I (i : Nat))] a) :
    q3_5.wp Try.prog (fun e a' w' => e = .normal ∧ (Fl 254 [(0, s0), (1, s1), (2, s2), (3, s3), (9, .bool true), (10, .slice lp m lc), (11, I ((i + 1 : Nat) : Int))] a' ∧ w' = v)) a v := by
  have h9 : wrap64 ((i : Int) + 1) = ((i + 1 : Nat) : Int) := by unfold wrap64; omega
  obtain ⟨hsz, hd, hp⟩ := hA
  obtain ⟨u, rfl, hg⟩ := litN hsz hd
  simp only [List.forall_mem_cons, hg] at hp
  obtain ⟨u0, u1, u2, u3, u9, u10, u11, -⟩ := hp
  clear hg hsz hd
  unfold q3_5 C3 Try.f15 seq1 seq2 blockC loopC
  simp only [Option.getD_some, lits, Nat.reduceAdd, u0, u1, u2, u3, u9, u10, u11]
  clear u0 u1 u2 u3 u9 u10 u11
  go_wp2_with fail
  first
    | exact ⟨⟨rfl, rfl, by
      intro p hp
      simp only [List.mem_cons, List.not_mem_nil, or_false] at hp
      rcases hp with rfl | rfl | rfl | rfl | rfl | rfl | rfl <;> first | rfl | exact congrArg I (by omega) | exact congrArg Value.bool (by simp <;> omega) | exact congrArg Value.bool (by simp) | (simp; done)⟩, rfl⟩
    | exact ⟨rfl, rfl, by
      intro p hp
      simp only [List.mem_cons, List.not_mem_nil, or_false] at hp
      rcases hp with rfl | rfl | rfl | rfl | rfl | rfl | rfl <;> first | rfl | exact congrArg I (by omega) | exact congrArg Value.bool (by simp <;> omega) | exact congrArg Value.bool (by simp) | (simp; done)⟩
    | exact ⟨rfl, ⟨rfl, rfl, by
      intro p hp
      simp only [List.mem_cons, List.not_mem_nil, or_false] at hp
      rcases hp with rfl | rfl | rfl | rfl | rfl | rfl | rfl <;> first | rfl | exact congrArg I (by omega) | exact congrArg Value.bool (by simp <;> omega) | exact congrArg Value.bool (by simp) | (simp; done)⟩, rfl⟩

/-- The ring's cells. -/
def rgV (R : List Nat) : List Value := R.map fun x => I (x : Nat)
/-- The ring under way. -/
structure RgI (v0 : World) (l : Value) (R : List Nat) (w : World) : Prop where
  own : w.ownsRow v0.heap.size 3 1 l R.length (rgV R)
  gr : Grows v0 w
  nd : R.Nodup
  lt : ∀ x ∈ R, x < 12
theorem own_get {w : World} {base : Nat} {e : TypeId} {size : Nat} {p : Option Addr} {n cap : Nat} {xs : List Value} (h : w.ownsRow base e size (.slice p n cap) n xs) (h0 : 0 < n) : ∃ g, p = some ⟨g, 0, none⟩ ∧ ∀ j x, xs[j]? = some x → w.cell? ⟨g, j, none⟩ = some x := by
  rcases h.2 with ⟨_, h⟩ | ⟨g, c, cur, h1, _, h3, _, _, _, h7⟩
  · omega
  · refine ⟨g, by cases h1; rfl, fun j x hj => cell_of h3 ?_⟩
    rw [← h7, List.getElem?_take] at hj
    split at hj
    · simpa using hj
    · cases hj
theorem RgI.app {v0 w w' : World} {lp : Option Addr} {lc : Nat} {R : List Nat} {l' : Value} {k : Nat} (h : RgI v0 (.slice lp R.length lc) R w) (q : Apd v0.heap.size 3 1 (.slice lp R.length lc) R.length (rgV R) [I (k : Nat)] w l' w') (hk : k < 12) (hn : k ∉ R) :
    ∃ lp' lc', l' = .slice lp' (R ++ [k]).length lc' ∧ RgI v0 l' (R ++ [k]) w' := by
  obtain ⟨g, c, hl, hg⟩ := q.at_
  refine ⟨some ⟨g, 0, none⟩, c, by rw [hl, List.length_append]; rfl, ?_, ?_, ?_, ?_⟩
  · rw [List.length_append]
    have := q.own
    have e : rgV (R ++ [k]) = rgV R ++ [I (k : Nat)] := by simp [rgV]
    rw [e]
    exact this
  · refine ⟨Nat.le_trans h.gr.size q.size, fun b hb => ?_, q.os.trans h.gr.os, q.output.trans h.gr.output⟩
    rw [q.old b (Nat.lt_of_lt_of_le hb h.gr.size) (fun e => by have := (own_lt h.own b e.symm).1; omega)]
    exact h.gr.old b hb
  · rw [List.nodup_append]
    exact ⟨h.nd, by simp, fun a ha b hb => by rw [List.mem_singleton] at hb; subst hb; exact fun e => hn (e ▸ ha)⟩
  · intro x hx
    rw [List.mem_append, List.mem_singleton] at hx
    rcases hx with hx | rfl
    · exact h.lt x hx
    · exact hk
section
variable {Q : Exit → Act → World → Prop} {a : Act} {v v0 : World} {s0 s1 s2 s3 : Value}
set_option maxHeartbeats 1000000 in
theorem la3_ring {p1 : Option Addr} {b1 o1 c1 : Nat} {pk : List Int} (hI : InI v0 p1 b1 o1 pk) (hA : Fl 254 [(0, s0), (1, .slice p1 pk.length c1), (2, s2), (3, s3), (9, .bool true), (10, .slice none 0 0)] a)
    (k : ∀ a' u' R lp lc, Fl 254 [(0, s0), (1, .slice p1 pk.length c1), (2, s2), (3, s3), (9, .bool true), (10, .slice lp R.length lc)] a' → RgI v0 (.slice lp R.length lc) R u' → R.length ≤ 12 → Q .normal a' u') : (Code.seq q3_3 (.block 0 K3_0)).wp Try.prog Q a v0 := by
  refine wp_then (p3_3 hA) fun a1 w1 h => ?_
  obtain ⟨h1, rfl⟩ := h
  unfold K3_0
  have hlen := hI.len
  refine wp_while (t := 38) (fun c a x => ∃ i R lp lc, i ≤ pk.length ∧ c = pk.length - i ∧ Fl 254 [(0, s0), (1, .slice p1 pk.length c1), (2, s2), (3, s3), (9, .bool true), (10, .slice lp R.length lc), (11, I (i : Nat))] a ∧ RgI w1 (.slice lp R.length lc) R x ∧ R.length ≤ 12) _
    ⟨0, [], none, 0, Nat.zero_le _, rfl, h1, ⟨World.ownsRow_nil _ _ _ _, ⟨Nat.le_refl _, fun _ _ => rfl, rfl, rfl⟩, List.nodup_nil, fun x hx => by cases hx⟩, by simp⟩ ?_
  clear h1 hA
  rintro c a2 x ⟨i, R, lp, lc, hi, rfl, h2, hR, h12⟩
  by_cases hlt : i < pk.length
  · by_cases hm : R.length < 12
    · refine ⟨_, p3_4a hlt hm h2, ?_⟩
      rintro a3 w3 ⟨h3, rfl⟩
      refine .inr ⟨h3.hd rfl, ?_⟩
      refine wp_seq (wp_block ?_)
      unfold K3_1
      obtain ⟨y, hy⟩ : ∃ y, pk[i]? = some y := ⟨_, List.getElem?_eq_getElem hlt⟩
      have hp := hI.at_ (by omega)
      subst hp
      refine wp_then (p3_6 hlt (hR.gr.cell (hI.cell i y hy)) h3.tl) fun a4 w4 h => ?_
      obtain ⟨h4, rfl⟩ := h
      have hw := which_lt y (show 0 < 12 by omega)
      generalize which y 12 = K at h4 hw
      refine wp_then (p3_7 h4) fun a5 w5 h => ?_
      obtain ⟨h5, rfl⟩ := h
      refine wp_seq ?_
      refine wp_then (p3_8 h5) fun a6 w6 h => ?_
      obtain ⟨h6, rfl⟩ := h
      unfold K3_2
      refine wp_while (t := 49) (fun c a x => ∃ j kn, j ≤ R.length ∧ c = R.length - j ∧ kn = decide (K ∈ R.take j) ∧ Fl 254 [(0, s0), (1, .slice (some ⟨b1, o1, none⟩) pk.length c1), (2, s2), (3, s3), (9, .bool true), (10, .slice lp R.length lc), (11, I (i : Nat)), (12, I (K : Nat)), (13, .bool kn), (14, I (j : Nat))] a ∧ x = w6) _
        ⟨0, false, Nat.zero_le _, rfl, by simp, h6, rfl⟩ ?_
      clear h6 h5 h4 h3 h2
      rintro c a7 x ⟨j, kn, hj, rfl, hkn, h7, rfl⟩
      refine ⟨_, p3_9 h7, ?_⟩
      rintro a8 w8 ⟨h8, rfl⟩
      by_cases hlj : j < R.length
      · refine .inr ⟨h8.hd (by simp [hlj]), ?_⟩
        refine wp_seq (wp_block ?_)
        unfold K3_3
        obtain ⟨r, hr⟩ : ∃ r, R[j]? = some r := ⟨_, List.getElem?_eq_getElem hlj⟩
        have htake : R.take (j + 1) = R.take j ++ [r] := by rw [List.take_add_one, hr]; rfl
        have fin : ∀ {a' : Act} {kn' : Bool}, kn' = decide (K ∈ R.take (j + 1)) → Fl 254 [(0, s0), (1, .slice (some ⟨b1, o1, none⟩) pk.length c1), (2, s2), (3, s3), (9, .bool true), (10, .slice lp R.length lc), (11, I (i : Nat)), (12, I (K : Nat)), (13, .bool kn'), (14, I (j : Nat))] a' →
            q3_10.wp Try.prog (fun e a x => e = .normal ∧ ∃ n', n' < R.length - j ∧ ∃ j kn, j ≤ R.length ∧ n' = R.length - j ∧ kn = decide (K ∈ R.take j) ∧ Fl 254 [(0, s0), (1, .slice (some ⟨b1, o1, none⟩) pk.length c1), (2, s2), (3, s3), (9, .bool true), (10, .slice lp R.length lc), (11, I (i : Nat)), (12, I (K : Nat)), (13, .bool kn), (14, I (j : Nat))] a ∧ x = w8) a' w8 := by
          intro a' kn' hk' hA'
          refine wp_last (p3_10 (by omega) hA') fun a9 w9 h => ?_
          obtain ⟨h9, rfl⟩ := h
          exact ⟨rfl, R.length - (j + 1), by omega, j + 1, kn', by omega, rfl, hk', h9, rfl⟩
        cases kn with
        | true =>
          refine wp_last (p3_11t h8.tl) fun a9 w9 h => ?_
          obtain ⟨h9, rfl⟩ := h
          show Code.wp _ _ _ _ _
          refine wp_mono (fin (by rw [htake]; have := hkn.symm; simp at this ⊢; exact .inl this) h9) fun e a w h => ?_
          obtain ⟨rfl, h⟩ := h
          exact h
        | false =>
          obtain ⟨g, hg, hgc⟩ := own_get hR.own (by omega)
          subst hg
          refine wp_last (p3_11f (y := r) hlj (hgc j _ (by simp [rgV, hr])) h8.tl) fun a9 w9 h => ?_
          obtain ⟨h9, rfl⟩ := h
          show Code.wp _ _ _ _ _
          refine wp_mono (fin (by
            rw [htake]
            have h0 : ¬ K ∈ R.take j := by simpa using hkn
            by_cases e : r = K
            · subst e; simp
            · have e1 : ((r : Int) == (K : Int)) = false := by simp; omega
              rw [e1]
              have e2 : ¬ (K ∈ R.take j ++ [r]) := by
                rw [List.mem_append, List.mem_singleton]
                rintro (h | h)
                · exact h0 h
                · exact e h.symm
              simp only [e2, decide_false]) h9) fun e a w h => ?_
          obtain ⟨rfl, h⟩ := h
          exact h
      · refine .inl ⟨h8.hf (by simp [hlj]), ?_⟩
        have hje : R.take j = R := List.take_of_length_le (by omega)
        rw [hje] at hkn
        show Code.wp _ _ _ _ _
        refine wp_then (p3_12 (show Fl 254 [(0, s0), (1, .slice (some ⟨b1, o1, none⟩) pk.length c1), (2, s2), (3, s3), (9, .bool true), (10, .slice lp R.length lc), (11, I (i : Nat)), (12, I (K : Nat)), (13, .bool kn)] a8 from h8.sub (by simp))) fun a9 w9 h => ?_
        obtain ⟨h9, rfl⟩ := h
        cases kn with
        | true =>
          refine wp_cond_false (h9.hf rfl) (wp_skip ?_)
          show Code.wp _ _ _ _ _
          refine wp_last (p3_5x (by omega) (show Fl 254 [(0, s0), (1, .slice (some ⟨b1, o1, none⟩) pk.length c1), (2, s2), (3, s3), (9, .bool true), (10, .slice lp R.length lc), (11, I (i : Nat))] a9 from h9.sub (by simp))) fun a10 w10 h => ?_
          obtain ⟨h10, rfl⟩ := h
          exact ⟨pk.length - (i + 1), by omega, i + 1, R, lp, lc, by omega, rfl, h10, hR, h12⟩
        | false =>
          refine wp_cond_true (h9.hd rfl) ?_
          refine wp_last (p3_13 (lo := w1.heap.size) (xs := rgV R) hR.own (by omega) hR.gr.size h9.tl) fun a10 w10 h => ?_
          obtain ⟨l', hap, h10⟩ := h
          obtain ⟨lp', lc', rfl, hR'⟩ := hR.app hap hw (by simpa using hkn)
          show Code.wp _ _ _ _ _
          refine wp_last (p3_5x (by omega) h10) fun a11 w11 h => ?_
          obtain ⟨h11, rfl⟩ := h
          exact ⟨pk.length - (i + 1), by omega, i + 1, R ++ [K], lp', lc', by omega, rfl, h11, hR', by rw [List.length_append]; show R.length + 1 ≤ 12; omega⟩
    · refine ⟨_, p3_4b hlt hm h2, ?_⟩
      rintro a3 w3 ⟨h3, rfl⟩
      exact .inl ⟨h3.hf rfl, k _ _ R lp lc (h3.sub (by simp)) hR h12⟩
  · refine ⟨_, p3_4c hlt h2, ?_⟩
    rintro a3 w3 ⟨h3, rfl⟩
    exact .inl ⟨h3.hf rfl, k _ _ R lp lc (h3.sub (by simp)) hR h12⟩
end
end Go.Proofs.Ytfjjoohflcchnaa.Gen
