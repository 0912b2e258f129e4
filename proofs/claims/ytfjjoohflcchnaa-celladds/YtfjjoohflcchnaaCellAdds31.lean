/- CellAdds returns true, whatever the schedule, the start and the numbers, and leaves what it was given as it was: of the law's statement as given, with no condition of our own. Part 31 of 34. (Joined, by program, of: Add4, Add4b, Add4c.) -/
import Derived.Test.YtfjjoohflcchnaaCellAdds30
set_option linter.unusedSimpArgs false
set_option linter.unusedVariables false
namespace Go.Proofs.Ytfjjoohflcchnaa
open Go Go.Lift Go.Conc Go.RowKit

noncomputable def B4 : Code := Try.f4.body.getD .skip
noncomputable def U4 : Code := seq2 (seq2 B4)
noncomputable def e42 : Code := seq1 U4
noncomputable def e44 : Code := seq1 (seq2 U4)
noncomputable def e45 : Code := seq1 (seq2 (seq2 U4))
noncomputable def e46 : Code := seq1 (seq2 (seq2 (seq2 U4)))
noncomputable def e419 : Code := seq1 (seq2 (seq2 (seq2 (seq2 U4))))
noncomputable def e420 : Code := seq1 (seq2 (seq2 (seq2 (seq2 (seq2 U4)))))
noncomputable def e421 : Code := seq1 (seq2 (seq2 (seq2 (seq2 (seq2 (seq2 U4))))))
noncomputable def P4 : Code := seq2 (seq2 (seq2 (seq2 (seq2 (seq2 (seq2 U4))))))
theorem eB4 : B4 = .seq (seq1 B4) (.seq (seq1 (seq2 B4)) (.seq e42 (.seq e44 (.seq e45 (.seq e46 (.seq e419 (.seq e420 (.seq e421 P4)))))))) := by kernel_rfl
theorem fine42 : fineCode Try.prog true LO e42 := fineCode_ask callO extT (by kernel_rfl)
theorem fine44 : fineCode Try.prog true LO e44 := fineCode_ask callO extT (by kernel_rfl)
theorem fine45 : fineCode Try.prog true LO e45 := fineCode_ask callO extT (by kernel_rfl)
theorem fine46 : fineCode Try.prog true LO e46 := fineCode_ask callO extT (by kernel_rfl)
theorem fine419 : fineCode Try.prog true LO e419 := fineCode_ask callO extT (by kernel_rfl)
theorem fine420 : fineCode Try.prog true LO e420 := fineCode_ask callO extT (by kernel_rfl)

/-- What is known of a frame's slots. -/
def FrL (a : Act) : List (Nat × Value) → Prop
  | [] => True
  | x :: l => a.tmps.getD x.1 undef = x.2 ∧ FrL a l
structure Fram (n : Nat) (fs : List (Nat × Value)) (a : Act) : Prop where
  size : a.tmps.size = n
  defers : a.defers = []
  at_ : FrL a fs

/-- All but some blocks stay. -/
structure Stn (P : Nat → Prop) (u u' : World) : Prop where
  size : u.heap.size ≤ u'.heap.size
  blk : ∀ b, b < u.heap.size → ¬ P b → u'.heap[b]? = u.heap[b]?
  os : u'.os = u.os
  out : u'.output = u.output
theorem Stn.own {P : Nat → Prop} {u u' : World} (h : Stn P u u') {base : Nat} {e : TypeId} {s : Nat} {v : Value} {n : Nat} {xs : List Value} (ho : u.ownsRow base e s v n xs) (hP : ∀ b, v.ownBlock = some b → ¬ P b) : u'.ownsRow base e s v n xs :=
  own_stay (fun b hb => h.blk b (own_lt ho b hb).2 (hP b hb)) ho
theorem Stn.cell {P : Nat → Prop} {u u' : World} (h : Stn P u u') {a : Addr} {x : Value} (hc : u.cell? a = some x) (hP : ¬ P a.block) : u'.cell? a = some x := by
  rw [World.cell?_of_block (w := u) (w' := u') (h.blk a.block (World.block_lt_of_cell? _ _ hc) hP)]
  exact hc
theorem stn_append {u u' : World} {o : Obj} {row : Option Nat} (h : (u.alloc o).grownBy u' row) : Stn (fun b => row = some b) u u' := by
  refine ⟨Nat.le_trans (by show u.heap.size ≤ (u.heap.push _).size; simp) h.size, fun b hb hP => ?_, h.os, h.output⟩
  rw [h.block b (by show b < (u.heap.push _).size; simp; omega) (fun e => hP e.symm)]
  show (u.heap.push _)[b]? = _
  rw [Array.getElem?_push, if_neg (by omega)]

def calls4 (l : List Cl) : List Value := l.flatMap fun c => [I c.po, I c.ca, I c.cb, I c.cc]
theorem calls4_app (a b : List Cl) : calls4 (a ++ b) = calls4 a ++ calls4 b := List.flatMap_append
theorem calls4_get : ∀ (l : List Cl) (k : Nat) (c : Cl), l[k]? = some c → (calls4 l)[k * 4]? = some (I c.po) ∧ (calls4 l)[k * 4 + 1]? = some (I c.ca) ∧ (calls4 l)[k * 4 + 2]? = some (I c.cb) ∧ (calls4 l)[k * 4 + 3]? = some (I c.cc)
  | b :: l, 0, a, h => by obtain rfl : b = a := by simpa using h
                          exact ⟨rfl, rfl, rfl, rfl⟩
  | b :: l, k + 1, a, h => by
    have := calls4_get l k a (by simpa using h)
    have e0 : ∀ j, (calls4 (b :: l))[j + 4]? = (calls4 l)[j]? := fun j => rfl
    rw [show (k + 1) * 4 = k * 4 + 4 by omega, show k * 4 + 4 + 1 = (k * 4 + 1) + 4 by omega, show k * 4 + 4 + 2 = (k * 4 + 2) + 4 by omega, show k * 4 + 4 + 3 = (k * 4 + 3) + 4 by omega]
    simp only [e0]
    exact this
/-- Where the numbers lie that came in. -/
structure InA (W : World) (p : Option Addr) (b o n : Nat) (qa : Nat → Option Addr) (ca ib io : Nat → Nat) (za : Nat → List Int) : Prop where
  at_ : 0 < n → p = some ⟨b, o, none⟩
  row : ∀ k, k < n → W.cell? ⟨b, o + k, none⟩ = some (.slice (qa k) (za k).length (ca k))
  qa : ∀ j, j < n → 0 < (za j).length → qa j = some ⟨ib j, io j, none⟩
  cell : ∀ j, j < n → ∀ (k : Nat) (x : Int), (za j)[k]? = some x → W.cell? ⟨ib j, io j + k, none⟩ = some (I x)
theorem InA.stn {P : Nat → Prop} {W W' : World} {p : Option Addr} {b o n : Nat} {qa : Nat → Option Addr} {ca ib io : Nat → Nat} {za : Nat → List Int} (h : InA W p b o n qa ca ib io za) (g : Grows W W') : InA W' p b o n qa ca ib io za :=
  ⟨h.at_, fun k hk => g.cell (h.row k hk), h.qa, fun j hj k x hx => g.cell (h.cell j hj k x hx)⟩
/-- What is added for a number that came in. -/
def incr (x : Int) : Nat := (1 + bits .and .i64 x 1023).toNat
theorem incr_and (x : Int) : 0 ≤ bits .and .i64 x 1023 ∧ bits .and .i64 x 1023 ≤ 1023 := by
  have e : bits .and .i64 x 1023 = IntKind.i64.wrap ((BitVec.ofInt 64 x &&& BitVec.ofInt 64 1023).toNat : Int) := rfl
  have h : (BitVec.ofInt 64 x &&& BitVec.ofInt 64 1023).toNat ≤ 1023 := by
    rw [BitVec.toNat_and]
    exact Nat.le_trans Nat.and_le_right (by decide)
  rw [e, IntKind.wrap_i64]
  generalize (BitVec.ofInt 64 x &&& BitVec.ofInt 64 1023).toNat = k at h
  omega
theorem incr_in (x : Int) : (incr x : Int) = 1 + bits .and .i64 x 1023 ∧ 1 ≤ incr x ∧ incr x ≤ 1024 := by
  have := incr_and x
  unfold incr
  omega

/-- The scripts so far. -/
structure Built (v : World) (az : Nat → List Nat) (k : Nat) (V8 : Value) (V : Nat → Value) (u : World) : Prop where
  outer : u.ownsRow v.heap.size 37 1 V8 k ((List.range k).map V)
  inner : ∀ j, j < k → u.ownsRow v.heap.size 39 4 (V j) (az j).length (calls4 ((az j).map addCl))
  ap8 : ∀ j, j < k → ∀ b, (V j).ownBlock = some b → V8.ownBlock ≠ some b
  ap : ∀ i j, i < k → j < k → i ≠ j → ∀ b, (V i).ownBlock = some b → (V j).ownBlock ≠ some b
  old : Grows v u
theorem own_low {w : World} {base : Nat} {e : TypeId} {s : Nat} {v : Value} {n : Nat} {xs : List Value} (h : w.ownsRow base e s v n xs) {b : Nat} (hb : v.ownBlock = some b) : base ≤ b ∧ b < w.heap.size := own_lt h b hb
theorem Built.stn {v u u' : World} {az : Nat → List Nat} {k : Nat} {V8 : Value} {V : Nat → Value} {P : Nat → Prop} (h : Built v az k V8 V u) (s : Stn P u u') (h8 : ∀ b, V8.ownBlock = some b → ¬ P b) (hV : ∀ j, j < k → ∀ b, (V j).ownBlock = some b → ¬ P b) (hlow : ∀ b, P b → v.heap.size ≤ b) : Built v az k V8 V u' :=
  ⟨s.own h.outer h8, fun j hj => s.own (h.inner j hj) (hV j hj), h.ap8, h.ap, ⟨Nat.le_trans h.old.size s.size, fun b hb => by rw [s.blk b (by have := h.old.size; omega) (fun hp => by have := hlow b hp; omega)]; exact h.old.old b hb, s.os.trans h.old.os, s.out.trans h.old.output⟩⟩
/-- .. and the one that is being built. -/
structure Being (v : World) (az : Nat → List Nat) (k : Nat) (V8 : Value) (V : Nat → Value) (Vl : Value) (kk : Nat) (u : World) : Prop where
  built : Built v az k V8 V u
  cur : u.ownsRow v.heap.size 39 4 Vl kk (calls4 (((az k).take kk).map addCl))
  ap8 : ∀ b, Vl.ownBlock = some b → V8.ownBlock ≠ some b
  ap : ∀ j, j < k → ∀ b, (V j).ownBlock = some b → Vl.ownBlock ≠ some b
theorem Being.next {v u u' : World} {az : Nat → List Nat} {k kk g cap m : Nat} {V8 Vl : Value} {V : Nat → Value} {o : Obj} (h : Being v az k V8 V Vl kk u) (hg : (u.alloc o).grownBy u' Vl.ownBlock) (hm : (az k)[kk]? = some m) (hown : u'.ownsRow v.heap.size 39 4 (.slice (some ⟨g, 0, none⟩) (kk + 1) cap) (kk + 1) (calls4 (((az k).take kk).map addCl) ++ [I 5, I 0, I m, I 0])) (hat : Vl.ownBlock = some g ∨ g = (u.alloc o).heap.size) : Being v az k V8 V (.slice (some ⟨g, 0, none⟩) (kk + 1) cap) (kk + 1) u' := by
  have st := stn_append hg
  have hsz : (u.alloc o).heap.size = u.heap.size + 1 := by show (u.heap.push _).size = _; simp
  have hl : kk < (az k).length := (List.getElem?_eq_some_iff.1 hm).1
  refine ⟨h.built.stn st (fun b hb hp => h.ap8 b hp hb) (fun j hj b hb hp => h.ap j hj b hb hp) (fun b hp => (own_low h.cur hp).1), ?_, fun b hb => ?_, fun j hj b hb => ?_⟩
  · have e : (az k).take (kk + 1) = (az k).take kk ++ [m] := by rw [List.take_add_one, hm]; rfl
    rw [e, List.map_append, calls4_app]
    exact hown
  · cases hb
    rcases hat with h1 | h1
    · exact h.ap8 _ h1
    · intro e
      have : g < u.heap.size := (own_low h.built.outer e).2
      omega
  · rintro e
    cases e
    rcases hat with h1 | h1
    · exact h.ap j hj _ hb h1
    · have : g < u.heap.size := (own_low (h.built.inner j hj) hb).2
      omega
theorem Built.next {v u u' : World} {az : Nat → List Nat} {k g cap : Nat} {V8 Vl : Value} {V : Nat → Value} {o : Obj} (h : Being v az k V8 V Vl (az k).length u) (hg : (u.alloc o).grownBy u' V8.ownBlock) (hown : u'.ownsRow v.heap.size 37 1 (.slice (some ⟨g, 0, none⟩) (k + 1) cap) (k + 1) ((List.range k).map V ++ [Vl])) (hat : V8.ownBlock = some g ∨ g = (u.alloc o).heap.size) : Built v az (k + 1) (.slice (some ⟨g, 0, none⟩) (k + 1) cap) (fun j => if j = k then Vl else V j) u' := by
  have st := stn_append hg
  have hsz : (u.alloc o).heap.size = u.heap.size + 1 := by show (u.heap.push _).size = _; simp
  have hcur := h.cur
  rw [List.take_length] at hcur
  have each : ∀ j, j < k + 1 → u.ownsRow v.heap.size 39 4 (if j = k then Vl else V j) (az j).length (calls4 ((az j).map addCl)) ∧ ∀ b, (if j = k then Vl else V j).ownBlock = some b → V8.ownBlock ≠ some b := fun j hj => by
    by_cases e : j = k
    · subst e
      rw [if_pos rfl]
      exact ⟨hcur, h.ap8⟩
    · rw [if_neg e]
      exact ⟨h.built.inner j (by omega), h.built.ap8 j (by omega)⟩
  refine ⟨?_, fun j hj => st.own (each j hj).1 (fun b hb hp => (each j hj).2 b hb hp), fun j hj b hb e => ?_, fun i j hi hj hne b hb e => ?_, ⟨Nat.le_trans h.built.old.size st.size, fun b hb => by rw [st.blk b (by have := h.built.old.size; omega) (fun hp => by have := (own_low h.built.outer hp).1; omega)]; exact h.built.old.old b hb, st.os.trans h.built.old.os, st.out.trans h.built.old.output⟩⟩
  · rw [List.range_succ, List.map_append]
    have e1 : (List.range k).map (fun j => if j = k then Vl else V j) = (List.range k).map V := List.map_congr_left (fun j hj => by rw [if_neg (by have := List.mem_range.1 hj; omega)])
    rw [e1]
    simp only [List.map_cons, List.map_nil, if_true]
    exact hown
  · cases e
    rcases hat with h1 | h1
    · exact (each j hj).2 _ hb h1
    · have : g < u.heap.size := (own_low (each j hj).1 hb).2
      omega
  · by_cases ei : i = k
    · rw [if_pos ei] at hb
      rw [if_neg (by omega)] at e
      exact h.ap j (by omega) b e hb
    · rw [if_neg ei] at hb
      by_cases ej : j = k
      · rw [if_pos ej] at e
        exact h.ap i (by omega) b hb e
      · rw [if_neg ej] at e
        exact h.built.ap i j (by omega) (by omega) hne b hb e

set_option maxHeartbeats 4000000 in
set_option maxRecDepth 100000 in
/-- Too few or too many: true. -/
theorem e42_wp {v : World} {s0 : Value} {start : Int} {p : Option Addr} {n cap : Nat} {a : Act} (hF : Fram 191 [(0, s0), (1, I start), (2, .slice p n cap), (7, .bool true)] a) :
    e42.wp Try.prog (fun e a w' => (w'.heap = v.heap ∧ w'.os = v.os ∧ w'.output = v.output) ∧ ((e = .ret ∧ a.tmps.getD 6 undef = .bool true ∧ ¬ (0 < n ∧ n ≤ 8)) ∨ (e = .normal ∧ (0 < n ∧ n ≤ 8) ∧ Fram 191 [(0, s0), (1, I start), (2, .slice p n cap), (7, .bool true)] a))) a v := by
  obtain ⟨f0, f1, f2, f7, -⟩ := hF.at_
  obtain ⟨u, rfl, hg⟩ := litN hF.size hF.defers
  have u0 := (hg 0).symm.trans f0
  have u1 := (hg 1).symm.trans f1
  have u2 := (hg 2).symm.trans f2
  have u7 := (hg 7).symm.trans f7
  clear hg hF f0 f1 f2 f7
  show Code.wp Try.prog (seq1 (seq2 (seq2 B4))) _ _ _
  unfold B4 Try.f4 seq2 seq1
  simp only [Option.getD_some, lis, Nat.reduceAdd, u0, u1, u2, u7]
  clear u0 u1 u2 u7
  by_cases h0 : (n : Int) < 1
  · go_wp2_with fail
    exact fun h => by omega
  · by_cases h8 : (8 : Int) < (n : Int)
    · go_wp2_with fail
      exact fun h => by omega
    · go_wp2_with fail
      exact ⟨by omega, ⟨rfl, rfl, rfl, rfl, rfl, rfl, trivial⟩⟩

set_option maxHeartbeats 4000000 in
set_option maxRecDepth 100000 in
theorem e44_wp {v : World} {s0 : Value} {start : Int} {p : Option Addr} {n cap : Nat} {a : Act} (hF : Fram 191 [(0, s0), (1, I start), (2, .slice p n cap), (7, .bool true)] a) :
    e44.wp Try.prog (fun e a w' => e = .normal ∧ Fram 191 [(0, s0), (1, I start), (2, .slice p n cap), (7, .bool true), (8, .slice none 0 0)] a ∧ (w'.heap = v.heap ∧ w'.os = v.os ∧ w'.output = v.output)) a v := by
  obtain ⟨f0, f1, f2, f7, -⟩ := hF.at_
  obtain ⟨u, rfl, hg⟩ := litN hF.size hF.defers
  have u0 := (hg 0).symm.trans f0
  have u1 := (hg 1).symm.trans f1
  have u2 := (hg 2).symm.trans f2
  have u7 := (hg 7).symm.trans f7
  clear hg hF f0 f1 f2 f7
  show Code.wp Try.prog (seq1 (seq2 (seq2 (seq2 B4)))) _ _ _
  unfold B4 Try.f4 seq2 seq1
  simp only [Option.getD_some, lis, Nat.reduceAdd, u0, u1, u2, u7]
  clear u0 u1 u2 u7
  go_wp2_with fail
  exact ⟨rfl, rfl, rfl, rfl, rfl, rfl, rfl, trivial⟩
set_option maxHeartbeats 4000000 in
set_option maxRecDepth 100000 in
theorem e45_wp {v : World} {s0 : Value} {start : Int} {p : Option Addr} {n cap : Nat} {a : Act} (hF : Fram 191 [(0, s0), (1, I start), (2, .slice p n cap), (7, .bool true), (8, .slice none 0 0)] a) :
    e45.wp Try.prog (fun e a w' => e = .normal ∧ Fram 191 [(0, s0), (1, I start), (2, .slice p n cap), (7, .bool true), (8, .slice none 0 0), (9, I start)] a ∧ (w'.heap = v.heap ∧ w'.os = v.os ∧ w'.output = v.output)) a v := by
  obtain ⟨f0, f1, f2, f7, f8, -⟩ := hF.at_
  obtain ⟨u, rfl, hg⟩ := litN hF.size hF.defers
  have u0 := (hg 0).symm.trans f0
  have u1 := (hg 1).symm.trans f1
  have u2 := (hg 2).symm.trans f2
  have u7 := (hg 7).symm.trans f7
  have u8 := (hg 8).symm.trans f8
  clear hg hF f0 f1 f2 f7 f8
  show Code.wp Try.prog (seq1 (seq2 (seq2 (seq2 (seq2 B4))))) _ _ _
  unfold B4 Try.f4 seq2 seq1
  simp only [Option.getD_some, lis, Nat.reduceAdd, u0, u1, u2, u7, u8]
  clear u0 u1 u2 u7 u8
  go_wp2_with fail
  exact ⟨rfl, rfl, rfl, rfl, rfl, rfl, rfl, rfl, trivial⟩
end Go.Proofs.Ytfjjoohflcchnaa

namespace Go.Proofs.Ytfjjoohflcchnaa
open Go Go.Lift Go.Conc Go.RowKit

theorem info39 : (Try.prog.info? 39).map (fun i => (i.zero, i.size, i.bytes)) = some (some (.agg #[I 0, I 0, I 0, I 0]), 4, 32) := by kernel_rfl
theorem info37 : (Try.prog.info? 37).map (fun i => (i.zero, i.size, i.bytes)) = some (some (.slice none 0 0), 1, 24) := by kernel_rfl
/-- The numbers of thread j. -/
def azOf (za : Nat → List Int) (j : Nat) : List Nat := (za j).map incr
theorem total_succ (az : Nat → List Nat) (k : Nat) : total az (k + 1) = total az k + (az k).sum := by
  unfold total
  rw [List.range_succ, List.map_append, List.sum_append]
  simp
theorem take_sum_succ {l : List Nat} {k m : Nat} (h : l[k]? = some m) : (l.take (k + 1)).sum = (l.take k).sum + m := by
  rw [List.take_add_one, h, List.sum_append]
  simp

set_option maxHeartbeats 8000000 in
set_option maxRecDepth 100000 in
theorem e46_wp {v : World} {s0 : Value} {start : Int} {p : Option Addr} {b o n cap : Nat} {qa : Nat → Option Addr} {ca ib io : Nat → Nat} {za : Nat → List Int} {a : Act} (hI : InA v p b o n qa ca ib io za) (hn : 0 < n ∧ n ≤ 8) (hst : InR start) (hF : Fram 191 [(0, s0), (1, I start), (2, .slice p n cap), (7, .bool true), (8, .slice none 0 0), (9, I start)] a) :
    e46.wp Try.prog (fun e a w' => (e = .ret ∧ a.tmps.getD 6 undef = .bool true ∧ Grows v w') ∨ (e = .normal ∧ (∀ j, j < n → (za j).length < 64) ∧ ∃ V8 V, Fram 191 [(0, s0), (1, I start), (2, .slice p n cap), (7, .bool true), (8, V8), (9, I (wrap64 (start + total (azOf za) n)))] a ∧ Built v (azOf za) n V8 V w')) a v := by
  have hp := hI.at_ hn.1
  subst hp
  have HI : Hid (InA v (some ⟨b, o, none⟩) b o n qa ca ib io za) := ⟨hI⟩
  have H0 : Hid (Built v (azOf za) 0 (.slice none 0 0) (fun _ => undef) v ∧ start = wrap64 (start + total (azOf za) 0)) := ⟨⟨⟨World.ownsRow_nil _ _ _ _, fun j hj => by omega, fun j hj => by omega, fun i j hi => by omega, ⟨Nat.le_refl _, fun _ _ => rfl, rfl, rfl⟩⟩, by
    unfold InR at hst
    show start = wrap64 (start + ((0 : Nat) : Int))
    unfold wrap64
    omega⟩⟩
  have HN : Hid (0 < n ∧ n ≤ 8) := ⟨hn⟩
  obtain ⟨f0, f1, f2, f7, f8, f9, -⟩ := hF.at_
  obtain ⟨u, rfl, hg⟩ := litN hF.size hF.defers
  have u0 := (hg 0).symm.trans f0
  have u1 := (hg 1).symm.trans f1
  have u2 := (hg 2).symm.trans f2
  have u7 := (hg 7).symm.trans f7
  have u8 := (hg 8).symm.trans f8
  have u9 := (hg 9).symm.trans f9
  clear hg hF f0 f1 f2 f7 f8 f9 hI hst hn
  obtain ⟨j4, hj4, hj40, hj41, hj42⟩ := info_parts info39
  obtain ⟨j1, hj1, hj10, hj11, hj12⟩ := info_parts info37
  show Code.wp Try.prog (seq1 (seq2 (seq2 (seq2 (seq2 (seq2 B4)))))) _ _ _
  unfold B4 Try.f4 seq2 seq1
  simp only [Option.getD_some, lis, Nat.reduceAdd, u0, u1, u2, u7, u8, u9]
  clear u0 u1 u2 u7 u8 u9
  go_wp2_with fail
  go_loopw [8, 9, 10] (fun V8 sm i w => ∃ k : Nat, k ≤ n ∧ i = .int .i64 k ∧ sm = I (wrap64 (start + total (azOf za) k)) ∧ (∀ j, j < k → (za j).length < 64) ∧ ∃ V, Built v (azOf za) k V8 V w) (fun _ _ i _ => n - (intOf i).toNat)
  case atStart => exact ⟨0, Nat.zero_le _, rfl, by rw [← H0.out.2], fun j hj => by omega, _, H0.out.1⟩
  case round =>
    obtain ⟨k, hk, rfl, rfl, h64, V, hB⟩ := hrel
    by_cases hlt : k < n
    · have hlt' : (k : Int) < (n : Int) := by omega
      obtain ⟨wo, hwo⟩ : ∃ wo, wo = wr := ⟨wr, rfl⟩
      subst hwo
      have HA : Hid (InA wo (some ⟨b, o, none⟩) b o n qa ca ib io za) := ⟨HI.out.stn (P := fun _ => True) hB.old⟩
      have hrow := HA.out.row k hlt
      have HB : Hid (Built v (azOf za) k u8 V wo) := ⟨hB⟩
      have H64 : Hid (∀ j, j < k → (za j).length < 64) := ⟨h64⟩
      clear h64 hB
      by_cases hge : (64 : Int) ≤ ((za k).length : Int)
      · go_wp2_with fail
        exact HB.out.old
      · have hl64 : (za k).length < 64 := by omega
        have HL : Hid ((za k).length < 64) := ⟨hl64⟩
        clear hl64
        go_wp2_with fail
        go_loopw [9, 11, 12] (fun sm Vl i w => ∃ kk : Nat, kk ≤ (za k).length ∧ i = .int .i64 kk ∧ sm = I (wrap64 (start + ((total (azOf za) k + ((azOf za k).take kk).sum : Nat) : Int))) ∧ Being v (azOf za) k u8 V Vl kk w) (fun _ _ i _ => (za k).length - (intOf i).toNat)
        case atStart => exact ⟨0, Nat.zero_le _, rfl, rfl, ⟨HB.out, World.ownsRow_nil _ _ _ _, (fun b hb => nomatch hb), (fun j hj b hb e => nomatch e)⟩⟩
        case round =>
          obtain ⟨kk, hkk, rfl, rfl, hBe⟩ := hrel
          have hrow' := (HI.out.stn (P := fun _ => True) hBe.built.old).row k hlt
          by_cases hlt2 : kk < (za k).length
          · obtain ⟨x, hx⟩ : ∃ x, (za k)[kk]? = some x := ⟨_, List.getElem?_eq_getElem hlt2⟩
            have hcell := (HI.out.stn (P := fun _ => True) hBe.built.old).cell k hlt kk x hx
            have hqa := HI.out.qa k hlt (by omega)
            rw [hqa] at hrow'
            have hlt2' : (kk : Int) < ((za k).length : Int) := by omega
            obtain ⟨m, hbit, hm⟩ : ∃ m : Nat, bits .and .i64 x 1023 = (m : Int) ∧ m ≤ 1023 := by
              have := incr_and x
              exact ⟨(bits .and .i64 x 1023).toNat, by omega, by omega⟩
            have hinc : (azOf za k)[kk]? = some (m + 1) := by
              unfold azOf
              rw [List.getElem?_map, hx]
              show some (incr x) = some (m + 1)
              unfold incr
              rw [hbit]
              congr 1
              omega
            have HE : Hid (Being v (azOf za) k u8 V u11 kk wr ∧ (azOf za k)[kk]? = some (m + 1)) := ⟨⟨hBe, hinc⟩⟩
            have HO : Hid ((wr.alloc (.cells #[I 5, I 0, I (1 + (m : Int)), I 0] 39)).ownsRow v.heap.size 39 4 u11 kk (calls4 (((azOf za k).take kk).map addCl))) := ⟨own_stay (fun b hb => by
              show (wr.heap.push _)[b]? = _
              rw [Array.getElem?_push, if_neg (by have := (own_low hBe.cur hb).2; omega)]) hBe.cur⟩
            have HS : Hid (v.heap.size ≤ wr.heap.size) := ⟨hBe.built.old.size⟩
            have hcl : (calls4 (((azOf za k).take kk).map addCl)).length = kk * 4 := hBe.cur.1
            have HM : Hid (kk < 64) := ⟨by have := HL.out; omega⟩
            clear hBe hinc hx hqa hcl
            go_wp2_with (first
              | (refine wpList_append_lies _ rfl (.tmp 73) (.tmp 76) 37 rfl v.heap.size 39 j4 _ 4 32 Try.underlying37 hj4 hj40 hj41 hj42 rfl (by decide) u11 kk (calls4 (((azOf za k).take kk).map addCl)) rfl HO.out ⟨wr.heap.size, 0, none⟩ 1 1 [I 5, I 0, I (1 + (m : Int)), I 0] rfl rfl (fun j u hj => World.news_of_block Array.getElem?_push_size j u hj) (fun u hu => by simp at hu; rcases hu with rfl | rfl | rfl | rfl <;> rfl) (by decide) (by have := HM.out; unfold maxLen; omega) (by have := HM.out; omega) (by have := HS.out; show v.heap.size ≤ (wr.heap.push _).size; simp; omega) _ rfl ?_
                 intro g cpg w6 hown6 hgrow6 hat6 hlt6))
            have em : (1 + (m : Int)) = ((m + 1 : Nat) : Int) := by omega
            rw [em] at hown6
            refine ⟨⟨kk + 1, by omega, by go_num, ?_, HE.out.1.next hgrow6 HE.out.2 hown6 hat6⟩, by simp [intOf]; omega⟩
            rw [take_sum_succ HE.out.2, wrap_add]
            have e : (start + (((total (azOf za) k : Nat) : Int) + (((azOf za k).take kk).sum : Nat)) + (1 + (m : Int))) = start + ((total (azOf za) k + (((azOf za k).take kk).sum + (m + 1)) : Nat) : Int) := by omega
            rw [e]
          · have hkl : kk = (za k).length := by omega
            subst hkl
            have hlen : (azOf za k).length = (za k).length := by unfold azOf; simp
            obtain ⟨pl, cpl, hul⟩ := own_form hBe.cur
            subst hul
            have HE : Hid (Being v (azOf za) k u8 V (.slice pl (za k).length cpl) (azOf za k).length wr) := ⟨by rw [hlen]; exact hBe⟩
            have HO : Hid ((wr.alloc (.cells #[.slice pl (za k).length cpl] 37)).ownsRow v.heap.size 37 1 u8 k ((List.range k).map V)) := ⟨own_stay (fun b hb => by
              show (wr.heap.push _)[b]? = _
              rw [Array.getElem?_push, if_neg (by have := (own_low hBe.built.outer hb).2; omega)]) hBe.built.outer⟩
            have HS : Hid (v.heap.size ≤ wr.heap.size ∧ k < 8) := ⟨hBe.built.old.size, by have := HN.out; omega⟩
            have HT : Hid (((azOf za k).take (za k).length).sum = (azOf za k).sum) := ⟨by rw [← hlen, List.take_length]⟩
            clear hBe hlen
            go_wp2_with (first
              | (refine wpList_append_lies _ rfl (.tmp 78) (.tmp 80) 23 rfl v.heap.size 37 j1 _ 1 24 Try.underlying23 hj1 hj10 hj11 hj12 rfl (by decide) u8 k ((List.range k).map V) rfl HO.out ⟨wr.heap.size, 0, none⟩ 1 1 [.slice pl (za k).length cpl] rfl rfl (fun j u hj => World.news_of_block Array.getElem?_push_size j u hj) (fun u hu => by have := List.mem_singleton.1 hu; subst this; rfl) (by decide) (by have := HS.out; unfold maxLen; omega) (by have := HS.out; omega) (by have := HS.out; show v.heap.size ≤ (wr.heap.push _).size; simp; omega) _ rfl ?_
                 intro g cpg w6 hown6 hgrow6 hat6 hlt6))
            have hk8 := HS.out.2
            have ek : wrap64 ((k : Int) + 1) = ((k + 1 : Nat) : Int) := by unfold wrap64; omega
            rw [ek]
            refine ⟨⟨k + 1, by omega, rfl, ?_, fun j hj => ?_, _, Built.next HE.out hgrow6 hown6 hat6⟩, by simp [intOf]; omega⟩
            · rw [total_succ, HT.out]
              have e : (start + (((total (azOf za) k : Nat) : Int) + ((azOf za k).sum : Nat))) = start + ((total (azOf za) k + (azOf za k).sum : Nat) : Int) := by omega
              rw [e]
            · rcases Nat.lt_or_ge j k with h | h
              · exact H64.out j h
              · have : j = k := by omega
                subst this
                exact HL.out
    · have hkn : k = n := by omega
      subst hkn
      have HB : Hid (Built v (azOf za) k u8 V wr ∧ ∀ j, j < k → (za j).length < 64) := ⟨⟨hB, h64⟩⟩
      clear hB h64
      go_wp2_with fail
      exact ⟨HB.out.2, u8, ⟨rfl, rfl, rfl, rfl, rfl, rfl, rfl, rfl, trivial⟩, V, HB.out.1⟩
end Go.Proofs.Ytfjjoohflcchnaa

namespace Go.Proofs.Ytfjjoohflcchnaa
open Go Go.Lift Go.Conc Go.RowKit

def vpc : Value → Option Addr
  | .slice p _ _ => p
  | _ => none
def vcp : Value → Nat
  | .slice _ _ c => c
  | _ => 0
theorem add_zero_at (g i : Nat) : (⟨g, 0, none⟩ : Addr).add i = ⟨g, i, none⟩ := by unfold Addr.add; split <;> simp_all
theorem addS_ok {start : Int} {az : Nat → List Nat} {j : Nat} (hst : InR start) (h : ∀ m ∈ az j, m ≤ 1024) : ∀ c ∈ addS start az j, InR c.ca ∧ c.ok := fun c hc => by
  unfold addS at hc
  rcases List.mem_append.1 hc with hc | hc
  · obtain ⟨m, hm, rfl⟩ := List.mem_map.1 hc
    have := h m hm
    unfold addCl Cl.ok InR
    simp only
    omega
  · split at hc
    · have := List.mem_singleton.1 hc
      subst this
      exact ⟨by unfold untCl InR; simp, wrap_in _, by unfold untCl InR; simp⟩
    · cases hc
theorem inS_of {u : World} {H og n : Nat} {start : Int} {az : Nat → List Nat} {V : Nat → Value} (hst : InR start) (hn : n ≤ 8) (haz : ∀ j, j < n → ∀ m ∈ az j, m ≤ 1024) (hrow : ∀ k, k < n → u.cell? ⟨og, k, none⟩ = some (V k)) (hown : ∀ j, j < n → u.ownsRow H 39 4 (V j) (addS start az j).length (calls4 (addS start az j))) :
    InS u (some ⟨og, 0, none⟩) og 0 n (fun j => vpc (V j)) (fun j => (addS start az j).length) (fun j => vcp (V j)) (fun j => ((V j).ownBlock).getD 0) (addS start az) := by
  have form : ∀ j, j < n → V j = .slice (vpc (V j)) (addS start az j).length (vcp (V j)) ∧ (0 < (addS start az j).length → ∃ g, V j = .slice (some ⟨g, 0, none⟩) (addS start az j).length (vcp (V j))) := fun j hj => by
    rcases (hown j hj).2 with ⟨e, e0⟩ | ⟨g, cap, cur, e, _⟩
    · rw [e, e0]
      exact ⟨rfl, fun h => by omega⟩
    · rw [e]
      exact ⟨rfl, fun _ => ⟨g, rfl⟩⟩
  refine ⟨fun _ => rfl, fun k hk => ?_, fun _ _ => rfl, fun j hj h0 => ?_, fun j hj k c hc => ?_, fun j hj => addS_ok hst (haz j hj), by omega⟩
  · rw [Nat.zero_add, hrow k hk]
    exact congrArg some (form k hk).1
  · obtain ⟨g, hg⟩ := (form j hj).2 h0
    rw [hg]
    rfl
  · have h0 : 0 < (addS start az j).length := by have := (List.getElem?_eq_some_iff.1 hc).1; omega
    obtain ⟨g, hg⟩ := (form j hj).2 h0
    have hc4 := calls4_get _ k c hc
    have hcell : ∀ i x, (calls4 (addS start az j))[i]? = some x → u.cell? ⟨g, i, none⟩ = some x := fun i x hx => by
      have h9 := hown j hj
      rw [hg] at h9
      have := h9.cells (g := g) rfl i x hx
      rw [add_zero_at] at this
      exact this
    rw [hg]
    show u.cell? ⟨g, 0 + k * 4, none⟩ = _ ∧ u.cell? ⟨g, 0 + k * 4 + 1, none⟩ = _ ∧ u.cell? ⟨g, 0 + k * 4 + 2, none⟩ = _ ∧ u.cell? ⟨g, 0 + k * 4 + 3, none⟩ = _
    rw [Nat.zero_add]
    exact ⟨hcell _ _ hc4.1, hcell _ _ hc4.2.1, hcell _ _ hc4.2.2.1, hcell _ _ hc4.2.2.2⟩

set_option maxHeartbeats 8000000 in
set_option maxRecDepth 100000 in
theorem e419_wp {v w : World} {s0 X2 V8 : Value} {start sm : Int} {n : Nat} {az : Nat → List Nat} {V : Nat → Value} {a : Act} (hB : Built v az n V8 V w) (hn : 0 < n ∧ n ≤ 8) (hst : InR start) (haz : ∀ j, j < n → ∀ m ∈ az j, m ≤ 1024) (h64 : ∀ j, j < n → (az j).length < 64) (hF : Fram 191 [(0, s0), (1, I start), (2, X2), (7, .bool true), (8, V8), (9, I sm)] a) :
    e419.wp Try.prog (fun e a w' => e = .normal ∧ ∃ og ocap pc cp rb, Fram 191 [(0, s0), (1, I start), (2, X2), (7, .bool true), (8, .slice (some ⟨og, 0, none⟩) n ocap), (9, I sm)] a ∧ InS w' (some ⟨og, 0, none⟩) og 0 n pc (fun j => (addS start az j).length) cp rb (addS start az) ∧ v.heap.size ≤ og ∧ Grows v w') a w := by
  obtain ⟨og, ocap, cur, e8, hog, hcur, hle, _, hsz, htake⟩ : ∃ g cap cur, V8 = .slice (some ⟨g, 0, none⟩) n cap ∧ v.heap.size ≤ g ∧ w.heap[g]? = some (.cells cur 37 (0, 0)) ∧ n ≤ cap ∧ cap ≤ maxLen ∧ cur.size = cap * 1 ∧ cur.toList.take (n * 1) = (List.range n).map V := by
    rcases hB.outer.2 with ⟨_, e⟩ | h
    · omega
    · exact h
  subst e8
  have hcell : ∀ k, k < n → cur[k]? = some (V k) := fun k hk => by
    have : (cur.toList.take (n * 1))[k]? = some (V k) := by rw [htake]; simp [hk]
    rw [List.getElem?_take_of_lt (by omega)] at this
    simpa using this
  have c0 : w.cell? ⟨og, 0, none⟩ = some (V 0) := by simp [World.cell?, hcur, hcell 0 hn.1]
  obtain ⟨p0, cp0, e0⟩ := own_form (hB.inner 0 hn.1)
  have hO0 := hB.inner 0 hn.1
  have h80 := hB.ap8 0 hn.1
  have hap0 := fun j hj (hne : j ≠ 0) => hB.ap j 0 hj hn.1 hne
  rw [e0] at c0 hO0 h80 hap0
  have hlog : og < w.heap.size := (Array.getElem?_eq_some_iff.1 hcur).1
  have HO : Hid ((w.alloc (.cells #[I 6, I 0, I (wrap64 (start - 1)), I 0] 39)).ownsRow v.heap.size 39 4 (.slice p0 (az 0).length cp0) (az 0).length (calls4 ((az 0).map addCl))) := ⟨own_stay (fun b hb => by
    show (w.heap.push _)[b]? = _
    rw [Array.getElem?_push, if_neg (by have := (own_low hO0 hb).2; omega)]) hO0⟩
  have HL : Hid ((az 0).length < 64 ∧ v.heap.size ≤ w.heap.size) := ⟨⟨h64 0 hn.1, hB.old.size⟩⟩
  have HFIN : Hid (∀ w6 w' g cpg, (w.alloc (.cells #[I 6, I 0, I (wrap64 (start - 1)), I 0] 39)).grownBy w6 (Value.slice p0 (az 0).length cp0).ownBlock → w6.ownsRow v.heap.size 39 4 (.slice (some ⟨g, 0, none⟩) ((az 0).length + 1) cpg) ((az 0).length + 1) (calls4 ((az 0).map addCl) ++ [I 6, I 0, I (wrap64 (start - 1)), I 0]) → ((Value.slice p0 (az 0).length cp0).ownBlock = some g ∨ g = (w.alloc (.cells #[I 6, I 0, I (wrap64 (start - 1)), I 0] 39)).heap.size) → w' = w6.setCell ⟨og, 0, none⟩ (.slice (some ⟨g, 0, none⟩) ((az 0).length + 1) cpg) → (w6.cell? ⟨og, 0, none⟩ = some (.slice p0 (az 0).length cp0) ∧ w6.frozen? ⟨og, 0, none⟩ = false) ∧ (∃ pc cp rb, InS w' (some ⟨og, 0, none⟩) og 0 n pc (fun j => (addS start az j).length) cp rb (addS start az)) ∧ Grows v w') := ⟨fun w6 w' g cpg hg hown hat hw' => by
    have st := stn_append hg
    have hsz1 : (w.alloc (.cells #[I 6, I 0, I (wrap64 (start - 1)), I 0] 39)).heap.size = w.heap.size + 1 := by show (w.heap.push _).size = _; simp
    have hog6 : w6.heap[og]? = some (.cells cur 37 (0, 0)) := by rw [st.blk og hlog (fun hp => h80 og hp rfl)]; exact hcur
    have hgog : g ≠ og := fun e => by
      rcases hat with h1 | h1
      · rw [e] at h1; exact h80 og h1 rfl
      · omega
    have hw6 : w'.heap[og]? = some (.cells (cur.setIfInBounds 0 (.slice (some ⟨g, 0, none⟩) ((az 0).length + 1) cpg)) 37 (0, 0)) := by rw [hw']; exact heap_setCell_same hog6 _
    have hne : ∀ b, b ≠ og → w'.heap[b]? = w6.heap[b]? := fun b hb => by rw [hw', Below.heap_setCell _ _ _ _ hb]
    refine ⟨⟨by simp [World.cell?, hog6, hcell 0 hn.1, e0], by simp [World.frozen?, hog6]⟩, ⟨_, _, _, inS_of (H := v.heap.size) (V := fun j => if j = 0 then .slice (some ⟨g, 0, none⟩) ((az 0).length + 1) cpg else V j) hst hn.2 haz (fun k hk => ?_) (fun j hj => ?_)⟩, ⟨by rw [hw']; have := hB.old.size; have := st.size; simp [World.setCell]; omega, fun b hb => ?_, by rw [hw']; exact st.os.trans hB.old.os, by rw [hw']; exact st.out.trans hB.old.output⟩⟩
    · unfold World.cell?
      rw [show w'.heap[og]? = _ from hw6]
      by_cases e : k = 0
      · subst e
        rw [if_pos rfl]
        have : 0 < cur.size := by have := (Array.getElem?_eq_some_iff.1 (hcell 0 hn.1)).1; exact this
        simp [this]
      · rw [if_neg e]
        simp only [Option.isSome_none, Bool.false_eq_true, if_false]
        rw [Array.getElem?_setIfInBounds_ne (fun h => e h.symm)]
        exact hcell k hk
    · by_cases e : j = 0
      · subst e
        rw [if_pos rfl]
        have ea : addS start az 0 = (az 0).map addCl ++ [untCl start] := rfl
        rw [ea, calls4_app, List.length_append, List.length_map]
        exact own_stay (fun b hb => by cases hb; exact hne g hgog) hown
      · rw [if_neg e]
        have ea : addS start az j = (az j).map addCl := by unfold addS; rw [if_neg e, List.append_nil]
        rw [ea, List.length_map]
        have o1 := st.own (hB.inner j hj) (fun b hb hp => hap0 j hj e b hb hp)
        exact own_stay (fun b hb => hne b (fun h => hB.ap8 j hj b hb (by rw [h]; rfl))) o1
    · rw [hne b (by omega), st.blk b (by have := hB.old.size; omega) (fun hp => by have := (own_low hO0 hp).1; omega)]
      exact hB.old.old b hb⟩
  have HOG : Hid (v.heap.size ≤ og) := ⟨hog⟩
  have hn0 : (0 : Int) < (n : Int) := by omega
  have hn1 : 0 < n := hn.1
  obtain ⟨f0, f1, f2, f7, f8, f9, -⟩ := hF.at_
  obtain ⟨u, rfl, hg⟩ := litN hF.size hF.defers
  have u0 := (hg 0).symm.trans f0
  have u1 := (hg 1).symm.trans f1
  have u2 := (hg 2).symm.trans f2
  have u7 := (hg 7).symm.trans f7
  have u8 := (hg 8).symm.trans f8
  have u9 := (hg 9).symm.trans f9
  clear hg hF f0 f1 f2 f7 f8 f9 hB hcell hcur htake hsz hO0 h80 hap0 hle hst haz h64 hog hn
  obtain ⟨j4, hj4, hj40, hj41, hj42⟩ := info_parts info39
  show Code.wp Try.prog (seq1 (seq2 (seq2 (seq2 (seq2 (seq2 (seq2 B4))))))) _ _ _
  unfold B4 Try.f4 seq2 seq1
  simp only [Option.getD_some, lis, Nat.reduceAdd, u0, u1, u2, u7, u8, u9]
  clear u0 u1 u2 u7 u8 u9
  go_wp2_with (first
    | (refine wpList_append_lies _ rfl (.tmp 85) (.tmp 89) 37 rfl v.heap.size 39 j4 _ 4 32 Try.underlying37 hj4 hj40 hj41 hj42 rfl (by decide) (.slice p0 (az 0).length cp0) (az 0).length (calls4 ((az 0).map addCl)) rfl HO.out ⟨w.heap.size, 0, none⟩ 1 1 [I 6, I 0, I (wrap64 (start - 1)), I 0] rfl rfl (fun j u hj => World.news_of_block Array.getElem?_push_size j u hj) (fun u hu => by simp at hu; rcases hu with rfl | rfl | rfl | rfl <;> rfl) (by decide) (by have := HL.out; unfold maxLen; omega) (by have := HL.out; omega) (by have := HL.out; show v.heap.size ≤ (w.heap.push _).size; simp; omega) _ rfl ?_
       intro g cpg w6 hown6 hgrow6 hat6 hlt6
       obtain ⟨⟨k1, k2⟩, hfin⟩ := HFIN.out w6 _ g cpg hgrow6 hown6 hat6 rfl))
  exact ⟨og, ⟨ocap, ⟨rfl, rfl, rfl, rfl, rfl, rfl, rfl, rfl, trivial⟩⟩, hfin.1, HOG.out⟩
end Go.Proofs.Ytfjjoohflcchnaa
