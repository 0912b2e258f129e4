/- LatchAlone is true of the program at this commit: by one free thread alone, of a latch of no world, Down and Wait answer as a number says that is counted down, whatever the number and the calls; no conditions. Part 24 of 28. (Joined, by program, of: GObj, La12a, La12b.) -/
import Derived.Test.YtfjjoohflcchnaaLatchAlone22
import Derived.Test.YtfjjoohflcchnaaLatchAlone23
set_option linter.unusedSimpArgs false
set_option linter.unusedVariables false
namespace Go.Proofs.Ytfjjoohflcchnaa.Gen
open Go Go.Lift Go.Conc Go.RowKit

def padd (pk : Nat → Option Obj) (b : Nat) (o : Obj) : Nat → Option Obj := fun x => if x = b then some o else pk x
theorem padd_at (pk : Nat → Option Obj) (b : Nat) (o : Obj) : padd pk b o b = some o := by unfold padd; rw [if_pos rfl]
theorem padd_ne {pk : Nat → Option Obj} {b x : Nat} {o : Obj} (h : x ≠ b) : padd pk b o x = pk x := by unfold padd; rw [if_neg h]
theorem cell_of {v : World} {b j : Nat} {c : Array Value} {t : TypeId} {f : Nat × Nat} {x : Value} (h : v.heap[b]? = some (.cells c t f)) (hj : c[j]? = some x) : v.cell? ⟨b, j, none⟩ = some x := by
  unfold World.cell?
  rw [h]
  exact hj

section
variable {v u u' : World} {S S1 : TS} {K : List (Nat × Int)} {xs : List Int} {pk : Nat → Option Obj}
theorem Objs.start (hm : Mem zn S [] v) (hch : S.chg = []) : Objs v S [] (fun _ => none) S [] v :=
  ⟨Cel.refl hm, rfl, ⟨S.cv, by unfold cellsS; rw [List.length_nil, List.replicate_zero, ← hch]⟩, fun b o h => (by cases h), fun b h => absurd rfl h, fun b o h => (by cases h)⟩
theorem Objs.push (h : Objs v S xs pk S1 K u) {c : Array Value} {t : TypeId} (e : u'.heap = u.heap.push (.cells c t)) (e1 : u'.os = u.os) (e2 : u'.output = u.output) : Objs v S xs (padd pk u.heap.size (.cells c t)) S1 K u' := by
  refine ⟨h.cel.push e e1 e2, h.vals, h.st, fun b o hb => ?_, fun b hb => ?_, fun b o hb => ?_⟩
  · by_cases hbu : b = u.heap.size
    · subst hbu
      rw [padd_at] at hb
      cases hb
      rw [e]
      exact Array.getElem?_push_size
    · rw [padd_ne hbu] at hb
      have := h.has b o hb
      have hl := (Array.getElem?_eq_some_iff.1 this).1
      rw [e, Array.getElem?_push, if_neg (by omega)]
      exact this
  · by_cases hbu : b = u.heap.size
    · subst hbu
      exact ⟨h.cel.fr.size, fun ho => by have := h.cel.mem.lt ho; omega⟩
    · rw [padd_ne hbu] at hb
      exact h.new b hb
  · by_cases hbu : b = u.heap.size
    · subst hbu
      rw [padd_at] at hb
      cases hb
      exact ⟨_, _, _, rfl⟩
    · rw [padd_ne hbu] at hb
      exact h.row b o hb
theorem Objs.more (h : Objs v S xs pk S1 K u) {S2 : TS} {K2 : List (Nat × Int)} {ys : List Int} (c : Cel zn S1 K u S2 K2 u') (hv : K2.map (·.2) = ys) (hs : ∃ cv, S2 = cellsS S cv ys.length) : Objs v S ys pk S2 K2 u' := by
  have hl : ∀ b o, pk b = some o → b < u.heap.size := fun b o hb => (Array.getElem?_eq_some_iff.1 (h.has b o hb)).1
  refine ⟨h.cel.trans c, hv, hs, fun b o hb => ?_, fun b hb => ?_, h.row⟩
  · rw [c.fr.block b (hl b o hb) (h.new b (by rw [hb]; simp)).2]
    exact h.has b o hb
  · obtain ⟨o, ho⟩ := Option.ne_none_iff_exists'.1 hb
    refine ⟨(h.new b hb).1, fun ho' => ?_⟩
    rcases c.own b ho' with e | e
    · exact (h.new b hb).2 e
    · have := hl b o ho; omega
/-- cell.New. -/
theorem Objs.cell (h : Objs v S xs pk S1 K u) (x : Int) (hl : xs.length ≤ 1000000) : Calls Try.prog 21 #[Pt S.wb 0, I x] u (fun e w' => ∃ cb, e = .returned (Pt cb 0) ∧ u.heap.size ≤ w'.heap.size ∧ ∃ S2, Objs v S (xs ++ [x]) pk S2 (K ++ [(cb, x)]) w') := by
  obtain ⟨cv, rfl⟩ := h.st
  have h10 := (body10 h.cel.mem x (by show (List.replicate xs.length (0 : Int)).length ≤ _; simp; omega)).calls Try.func21 rfl
  refine h10.mono ?_
  rintro e w' ⟨r, rfl, cb, cv', rfl, hm1, hf1, hn1⟩
  refine ⟨cb, rfl, hf1.size, _, h.more ⟨hm1, hf1, hn1⟩ (by rw [List.map_append, h.vals]; rfl) ⟨cv', ?_⟩⟩
  unfold celledS cellsS
  simp only [List.length_append, List.length_cons, List.length_nil, Nat.zero_add, List.replicate_succ']
end
end Go.Proofs.Ytfjjoohflcchnaa.Gen

namespace Go.Proofs.Ytfjjoohflcchnaa.Gen
open Go Go.Lift Go.Conc Go.RowKit

noncomputable def LB12 : Code := Try.f12.body.getD .skip
noncomputable def C12 : Code := seq1 (seq2 (seq2 (seq2 (seq2 (seq2 (seq2 LB12))))))
noncomputable def L12 : Code := loopC (blockC (seq2 C12))
noncomputable def I12 : Code := blockC (seq1 (seq2 L12))
noncomputable def W12 : Code := condA (seq2 (seq1 I12))
noncomputable def p8 : Code := seq1 (seq1 L12)
noncomputable def p9 : Code := seq2 (seq2 L12)
noncomputable def p10 : Code := seq1 (seq1 I12)
noncomputable def p11 : Code := seq1 (seq1 W12)
noncomputable def p12 : Code := seq1 (seq2 W12)
noncomputable def p13 : Code := seq1 (seq2 (seq2 W12))
noncomputable def p15 : Code := seq1 (seq2 I12)
noncomputable def p16 : Code := seq1 (seq2 (seq2 I12))
noncomputable def p18 : Code := seq2 (seq2 (seq2 I12))
theorem eL12 : L12 = .seq (.seq p8 (.cond (.tmp 27) .skip (.exit 0))) (.seq (.block 1 I12) p9) := by kernel_rfl
theorem eI12 : I12 = .seq (.seq p10 (.cond (.tmp 35) W12 .skip)) (.seq p15 (.seq p16 p18)) := by kernel_rfl
theorem eW12 : W12 = .seq (.seq p11 (.cond (.tmp 37) (.exit 1) .skip)) (.seq p12 (.seq p13 (.exit 1))) := by kernel_rfl
theorem fine_p8 : fineCode Try.prog true LV p8 := fineCode_askS callV extT (by kernel_rfl)
theorem fine_p9 : fineCode Try.prog true LV p9 := fineCode_askS callV extT (by kernel_rfl)
theorem fine_p10 : fineCode Try.prog true LV p10 := fineCode_askS callV extT (by kernel_rfl)
theorem fine_p11 : fineCode Try.prog true LV p11 := fineCode_askS callV extT (by kernel_rfl)
theorem fine_p13 : fineCode Try.prog true LV p13 := fineCode_askS callV extT (by kernel_rfl)
theorem fine_p16 : fineCode Try.prog true LV p16 := fineCode_askS callV extT (by kernel_rfl)
theorem fine_p18 : fineCode Try.prog true LV p18 := fineCode_askS callV extT (by kernel_rfl)
set_option maxHeartbeats 4000000 in
set_option maxRecDepth 100000 in
theorem p8_wp {v : World} {a : Act} {lst : Value} {lb tb i : Nat} {x : Int} {p : Option Addr} {n cap : Nat} (hl : lst = .slice p n cap) (hA : Fl 63 [(1, lst), (6, Pt lb 0), (7, Pt tb 0), (8, I x), (9, I (i : Int))] a) : p8.wp Try.prog (fun e a' w' => e = .normal ∧ Fl 63 [(1, lst), (6, Pt lb 0), (7, Pt tb 0), (8, I x), (9, I (i : Int)), (27, .bool (decide ((i : Int) < (n : Int))))] a' ∧ w'.heap = v.heap ∧ w'.os = v.os ∧ w'.output = v.output) a v := by
  obtain ⟨hsz, hd, hp⟩ := hA
  obtain ⟨u, rfl, hg⟩ := litN hsz hd
  have u1 := (hg 1).symm.trans (hp (1, lst) (by simp))
  have u6 := (hg 6).symm.trans (hp (6, Pt lb 0) (by simp))
  have u7 := (hg 7).symm.trans (hp (7, Pt tb 0) (by simp))
  have u8 := (hg 8).symm.trans (hp (8, I x) (by simp))
  have u9 := (hg 9).symm.trans (hp (9, I (i : Int)) (by simp))
  clear hg hp hsz hd
  subst hl
  unfold p8 L12 C12 LB12 Try.f12 seq2 seq1 blockC loopC
  simp only [Option.getD_some, lits, Nat.reduceAdd, u1, u6, u7, u8, u9]
  clear u1 u6 u7 u8 u9
  go_wp2_with fail
  first
    | exact ⟨rfl, rfl, by
        intro p hp
        simp only [List.mem_cons, List.not_mem_nil, or_false] at hp
        rcases hp with rfl | rfl | rfl | rfl | rfl | rfl <;> rfl⟩
    | exact ⟨⟨rfl, rfl, by
        intro p hp
        simp only [List.mem_cons, List.not_mem_nil, or_false] at hp
        rcases hp with rfl | rfl | rfl | rfl | rfl | rfl <;> rfl⟩, rfl⟩
    | exact ⟨⟨rfl, rfl, by
        intro p hp
        simp only [List.mem_cons, List.not_mem_nil, or_false] at hp
        rcases hp with rfl | rfl | rfl | rfl | rfl | rfl <;> rfl⟩, rfl, rfl⟩
    | exact ⟨⟨rfl, rfl, by
        intro p hp
        simp only [List.mem_cons, List.not_mem_nil, or_false] at hp
        rcases hp with rfl | rfl | rfl | rfl | rfl | rfl <;> rfl⟩, rfl, rfl, rfl⟩
    | exact ⟨⟨rfl, rfl, by
        intro p hp
        simp only [List.mem_cons, List.not_mem_nil, or_false] at hp
        rcases hp with rfl | rfl | rfl | rfl | rfl | rfl <;> rfl⟩, rfl, rfl, rfl, rfl⟩
    | exact ⟨⟨rfl, rfl, by
        intro p hp
        simp only [List.mem_cons, List.not_mem_nil, or_false] at hp
        rcases hp with rfl | rfl | rfl | rfl | rfl | rfl <;> rfl⟩, rfl, rfl, rfl, rfl, rfl⟩

set_option maxHeartbeats 4000000 in
set_option maxRecDepth 100000 in
theorem p9_wp {v : World} {a : Act} {lst : Value} {lb tb i : Nat} {x : Int} (h9 : wrap64 ((i : Int) + 1) = ((i + 1 : Nat) : Int)) (hA : Fl 63 [(1, lst), (6, Pt lb 0), (7, Pt tb 0), (8, I x), (9, I (i : Int))] a) : p9.wp Try.prog (fun e a' w' => e = .normal ∧ Fl 63 [(1, lst), (6, Pt lb 0), (7, Pt tb 0), (8, I x), (9, I ((i + 1 : Nat) : Int))] a' ∧ w'.heap = v.heap ∧ w'.os = v.os ∧ w'.output = v.output) a v := by
  obtain ⟨hsz, hd, hp⟩ := hA
  obtain ⟨u, rfl, hg⟩ := litN hsz hd
  have u1 := (hg 1).symm.trans (hp (1, lst) (by simp))
  have u6 := (hg 6).symm.trans (hp (6, Pt lb 0) (by simp))
  have u7 := (hg 7).symm.trans (hp (7, Pt tb 0) (by simp))
  have u8 := (hg 8).symm.trans (hp (8, I x) (by simp))
  have u9 := (hg 9).symm.trans (hp (9, I (i : Int)) (by simp))
  clear hg hp hsz hd
  unfold p9 L12 C12 LB12 Try.f12 seq2 seq1 blockC loopC
  simp only [Option.getD_some, lits, Nat.reduceAdd, u1, u6, u7, u8, u9]
  clear u1 u6 u7 u8 u9
  go_wp2_with fail
  exact ⟨rfl, rfl, by
    intro p hp
    simp only [List.mem_cons, List.not_mem_nil, or_false] at hp
    rcases hp with rfl | rfl | rfl | rfl | rfl
    · rfl
    · rfl
    · rfl
    · rfl
    · exact congrArg I (by omega)⟩

set_option maxHeartbeats 4000000 in
set_option maxRecDepth 100000 in
theorem p10_wp {v : World} {a : Act} {lst : Value} {lb tb i : Nat} {x : Int} {lb' lo n cap : Nat} {ca : Int} (hl : lst = .slice (some ⟨lb', lo, none⟩) n cap) (hin : i < n) (c1 : v.cell? ⟨lb', lo + i, none⟩ = some (I ca)) (hA : Fl 63 [(1, lst), (6, Pt lb 0), (7, Pt tb 0), (8, I x), (9, I (i : Int))] a) : p10.wp Try.prog (fun e a' w' => e = .normal ∧ Fl 63 [(1, lst), (6, Pt lb 0), (7, Pt tb 0), (8, I x), (9, I (i : Int)), (35, .bool (bits .and .i64 ca 1 == 0))] a' ∧ w'.heap = v.heap ∧ w'.os = v.os ∧ w'.output = v.output) a v := by
  obtain ⟨hsz, hd, hp⟩ := hA
  obtain ⟨u, rfl, hg⟩ := litN hsz hd
  have u1 := (hg 1).symm.trans (hp (1, lst) (by simp))
  have u6 := (hg 6).symm.trans (hp (6, Pt lb 0) (by simp))
  have u7 := (hg 7).symm.trans (hp (7, Pt tb 0) (by simp))
  have u8 := (hg 8).symm.trans (hp (8, I x) (by simp))
  have u9 := (hg 9).symm.trans (hp (9, I (i : Int)) (by simp))
  clear hg hp hsz hd
  subst hl
  have hin' : (i : Int) < (n : Int) := by omega
  unfold p10 I12 L12 C12 LB12 Try.f12 seq2 seq1 blockC loopC
  simp only [Option.getD_some, lits, Nat.reduceAdd, u1, u6, u7, u8, u9]
  clear u1 u6 u7 u8 u9
  go_wp2_with fail
  first
    | exact ⟨rfl, rfl, by
        intro p hp
        simp only [List.mem_cons, List.not_mem_nil, or_false] at hp
        rcases hp with rfl | rfl | rfl | rfl | rfl | rfl <;> rfl⟩
    | exact ⟨⟨rfl, rfl, by
        intro p hp
        simp only [List.mem_cons, List.not_mem_nil, or_false] at hp
        rcases hp with rfl | rfl | rfl | rfl | rfl | rfl <;> rfl⟩, rfl⟩
    | exact ⟨⟨rfl, rfl, by
        intro p hp
        simp only [List.mem_cons, List.not_mem_nil, or_false] at hp
        rcases hp with rfl | rfl | rfl | rfl | rfl | rfl <;> rfl⟩, rfl, rfl⟩
    | exact ⟨⟨rfl, rfl, by
        intro p hp
        simp only [List.mem_cons, List.not_mem_nil, or_false] at hp
        rcases hp with rfl | rfl | rfl | rfl | rfl | rfl <;> rfl⟩, rfl, rfl, rfl⟩
    | exact ⟨⟨rfl, rfl, by
        intro p hp
        simp only [List.mem_cons, List.not_mem_nil, or_false] at hp
        rcases hp with rfl | rfl | rfl | rfl | rfl | rfl <;> rfl⟩, rfl, rfl, rfl, rfl⟩
    | exact ⟨⟨rfl, rfl, by
        intro p hp
        simp only [List.mem_cons, List.not_mem_nil, or_false] at hp
        rcases hp with rfl | rfl | rfl | rfl | rfl | rfl <;> rfl⟩, rfl, rfl, rfl, rfl, rfl⟩

set_option maxHeartbeats 4000000 in
set_option maxRecDepth 100000 in
theorem p11_wp {v : World} {a : Act} {lst : Value} {lb tb i : Nat} {x : Int}  (hA : Fl 63 [(1, lst), (6, Pt lb 0), (7, Pt tb 0), (8, I x), (9, I (i : Int))] a) : p11.wp Try.prog (fun e a' w' => e = .normal ∧ Fl 63 [(1, lst), (6, Pt lb 0), (7, Pt tb 0), (8, I x), (9, I (i : Int)), (37, .bool (decide (0 < x)))] a' ∧ w'.heap = v.heap ∧ w'.os = v.os ∧ w'.output = v.output) a v := by
  obtain ⟨hsz, hd, hp⟩ := hA
  obtain ⟨u, rfl, hg⟩ := litN hsz hd
  have u1 := (hg 1).symm.trans (hp (1, lst) (by simp))
  have u6 := (hg 6).symm.trans (hp (6, Pt lb 0) (by simp))
  have u7 := (hg 7).symm.trans (hp (7, Pt tb 0) (by simp))
  have u8 := (hg 8).symm.trans (hp (8, I x) (by simp))
  have u9 := (hg 9).symm.trans (hp (9, I (i : Int)) (by simp))
  clear hg hp hsz hd
  unfold p11 W12 I12 L12 C12 LB12 Try.f12 seq2 seq1 blockC loopC condA
  simp only [Option.getD_some, lits, Nat.reduceAdd, u1, u6, u7, u8, u9]
  clear u1 u6 u7 u8 u9
  go_wp2_with fail
  first
    | exact ⟨rfl, rfl, by
        intro p hp
        simp only [List.mem_cons, List.not_mem_nil, or_false] at hp
        rcases hp with rfl | rfl | rfl | rfl | rfl | rfl <;> rfl⟩
    | exact ⟨⟨rfl, rfl, by
        intro p hp
        simp only [List.mem_cons, List.not_mem_nil, or_false] at hp
        rcases hp with rfl | rfl | rfl | rfl | rfl | rfl <;> rfl⟩, rfl⟩
    | exact ⟨⟨rfl, rfl, by
        intro p hp
        simp only [List.mem_cons, List.not_mem_nil, or_false] at hp
        rcases hp with rfl | rfl | rfl | rfl | rfl | rfl <;> rfl⟩, rfl, rfl⟩
    | exact ⟨⟨rfl, rfl, by
        intro p hp
        simp only [List.mem_cons, List.not_mem_nil, or_false] at hp
        rcases hp with rfl | rfl | rfl | rfl | rfl | rfl <;> rfl⟩, rfl, rfl, rfl⟩
    | exact ⟨⟨rfl, rfl, by
        intro p hp
        simp only [List.mem_cons, List.not_mem_nil, or_false] at hp
        rcases hp with rfl | rfl | rfl | rfl | rfl | rfl <;> rfl⟩, rfl, rfl, rfl, rfl⟩
    | exact ⟨⟨rfl, rfl, by
        intro p hp
        simp only [List.mem_cons, List.not_mem_nil, or_false] at hp
        rcases hp with rfl | rfl | rfl | rfl | rfl | rfl <;> rfl⟩, rfl, rfl, rfl, rfl, rfl⟩

set_option maxHeartbeats 4000000 in
set_option maxRecDepth 100000 in
theorem p13_wp {v : World} {a : Act} {lst : Value} {lb tb i : Nat} {x : Int}  (hA : Fl 63 [(1, lst), (6, Pt lb 0), (7, Pt tb 0), (8, I x), (9, I (i : Int)), (10, .bool true)] a) : p13.wp Try.prog (fun e a' w' => e = .normal ∧ Fl 63 [(1, lst), (6, Pt lb 0), (7, Pt tb 0), (8, I x), (9, I (i : Int))] a' ∧ w'.heap = v.heap ∧ w'.os = v.os ∧ w'.output = v.output) a v := by
  obtain ⟨hsz, hd, hp⟩ := hA
  obtain ⟨u, rfl, hg⟩ := litN hsz hd
  have u1 := (hg 1).symm.trans (hp (1, lst) (by simp))
  have u6 := (hg 6).symm.trans (hp (6, Pt lb 0) (by simp))
  have u7 := (hg 7).symm.trans (hp (7, Pt tb 0) (by simp))
  have u8 := (hg 8).symm.trans (hp (8, I x) (by simp))
  have u9 := (hg 9).symm.trans (hp (9, I (i : Int)) (by simp))
  have u10 := (hg 10).symm.trans (hp (10, .bool true) (by simp))
  clear hg hp hsz hd
  unfold p13 W12 I12 L12 C12 LB12 Try.f12 seq2 seq1 blockC loopC condA
  simp only [Option.getD_some, lits, Nat.reduceAdd, u1, u6, u7, u8, u9, u10]
  clear u1 u6 u7 u8 u9 u10
  go_wp2_with fail
  first
    | exact ⟨rfl, rfl, by
        intro p hp
        simp only [List.mem_cons, List.not_mem_nil, or_false] at hp
        rcases hp with rfl | rfl | rfl | rfl | rfl <;> rfl⟩
    | exact ⟨⟨rfl, rfl, by
        intro p hp
        simp only [List.mem_cons, List.not_mem_nil, or_false] at hp
        rcases hp with rfl | rfl | rfl | rfl | rfl <;> rfl⟩, rfl⟩
    | exact ⟨⟨rfl, rfl, by
        intro p hp
        simp only [List.mem_cons, List.not_mem_nil, or_false] at hp
        rcases hp with rfl | rfl | rfl | rfl | rfl <;> rfl⟩, rfl, rfl⟩
    | exact ⟨⟨rfl, rfl, by
        intro p hp
        simp only [List.mem_cons, List.not_mem_nil, or_false] at hp
        rcases hp with rfl | rfl | rfl | rfl | rfl <;> rfl⟩, rfl, rfl, rfl⟩
    | exact ⟨⟨rfl, rfl, by
        intro p hp
        simp only [List.mem_cons, List.not_mem_nil, or_false] at hp
        rcases hp with rfl | rfl | rfl | rfl | rfl <;> rfl⟩, rfl, rfl, rfl, rfl⟩
    | exact ⟨⟨rfl, rfl, by
        intro p hp
        simp only [List.mem_cons, List.not_mem_nil, or_false] at hp
        rcases hp with rfl | rfl | rfl | rfl | rfl <;> rfl⟩, rfl, rfl, rfl, rfl, rfl⟩

set_option maxHeartbeats 4000000 in
set_option maxRecDepth 100000 in
theorem p16_wpz {v : World} {a : Act} {lst : Value} {lb tb i : Nat} {x : Int} (h0 : x = 0) (hA : Fl 63 [(1, lst), (6, Pt lb 0), (7, Pt tb 0), (8, I x), (9, I (i : Int)), (11, I 50)] a) : p16.wp Try.prog (fun e a' w' => e = .normal ∧ Fl 63 [(1, lst), (6, Pt lb 0), (7, Pt tb 0), (8, I x), (9, I (i : Int))] a' ∧ w'.heap = v.heap ∧ w'.os = v.os ∧ w'.output = v.output) a v := by
  obtain ⟨hsz, hd, hp⟩ := hA
  obtain ⟨u, rfl, hg⟩ := litN hsz hd
  have u1 := (hg 1).symm.trans (hp (1, lst) (by simp))
  have u6 := (hg 6).symm.trans (hp (6, Pt lb 0) (by simp))
  have u7 := (hg 7).symm.trans (hp (7, Pt tb 0) (by simp))
  have u8 := (hg 8).symm.trans (hp (8, I x) (by simp))
  have u9 := (hg 9).symm.trans (hp (9, I (i : Int)) (by simp))
  have u11 := (hg 11).symm.trans (hp (11, I 50) (by simp))
  clear hg hp hsz hd
  subst h0
  unfold p16 I12 L12 C12 LB12 Try.f12 seq2 seq1 blockC loopC
  simp only [Option.getD_some, lits, Nat.reduceAdd, u1, u6, u7, u8, u9, u11]
  clear u1 u6 u7 u8 u9 u11
  go_wp2_with fail
  first
    | exact ⟨rfl, rfl, by
        intro p hp
        simp only [List.mem_cons, List.not_mem_nil, or_false] at hp
        rcases hp with rfl | rfl | rfl | rfl | rfl <;> rfl⟩
    | exact ⟨⟨rfl, rfl, by
        intro p hp
        simp only [List.mem_cons, List.not_mem_nil, or_false] at hp
        rcases hp with rfl | rfl | rfl | rfl | rfl <;> rfl⟩, rfl⟩
    | exact ⟨⟨rfl, rfl, by
        intro p hp
        simp only [List.mem_cons, List.not_mem_nil, or_false] at hp
        rcases hp with rfl | rfl | rfl | rfl | rfl <;> rfl⟩, rfl, rfl⟩
    | exact ⟨⟨rfl, rfl, by
        intro p hp
        simp only [List.mem_cons, List.not_mem_nil, or_false] at hp
        rcases hp with rfl | rfl | rfl | rfl | rfl <;> rfl⟩, rfl, rfl, rfl⟩
    | exact ⟨⟨rfl, rfl, by
        intro p hp
        simp only [List.mem_cons, List.not_mem_nil, or_false] at hp
        rcases hp with rfl | rfl | rfl | rfl | rfl <;> rfl⟩, rfl, rfl, rfl, rfl⟩
    | exact ⟨⟨rfl, rfl, by
        intro p hp
        simp only [List.mem_cons, List.not_mem_nil, or_false] at hp
        rcases hp with rfl | rfl | rfl | rfl | rfl <;> rfl⟩, rfl, rfl, rfl, rfl, rfl⟩

set_option maxHeartbeats 4000000 in
set_option maxRecDepth 100000 in
theorem p16_wpp {v : World} {a : Act} {lst : Value} {lb tb i : Nat} {x : Int} (h0 : 0 < x) (hA : Fl 63 [(1, lst), (6, Pt lb 0), (7, Pt tb 0), (8, I x), (9, I (i : Int)), (11, I 0)] a) : p16.wp Try.prog (fun e a' w' => e = .normal ∧ Fl 63 [(1, lst), (6, Pt lb 0), (7, Pt tb 0), (8, I x), (9, I (i : Int))] a' ∧ w'.heap = v.heap ∧ w'.os = v.os ∧ w'.output = v.output) a v := by
  obtain ⟨hsz, hd, hp⟩ := hA
  obtain ⟨u, rfl, hg⟩ := litN hsz hd
  have u1 := (hg 1).symm.trans (hp (1, lst) (by simp))
  have u6 := (hg 6).symm.trans (hp (6, Pt lb 0) (by simp))
  have u7 := (hg 7).symm.trans (hp (7, Pt tb 0) (by simp))
  have u8 := (hg 8).symm.trans (hp (8, I x) (by simp))
  have u9 := (hg 9).symm.trans (hp (9, I (i : Int)) (by simp))
  have u11 := (hg 11).symm.trans (hp (11, I 0) (by simp))
  clear hg hp hsz hd
  have h1 : ¬ x = 0 := by omega
  have h2 : (x == 0) = false := by simp [h1]
  unfold p16 I12 L12 C12 LB12 Try.f12 seq2 seq1 blockC loopC
  simp only [Option.getD_some, lits, Nat.reduceAdd, u1, u6, u7, u8, u9, u11]
  clear u1 u6 u7 u8 u9 u11
  go_wp2_with fail
  first
    | exact ⟨rfl, rfl, by
        intro p hp
        simp only [List.mem_cons, List.not_mem_nil, or_false] at hp
        rcases hp with rfl | rfl | rfl | rfl | rfl <;> rfl⟩
    | exact ⟨⟨rfl, rfl, by
        intro p hp
        simp only [List.mem_cons, List.not_mem_nil, or_false] at hp
        rcases hp with rfl | rfl | rfl | rfl | rfl <;> rfl⟩, rfl⟩
    | exact ⟨⟨rfl, rfl, by
        intro p hp
        simp only [List.mem_cons, List.not_mem_nil, or_false] at hp
        rcases hp with rfl | rfl | rfl | rfl | rfl <;> rfl⟩, rfl, rfl⟩
    | exact ⟨⟨rfl, rfl, by
        intro p hp
        simp only [List.mem_cons, List.not_mem_nil, or_false] at hp
        rcases hp with rfl | rfl | rfl | rfl | rfl <;> rfl⟩, rfl, rfl, rfl⟩
    | exact ⟨⟨rfl, rfl, by
        intro p hp
        simp only [List.mem_cons, List.not_mem_nil, or_false] at hp
        rcases hp with rfl | rfl | rfl | rfl | rfl <;> rfl⟩, rfl, rfl, rfl, rfl⟩
    | exact ⟨⟨rfl, rfl, by
        intro p hp
        simp only [List.mem_cons, List.not_mem_nil, or_false] at hp
        rcases hp with rfl | rfl | rfl | rfl | rfl <;> rfl⟩, rfl, rfl, rfl, rfl, rfl⟩

set_option maxHeartbeats 4000000 in
set_option maxRecDepth 100000 in
theorem p18_wpz {v : World} {a : Act} {lst : Value} {lb tb i : Nat} {x : Int} (h0 : x = 0) (hA : Fl 63 [(1, lst), (6, Pt lb 0), (7, Pt tb 0), (8, I x), (9, I (i : Int))] a) : p18.wp Try.prog (fun e a' w' => e = .normal ∧ Fl 63 [(1, lst), (6, Pt lb 0), (7, Pt tb 0), (8, I 0), (9, I (i : Int))] a' ∧ w'.heap = v.heap ∧ w'.os = v.os ∧ w'.output = v.output) a v := by
  obtain ⟨hsz, hd, hp⟩ := hA
  obtain ⟨u, rfl, hg⟩ := litN hsz hd
  have u1 := (hg 1).symm.trans (hp (1, lst) (by simp))
  have u6 := (hg 6).symm.trans (hp (6, Pt lb 0) (by simp))
  have u7 := (hg 7).symm.trans (hp (7, Pt tb 0) (by simp))
  have u8 := (hg 8).symm.trans (hp (8, I x) (by simp))
  have u9 := (hg 9).symm.trans (hp (9, I (i : Int)) (by simp))
  clear hg hp hsz hd
  subst h0
  unfold p18 I12 L12 C12 LB12 Try.f12 seq2 seq1 blockC loopC
  simp only [Option.getD_some, lits, Nat.reduceAdd, u1, u6, u7, u8, u9]
  clear u1 u6 u7 u8 u9
  go_wp2_with fail
  first
    | exact ⟨rfl, rfl, by
        intro p hp
        simp only [List.mem_cons, List.not_mem_nil, or_false] at hp
        rcases hp with rfl | rfl | rfl | rfl | rfl <;> rfl⟩
    | exact ⟨⟨rfl, rfl, by
        intro p hp
        simp only [List.mem_cons, List.not_mem_nil, or_false] at hp
        rcases hp with rfl | rfl | rfl | rfl | rfl <;> rfl⟩, rfl⟩
    | exact ⟨⟨rfl, rfl, by
        intro p hp
        simp only [List.mem_cons, List.not_mem_nil, or_false] at hp
        rcases hp with rfl | rfl | rfl | rfl | rfl <;> rfl⟩, rfl, rfl⟩
    | exact ⟨⟨rfl, rfl, by
        intro p hp
        simp only [List.mem_cons, List.not_mem_nil, or_false] at hp
        rcases hp with rfl | rfl | rfl | rfl | rfl <;> rfl⟩, rfl, rfl, rfl⟩
    | exact ⟨⟨rfl, rfl, by
        intro p hp
        simp only [List.mem_cons, List.not_mem_nil, or_false] at hp
        rcases hp with rfl | rfl | rfl | rfl | rfl <;> rfl⟩, rfl, rfl, rfl, rfl⟩
    | exact ⟨⟨rfl, rfl, by
        intro p hp
        simp only [List.mem_cons, List.not_mem_nil, or_false] at hp
        rcases hp with rfl | rfl | rfl | rfl | rfl <;> rfl⟩, rfl, rfl, rfl, rfl, rfl⟩

set_option maxHeartbeats 4000000 in
set_option maxRecDepth 100000 in
theorem p18_wpp {v : World} {a : Act} {lst : Value} {lb tb i : Nat} {x : Int} (h0 : 0 < x) (h1 : x ≤ 9223372036854775807) (hA : Fl 63 [(1, lst), (6, Pt lb 0), (7, Pt tb 0), (8, I x), (9, I (i : Int))] a) : p18.wp Try.prog (fun e a' w' => e = .normal ∧ Fl 63 [(1, lst), (6, Pt lb 0), (7, Pt tb 0), (8, I (wrap64 (x - 1))), (9, I (i : Int))] a' ∧ w'.heap = v.heap ∧ w'.os = v.os ∧ w'.output = v.output) a v := by
  obtain ⟨hsz, hd, hp⟩ := hA
  obtain ⟨u, rfl, hg⟩ := litN hsz hd
  have u1 := (hg 1).symm.trans (hp (1, lst) (by simp))
  have u6 := (hg 6).symm.trans (hp (6, Pt lb 0) (by simp))
  have u7 := (hg 7).symm.trans (hp (7, Pt tb 0) (by simp))
  have u8 := (hg 8).symm.trans (hp (8, I x) (by simp))
  have u9 := (hg 9).symm.trans (hp (9, I (i : Int)) (by simp))
  clear hg hp hsz hd
  have hw : wrap64 (x - 1) = x - 1 := by unfold wrap64; omega
  have hm : ¬ (0 > x - 1) := by omega
  unfold p18 I12 L12 C12 LB12 Try.f12 seq2 seq1 blockC loopC
  simp only [Option.getD_some, lits, Nat.reduceAdd, u1, u6, u7, u8, u9]
  clear u1 u6 u7 u8 u9
  go_wp2_with fail
  first
    | exact ⟨rfl, rfl, by
        intro p hp
        simp only [List.mem_cons, List.not_mem_nil, or_false] at hp
        rcases hp with rfl | rfl | rfl | rfl | rfl <;> rfl⟩
    | exact ⟨⟨rfl, rfl, by
        intro p hp
        simp only [List.mem_cons, List.not_mem_nil, or_false] at hp
        rcases hp with rfl | rfl | rfl | rfl | rfl <;> rfl⟩, rfl⟩
    | exact ⟨⟨rfl, rfl, by
        intro p hp
        simp only [List.mem_cons, List.not_mem_nil, or_false] at hp
        rcases hp with rfl | rfl | rfl | rfl | rfl <;> rfl⟩, rfl, rfl⟩
    | exact ⟨⟨rfl, rfl, by
        intro p hp
        simp only [List.mem_cons, List.not_mem_nil, or_false] at hp
        rcases hp with rfl | rfl | rfl | rfl | rfl <;> rfl⟩, rfl, rfl, rfl⟩
    | exact ⟨⟨rfl, rfl, by
        intro p hp
        simp only [List.mem_cons, List.not_mem_nil, or_false] at hp
        rcases hp with rfl | rfl | rfl | rfl | rfl <;> rfl⟩, rfl, rfl, rfl, rfl⟩
    | exact ⟨⟨rfl, rfl, by
        intro p hp
        simp only [List.mem_cons, List.not_mem_nil, or_false] at hp
        rcases hp with rfl | rfl | rfl | rfl | rfl <;> rfl⟩, rfl, rfl, rfl, rfl, rfl⟩

end Go.Proofs.Ytfjjoohflcchnaa.Gen

namespace Go.Proofs.Ytfjjoohflcchnaa.Gen
open Go Go.Lift Go.Conc Go.RowKit

set_option maxHeartbeats 4000000 in
set_option maxRecDepth 100000 in
theorem p12_goes {Ch : Nat → Prop} {Stop : Goroutine → World → Prop} {main : Bool} {v w : World} {a : Act} {lst : Value} {lb tb cb i : Nat} {x : Int} (h0 : v.cell? ⟨lb, 0, none⟩ = some (Pt cb 0)) (m0 : Fm tb cb 0 v) (cs : List Frame) (kk : List Item) (hvw : Rel zn v w) (hn : NoRow Ch v) (hA : Fl 63 [(1, lst), (6, Pt lb 0), (7, Pt tb 0), (8, I x), (9, I (i : Int))] a)
    (hk : ∀ a' v' w', Rel zn v' w' → NoRow Ch v' → v'.heap = v.heap → v'.os = v.os → v'.output = v.output → Fl 63 [(1, lst), (6, Pt lb 0), (7, Pt tb 0), (8, I x), (9, I (i : Int)), (10, .bool true)] a' → GoesI Try.prog main (DT (ScZ zn) Ch) Stop (G ((base 12).at a' kk) cs) w') :
    GoesI Try.prog main (DT (ScZ zn) Ch) Stop (G ((base 12).at a (.code p12 :: kk)) cs) w := by
  obtain ⟨hsz, hd, hp⟩ := hA
  obtain ⟨u, rfl, hg⟩ := litN hsz hd
  have u1 := (hg 1).symm.trans (hp (1, lst) (by simp))
  have u6 := (hg 6).symm.trans (hp (6, Pt lb 0) (by simp))
  have u7 := (hg 7).symm.trans (hp (7, Pt tb 0) (by simp))
  have u8 := (hg 8).symm.trans (hp (8, I x) (by simp))
  have u9 := (hg 9).symm.trans (hp (9, I (i : Int)) (by simp))
  clear hg hp hsz hd
  unfold p12 W12 I12 L12 C12 LB12 Try.f12 seq2 seq1 blockC loopC condA
  simp only [Option.getD_some, lits, Nat.reduceAdd, u1, u6, u7, u8, u9]
  clear u1 u6 u7 u8 u9
  refine goesI_region (dt_idle _ _) ?_
  simp only [List.size_toArray, List.length_cons, List.length_nil, Nat.reduceAdd, Nat.zero_add, List.range, List.range.loop]
  iterate 2
    (refine goesI_oper rfl rfl (by decide) (fun d K hK => ?_)
     go_simp
     refine hK _ _ ⟨dt_reads (fun e he => ?_), GoesI.at ?_ d⟩
     · have hm := mem_listed he
       simp [go_sem, *] at hm
       try exact ⟨_, _, hm⟩
     clear hK K)
  refine goesI_into (f := 45) (fn := Try.f45) (args := #[Pt lb 0, Pt tb 0]) (dt_idle _ _) rfl rfl (by decide) rfl (by simp [Act.eval]) Try.func45 (by decide) rfl ?_
  refine fwait rfl hvw hn h0 m0 (fun v1 w1 r1 n1 f1 f2 f3 => ?_) _ rfl
  iterate 1
    (refine goesI_oper rfl rfl (by decide) (fun d K hK => ?_)
     go_simp
     refine hK _ _ ⟨dt_reads (fun e he => ?_), GoesI.at ?_ d⟩
     · have hm := mem_listed he
       simp [go_sem, *] at hm
       try exact ⟨_, _, hm⟩
     clear hK K)
  refine goesI_regionEnd (dt_idle _ _) ?_
  exact hk _ v1 w1 r1 n1 f1 f2 f3 ⟨rfl, rfl, by
    intro p hp
    simp only [List.mem_cons, List.not_mem_nil, or_false] at hp
    rcases hp with rfl | rfl | rfl | rfl | rfl | rfl <;> rfl⟩

set_option maxHeartbeats 4000000 in
set_option maxRecDepth 100000 in
theorem p15_goes {Ch : Nat → Prop} {Stop : Goroutine → World → Prop} {main : Bool} {v w : World} {a : Act} {lst : Value} {lb tb cb i : Nat} {x : Int} (h0 : v.cell? ⟨lb, 0, none⟩ = some (Pt cb 0)) (m0 : Fm tb cb x v) (cs : List Frame) (kk : List Item) (hvw : Rel zn v w) (hn : NoRow Ch v) (hA : Fl 63 [(1, lst), (6, Pt lb 0), (7, Pt tb 0), (8, I x), (9, I (i : Int))] a)
    (hk : ∀ a' v' w', Rel zn v' w' → NoRow Ch v' → Fto tb cb (if x = 0 then 0 else wrap64 (x - 1)) v v' → Fl 63 [(1, lst), (6, Pt lb 0), (7, Pt tb 0), (8, I x), (9, I (i : Int)), (11, I (if x = 0 then 50 else 0))] a' → GoesI Try.prog main (DT (ScZ zn) Ch) Stop (G ((base 12).at a' kk) cs) w') :
    GoesI Try.prog main (DT (ScZ zn) Ch) Stop (G ((base 12).at a (.code p15 :: kk)) cs) w := by
  obtain ⟨hsz, hd, hp⟩ := hA
  obtain ⟨u, rfl, hg⟩ := litN hsz hd
  have u1 := (hg 1).symm.trans (hp (1, lst) (by simp))
  have u6 := (hg 6).symm.trans (hp (6, Pt lb 0) (by simp))
  have u7 := (hg 7).symm.trans (hp (7, Pt tb 0) (by simp))
  have u8 := (hg 8).symm.trans (hp (8, I x) (by simp))
  have u9 := (hg 9).symm.trans (hp (9, I (i : Int)) (by simp))
  clear hg hp hsz hd
  unfold p15 I12 L12 C12 LB12 Try.f12 seq2 seq1 blockC loopC
  simp only [Option.getD_some, lits, Nat.reduceAdd, u1, u6, u7, u8, u9]
  clear u1 u6 u7 u8 u9
  refine goesI_region (dt_idle _ _) ?_
  simp only [List.size_toArray, List.length_cons, List.length_nil, Nat.reduceAdd, Nat.zero_add, List.range, List.range.loop]
  iterate 2
    (refine goesI_oper rfl rfl (by decide) (fun d K hK => ?_)
     go_simp
     refine hK _ _ ⟨dt_reads (fun e he => ?_), GoesI.at ?_ d⟩
     · have hm := mem_listed he
       simp [go_sem, *] at hm
       try exact ⟨_, _, hm⟩
     clear hK K)
  refine goesI_into (f := 46) (fn := Try.f46) (args := #[Pt lb 0, Pt tb 0]) (dt_idle _ _) rfl rfl (by decide) rfl (by simp [Act.eval]) Try.func46 (by decide) rfl ?_
  refine fdown rfl hvw hn h0 m0 (fun v1 w1 r1 n1 f1 => ?_) _ rfl
  iterate 1
    (refine goesI_oper rfl rfl (by decide) (fun d K hK => ?_)
     go_simp
     refine hK _ _ ⟨dt_reads (fun e he => ?_), GoesI.at ?_ d⟩
     · have hm := mem_listed he
       simp [go_sem, *] at hm
       try exact ⟨_, _, hm⟩
     clear hK K)
  refine goesI_regionEnd (dt_idle _ _) ?_
  exact hk _ v1 w1 r1 n1 f1 ⟨rfl, rfl, by
    intro p hp
    simp only [List.mem_cons, List.not_mem_nil, or_false] at hp
    rcases hp with rfl | rfl | rfl | rfl | rfl | rfl <;> rfl⟩

/-- A latch of no world, a free thread. -/
structure M12 (tb lb cb : Nat) (x : Int) (v : World) : Prop where
  lat : v.heap[lb]? = some (.cells #[Pt cb 0] 113)
  fm : Fm tb cb x v
theorem M12.ne {tb lb cb : Nat} {x : Int} {v : World} (h : M12 tb lb cb x v) : lb ≠ cb := fun e => by
  have h1 := h.lat
  rw [e, h.fm.cel] at h1
  simp at h1
theorem M12.same {tb lb cb : Nat} {x : Int} {v v' : World} (h : M12 tb lb cb x v) (e : v'.heap = v.heap) : M12 tb lb cb x v' := ⟨by rw [e]; exact h.lat, h.fm.same e⟩
theorem M12.fto {tb lb cb : Nat} {x y : Int} {v v' : World} (h : M12 tb lb cb x v) (f : Fto tb cb y v v') : M12 tb lb cb y v' := ⟨by rw [f.old lb h.ne]; exact h.lat, f.fm⟩
theorem fr12_fto {S : Nat → Prop} {tb c : Nat} {z : Int} {v v' : World} (f : Fto tb c z v v') (h : S c) : Fr S v v' := ⟨f.os, f.out, Nat.le_of_eq f.size.symm, fun b _ hb => f.old b (fun e => hb (e ▸ h))⟩
theorem fr12_same {S : Nat → Prop} {v v' : World} (e : v'.heap = v.heap) (e1 : v'.os = v.os) (e2 : v'.output = v.output) : Fr S v v' := ⟨e1, e2, by rw [e]; exact Nat.le_refl _, fun b _ _ => by rw [e]⟩

section
variable {Ch : Nat → Prop} {Stop : Goroutine → World → Prop} {main : Bool} {v w : World} {a : Act} {lst : Value} {lb tb cb i : Nat} {x : Int}
/-- A round. -/
theorem round12 {lb' lo n cap : Nat} {ca : Int} (hl : lst = .slice (some ⟨lb', lo, none⟩) n cap) (hin : i < n) (g0 : v.cell? ⟨lb', lo + i, none⟩ = some (I ca)) (hM : M12 tb lb cb x v) (hx : 0 ≤ x ∧ x ≤ 9223372036854775807) (cs : List Frame) (kk : List Item) (hvw : Rel zn v w) (hn : NoRow Ch v) (hA : Fl 63 [(1, lst), (6, Pt lb 0), (7, Pt tb 0), (8, I x), (9, I (i : Int))] a)
    (hK : ∀ a' v' w' x', Rel zn v' w' → NoRow Ch v' → M12 tb lb cb x' v' → (0 ≤ x' ∧ x' ≤ 9223372036854775807) → Fr (fun b => b = cb) v v' → Fl 63 [(1, lst), (6, Pt lb 0), (7, Pt tb 0), (8, I x'), (9, I (i : Int))] a' → GoesI Try.prog main (DT (ScZ zn) Ch) Stop (G ((base 12).at a' kk) cs) w') :
    GoesI Try.prog main (DT (ScZ zn) Ch) Stop (G ((base 12).at a (.code I12 :: .inBlock 1 :: kk)) cs) w := by
  rw [eI12]
  refine goesI_seq (dt_idle _ _) ?_
  refine goesI_seq (dt_idle _ _) ?_
  refine goesI_plain (z := zn) (wr := true) (L := LV) (I := NoRow Ch) hE fineV noRow_keeps (fun v v' w w' es hi hr ho he => dt_of_z v v' w w' es hi hr ho he) hvw fine_p10 hA.2.1 (by simp [base]) hn (Q := fun a w' => Fl 63 [(1, lst), (6, Pt lb 0), (7, Pt tb 0), (8, I x), (9, I (i : Int)), (35, .bool (bits .and .i64 ca 1 == 0))] a ∧ w'.heap = v.heap ∧ w'.os = v.os ∧ w'.output = v.output) (fun τ => p10_wp (v := onTape v τ 0) hl hin g0 hA) ?_
  rintro a1 v1 w1 ⟨hA1, e1, o1, u1⟩ hr1 hn1 -
  have hM1 := hM.same e1
  by_cases hev : bits .and .i64 ca 1 = 0
  · refine goesI_cond (dt_idle _ _) (t := true) (by rw [hA1.at 35 (.bool (bits .and .i64 ca 1 == 0)) (by simp), hev]; rfl) ?_
    simp only [if_true]
    rw [eW12]
    refine goesI_seq (dt_idle _ _) ?_
    refine goesI_seq (dt_idle _ _) ?_
    refine goesI_plain (z := zn) (wr := true) (L := LV) (I := NoRow Ch) hE fineV noRow_keeps (fun v v' w w' es hi hr ho he => dt_of_z v v' w w' es hi hr ho he) hr1 fine_p11 hA1.2.1 (by simp [base]) hn1 (Q := fun a w' => Fl 63 [(1, lst), (6, Pt lb 0), (7, Pt tb 0), (8, I x), (9, I (i : Int)), (37, .bool (decide (0 < x)))] a ∧ w'.heap = v1.heap ∧ w'.os = v1.os ∧ w'.output = v1.output) (fun τ => p11_wp (v := onTape v1 τ 0) (hA1.sub (by simp))) ?_
    rintro a2 v2 w2 ⟨hA2, e2, o2, u2⟩ hr2 hn2 -
    have hM2 := hM1.same e2
    have f2 : Fr (fun b => b = cb) v v2 := fr12_same (e2.trans e1) (o2.trans o1) (u2.trans u1)
    by_cases h0 : 0 < x
    · refine goesI_cond (dt_idle _ _) (t := true) (by rw [hA2.at 37 (.bool (decide (0 < x))) (by simp), decide_eq_true h0]) ?_
      simp only [if_true]
      refine goesI_exit (dt_idle _ _) (k' := kk) (by simp [exitTo]) ?_
      exact hK a2 v2 w2 x hr2 hn2 hM2 hx f2 (hA2.sub (by simp))
    · obtain rfl : x = 0 := by omega
      refine goesI_cond (dt_idle _ _) (t := false) (by rw [hA2.at 37 (.bool (decide ((0 : Int) < 0))) (by simp)]; rfl) ?_
      simp only [if_false, Bool.false_eq_true]
      refine goesI_skip (dt_idle _ _) ?_
      refine goesI_seq (dt_idle _ _) ?_
      have hA2' : Fl 63 [(1, lst), (6, Pt lb 0), (7, Pt tb 0), (8, I 0), (9, I (i : Int))] a2 := hA2.sub (by simp)
      refine p12_goes (cb := cb) (cell_of hM2.lat rfl) hM2.fm cs _ hr2 hn2 hA2' (fun a3 v3 w3 hr3 hn3 e3 o3 u3 hA3 => ?_)
      have hM3 := hM2.same e3
      refine goesI_seq (dt_idle _ _) ?_
      refine goesI_plain (z := zn) (wr := true) (L := LV) (I := NoRow Ch) hE fineV noRow_keeps (fun v v' w w' es hi hr ho he => dt_of_z v v' w w' es hi hr ho he) hr3 fine_p13 hA3.2.1 (by simp [base]) hn3 (Q := fun a w' => Fl 63 [(1, lst), (6, Pt lb 0), (7, Pt tb 0), (8, I 0), (9, I (i : Int))] a ∧ w'.heap = v3.heap ∧ w'.os = v3.os ∧ w'.output = v3.output) (fun τ => p13_wp (v := onTape v3 τ 0) (hA3.sub (by simp))) ?_
      rintro a4 v4 w4 ⟨hA4, e4, o4, u4⟩ hr4 hn4 -
      refine goesI_exit (dt_idle _ _) (k' := kk) (by simp [exitTo]) ?_
      exact hK a4 v4 w4 0 hr4 hn4 (hM3.same e4) hx (f2.trans (fr12_same (e4.trans e3) (o4.trans o3) (u4.trans u3))) hA4
  · refine goesI_cond (dt_idle _ _) (t := false) (by rw [hA1.at 35 (.bool (bits .and .i64 ca 1 == 0)) (by simp)]; simp [hev]) ?_
    simp only [if_false, Bool.false_eq_true]
    refine goesI_skip (dt_idle _ _) ?_
    refine goesI_seq (dt_idle _ _) ?_
    have hA1' : Fl 63 [(1, lst), (6, Pt lb 0), (7, Pt tb 0), (8, I x), (9, I (i : Int))] a1 := hA1.sub (by simp)
    refine p15_goes (cb := cb) (cell_of hM1.lat rfl) hM1.fm cs _ hr1 hn1 hA1' (fun a2 v2 w2 hr2 hn2 f2 hA2 => ?_)
    have hM2 := hM1.fto f2
    have g2 : Fr (fun b => b = cb) v v2 := (fr12_same e1 o1 u1).trans (fr12_fto f2 rfl)
    refine goesI_seq (dt_idle _ _) ?_
    by_cases h0 : x = 0
    · rw [if_pos h0] at hM2
      rw [if_pos h0] at hA2
      refine goesI_plain (z := zn) (wr := true) (L := LV) (I := NoRow Ch) hE fineV noRow_keeps (fun v v' w w' es hi hr ho he => dt_of_z v v' w w' es hi hr ho he) hr2 fine_p16 hA2.2.1 (by simp [base]) hn2 (Q := fun a w' => Fl 63 [(1, lst), (6, Pt lb 0), (7, Pt tb 0), (8, I x), (9, I (i : Int))] a ∧ w'.heap = v2.heap ∧ w'.os = v2.os ∧ w'.output = v2.output) (fun τ => p16_wpz (v := onTape v2 τ 0) h0 hA2) ?_
      rintro a3 v3 w3 ⟨hA3, e3, o3, u3⟩ hr3 hn3 -
      refine goesI_plain (z := zn) (wr := true) (L := LV) (I := NoRow Ch) hE fineV noRow_keeps (fun v v' w w' es hi hr ho he => dt_of_z v v' w w' es hi hr ho he) hr3 fine_p18 hA3.2.1 (by simp [base]) hn3 (Q := fun a w' => Fl 63 [(1, lst), (6, Pt lb 0), (7, Pt tb 0), (8, I 0), (9, I (i : Int))] a ∧ w'.heap = v3.heap ∧ w'.os = v3.os ∧ w'.output = v3.output) (fun τ => p18_wpz (v := onTape v3 τ 0) h0 hA3) ?_
      rintro a4 v4 w4 ⟨hA4, e4, o4, u4⟩ hr4 hn4 -
      refine goesI_inBlock (dt_idle _ _) ?_
      exact hK a4 v4 w4 0 hr4 hn4 ((hM2.same e3).same e4) (by omega) (g2.trans (fr12_same (e4.trans e3) (o4.trans o3) (u4.trans u3))) hA4
    · rw [if_neg h0] at hM2
      rw [if_neg h0] at hA2
      have h1 : 0 < x := by omega
      refine goesI_plain (z := zn) (wr := true) (L := LV) (I := NoRow Ch) hE fineV noRow_keeps (fun v v' w w' es hi hr ho he => dt_of_z v v' w w' es hi hr ho he) hr2 fine_p16 hA2.2.1 (by simp [base]) hn2 (Q := fun a w' => Fl 63 [(1, lst), (6, Pt lb 0), (7, Pt tb 0), (8, I x), (9, I (i : Int))] a ∧ w'.heap = v2.heap ∧ w'.os = v2.os ∧ w'.output = v2.output) (fun τ => p16_wpp (v := onTape v2 τ 0) h1 hA2) ?_
      rintro a3 v3 w3 ⟨hA3, e3, o3, u3⟩ hr3 hn3 -
      refine goesI_plain (z := zn) (wr := true) (L := LV) (I := NoRow Ch) hE fineV noRow_keeps (fun v v' w w' es hi hr ho he => dt_of_z v v' w w' es hi hr ho he) hr3 fine_p18 hA3.2.1 (by simp [base]) hn3 (Q := fun a w' => Fl 63 [(1, lst), (6, Pt lb 0), (7, Pt tb 0), (8, I (wrap64 (x - 1))), (9, I (i : Int))] a ∧ w'.heap = v3.heap ∧ w'.os = v3.os ∧ w'.output = v3.output) (fun τ => p18_wpp (v := onTape v3 τ 0) h1 hx.2 hA3) ?_
      rintro a4 v4 w4 ⟨hA4, e4, o4, u4⟩ hr4 hn4 -
      refine goesI_inBlock (dt_idle _ _) ?_
      exact hK a4 v4 w4 _ hr4 hn4 ((hM2.same e3).same e4) (by unfold wrap64; omega) (g2.trans (fr12_same (e4.trans e3) (o4.trans o3) (u4.trans u3))) hA4
end

/-- The numbers lie there. -/
def InN (w : World) (lb lo : Nat) (xs : List Int) : Prop := ∀ (k : Nat) (c : Int), xs[k]? = some c → w.cell? ⟨lb, lo + k, none⟩ = some (I c)
theorem loop12 {Ch : Nat → Prop} {Stop : Goroutine → World → Prop} {main : Bool} {p0 : Option Addr} {lb' lo n cap : Nat} {tb lb cb : Nat} (hp : 0 < n → p0 = some ⟨lb', lo, none⟩) (xs : List Int) (hl : xs.length = n) (hn9 : (n : Int) < 9223372036854775808) (hlb : 0 < n → lb' ≠ cb) (cs : List Frame) (kk : List Item) : ∀ (m i : Nat) (a : Act) (v w : World) (x : Int), i + m = n → Rel zn v w → NoRow Ch v → Fl 63 [(1, .slice p0 n cap), (6, Pt lb 0), (7, Pt tb 0), (8, I x), (9, I (i : Int))] a → M12 tb lb cb x v → (0 ≤ x ∧ x ≤ 9223372036854775807) → InN v lb' lo xs →
    (∀ a' v' w', Rel zn v' w' → NoRow Ch v' → Fr (fun b => b = cb) v v' → a'.tmps.size = 63 → a'.defers = [] → GoesI Try.prog main (DT (ScZ zn) Ch) Stop (G ((base 12).at a' kk) cs) w') →
    GoesI Try.prog main (DT (ScZ zn) Ch) Stop (G ((base 12).at a (.code L12 :: .inLoop L12 :: .inBlock 0 :: kk)) cs) w := by
  intro m
  induction m with
  | zero =>
    intro i a v w x hi hvw hn hA hM hx hI hK
    rw [eL12]
    refine goesI_seq (dt_idle _ _) ?_
    refine goesI_seq (dt_idle _ _) ?_
    refine goesI_plain (z := zn) (wr := true) (L := LV) (I := NoRow Ch) hE fineV noRow_keeps (fun v v' w w' es hi hr ho he => dt_of_z v v' w w' es hi hr ho he) hvw fine_p8 hA.2.1 (by simp [base]) hn (Q := fun a w' => Fl 63 [(1, .slice p0 n cap), (6, Pt lb 0), (7, Pt tb 0), (8, I x), (9, I (i : Int)), (27, .bool (decide ((i : Int) < (n : Int))))] a ∧ w'.heap = v.heap ∧ w'.os = v.os ∧ w'.output = v.output) (fun τ => p8_wp (v := onTape v τ 0) rfl hA) ?_
    rintro a1 v1 w1 ⟨hA1, e1, o1, u1⟩ hr1 hn1 -
    refine goesI_cond (dt_idle _ _) (t := false) (by rw [hA1.at 27 (.bool (decide ((i : Int) < (n : Int)))) (by simp), decide_eq_false (by omega)]) ?_
    simp only [if_false, Bool.false_eq_true]
    refine goesI_exit (dt_idle _ _) (k' := kk) (by simp [exitTo]) ?_
    exact hK a1 v1 w1 hr1 hn1 (fr12_same e1 o1 u1) hA1.1 hA1.2.1
  | succ m ih =>
    intro i a v w x hi hvw hn hA hM hx hI hK
    have hin : i < n := by omega
    obtain rfl := hp (by omega)
    obtain ⟨c, hc⟩ : ∃ c, xs[i]? = some c := ⟨_, List.getElem?_eq_getElem (by omega)⟩
    rw [eL12]
    refine goesI_seq (dt_idle _ _) ?_
    refine goesI_seq (dt_idle _ _) ?_
    refine goesI_plain (z := zn) (wr := true) (L := LV) (I := NoRow Ch) hE fineV noRow_keeps (fun v v' w w' es hi hr ho he => dt_of_z v v' w w' es hi hr ho he) hvw fine_p8 hA.2.1 (by simp [base]) hn (Q := fun a w' => Fl 63 [(1, .slice (some ⟨lb', lo, none⟩) n cap), (6, Pt lb 0), (7, Pt tb 0), (8, I x), (9, I (i : Int)), (27, .bool (decide ((i : Int) < (n : Int))))] a ∧ w'.heap = v.heap ∧ w'.os = v.os ∧ w'.output = v.output) (fun τ => p8_wp (v := onTape v τ 0) rfl hA) ?_
    rintro a1 v1 w1 ⟨hA1, e1, o1, u1⟩ hr1 hn1 -
    refine goesI_cond (dt_idle _ _) (t := true) (by rw [hA1.at 27 (.bool (decide ((i : Int) < (n : Int)))) (by simp), decide_eq_true (by omega)]) ?_
    simp only [if_true]
    refine goesI_skip (dt_idle _ _) ?_
    refine goesI_seq (dt_idle _ _) ?_
    refine goesI_block (dt_idle _ _) ?_
    have g01 := hI i c hc
    rw [← eL12]
    have hA1' : Fl 63 [(1, .slice (some ⟨lb', lo, none⟩) n cap), (6, Pt lb 0), (7, Pt tb 0), (8, I x), (9, I (i : Int))] a1 := hA1.sub (by simp)
    refine round12 rfl hin (by rw [World.cell?_of_block (w := v) (w' := v1) (by rw [e1])]; exact g01) (hM.same e1) hx cs _ hr1 hn1 hA1' (fun a2 v2 w2 x' hr2 hn2 hM2 hx2 f2 hA2 => ?_)
    have f12 : Fr (fun b => b = cb) v v2 := (fr12_same e1 o1 u1).trans f2
    refine goesI_plain (z := zn) (wr := true) (L := LV) (I := NoRow Ch) hE fineV noRow_keeps (fun v v' w w' es hi hr ho he => dt_of_z v v' w w' es hi hr ho he) hr2 fine_p9 hA2.2.1 (by simp [base]) hn2 (Q := fun a w' => Fl 63 [(1, .slice (some ⟨lb', lo, none⟩) n cap), (6, Pt lb 0), (7, Pt tb 0), (8, I x'), (9, I ((i + 1 : Nat) : Int))] a ∧ w'.heap = v2.heap ∧ w'.os = v2.os ∧ w'.output = v2.output) (fun τ => p9_wp (v := onTape v2 τ 0) (by unfold wrap64; omega) hA2) ?_
    rintro a3 v3 w3 ⟨hA3, e3, o3, u3⟩ hr3 hn3 -
    refine goesI_inLoop (dt_idle _ _) ?_
    have f13 : Fr (fun b => b = cb) v v3 := f12.trans (fr12_same e3 o3 u3)
    refine ih (i + 1) a3 v3 w3 x' (by omega) hr3 hn3 hA3 (hM2.same e3) hx2 (fun k c hc => ?_) (fun a' v' w' q1 q2 q3 q4 q5 => hK a' v' w' q1 q2 (f13.trans q3) q4 q5)
    have h4 := hI k c hc
    rw [World.cell?_of_block (w := v) (w' := v3) (f13.block lb' (World.block_lt_of_cell? _ _ h4) (hlb (by omega)))]
    exact h4
end Go.Proofs.Ytfjjoohflcchnaa.Gen
