/- What the document's ask (36) does: its pieces. (Made by wip/tools/mk36.py.) -/
import Derived.Test.YtgohfdgkihoilaaFts
import Derived.Test.YtgohfdgkihoilaaFate
set_option linter.unusedSimpArgs false
set_option linter.unusedVariables false
namespace Go.Proofs.Ytgohfdgkihoilaa.Rcp
open Go Go.RowKit Go.Deep Go.Maps

theorem boxA {w : World} {bb : Nat} {c0 c1 c2 tv : Value} (hx : w.heap[bb]? = some (.cells #[c0, c1, c2, tv] 67 (0, 0))) : w.cell? ⟨bb, 0, none⟩ = some c0 ∧ w.cell? ⟨bb, 1, none⟩ = some c1 ∧ w.cell? ⟨bb, 2, none⟩ = some c2 ∧ w.cell? ⟨bb, 3, none⟩ = some tv ∧ w.frozen? ⟨bb, 3, none⟩ = false := by
  refine ⟨?_, ?_, ?_, ?_, ?_⟩
  all_goals simp [World.cell?, World.frozen?, hx]
theorem heap_set3A {w : World} {bb : Nat} {v tv c0 c1 c2 : Value} (hx : w.heap[bb]? = some (.cells #[c0, c1, c2, tv] 67 (0, 0))) : (w.setCell ⟨bb, 3, none⟩ v).heap[bb]? = some (.cells #[c0, c1, c2, v] 67 (0, 0)) := by
  simp [World.setCell, Array.getElem?_modify, hx]
noncomputable def C36 : Code := Try.f36.body.getD .skip
noncomputable def q36_0 : Code := (seq1 (seq1 C36))
noncomputable def q36_1 : Code := (seq1 (seq2 C36))
noncomputable def q36_2 : Code := (seq1 (seq1 (seq2 (seq2 C36))))
noncomputable def q36_3 : Code := (seq1 (seq1 (loopC (blockC (seq2 (seq1 (seq2 (seq2 C36))))))))
noncomputable def q36_5 : Code := (seq1 (blockC (seq1 (seq2 (loopC (blockC (seq2 (seq1 (seq2 (seq2 C36))))))))))
noncomputable def q36_6 : Code := (seq1 (seq2 (blockC (seq1 (seq2 (loopC (blockC (seq2 (seq1 (seq2 (seq2 C36)))))))))))
noncomputable def q36_7 : Code := (seq1 (seq2 (seq2 (blockC (seq1 (seq2 (loopC (blockC (seq2 (seq1 (seq2 (seq2 C36))))))))))))
noncomputable def q36_4 : Code := (seq2 (seq2 (loopC (blockC (seq2 (seq1 (seq2 (seq2 C36))))))))
noncomputable def q36_8 : Code := (seq1 (seq2 (seq2 (seq2 C36))))
noncomputable def q36_9 : Code := (condA (seq2 (seq2 (seq2 (seq2 C36)))))
noncomputable def K36_1 : Code := (.seq q36_5 (.seq q36_6 (.seq q36_7 (.cond ( .tmp 53 ) .ret .skip))))
noncomputable def K36_0 : Code := (.loop (.seq (.seq q36_3 (.cond ( .tmp 29 ) .skip (.exit 0))) (.seq (.block 1 K36_1) q36_4)))
theorem e36 : C36 = (.seq (.seq q36_0 (.cond ( .tmp 12 ) .ret .skip)) (.seq q36_1 (.seq (.seq q36_2 (.block 0 K36_0)) (.seq q36_8 (.cond ( .tmp 60 ) q36_9 .skip))))) := by kernel_rfl

set_option maxHeartbeats 1000000 in
set_option maxRecDepth 100000 in
theorem p36_0 {v : World} {a : Act} {n bb ob key : Nat} {yb : Bool} (hn : n ≤ 100) (hk : key < n) (c2 : v.cell? ⟨bb, 2, none⟩ = some (.slice (some ⟨ob, 0, none⟩) n n)) (cy : v.cell? ⟨ob, key, none⟩ = some (.bool yb)) (hA : Fl 71 [(0, P1 bb), (1, I (key : Nat))] a) :
    q36_0.wp Try.prog (fun e a' w' => e = .normal ∧ (Fl 71 [(12, .bool yb), (0, P1 bb), (1, I (key : Nat))] a' ∧ w' = v)) a v := by
  obtain ⟨hsz, hd, hp⟩ := hA
  obtain ⟨u, rfl, hg⟩ := litN hsz hd
  simp only [List.forall_mem_cons, hg] at hp
  obtain ⟨u0, u1, -⟩ := hp
  clear hg hsz hd
  unfold q36_0 C36 Try.f36 seq1
  simp only [Option.getD_some, lits, Nat.reduceAdd, u0, u1]
  clear u0 u1
  go_wp2_with fail
  first
    | exact ⟨⟨rfl, rfl, by
      intro p hp
      simp only [List.mem_cons, List.not_mem_nil, or_false] at hp
      rcases hp with rfl | rfl | rfl <;> first | rfl | exact congrArg I (by omega) | exact congrArg Value.bool (by simp <;> omega) | exact congrArg Value.bool (by simp)⟩, rfl⟩
    | exact ⟨rfl, rfl, by
      intro p hp
      simp only [List.mem_cons, List.not_mem_nil, or_false] at hp
      rcases hp with rfl | rfl | rfl <;> first | rfl | exact congrArg I (by omega) | exact congrArg Value.bool (by simp <;> omega) | exact congrArg Value.bool (by simp)⟩
    | exact ⟨rfl, ⟨rfl, rfl, by
      intro p hp
      simp only [List.mem_cons, List.not_mem_nil, or_false] at hp
      rcases hp with rfl | rfl | rfl <;> first | rfl | exact congrArg I (by omega) | exact congrArg Value.bool (by simp <;> omega) | exact congrArg Value.bool (by simp)⟩, rfl⟩

set_option maxHeartbeats 1000000 in
set_option maxRecDepth 100000 in
theorem p36_1 {v : World} {a : Act} {n bb ob key : Nat} {yb : Bool} (hn : n ≤ 100) (hk : key < n) (c2 : v.cell? ⟨bb, 2, none⟩ = some (.slice (some ⟨ob, 0, none⟩) n n)) (cy : v.cell? ⟨ob, key, none⟩ = some (.bool yb)) (f : v.frozen? ⟨ob, key, none⟩ = false) (hA : Fl 71 [(0, P1 bb), (1, I (key : Nat))] a) :
    q36_1.wp Try.prog (fun e a' w' => e = .normal ∧ (Fl 71 [(0, P1 bb), (1, I (key : Nat))] a' ∧ w' = v.setCell ⟨ob, key, none⟩ (.bool true))) a v := by
  obtain ⟨hsz, hd, hp⟩ := hA
  obtain ⟨u, rfl, hg⟩ := litN hsz hd
  simp only [List.forall_mem_cons, hg] at hp
  obtain ⟨u0, u1, -⟩ := hp
  clear hg hsz hd
  unfold q36_1 C36 Try.f36 seq1 seq2
  simp only [Option.getD_some, lits, Nat.reduceAdd, u0, u1]
  clear u0 u1
  go_wp2_with fail
  first
    | exact ⟨⟨rfl, rfl, by
      intro p hp
      simp only [List.mem_cons, List.not_mem_nil, or_false] at hp
      rcases hp with rfl | rfl <;> first | rfl | exact congrArg I (by omega) | exact congrArg Value.bool (by simp <;> omega) | exact congrArg Value.bool (by simp)⟩, rfl⟩
    | exact ⟨rfl, rfl, by
      intro p hp
      simp only [List.mem_cons, List.not_mem_nil, or_false] at hp
      rcases hp with rfl | rfl <;> first | rfl | exact congrArg I (by omega) | exact congrArg Value.bool (by simp <;> omega) | exact congrArg Value.bool (by simp)⟩
    | exact ⟨rfl, ⟨rfl, rfl, by
      intro p hp
      simp only [List.mem_cons, List.not_mem_nil, or_false] at hp
      rcases hp with rfl | rfl <;> first | rfl | exact congrArg I (by omega) | exact congrArg Value.bool (by simp <;> omega) | exact congrArg Value.bool (by simp)⟩, rfl⟩

set_option maxHeartbeats 1000000 in
set_option maxRecDepth 100000 in
theorem p36_2 {v : World} {a : Act} {bb key : Nat}  (hA : Fl 71 [(0, P1 bb), (1, I (key : Nat))] a) :
    q36_2.wp Try.prog (fun e a' w' => e = .normal ∧ (Fl 71 [(0, P1 bb), (1, I (key : Nat)), (4, I (0 : Nat))] a' ∧ w' = v)) a v := by
  obtain ⟨hsz, hd, hp⟩ := hA
  obtain ⟨u, rfl, hg⟩ := litN hsz hd
  simp only [List.forall_mem_cons, hg] at hp
  obtain ⟨u0, u1, -⟩ := hp
  clear hg hsz hd
  unfold q36_2 C36 Try.f36 seq1 seq2
  simp only [Option.getD_some, lits, Nat.reduceAdd, u0, u1]
  clear u0 u1
  go_wp2_with fail
  first
    | exact ⟨⟨rfl, rfl, by
      intro p hp
      simp only [List.mem_cons, List.not_mem_nil, or_false] at hp
      rcases hp with rfl | rfl | rfl <;> first | rfl | exact congrArg I (by omega) | exact congrArg Value.bool (by simp <;> omega) | exact congrArg Value.bool (by simp)⟩, rfl⟩
    | exact ⟨rfl, rfl, by
      intro p hp
      simp only [List.mem_cons, List.not_mem_nil, or_false] at hp
      rcases hp with rfl | rfl | rfl <;> first | rfl | exact congrArg I (by omega) | exact congrArg Value.bool (by simp <;> omega) | exact congrArg Value.bool (by simp)⟩
    | exact ⟨rfl, ⟨rfl, rfl, by
      intro p hp
      simp only [List.mem_cons, List.not_mem_nil, or_false] at hp
      rcases hp with rfl | rfl | rfl <;> first | rfl | exact congrArg I (by omega) | exact congrArg Value.bool (by simp <;> omega) | exact congrArg Value.bool (by simp)⟩, rfl⟩

set_option maxHeartbeats 1000000 in
set_option maxRecDepth 100000 in
theorem p36_3 {v : World} {a : Act} {b o n cap bb key t : Nat} {q : Option Addr} {nn nc : Nat} (hn : n ≤ 100) (c0 : v.cell? ⟨bb, 0, none⟩ = some (.slice (some ⟨b, o, none⟩) n cap)) (cn : v.cell? ⟨b, o + key * 5, none⟩ = some (.slice q nn nc)) (hk : key < n) (hnn : nn ≤ 20) (hA : Fl 71 [(0, P1 bb), (1, I (key : Nat)), (4, I (t : Nat))] a) :
    q36_3.wp Try.prog (fun e a' w' => e = .normal ∧ (Fl 71 [(29, .bool (decide (t < nn))), (0, P1 bb), (1, I (key : Nat)), (4, I (t : Nat))] a' ∧ w' = v)) a v := by
  obtain ⟨hsz, hd, hp⟩ := hA
  obtain ⟨u, rfl, hg⟩ := litN hsz hd
  simp only [List.forall_mem_cons, hg] at hp
  obtain ⟨u0, u1, u4, -⟩ := hp
  clear hg hsz hd
  unfold q36_3 C36 Try.f36 seq1 seq2 blockC loopC
  simp only [Option.getD_some, lits, Nat.reduceAdd, u0, u1, u4]
  clear u0 u1 u4
  go_wp2_with fail
  first
    | exact ⟨⟨rfl, rfl, by
      intro p hp
      simp only [List.mem_cons, List.not_mem_nil, or_false] at hp
      rcases hp with rfl | rfl | rfl | rfl <;> first | rfl | exact congrArg I (by omega) | exact congrArg Value.bool (by simp <;> omega) | exact congrArg Value.bool (by simp)⟩, rfl⟩
    | exact ⟨rfl, rfl, by
      intro p hp
      simp only [List.mem_cons, List.not_mem_nil, or_false] at hp
      rcases hp with rfl | rfl | rfl | rfl <;> first | rfl | exact congrArg I (by omega) | exact congrArg Value.bool (by simp <;> omega) | exact congrArg Value.bool (by simp)⟩
    | exact ⟨rfl, ⟨rfl, rfl, by
      intro p hp
      simp only [List.mem_cons, List.not_mem_nil, or_false] at hp
      rcases hp with rfl | rfl | rfl | rfl <;> first | rfl | exact congrArg I (by omega) | exact congrArg Value.bool (by simp <;> omega) | exact congrArg Value.bool (by simp)⟩, rfl⟩

set_option maxHeartbeats 1000000 in
set_option maxRecDepth 100000 in
theorem p36_5 {v : World} {a : Act} {b o n cap bb key t nb no nn nc x : Nat} (hn : n ≤ 100) (c0 : v.cell? ⟨bb, 0, none⟩ = some (.slice (some ⟨b, o, none⟩) n cap)) (cn : v.cell? ⟨b, o + key * 5, none⟩ = some (.slice (some ⟨nb, no, none⟩) nn nc)) (hk : key < n) (hnn : nn ≤ 20) (ht : t < nn) (cx : v.cell? ⟨nb, no + t, none⟩ = some (I (x : Nat))) (hA : Fl 71 [(0, P1 bb), (1, I (key : Nat)), (4, I (t : Nat))] a) :
    q36_5.wp Try.prog (fun e a' w' => e = .normal ∧ (Fl 71 [(0, P1 bb), (1, I (key : Nat)), (4, I (t : Nat)), (5, I (x : Nat))] a' ∧ w' = v)) a v := by
  obtain ⟨hsz, hd, hp⟩ := hA
  obtain ⟨u, rfl, hg⟩ := litN hsz hd
  simp only [List.forall_mem_cons, hg] at hp
  obtain ⟨u0, u1, u4, -⟩ := hp
  clear hg hsz hd
  unfold q36_5 C36 Try.f36 seq1 seq2 blockC loopC
  simp only [Option.getD_some, lits, Nat.reduceAdd, u0, u1, u4]
  clear u0 u1 u4
  go_wp2_with fail
  first
    | exact ⟨⟨rfl, rfl, by
      intro p hp
      simp only [List.mem_cons, List.not_mem_nil, or_false] at hp
      rcases hp with rfl | rfl | rfl | rfl <;> first | rfl | exact congrArg I (by omega) | exact congrArg Value.bool (by simp <;> omega) | exact congrArg Value.bool (by simp)⟩, rfl⟩
    | exact ⟨rfl, rfl, by
      intro p hp
      simp only [List.mem_cons, List.not_mem_nil, or_false] at hp
      rcases hp with rfl | rfl | rfl | rfl <;> first | rfl | exact congrArg I (by omega) | exact congrArg Value.bool (by simp <;> omega) | exact congrArg Value.bool (by simp)⟩
    | exact ⟨rfl, ⟨rfl, rfl, by
      intro p hp
      simp only [List.mem_cons, List.not_mem_nil, or_false] at hp
      rcases hp with rfl | rfl | rfl | rfl <;> first | rfl | exact congrArg I (by omega) | exact congrArg Value.bool (by simp <;> omega) | exact congrArg Value.bool (by simp)⟩, rfl⟩

set_option maxHeartbeats 1000000 in
set_option maxRecDepth 100000 in
theorem p36_6 {v : World} {a : Act} {bb key t x : Nat} {R : World → Prop} (hC : Calls Try.prog 36 #[P1 bb, I (x : Nat)] v (Ret fun r w' => r = .tuple #[] ∧ R w')) (hA : Fl 71 [(0, P1 bb), (1, I (key : Nat)), (4, I (t : Nat)), (5, I (x : Nat))] a) :
    q36_6.wp Try.prog (fun e a' w' => e = .normal ∧ (Fl 71 [(0, P1 bb), (1, I (key : Nat)), (4, I (t : Nat)), (5, I (x : Nat))] a' ∧ R w')) a v := by
  have HC : Hid (Calls Try.prog 36 #[P1 bb, I (x : Nat)] v (Ret fun r w' => r = .tuple #[] ∧ R w')) := hC
  clear hC
  obtain ⟨hsz, hd, hp⟩ := hA
  obtain ⟨u, rfl, hg⟩ := litN hsz hd
  simp only [List.forall_mem_cons, hg] at hp
  obtain ⟨u0, u1, u4, u5, -⟩ := hp
  clear hg hsz hd
  unfold q36_6 C36 Try.f36 seq1 seq2 blockC loopC
  simp only [Option.getD_some, lits, Nat.reduceAdd, u0, u1, u4, u5]
  clear u0 u1 u4 u5
  go_wp2_with (first
    | (go_at_call 36; refine HC.out.mono ?_; rintro e w1 ⟨_, rfl, rfl, hk⟩; have HK : Hid (R w1) := hk; clear hk))
  first
    | exact ⟨⟨rfl, rfl, by
      intro p hp
      simp only [List.mem_cons, List.not_mem_nil, or_false] at hp
      rcases hp with rfl | rfl | rfl | rfl <;> first | rfl | exact congrArg I (by omega) | exact congrArg Value.bool (by simp <;> omega) | exact congrArg Value.bool (by simp)⟩, HK.out⟩
    | exact ⟨rfl, rfl, by
      intro p hp
      simp only [List.mem_cons, List.not_mem_nil, or_false] at hp
      rcases hp with rfl | rfl | rfl | rfl <;> first | rfl | exact congrArg I (by omega) | exact congrArg Value.bool (by simp <;> omega) | exact congrArg Value.bool (by simp)⟩
    | exact ⟨rfl, ⟨rfl, rfl, by
      intro p hp
      simp only [List.mem_cons, List.not_mem_nil, or_false] at hp
      rcases hp with rfl | rfl | rfl | rfl <;> first | rfl | exact congrArg I (by omega) | exact congrArg Value.bool (by simp <;> omega) | exact congrArg Value.bool (by simp)⟩, HK.out⟩

set_option maxHeartbeats 1000000 in
set_option maxRecDepth 100000 in
theorem p36_7 {v : World} {a : Act} {n bb cb key t x : Nat} {yc : Bool} (hn : n ≤ 100) (hx : x < n) (c1 : v.cell? ⟨bb, 1, none⟩ = some (.slice (some ⟨cb, 0, none⟩) n n)) (cy : v.cell? ⟨cb, x, none⟩ = some (.bool yc)) (hA : Fl 71 [(0, P1 bb), (1, I (key : Nat)), (4, I (t : Nat)), (5, I (x : Nat))] a) :
    q36_7.wp Try.prog (fun e a' w' => e = .normal ∧ (Fl 71 [(53, .bool (!yc)), (0, P1 bb), (1, I (key : Nat)), (4, I (t : Nat))] a' ∧ w' = v)) a v := by
  obtain ⟨hsz, hd, hp⟩ := hA
  obtain ⟨u, rfl, hg⟩ := litN hsz hd
  simp only [List.forall_mem_cons, hg] at hp
  obtain ⟨u0, u1, u4, u5, -⟩ := hp
  clear hg hsz hd
  unfold q36_7 C36 Try.f36 seq1 seq2 blockC loopC
  simp only [Option.getD_some, lits, Nat.reduceAdd, u0, u1, u4, u5]
  clear u0 u1 u4 u5
  go_wp2_with fail
  first
    | exact ⟨⟨rfl, rfl, by
      intro p hp
      simp only [List.mem_cons, List.not_mem_nil, or_false] at hp
      rcases hp with rfl | rfl | rfl | rfl <;> first | rfl | exact congrArg I (by omega) | exact congrArg Value.bool (by simp <;> omega) | exact congrArg Value.bool (by simp)⟩, rfl⟩
    | exact ⟨rfl, rfl, by
      intro p hp
      simp only [List.mem_cons, List.not_mem_nil, or_false] at hp
      rcases hp with rfl | rfl | rfl | rfl <;> first | rfl | exact congrArg I (by omega) | exact congrArg Value.bool (by simp <;> omega) | exact congrArg Value.bool (by simp)⟩
    | exact ⟨rfl, ⟨rfl, rfl, by
      intro p hp
      simp only [List.mem_cons, List.not_mem_nil, or_false] at hp
      rcases hp with rfl | rfl | rfl | rfl <;> first | rfl | exact congrArg I (by omega) | exact congrArg Value.bool (by simp <;> omega) | exact congrArg Value.bool (by simp)⟩, rfl⟩

set_option maxHeartbeats 1000000 in
set_option maxRecDepth 100000 in
theorem p36_4 {v : World} {a : Act} {bb key t : Nat} (ht : t < 100) (hA : Fl 71 [(0, P1 bb), (1, I (key : Nat)), (4, I (t : Nat))] a) :
    q36_4.wp Try.prog (fun e a' w' => e = .normal ∧ (Fl 71 [(0, P1 bb), (1, I (key : Nat)), (4, I ((t + 1 : Nat) : Int))] a' ∧ w' = v)) a v := by
  obtain ⟨hsz, hd, hp⟩ := hA
  obtain ⟨u, rfl, hg⟩ := litN hsz hd
  simp only [List.forall_mem_cons, hg] at hp
  obtain ⟨u0, u1, u4, -⟩ := hp
  clear hg hsz hd
  unfold q36_4 C36 Try.f36 seq1 seq2 blockC loopC
  simp only [Option.getD_some, lits, Nat.reduceAdd, u0, u1, u4]
  clear u0 u1 u4
  go_wp2_with fail
  first
    | exact ⟨⟨rfl, rfl, by
      intro p hp
      simp only [List.mem_cons, List.not_mem_nil, or_false] at hp
      rcases hp with rfl | rfl | rfl <;> first | rfl | exact congrArg I (by omega) | exact congrArg Value.bool (by simp <;> omega) | exact congrArg Value.bool (by simp)⟩, rfl⟩
    | exact ⟨rfl, rfl, by
      intro p hp
      simp only [List.mem_cons, List.not_mem_nil, or_false] at hp
      rcases hp with rfl | rfl | rfl <;> first | rfl | exact congrArg I (by omega) | exact congrArg Value.bool (by simp <;> omega) | exact congrArg Value.bool (by simp)⟩
    | exact ⟨rfl, ⟨rfl, rfl, by
      intro p hp
      simp only [List.mem_cons, List.not_mem_nil, or_false] at hp
      rcases hp with rfl | rfl | rfl <;> first | rfl | exact congrArg I (by omega) | exact congrArg Value.bool (by simp <;> omega) | exact congrArg Value.bool (by simp)⟩, rfl⟩

set_option maxHeartbeats 1000000 in
set_option maxRecDepth 100000 in
theorem p36_8 {v : World} {a : Act} {n bb cb key : Nat} {yc : Bool} (hn : n ≤ 100) (hk : key < n) (c1 : v.cell? ⟨bb, 1, none⟩ = some (.slice (some ⟨cb, 0, none⟩) n n)) (cy : v.cell? ⟨cb, key, none⟩ = some (.bool yc)) (hA : Fl 71 [(0, P1 bb), (1, I (key : Nat))] a) :
    q36_8.wp Try.prog (fun e a' w' => e = .normal ∧ (Fl 71 [(60, .bool yc), (0, P1 bb), (1, I (key : Nat))] a' ∧ w' = v)) a v := by
  obtain ⟨hsz, hd, hp⟩ := hA
  obtain ⟨u, rfl, hg⟩ := litN hsz hd
  simp only [List.forall_mem_cons, hg] at hp
  obtain ⟨u0, u1, -⟩ := hp
  clear hg hsz hd
  unfold q36_8 C36 Try.f36 seq1 seq2
  simp only [Option.getD_some, lits, Nat.reduceAdd, u0, u1]
  clear u0 u1
  go_wp2_with fail
  first
    | exact ⟨⟨rfl, rfl, by
      intro p hp
      simp only [List.mem_cons, List.not_mem_nil, or_false] at hp
      rcases hp with rfl | rfl | rfl <;> first | rfl | exact congrArg I (by omega) | exact congrArg Value.bool (by simp <;> omega) | exact congrArg Value.bool (by simp)⟩, rfl⟩
    | exact ⟨rfl, rfl, by
      intro p hp
      simp only [List.mem_cons, List.not_mem_nil, or_false] at hp
      rcases hp with rfl | rfl | rfl <;> first | rfl | exact congrArg I (by omega) | exact congrArg Value.bool (by simp <;> omega) | exact congrArg Value.bool (by simp)⟩
    | exact ⟨rfl, ⟨rfl, rfl, by
      intro p hp
      simp only [List.mem_cons, List.not_mem_nil, or_false] at hp
      rcases hp with rfl | rfl | rfl <;> first | rfl | exact congrArg I (by omega) | exact congrArg Value.bool (by simp <;> omega) | exact congrArg Value.bool (by simp)⟩, rfl⟩

set_option maxHeartbeats 1000000 in
set_option maxRecDepth 100000 in
theorem p36_9 {v : World} {a : Act} {bb key : Nat} {Z : Nat → Prop} {xs : List Int} {tv k0 k1 k2 : Value} (hO : OwnI Z v tv xs) (hZ : ∀ i, Z i → i < v.heap.size) (hl : xs.length ≤ 1000) (hbz : Z bb) (hbx : v.heap[bb]? = some (.cells #[k0, k1, k2, tv] 67 (0, 0))) (hA : Fl 71 [(0, P1 bb), (1, I (key : Nat))] a) :
    q36_9.wp Try.prog (fun e a' w' => e = .normal ∧ ∃ g c u, (Fl 71 [] a' ∧ OwnI Z u (.slice (some ⟨g, 0, none⟩) (xs.length + 1) c) (xs ++ [((key : Nat) : Int)]) ∧ Kp Z v u ∧ w' = u.setCell ⟨bb, 3, none⟩ (.slice (some ⟨g, 0, none⟩) (xs.length + 1) c))) a v := by
  obtain ⟨e0, e1, e2, e3, e4⟩ := boxA hbx
  have HO : Hid (OwnI Z v tv xs) := hO
  have HZ : Hid (∀ i, Z i → i < v.heap.size) := hZ
  have HBZ : Hid (Z bb) := hbz
  have HBX : Hid (v.heap[bb]? = some (.cells #[k0, k1, k2, tv] 67 (0, 0))) := hbx
  clear hO hZ hbz hbx
  obtain ⟨hsz, hd, hp⟩ := hA
  obtain ⟨u, rfl, hg⟩ := litN hsz hd
  simp only [List.forall_mem_cons, hg] at hp
  obtain ⟨u0, u1, -⟩ := hp
  clear hg hsz hd
  unfold q36_9 C36 Try.f36 seq2 condA
  simp only [Option.getD_some, lits, Nat.reduceAdd, u0, u1]
  clear u0 u1
  go_wp2_with (first
    | (at_builtin; refine wp_app (n := (key : Nat)) rfl (.tmp 65) (.tmp 67) rfl rfl rfl HO.out HZ.out (Nat.le_trans hl (by omega)) ?_; intro g c u' hO' hk' hb' hloc' hsz'; obtain ⟨r0', r1', r2', r3', r4'⟩ := boxA ((hk'.block bb HBZ.out).trans HBX.out); have H' : Hid (OwnI Z u' (.slice (some ⟨g, 0, none⟩) (xs.length + 1) c) (xs ++ [((key : Nat) : Int)]) ∧ Kp Z v u') := ⟨hO', hk'⟩; clear hO' hk' hb' hloc' hsz'))
  exact ⟨⟨rfl, rfl, fun p hp => (by cases hp)⟩, g, c, u', H'.out.1, H'.out.2, rfl⟩

theorem in36 {w : World} {R : Value → World → Prop} {bb key : Nat} (h : ∀ a, Fl 71 [(0, P1 bb), (1, I (key : Nat))] a → C36.wp Try.prog (bodyPost Try.prog Try.f36 (Ret R)) a w) : Calls Try.prog 36 #[P1 bb, I (key : Nat)] w (Ret R) :=
  calls_of_wp Try.func36 (show Try.f36.body = some C36 by kernel_rfl) (by
    rw [Try.ntmps36]
    exact h _ (fl_enter _ _ 71 (by simp) _ (by intro p hp; simp only [List.mem_cons, List.not_mem_nil, or_false] at hp; rcases hp with rfl | rfl <;> rfl)))

end Go.Proofs.Ytgohfdgkihoilaa.Rcp
