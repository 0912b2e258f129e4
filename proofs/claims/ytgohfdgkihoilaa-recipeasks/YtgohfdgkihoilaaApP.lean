/- The law RecipeApart (7): its pieces. (Made by wip/tools/mk7.py.) -/
import Derived.Test.YtgohfdgkihoilaaFat
set_option linter.unusedSimpArgs false
set_option linter.unusedVariables false
namespace Go.Proofs.Ytgohfdgkihoilaa.Rcp
open Go Go.RowKit Go.Deep Go.Maps

theorem info43 : (Try.prog.info? 43).map (fun i => (i.zero, i.size, i.bytes)) = some (some (.agg #[.slice none 0 0, .int .i64 0, .int .i64 0, .int .i64 0, .int .i64 0]), 5, 56) := by kernel_rfl
/-- Recipes in a row: what their needs are in memory, and they. -/
def flatR (P : List (Value × Rc)) : List Value := P.flatMap fun p => rcL p.1 p.2
theorem flatR_len : ∀ (P : List (Value × Rc)), (flatR P).length = P.length * 5
  | [] => rfl
  | p :: r => by
    have := flatR_len r
    unfold flatR at this ⊢
    rw [List.flatMap_cons, List.length_append, this]
    show 5 + r.length * 5 = (r.length + 1) * 5
    omega
theorem flatR_app (P : List (Value × Rc)) (p : Value × Rc) : flatR (P ++ [p]) = flatR P ++ rcL p.1 p.2 := by unfold flatR; rw [List.flatMap_append]; simp
theorem flatR_at : ∀ (P : List (Value × Rc)) (i j : Nat) (p : Value × Rc), P[i]? = some p → j < 5 → (flatR P)[i * 5 + j]? = (rcL p.1 p.2)[j]?
  | [], i, j, p, h, _ => by simp at h
  | p :: r, 0, j, q, h, hj => by
    cases h
    unfold flatR
    rw [List.flatMap_cons, List.getElem?_append_left (by show _ < 5; omega)]
    simp
  | p :: r, i + 1, j, q, h, hj => by
    have := flatR_at r i j q (by simpa using h) hj
    unfold flatR at this ⊢
    rw [List.flatMap_cons, List.getElem?_append_right (by show 5 ≤ _; omega)]
    rw [← this]
    congr 1
    show _ - 5 = _
    omega
/-- A slice of recipes that was built here, outside Z; their needs lie elsewhere. -/
structure OwnR (Z : Nat → Prop) (w : World) (v : Value) (P : List (Value × Rc)) : Prop where
  row : w.ownsRow 0 43 5 v P.length (flatR P)
  one : ∀ p ∈ P, p.1.oneCell' = true
  nz : ∀ g, v.ownBlock = some g → ¬ Z g
  il : ∀ p ∈ P, IL (fun b => b < w.heap.size ∧ v.ownBlock ≠ some b) w p.1 p.2.needs
theorem OwnR.lt {Z : Nat → Prop} {w : World} {v : Value} {P : List (Value × Rc)} (h : OwnR Z w v P) : ∀ g, v.ownBlock = some g → g < w.heap.size := by
  obtain ⟨⟨h1, h2⟩, _⟩ := h
  intro g hg
  rcases h2 with ⟨rfl, _⟩ | ⟨g', cap, cur, rfl, r1, r2, r3⟩
  · cases hg
  · cases hg; exact (Array.getElem?_eq_some_iff.1 r2).1
theorem OwnR.kp {Z : Nat → Prop} {w w' : World} {v : Value} {P : List (Value × Rc)} (h : OwnR Z w v P) (k : Kp (fun i => i < w.heap.size) w w') : OwnR Z w' v P := by
  have hlt := h.lt
  obtain ⟨⟨h1, h2⟩, h3, h4, h5⟩ := h
  refine ⟨⟨h1, ?_⟩, h3, h4, fun p hp => ?_⟩
  · rcases h2 with h2 | ⟨g, cap, cur, rfl, r1, r2, r3⟩
    · exact .inl h2
    · exact .inr ⟨g, cap, cur, rfl, r1, (k.block g (hlt g rfl)).trans r2, r3⟩
  · exact ((h5 p hp).kp (k.mono fun i hi => hi.1)).mono fun i hi => ⟨Nat.lt_of_lt_of_le hi.1 k.size, hi.2⟩
theorem OwnR.nil (Z : Nat → Prop) (w : World) : OwnR Z w (.slice none 0 0) [] := ⟨World.ownsRow_nil _ _ _ _, fun p hp => (by cases hp), fun g hg => (by cases hg), fun p hp => (by cases hp)⟩
theorem OwnR.rl {Z : Nat → Prop} {w : World} {v : Value} {P : List (Value × Rc)} (h : OwnR Z w v P) (hl : P.length ≤ 9223372036854775807) : RL (fun i => i < w.heap.size) w v (P.map (·.2)) := by
  have hlt := h.lt
  obtain ⟨⟨h1, h2⟩, h3, h4, h5⟩ := h
  rcases h2 with ⟨rfl, h0⟩ | ⟨g, cap, cur, rfl, r1, r2, r3, r4, r5, r6⟩
  · have : P = [] := List.eq_nil_of_length_eq_zero h0
    subst this
    exact ⟨none, 0, rfl, by simp, fun i r hi => by simp at hi⟩
  · refine ⟨_, cap, by rw [List.length_map], by rw [List.length_map]; exact hl, fun i r hi => ?_⟩
    rw [List.getElem?_map] at hi
    obtain ⟨p, hp, rfl⟩ := Option.map_eq_some_iff.1 hi
    refine ⟨g, 0, p.1, rfl, hlt g rfl, fun j u hj => ?_, (h5 p (List.mem_of_getElem? hp)).mono fun i hi => hi.1⟩
    have hj5 : j < 5 := (List.getElem?_eq_some_iff.1 hj).1
    have hil : i < P.length := (List.getElem?_eq_some_iff.1 hp).1
    have e : (cur.toList.take (P.length * 5))[i * 5 + j]? = (flatR P)[i * 5 + j]? := by rw [r6]
    rw [List.getElem?_take_of_lt (by omega), flatR_at P i j p hp hj5, hj] at e
    simp only [World.cell?, r2]
    rw [show 0 + i * 5 + j = i * 5 + j by omega]
    simpa using e
/-- A recipe is appended. -/
theorem wp_app43 {ops : Array Oper} {rest : List Oper} {o : Oper} {a : Act} {Q : Exit → Act → World → Prop} {w : World} {Z : Nat → Prop} {v nv : Value} {r : Rc} {P : List (Value × Rc)} (hgd : o.guard = none) (s x : Operand)
    (ho : o.op = .call { callee := .builtin .append, args := #[s, x], argTypes := #[25, 25] }) (hs : a.eval s = v) (hx : a.eval x = .slice (some ⟨w.heap.size, 0, none⟩) 1 1) (hy : nv.oneCell' = true) (hown : OwnR Z w v P) (hZ : ∀ i, Z i → i < w.heap.size) (hl : P.length ≤ 1000)
    (hn : IL (fun b => b < w.heap.size ∧ v.ownBlock ≠ some b) w nv r.needs)
    (h : ∀ g cap w', OwnR Z w' (.slice (some ⟨g, 0, none⟩) (P.length + 1) cap) (P ++ [(nv, r)]) → Kp Z w w' → w.heap.size ≤ w'.heap.size → wpList Try.prog ops Q rest (a.put o.dst (.slice (some ⟨g, 0, none⟩) (P.length + 1) cap)) w') :
    wpList Try.prog ops Q (o :: rest) a (w.alloc (.cells (rcC nv r) 43)) := by
  obtain ⟨j0, hj, hj0, hj1, hj2⟩ := info_parts info43
  have hlt := hown.lt
  have hst : OwnR Z (w.alloc (.cells (rcC nv r) 43)) v P := hown.kp (Kp.alloc (fun _ h => h) _)
  refine wpList_append_own_at _ hgd s x 25 ho 0 43 j0 _ 5 56 Try.underlying25 hj hj0 hj1 hj2 rfl (by decide) v P.length (flatR P) hs hst.row ⟨w.heap.size, 0, none⟩ 1 1 (rcL nv r) hx rfl (fun j u hj => ?_) (fun u hu => ?_) (by unfold maxLen; omega) (by omega) (Nat.zero_le _) ?_
  · have hj5 : j < 5 := (List.getElem?_eq_some_iff.1 hj).1
    have hadd : (⟨w.heap.size, 0, none⟩ : Addr).add j = ⟨w.heap.size, j, none⟩ := by unfold Addr.add; split <;> simp_all
    rw [hadd, World.cell?_alloc_at _ _ _ _ rfl]
    simpa using hj
  · simp only [rcL, List.mem_cons, List.not_mem_nil, or_false] at hu
    rcases hu with rfl | rfl | rfl | rfl | rfl
    · exact hy
    all_goals rfl
  intro v' w' h1 h2 h3 h4
  have hsz : w.heap.size ≤ w'.heap.size := Nat.le_trans (by simp) h2.size
  have hblk : ∀ i, i < w.heap.size → v.ownBlock ≠ some i → w'.heap[i]? = w.heap[i]? := fun i hi hne => (h2.block i (by simp; omega) (fun e => hne e.symm)).trans (Below.heap_alloc _ _ _ hi)
  obtain ⟨h10, ⟨_, h0⟩ | ⟨g, cap, cur, rfl, hr⟩⟩ := h1
  · omega
  have hloc : v.ownBlock = some g ∨ w.heap.size ≤ g := by
    rcases h4 with h4 | h4
    · exact .inl h4.symm
    · have e : g = (w.alloc (.cells (rcC nv r) 43)).heap.size := by injection h4
      exact .inr (by rw [e]; simp)
  have kk : Kp (fun b => b < w.heap.size ∧ v.ownBlock ≠ some b) w w' := ⟨h2.os, h2.tape, h2.output, hsz, fun i hi => hblk i hi.1 hi.2⟩
  have ng : ∀ i, i < w.heap.size ∧ v.ownBlock ≠ some i → i < w'.heap.size ∧ (Value.slice (some ⟨g, 0, none⟩) (P.length + 1) cap).ownBlock ≠ some i := fun i hi => ⟨Nat.lt_of_lt_of_le hi.1 hsz, fun e => by
    have e' : g = i := by injection e
    subst e'
    rcases hloc with e | e
    · exact hi.2 e
    · omega⟩
  refine h g cap w' ⟨?_, fun p hp => ?_, fun g' hg hz => ?_, fun p hp => ?_⟩ ⟨h2.os, h2.tape, h2.output, hsz, fun i hi => hblk i (hZ i hi) (fun e => hown.nz i e hi)⟩ hsz
  · rw [List.length_append, flatR_app]
    exact ⟨h10, .inr ⟨g, cap, cur, rfl, hr⟩⟩
  · rcases List.mem_append.1 hp with hp | hp
    · exact hown.one p hp
    · rw [List.mem_singleton] at hp; subst hp; exact hy
  · cases hg
    rcases hloc with e | e
    · exact hown.nz g e hz
    · exact absurd (hZ g hz) (by omega)
  · rcases List.mem_append.1 hp with hp | hp
    · exact ((hown.il p hp).kp kk).mono ng
    · rw [List.mem_singleton] at hp; subst hp; exact (hn.kp kk).mono ng

noncomputable def C7 : Code := Try.f7.body.getD .skip
noncomputable def q7_0 : Code := (seq1 C7)
noncomputable def q7_1 : Code := (seq1 (seq2 C7))
noncomputable def q7_2 : Code := (seq1 (seq2 (seq2 C7)))
noncomputable def q7_3 : Code := (seq1 (seq1 (seq2 (seq2 (seq2 C7)))))
noncomputable def q7_4 : Code := (seq1 (condA (seq2 (seq1 (seq2 (seq2 (seq2 C7)))))))
noncomputable def q7_5 : Code := (seq1 (seq2 (seq2 (seq2 (seq2 C7)))))
noncomputable def q7_6 : Code := (seq1 (seq2 (seq2 (seq2 (seq2 (seq2 C7))))))
noncomputable def q7_7 : Code := (seq1 (seq1 (seq2 (seq2 (seq2 (seq2 (seq2 (seq2 C7))))))))
noncomputable def q7_8 : Code := (seq1 (seq1 (loopC (blockC (seq2 (seq1 (seq2 (seq2 (seq2 (seq2 (seq2 (seq2 C7))))))))))))
noncomputable def q7_10 : Code := (seq1 (blockC (seq1 (seq2 (loopC (blockC (seq2 (seq1 (seq2 (seq2 (seq2 (seq2 (seq2 (seq2 C7))))))))))))))
noncomputable def q7_11 : Code := (seq1 (seq2 (blockC (seq1 (seq2 (loopC (blockC (seq2 (seq1 (seq2 (seq2 (seq2 (seq2 (seq2 (seq2 C7)))))))))))))))
noncomputable def q7_12 : Code := (seq1 (seq1 (seq2 (seq2 (blockC (seq1 (seq2 (loopC (blockC (seq2 (seq1 (seq2 (seq2 (seq2 (seq2 (seq2 (seq2 C7)))))))))))))))))
noncomputable def q7_13 : Code := (condA (seq2 (seq1 (seq2 (seq2 (blockC (seq1 (seq2 (loopC (blockC (seq2 (seq1 (seq2 (seq2 (seq2 (seq2 (seq2 (seq2 C7))))))))))))))))))
noncomputable def q7_14 : Code := (seq1 (seq1 (seq2 (seq2 (seq2 (blockC (seq1 (seq2 (loopC (blockC (seq2 (seq1 (seq2 (seq2 (seq2 (seq2 (seq2 (seq2 C7))))))))))))))))))
noncomputable def q7_15 : Code := (seq1 (condA (seq2 (seq1 (seq2 (seq2 (seq2 (blockC (seq1 (seq2 (loopC (blockC (seq2 (seq1 (seq2 (seq2 (seq2 (seq2 (seq2 (seq2 C7))))))))))))))))))))
noncomputable def q7_16 : Code := (seq1 (seq2 (condA (seq2 (seq1 (seq2 (seq2 (seq2 (blockC (seq1 (seq2 (loopC (blockC (seq2 (seq1 (seq2 (seq2 (seq2 (seq2 (seq2 (seq2 C7)))))))))))))))))))))
noncomputable def q7_17 : Code := (seq1 (seq2 (seq2 (condA (seq2 (seq1 (seq2 (seq2 (seq2 (blockC (seq1 (seq2 (loopC (blockC (seq2 (seq1 (seq2 (seq2 (seq2 (seq2 (seq2 (seq2 C7))))))))))))))))))))))
noncomputable def q7_18 : Code := (condA (seq2 (seq2 (seq2 (condA (seq2 (seq1 (seq2 (seq2 (seq2 (blockC (seq1 (seq2 (loopC (blockC (seq2 (seq1 (seq2 (seq2 (seq2 (seq2 (seq2 (seq2 C7)))))))))))))))))))))))
noncomputable def q7_19 : Code := (seq2 (seq2 (seq2 (seq2 (blockC (seq1 (seq2 (loopC (blockC (seq2 (seq1 (seq2 (seq2 (seq2 (seq2 (seq2 (seq2 C7)))))))))))))))))
noncomputable def q7_9 : Code := (seq2 (seq2 (loopC (blockC (seq2 (seq1 (seq2 (seq2 (seq2 (seq2 (seq2 (seq2 C7))))))))))))
noncomputable def q7_20 : Code := (seq1 (seq2 (seq2 (seq2 (seq2 (seq2 (seq2 (seq2 C7))))))))
noncomputable def q7_21 : Code := (seq1 (seq2 (seq2 (seq2 (seq2 (seq2 (seq2 (seq2 (seq2 C7)))))))))
noncomputable def q7_22 : Code := (seq1 (seq2 (seq2 (seq2 (seq2 (seq2 (seq2 (seq2 (seq2 (seq2 C7))))))))))
noncomputable def K7_1 : Code := (.seq q7_10 (.seq q7_11 (.seq (.seq q7_12 (.cond ( .tmp 53 ) q7_13 .skip)) (.seq (.seq q7_14 (.cond ( .tmp 70 ) (.seq q7_15 (.seq q7_16 (.seq q7_17 (.cond ( .tmp 80 ) q7_18 .skip)))) .skip)) q7_19))))
noncomputable def K7_0 : Code := (.loop (.seq (.seq q7_8 (.cond ( .tmp 43 ) .skip (.exit 0))) (.seq (.block 1 K7_1) q7_9)))
theorem e7 : C7 = (.seq q7_0 (.seq q7_1 (.seq q7_2 (.seq (.seq q7_3 (.cond ( .tmp 36 ) (.seq q7_4 .ret) .skip)) (.seq q7_5 (.seq q7_6 (.seq (.seq q7_7 (.block 0 K7_0)) (.seq q7_20 (.seq q7_21 (.seq q7_22 .ret)))))))))) := by kernel_rfl

set_option maxHeartbeats 1000000 in
set_option maxRecDepth 100000 in
theorem p7_0 {v : World} {a : Act} {x0 rw : Value} {key : Int}  (hA : Fl 108 [(0, x0), (1, I key), (2, rw)] a) :
    q7_0.wp Try.prog (fun e a' w' => e = .normal ∧ (Fl 108 [(0, x0), (1, I key), (2, rw)] a' ∧ w' = v)) a v := by
  obtain ⟨hsz, hd, hp⟩ := hA
  obtain ⟨u, rfl, hg⟩ := litN hsz hd
  simp only [List.forall_mem_cons, hg] at hp
  obtain ⟨u0, u1, u2, -⟩ := hp
  clear hg hsz hd
  unfold q7_0 C7 Try.f7 seq1
  simp only [Option.getD_some, lits, Nat.reduceAdd, u0, u1, u2]
  clear u0 u1 u2
  go_wp2_with fail
  first
    | exact ⟨⟨rfl, rfl, by
      intro p hp
      simp only [List.mem_cons, List.not_mem_nil, or_false] at hp
      rcases hp with rfl | rfl | rfl <;> first | rfl | exact congrArg I (by omega) | exact congrArg Value.bool (by simp <;> omega) | exact congrArg Value.bool (by simp)⟩, rfl⟩
    | exact ⟨rfl, rfl, by
      intro p hp
      simp only [List.mem_cons, List.not_mem_nil, or_false] at hp
      rcases hp with rfl | rfl | rfl <;> first | rfl | exact congrArg I (by omega) | exact congrArg Value.bool (by simp <;> omega) | exact congrArg Value.bool (by simp)⟩
    | exact ⟨rfl, ⟨rfl, rfl, by
      intro p hp
      simp only [List.mem_cons, List.not_mem_nil, or_false] at hp
      rcases hp with rfl | rfl | rfl <;> first | rfl | exact congrArg I (by omega) | exact congrArg Value.bool (by simp <;> omega) | exact congrArg Value.bool (by simp)⟩, rfl⟩

set_option maxHeartbeats 1000000 in
set_option maxRecDepth 100000 in
theorem p7_1 {v : World} {a : Act} {x0 rw : Value} {key : Int}  (hA : Fl 108 [(0, x0), (1, I key), (2, rw)] a) :
    q7_1.wp Try.prog (fun e a' w' => e = .normal ∧ (Fl 108 [(0, x0), (1, I key), (2, rw), (7, .bool true)] a' ∧ Kp (fun i => i < v.heap.size) v w')) a v := by
  obtain ⟨hsz, hd, hp⟩ := hA
  obtain ⟨u, rfl, hg⟩ := litN hsz hd
  simp only [List.forall_mem_cons, hg] at hp
  obtain ⟨u0, u1, u2, -⟩ := hp
  clear hg hsz hd
  unfold q7_1 C7 Try.f7 seq1 seq2
  simp only [Option.getD_some, lits, Nat.reduceAdd, u0, u1, u2]
  clear u0 u1 u2
  go_wp2_with (first
    | (go_at_call 8; refine (awake_any v).mono ?_; rintro e w1 ⟨_, rfl, rfl, hk⟩; have HK : Hid (Kp (fun i => i < v.heap.size) v w1) := hk; clear hk))
  first
    | exact ⟨⟨rfl, rfl, by
      intro p hp
      simp only [List.mem_cons, List.not_mem_nil, or_false] at hp
      rcases hp with rfl | rfl | rfl | rfl <;> first | rfl | exact congrArg I (by omega) | exact congrArg Value.bool (by simp <;> omega) | exact congrArg Value.bool (by simp)⟩, HK.out⟩
    | exact ⟨rfl, rfl, by
      intro p hp
      simp only [List.mem_cons, List.not_mem_nil, or_false] at hp
      rcases hp with rfl | rfl | rfl | rfl <;> first | rfl | exact congrArg I (by omega) | exact congrArg Value.bool (by simp <;> omega) | exact congrArg Value.bool (by simp)⟩
    | exact ⟨rfl, ⟨rfl, rfl, by
      intro p hp
      simp only [List.mem_cons, List.not_mem_nil, or_false] at hp
      rcases hp with rfl | rfl | rfl | rfl <;> first | rfl | exact congrArg I (by omega) | exact congrArg Value.bool (by simp <;> omega) | exact congrArg Value.bool (by simp)⟩, HK.out⟩

set_option maxHeartbeats 1000000 in
set_option maxRecDepth 100000 in
theorem p7_2 {v : World} {a : Act} {x0 rw : Value} {key : Int} {Z : Nat → Prop} {l : List Rc} (hl : RL Z v x0 l) (hZ : ∀ i, Z i → i < v.heap.size) (hA : Fl 108 [(0, x0), (1, I key), (2, rw), (7, .bool true)] a) :
    q7_2.wp Try.prog (fun e a' w' => e = .normal ∧ (Fl 108 [(0, x0), (1, I key), (2, rw), (7, .bool true), (8, I (rightS l))] a' ∧ Kp (fun i => i < v.heap.size) v w')) a v := by
  have HC : Hid (Calls Try.prog 18 #[x0] v _) := refRight_any hl hZ
  clear hl hZ
  obtain ⟨hsz, hd, hp⟩ := hA
  obtain ⟨u, rfl, hg⟩ := litN hsz hd
  simp only [List.forall_mem_cons, hg] at hp
  obtain ⟨u0, u1, u2, u7, -⟩ := hp
  clear hg hsz hd
  unfold q7_2 C7 Try.f7 seq1 seq2
  simp only [Option.getD_some, lits, Nat.reduceAdd, u0, u1, u2, u7]
  clear u0 u1 u2 u7
  go_wp2_with (first
    | (go_at_call 18; refine HC.out.mono ?_; rintro e w1 ⟨_, rfl, rfl, hk⟩; have HK : Hid (Kp (fun i => i < v.heap.size) v w1) := hk; clear hk))
  first
    | exact ⟨⟨rfl, rfl, by
      intro p hp
      simp only [List.mem_cons, List.not_mem_nil, or_false] at hp
      rcases hp with rfl | rfl | rfl | rfl | rfl <;> first | rfl | exact congrArg I (by omega) | exact congrArg Value.bool (by simp <;> omega) | exact congrArg Value.bool (by simp)⟩, HK.out⟩
    | exact ⟨rfl, rfl, by
      intro p hp
      simp only [List.mem_cons, List.not_mem_nil, or_false] at hp
      rcases hp with rfl | rfl | rfl | rfl | rfl <;> first | rfl | exact congrArg I (by omega) | exact congrArg Value.bool (by simp <;> omega) | exact congrArg Value.bool (by simp)⟩
    | exact ⟨rfl, ⟨rfl, rfl, by
      intro p hp
      simp only [List.mem_cons, List.not_mem_nil, or_false] at hp
      rcases hp with rfl | rfl | rfl | rfl | rfl <;> first | rfl | exact congrArg I (by omega) | exact congrArg Value.bool (by simp <;> omega) | exact congrArg Value.bool (by simp)⟩, HK.out⟩

set_option maxHeartbeats 1000000 in
set_option maxRecDepth 100000 in
theorem p7_3_a {v : World} {a : Act} {p : Option Addr} {n cap : Nat} {rw : Value} {key r : Int} (h : (r != 0) = true) (hA : Fl 108 [(0, .slice p n cap), (1, I key), (2, rw), (7, .bool true), (8, I r)] a) :
    q7_3.wp Try.prog (fun e a' w' => e = .normal ∧ (Fl 108 [(36, .bool true), (7, .bool true)] a' ∧ w' = v)) a v := by
  obtain ⟨hsz, hd, hp⟩ := hA
  obtain ⟨u, rfl, hg⟩ := litN hsz hd
  simp only [List.forall_mem_cons, hg] at hp
  obtain ⟨u0, u1, u2, u7, u8, -⟩ := hp
  clear hg hsz hd
  unfold q7_3 C7 Try.f7 seq1 seq2
  simp only [Option.getD_some, lits, Nat.reduceAdd, u0, u1, u2, u7, u8]
  clear u0 u1 u2 u7 u8
  go_wp2_with fail
  first
    | exact ⟨⟨rfl, rfl, by
      intro p hp
      simp only [List.mem_cons, List.not_mem_nil, or_false] at hp
      rcases hp with rfl | rfl <;> first | rfl | exact congrArg I (by omega) | exact congrArg Value.bool (by simp <;> omega) | exact congrArg Value.bool (by simp)⟩, rfl⟩
    | exact ⟨rfl, rfl, by
      intro p hp
      simp only [List.mem_cons, List.not_mem_nil, or_false] at hp
      rcases hp with rfl | rfl <;> first | rfl | exact congrArg I (by omega) | exact congrArg Value.bool (by simp <;> omega) | exact congrArg Value.bool (by simp)⟩
    | exact ⟨rfl, ⟨rfl, rfl, by
      intro p hp
      simp only [List.mem_cons, List.not_mem_nil, or_false] at hp
      rcases hp with rfl | rfl <;> first | rfl | exact congrArg I (by omega) | exact congrArg Value.bool (by simp <;> omega) | exact congrArg Value.bool (by simp)⟩, rfl⟩

set_option maxHeartbeats 1000000 in
set_option maxRecDepth 100000 in
theorem p7_3_b {v : World} {a : Act} {p : Option Addr} {n cap : Nat} {rw : Value} {key r : Int} (h : (r != 0) = false) (h2 : key < 0) (hA : Fl 108 [(0, .slice p n cap), (1, I key), (2, rw), (7, .bool true), (8, I r)] a) :
    q7_3.wp Try.prog (fun e a' w' => e = .normal ∧ (Fl 108 [(36, .bool true), (7, .bool true)] a' ∧ w' = v)) a v := by
  obtain ⟨hsz, hd, hp⟩ := hA
  obtain ⟨u, rfl, hg⟩ := litN hsz hd
  simp only [List.forall_mem_cons, hg] at hp
  obtain ⟨u0, u1, u2, u7, u8, -⟩ := hp
  clear hg hsz hd
  unfold q7_3 C7 Try.f7 seq1 seq2
  simp only [Option.getD_some, lits, Nat.reduceAdd, u0, u1, u2, u7, u8]
  clear u0 u1 u2 u7 u8
  go_wp2_with fail
  first
    | exact ⟨⟨rfl, rfl, by
      intro p hp
      simp only [List.mem_cons, List.not_mem_nil, or_false] at hp
      rcases hp with rfl | rfl <;> first | rfl | exact congrArg I (by omega) | exact congrArg Value.bool (by simp <;> omega) | exact congrArg Value.bool (by simp)⟩, rfl⟩
    | exact ⟨rfl, rfl, by
      intro p hp
      simp only [List.mem_cons, List.not_mem_nil, or_false] at hp
      rcases hp with rfl | rfl <;> first | rfl | exact congrArg I (by omega) | exact congrArg Value.bool (by simp <;> omega) | exact congrArg Value.bool (by simp)⟩
    | exact ⟨rfl, ⟨rfl, rfl, by
      intro p hp
      simp only [List.mem_cons, List.not_mem_nil, or_false] at hp
      rcases hp with rfl | rfl <;> first | rfl | exact congrArg I (by omega) | exact congrArg Value.bool (by simp <;> omega) | exact congrArg Value.bool (by simp)⟩, rfl⟩

set_option maxHeartbeats 1000000 in
set_option maxRecDepth 100000 in
theorem p7_3_c {v : World} {a : Act} {p : Option Addr} {n cap : Nat} {rw : Value} {key r : Int} (h : (r != 0) = false) (h2 : decide (key < 0) = false) (h3 : (n : Int) ≤ key) (hA : Fl 108 [(0, .slice p n cap), (1, I key), (2, rw), (7, .bool true), (8, I r)] a) :
    q7_3.wp Try.prog (fun e a' w' => e = .normal ∧ (Fl 108 [(36, .bool true), (7, .bool true)] a' ∧ w' = v)) a v := by
  obtain ⟨hsz, hd, hp⟩ := hA
  obtain ⟨u, rfl, hg⟩ := litN hsz hd
  simp only [List.forall_mem_cons, hg] at hp
  obtain ⟨u0, u1, u2, u7, u8, -⟩ := hp
  clear hg hsz hd
  unfold q7_3 C7 Try.f7 seq1 seq2
  simp only [Option.getD_some, lits, Nat.reduceAdd, u0, u1, u2, u7, u8]
  clear u0 u1 u2 u7 u8
  go_wp2_with fail
  first
    | exact ⟨⟨rfl, rfl, by
      intro p hp
      simp only [List.mem_cons, List.not_mem_nil, or_false] at hp
      rcases hp with rfl | rfl <;> first | rfl | exact congrArg I (by omega) | exact congrArg Value.bool (by simp <;> omega) | exact congrArg Value.bool (by simp)⟩, rfl⟩
    | exact ⟨rfl, rfl, by
      intro p hp
      simp only [List.mem_cons, List.not_mem_nil, or_false] at hp
      rcases hp with rfl | rfl <;> first | rfl | exact congrArg I (by omega) | exact congrArg Value.bool (by simp <;> omega) | exact congrArg Value.bool (by simp)⟩
    | exact ⟨rfl, ⟨rfl, rfl, by
      intro p hp
      simp only [List.mem_cons, List.not_mem_nil, or_false] at hp
      rcases hp with rfl | rfl <;> first | rfl | exact congrArg I (by omega) | exact congrArg Value.bool (by simp <;> omega) | exact congrArg Value.bool (by simp)⟩, rfl⟩

set_option maxHeartbeats 1000000 in
set_option maxRecDepth 100000 in
theorem p7_3_d {v : World} {a : Act} {p : Option Addr} {n cap : Nat} {rw : Value} {key r : Int} (h : (r != 0) = false) (h2 : decide (key < 0) = false) (h3 : decide ((n : Int) ≤ key) = false) (hA : Fl 108 [(0, .slice p n cap), (1, I key), (2, rw), (7, .bool true), (8, I r)] a) :
    q7_3.wp Try.prog (fun e a' w' => e = .normal ∧ (Fl 108 [(36, .bool false), (0, .slice p n cap), (1, I key), (2, rw), (7, .bool true)] a' ∧ w' = v)) a v := by
  obtain ⟨hsz, hd, hp⟩ := hA
  obtain ⟨u, rfl, hg⟩ := litN hsz hd
  simp only [List.forall_mem_cons, hg] at hp
  obtain ⟨u0, u1, u2, u7, u8, -⟩ := hp
  clear hg hsz hd
  unfold q7_3 C7 Try.f7 seq1 seq2
  simp only [Option.getD_some, lits, Nat.reduceAdd, u0, u1, u2, u7, u8]
  clear u0 u1 u2 u7 u8
  go_wp2_with fail
  first
    | exact ⟨⟨rfl, rfl, by
      intro p hp
      simp only [List.mem_cons, List.not_mem_nil, or_false] at hp
      rcases hp with rfl | rfl | rfl | rfl | rfl <;> first | rfl | exact congrArg I (by omega) | exact congrArg Value.bool (by simp <;> omega) | exact congrArg Value.bool (by simp)⟩, rfl⟩
    | exact ⟨rfl, rfl, by
      intro p hp
      simp only [List.mem_cons, List.not_mem_nil, or_false] at hp
      rcases hp with rfl | rfl | rfl | rfl | rfl <;> first | rfl | exact congrArg I (by omega) | exact congrArg Value.bool (by simp <;> omega) | exact congrArg Value.bool (by simp)⟩
    | exact ⟨rfl, ⟨rfl, rfl, by
      intro p hp
      simp only [List.mem_cons, List.not_mem_nil, or_false] at hp
      rcases hp with rfl | rfl | rfl | rfl | rfl <;> first | rfl | exact congrArg I (by omega) | exact congrArg Value.bool (by simp <;> omega) | exact congrArg Value.bool (by simp)⟩, rfl⟩

set_option maxHeartbeats 1000000 in
set_option maxRecDepth 100000 in
theorem p7_4 {v : World} {a : Act}   (hA : Fl 108 [(7, .bool true)] a) :
    q7_4.wp Try.prog (fun e a' w' => e = .normal ∧ (Fl 108 [(6, .bool true)] a' ∧ w' = v)) a v := by
  obtain ⟨hsz, hd, hp⟩ := hA
  obtain ⟨u, rfl, hg⟩ := litN hsz hd
  simp only [List.forall_mem_cons, hg] at hp
  obtain ⟨u7, -⟩ := hp
  clear hg hsz hd
  unfold q7_4 C7 Try.f7 seq1 seq2 condA
  simp only [Option.getD_some, lits, Nat.reduceAdd, u7]
  clear u7
  go_wp2_with fail
  first
    | exact ⟨⟨rfl, rfl, by
      intro p hp
      simp only [List.mem_cons, List.not_mem_nil, or_false] at hp
      rcases hp with rfl <;> first | rfl | exact congrArg I (by omega) | exact congrArg Value.bool (by simp <;> omega) | exact congrArg Value.bool (by simp)⟩, rfl⟩
    | exact ⟨rfl, rfl, by
      intro p hp
      simp only [List.mem_cons, List.not_mem_nil, or_false] at hp
      rcases hp with rfl <;> first | rfl | exact congrArg I (by omega) | exact congrArg Value.bool (by simp <;> omega) | exact congrArg Value.bool (by simp)⟩
    | exact ⟨rfl, ⟨rfl, rfl, by
      intro p hp
      simp only [List.mem_cons, List.not_mem_nil, or_false] at hp
      rcases hp with rfl <;> first | rfl | exact congrArg I (by omega) | exact congrArg Value.bool (by simp <;> omega) | exact congrArg Value.bool (by simp)⟩, rfl⟩

set_option maxHeartbeats 1000000 in
set_option maxRecDepth 100000 in
theorem p7_5 {v : World} {a : Act} {x0 rw : Value} {key : Int} {Z : Nat → Prop} {l : List Rc} (hl : RL Z v x0 l) (hZ : ∀ i, Z i → i < v.heap.size) (hR : RIGHT l) (hA : Fl 108 [(0, x0), (1, I key), (2, rw)] a) :
    q7_5.wp Try.prog (fun e a' w' => e = .normal ∧ ∃ tv, (Fl 108 [(0, x0), (1, I key), (2, rw), (9, tv)] a' ∧ ∃ rb T, Tab (fun i => i < v.heap.size) l.length l.length tv rb T w' ∧ (∀ i k, i < l.length → k < l.length → (T i k = true ↔ Rch (nd l) i k)) ∧ Kp (fun i => i < v.heap.size) v w')) a v := by
  have HC : Hid (Calls Try.prog 23 #[x0] v _) := table_any hl hZ hR
  clear hl hZ hR
  obtain ⟨hsz, hd, hp⟩ := hA
  obtain ⟨u, rfl, hg⟩ := litN hsz hd
  simp only [List.forall_mem_cons, hg] at hp
  obtain ⟨u0, u1, u2, -⟩ := hp
  clear hg hsz hd
  unfold q7_5 C7 Try.f7 seq1 seq2
  simp only [Option.getD_some, lits, Nat.reduceAdd, u0, u1, u2]
  clear u0 u1 u2
  go_wp2_with (first
    | (go_at_call 23; refine HC.out.mono ?_; rintro e w1 ⟨tv, rfl, ⟨rb, T, hT, hw⟩, hk⟩; have HK : Hid (∃ rb T, Tab (fun i => i < v.heap.size) l.length l.length tv rb T w1 ∧ (∀ i k, i < l.length → k < l.length → (T i k = true ↔ Rch (nd l) i k)) ∧ Kp (fun i => i < v.heap.size) v w1) := ⟨rb, T, hT, hw, hk⟩; clear hT hw hk))
  exact ⟨tv, ⟨rfl, rfl, by
    intro p hp
    simp only [List.mem_cons, List.not_mem_nil, or_false] at hp
    rcases hp with rfl | rfl | rfl | rfl <;> first | rfl | exact congrArg I (by omega) | exact congrArg Value.bool (by simp <;> omega) | exact congrArg Value.bool (by simp)⟩, HK.out⟩

set_option maxHeartbeats 1000000 in
set_option maxRecDepth 100000 in
theorem p7_6 {v : World} {a : Act} {x0 rw : Value} {key : Int} {tv : Value}  (hA : Fl 108 [(0, x0), (1, I key), (2, rw), (9, tv)] a) :
    q7_6.wp Try.prog (fun e a' w' => e = .normal ∧ (Fl 108 [(0, x0), (1, I key), (2, rw), (9, tv), (10, .slice none 0 0)] a' ∧ w' = v)) a v := by
  obtain ⟨hsz, hd, hp⟩ := hA
  obtain ⟨u, rfl, hg⟩ := litN hsz hd
  simp only [List.forall_mem_cons, hg] at hp
  obtain ⟨u0, u1, u2, u9, -⟩ := hp
  clear hg hsz hd
  unfold q7_6 C7 Try.f7 seq1 seq2
  simp only [Option.getD_some, lits, Nat.reduceAdd, u0, u1, u2, u9]
  clear u0 u1 u2 u9
  go_wp2_with fail
  first
    | exact ⟨⟨rfl, rfl, by
      intro p hp
      simp only [List.mem_cons, List.not_mem_nil, or_false] at hp
      rcases hp with rfl | rfl | rfl | rfl | rfl <;> first | rfl | exact congrArg I (by omega) | exact congrArg Value.bool (by simp <;> omega) | exact congrArg Value.bool (by simp)⟩, rfl⟩
    | exact ⟨rfl, rfl, by
      intro p hp
      simp only [List.mem_cons, List.not_mem_nil, or_false] at hp
      rcases hp with rfl | rfl | rfl | rfl | rfl <;> first | rfl | exact congrArg I (by omega) | exact congrArg Value.bool (by simp <;> omega) | exact congrArg Value.bool (by simp)⟩
    | exact ⟨rfl, ⟨rfl, rfl, by
      intro p hp
      simp only [List.mem_cons, List.not_mem_nil, or_false] at hp
      rcases hp with rfl | rfl | rfl | rfl | rfl <;> first | rfl | exact congrArg I (by omega) | exact congrArg Value.bool (by simp <;> omega) | exact congrArg Value.bool (by simp)⟩, rfl⟩

set_option maxHeartbeats 1000000 in
set_option maxRecDepth 100000 in
theorem p7_7 {v : World} {a : Act} {b o n cap g ct key : Nat} {rw mv : Value}  (hA : Fl 108 [(0, .slice (some ⟨b, o, none⟩) n cap), (1, I (key : Nat)), (2, rw), (9, .slice (some ⟨g, 0, none⟩) n ct), (10, mv)] a) :
    q7_7.wp Try.prog (fun e a' w' => e = .normal ∧ (Fl 108 [(0, .slice (some ⟨b, o, none⟩) n cap), (1, I (key : Nat)), (2, rw), (9, .slice (some ⟨g, 0, none⟩) n ct), (10, mv), (11, I (0 : Nat))] a' ∧ w' = v)) a v := by
  obtain ⟨hsz, hd, hp⟩ := hA
  obtain ⟨u, rfl, hg⟩ := litN hsz hd
  simp only [List.forall_mem_cons, hg] at hp
  obtain ⟨u0, u1, u2, u9, u10, -⟩ := hp
  clear hg hsz hd
  unfold q7_7 C7 Try.f7 seq1 seq2
  simp only [Option.getD_some, lits, Nat.reduceAdd, u0, u1, u2, u9, u10]
  clear u0 u1 u2 u9 u10
  go_wp2_with fail
  first
    | exact ⟨⟨rfl, rfl, by
      intro p hp
      simp only [List.mem_cons, List.not_mem_nil, or_false] at hp
      rcases hp with rfl | rfl | rfl | rfl | rfl | rfl <;> first | rfl | exact congrArg I (by omega) | exact congrArg Value.bool (by simp <;> omega) | exact congrArg Value.bool (by simp)⟩, rfl⟩
    | exact ⟨rfl, rfl, by
      intro p hp
      simp only [List.mem_cons, List.not_mem_nil, or_false] at hp
      rcases hp with rfl | rfl | rfl | rfl | rfl | rfl <;> first | rfl | exact congrArg I (by omega) | exact congrArg Value.bool (by simp <;> omega) | exact congrArg Value.bool (by simp)⟩
    | exact ⟨rfl, ⟨rfl, rfl, by
      intro p hp
      simp only [List.mem_cons, List.not_mem_nil, or_false] at hp
      rcases hp with rfl | rfl | rfl | rfl | rfl | rfl <;> first | rfl | exact congrArg I (by omega) | exact congrArg Value.bool (by simp <;> omega) | exact congrArg Value.bool (by simp)⟩, rfl⟩

set_option maxHeartbeats 1000000 in
set_option maxRecDepth 100000 in
theorem p7_8 {v : World} {a : Act} {b o n cap g ct key : Nat} {rw mv : Value} {i : Nat} (hn : n ≤ 100) (hA : Fl 108 [(0, .slice (some ⟨b, o, none⟩) n cap), (1, I (key : Nat)), (2, rw), (9, .slice (some ⟨g, 0, none⟩) n ct), (10, mv), (11, I (i : Nat))] a) :
    q7_8.wp Try.prog (fun e a' w' => e = .normal ∧ (Fl 108 [(43, .bool (decide (i < n))), (0, .slice (some ⟨b, o, none⟩) n cap), (1, I (key : Nat)), (2, rw), (9, .slice (some ⟨g, 0, none⟩) n ct), (10, mv), (11, I (i : Nat))] a' ∧ w' = v)) a v := by
  obtain ⟨hsz, hd, hp⟩ := hA
  obtain ⟨u, rfl, hg⟩ := litN hsz hd
  simp only [List.forall_mem_cons, hg] at hp
  obtain ⟨u0, u1, u2, u9, u10, u11, -⟩ := hp
  clear hg hsz hd
  unfold q7_8 C7 Try.f7 seq1 seq2 blockC loopC
  simp only [Option.getD_some, lits, Nat.reduceAdd, u0, u1, u2, u9, u10, u11]
  clear u0 u1 u2 u9 u10 u11
  go_wp2_with fail
  first
    | exact ⟨⟨rfl, rfl, by
      intro p hp
      simp only [List.mem_cons, List.not_mem_nil, or_false] at hp
      rcases hp with rfl | rfl | rfl | rfl | rfl | rfl | rfl <;> first | rfl | exact congrArg I (by omega) | exact congrArg Value.bool (by simp <;> omega) | exact congrArg Value.bool (by simp)⟩, rfl⟩
    | exact ⟨rfl, rfl, by
      intro p hp
      simp only [List.mem_cons, List.not_mem_nil, or_false] at hp
      rcases hp with rfl | rfl | rfl | rfl | rfl | rfl | rfl <;> first | rfl | exact congrArg I (by omega) | exact congrArg Value.bool (by simp <;> omega) | exact congrArg Value.bool (by simp)⟩
    | exact ⟨rfl, ⟨rfl, rfl, by
      intro p hp
      simp only [List.mem_cons, List.not_mem_nil, or_false] at hp
      rcases hp with rfl | rfl | rfl | rfl | rfl | rfl | rfl <;> first | rfl | exact congrArg I (by omega) | exact congrArg Value.bool (by simp <;> omega) | exact congrArg Value.bool (by simp)⟩, rfl⟩

set_option maxHeartbeats 1000000 in
set_option maxRecDepth 100000 in
theorem p7_10 {v : World} {a : Act} {b o n cap g ct key : Nat} {rw mv : Value} {i : Nat} {q : Option Addr} {nn nc : Nat} {r : Rc} (hi : i < n) (hn : n ≤ 100) (c0 : v.cell? ⟨b, o + i * 5, none⟩ = some (.slice q nn nc)) (c1 : v.cell? ⟨b, o + i * 5 + 1, none⟩ = some (I r.level)) (c2 : v.cell? ⟨b, o + i * 5 + 2, none⟩ = some (I r.act)) (c3 : v.cell? ⟨b, o + i * 5 + 3, none⟩ = some (I r.value)) (c4 : v.cell? ⟨b, o + i * 5 + 4, none⟩ = some (I r.fin)) (hA : Fl 108 [(0, .slice (some ⟨b, o, none⟩) n cap), (1, I (key : Nat)), (2, rw), (9, .slice (some ⟨g, 0, none⟩) n ct), (10, mv), (11, I (i : Nat))] a) :
    q7_10.wp Try.prog (fun e a' w' => e = .normal ∧ (Fl 108 [(0, .slice (some ⟨b, o, none⟩) n cap), (1, I (key : Nat)), (2, rw), (9, .slice (some ⟨g, 0, none⟩) n ct), (10, mv), (11, I (i : Nat)), (12, P1 v.heap.size)] a' ∧ w' = v.alloc (.cells (rcC (.slice q nn nc) r) 43))) a v := by
  obtain ⟨hsz, hd, hp⟩ := hA
  obtain ⟨u, rfl, hg⟩ := litN hsz hd
  simp only [List.forall_mem_cons, hg] at hp
  obtain ⟨u0, u1, u2, u9, u10, u11, -⟩ := hp
  clear hg hsz hd
  unfold q7_10 C7 Try.f7 seq1 seq2 blockC loopC
  simp only [Option.getD_some, lits, Nat.reduceAdd, u0, u1, u2, u9, u10, u11]
  clear u0 u1 u2 u9 u10 u11
  go_wp2_with fail
  first
    | exact ⟨⟨rfl, rfl, by
      intro p hp
      simp only [List.mem_cons, List.not_mem_nil, or_false] at hp
      rcases hp with rfl | rfl | rfl | rfl | rfl | rfl | rfl <;> first | rfl | exact congrArg I (by omega) | exact congrArg Value.bool (by simp <;> omega) | exact congrArg Value.bool (by simp)⟩, rfl⟩
    | exact ⟨rfl, rfl, by
      intro p hp
      simp only [List.mem_cons, List.not_mem_nil, or_false] at hp
      rcases hp with rfl | rfl | rfl | rfl | rfl | rfl | rfl <;> first | rfl | exact congrArg I (by omega) | exact congrArg Value.bool (by simp <;> omega) | exact congrArg Value.bool (by simp)⟩
    | exact ⟨rfl, ⟨rfl, rfl, by
      intro p hp
      simp only [List.mem_cons, List.not_mem_nil, or_false] at hp
      rcases hp with rfl | rfl | rfl | rfl | rfl | rfl | rfl <;> first | rfl | exact congrArg I (by omega) | exact congrArg Value.bool (by simp <;> omega) | exact congrArg Value.bool (by simp)⟩, rfl⟩

set_option maxHeartbeats 1000000 in
set_option maxRecDepth 100000 in
theorem p7_11 {v : World} {a : Act} {b o n cap g ct key : Nat} {rw mv : Value} {i : Nat} {bx : Nat}  (hA : Fl 108 [(0, .slice (some ⟨b, o, none⟩) n cap), (1, I (key : Nat)), (2, rw), (9, .slice (some ⟨g, 0, none⟩) n ct), (10, mv), (11, I (i : Nat)), (12, P1 bx)] a) :
    q7_11.wp Try.prog (fun e a' w' => e = .normal ∧ (Fl 108 [(0, .slice (some ⟨b, o, none⟩) n cap), (1, I (key : Nat)), (2, rw), (9, .slice (some ⟨g, 0, none⟩) n ct), (10, mv), (11, I (i : Nat)), (12, P1 bx), (13, I 0)] a' ∧ w' = v)) a v := by
  obtain ⟨hsz, hd, hp⟩ := hA
  obtain ⟨u, rfl, hg⟩ := litN hsz hd
  simp only [List.forall_mem_cons, hg] at hp
  obtain ⟨u0, u1, u2, u9, u10, u11, u12, -⟩ := hp
  clear hg hsz hd
  unfold q7_11 C7 Try.f7 seq1 seq2 blockC loopC
  simp only [Option.getD_some, lits, Nat.reduceAdd, u0, u1, u2, u9, u10, u11, u12]
  clear u0 u1 u2 u9 u10 u11 u12
  go_wp2_with fail
  first
    | exact ⟨⟨rfl, rfl, by
      intro p hp
      simp only [List.mem_cons, List.not_mem_nil, or_false] at hp
      rcases hp with rfl | rfl | rfl | rfl | rfl | rfl | rfl | rfl <;> first | rfl | exact congrArg I (by omega) | exact congrArg Value.bool (by simp <;> omega) | exact congrArg Value.bool (by simp)⟩, rfl⟩
    | exact ⟨rfl, rfl, by
      intro p hp
      simp only [List.mem_cons, List.not_mem_nil, or_false] at hp
      rcases hp with rfl | rfl | rfl | rfl | rfl | rfl | rfl | rfl <;> first | rfl | exact congrArg I (by omega) | exact congrArg Value.bool (by simp <;> omega) | exact congrArg Value.bool (by simp)⟩
    | exact ⟨rfl, ⟨rfl, rfl, by
      intro p hp
      simp only [List.mem_cons, List.not_mem_nil, or_false] at hp
      rcases hp with rfl | rfl | rfl | rfl | rfl | rfl | rfl | rfl <;> first | rfl | exact congrArg I (by omega) | exact congrArg Value.bool (by simp <;> omega) | exact congrArg Value.bool (by simp)⟩, rfl⟩

set_option maxHeartbeats 1000000 in
set_option maxRecDepth 100000 in
theorem p7_12 {v : World} {a : Act} {b o n cap g ct key : Nat} {mv : Value} {i : Nat} {bx : Nat} {rp : Option Addr} {rn rc : Nat} {x : Int} (hrn : rn ≤ 9223372036854775807) (hi : i < 100) (hA : Fl 108 [(0, .slice (some ⟨b, o, none⟩) n cap), (1, I (key : Nat)), (2, .slice rp rn rc), (9, .slice (some ⟨g, 0, none⟩) n ct), (10, mv), (11, I (i : Nat)), (12, P1 bx), (13, I x)] a) :
    q7_12.wp Try.prog (fun e a' w' => e = .normal ∧ (Fl 108 [(53, .bool (decide (i < rn))), (0, .slice (some ⟨b, o, none⟩) n cap), (1, I (key : Nat)), (2, .slice rp rn rc), (9, .slice (some ⟨g, 0, none⟩) n ct), (10, mv), (11, I (i : Nat)), (12, P1 bx), (13, I x)] a' ∧ w' = v)) a v := by
  obtain ⟨hsz, hd, hp⟩ := hA
  obtain ⟨u, rfl, hg⟩ := litN hsz hd
  simp only [List.forall_mem_cons, hg] at hp
  obtain ⟨u0, u1, u2, u9, u10, u11, u12, u13, -⟩ := hp
  clear hg hsz hd
  unfold q7_12 C7 Try.f7 seq1 seq2 blockC loopC
  simp only [Option.getD_some, lits, Nat.reduceAdd, u0, u1, u2, u9, u10, u11, u12, u13]
  clear u0 u1 u2 u9 u10 u11 u12 u13
  go_wp2_with fail
  first
    | exact ⟨⟨rfl, rfl, by
      intro p hp
      simp only [List.mem_cons, List.not_mem_nil, or_false] at hp
      rcases hp with rfl | rfl | rfl | rfl | rfl | rfl | rfl | rfl | rfl <;> first | rfl | exact congrArg I (by omega) | exact congrArg Value.bool (by simp <;> omega) | exact congrArg Value.bool (by simp)⟩, rfl⟩
    | exact ⟨rfl, rfl, by
      intro p hp
      simp only [List.mem_cons, List.not_mem_nil, or_false] at hp
      rcases hp with rfl | rfl | rfl | rfl | rfl | rfl | rfl | rfl | rfl <;> first | rfl | exact congrArg I (by omega) | exact congrArg Value.bool (by simp <;> omega) | exact congrArg Value.bool (by simp)⟩
    | exact ⟨rfl, ⟨rfl, rfl, by
      intro p hp
      simp only [List.mem_cons, List.not_mem_nil, or_false] at hp
      rcases hp with rfl | rfl | rfl | rfl | rfl | rfl | rfl | rfl | rfl <;> first | rfl | exact congrArg I (by omega) | exact congrArg Value.bool (by simp <;> omega) | exact congrArg Value.bool (by simp)⟩, rfl⟩

set_option maxHeartbeats 1000000 in
set_option maxRecDepth 100000 in
theorem p7_13 {v : World} {a : Act} {b o n cap g ct key : Nat} {mv : Value} {i : Nat} {bx : Nat} {wb wo rn rc : Nat} {x y : Int} (hrn : rn ≤ 9223372036854775807) (hi : i < rn) (c : v.cell? ⟨wb, wo + i, none⟩ = some (I y)) (hA : Fl 108 [(0, .slice (some ⟨b, o, none⟩) n cap), (1, I (key : Nat)), (2, .slice (some ⟨wb, wo, none⟩) rn rc), (9, .slice (some ⟨g, 0, none⟩) n ct), (10, mv), (11, I (i : Nat)), (12, P1 bx), (13, I x)] a) :
    q7_13.wp Try.prog (fun e a' w' => e = .normal ∧ (Fl 108 [(0, .slice (some ⟨b, o, none⟩) n cap), (1, I (key : Nat)), (2, .slice (some ⟨wb, wo, none⟩) rn rc), (9, .slice (some ⟨g, 0, none⟩) n ct), (10, mv), (11, I (i : Nat)), (12, P1 bx), (13, I y)] a' ∧ w' = v)) a v := by
  obtain ⟨hsz, hd, hp⟩ := hA
  obtain ⟨u, rfl, hg⟩ := litN hsz hd
  simp only [List.forall_mem_cons, hg] at hp
  obtain ⟨u0, u1, u2, u9, u10, u11, u12, u13, -⟩ := hp
  clear hg hsz hd
  unfold q7_13 C7 Try.f7 seq1 seq2 condA blockC loopC
  simp only [Option.getD_some, lits, Nat.reduceAdd, u0, u1, u2, u9, u10, u11, u12, u13]
  clear u0 u1 u2 u9 u10 u11 u12 u13
  go_wp2_with fail
  first
    | exact ⟨⟨rfl, rfl, by
      intro p hp
      simp only [List.mem_cons, List.not_mem_nil, or_false] at hp
      rcases hp with rfl | rfl | rfl | rfl | rfl | rfl | rfl | rfl <;> first | rfl | exact congrArg I (by omega) | exact congrArg Value.bool (by simp <;> omega) | exact congrArg Value.bool (by simp)⟩, rfl⟩
    | exact ⟨rfl, rfl, by
      intro p hp
      simp only [List.mem_cons, List.not_mem_nil, or_false] at hp
      rcases hp with rfl | rfl | rfl | rfl | rfl | rfl | rfl | rfl <;> first | rfl | exact congrArg I (by omega) | exact congrArg Value.bool (by simp <;> omega) | exact congrArg Value.bool (by simp)⟩
    | exact ⟨rfl, ⟨rfl, rfl, by
      intro p hp
      simp only [List.mem_cons, List.not_mem_nil, or_false] at hp
      rcases hp with rfl | rfl | rfl | rfl | rfl | rfl | rfl | rfl <;> first | rfl | exact congrArg I (by omega) | exact congrArg Value.bool (by simp <;> omega) | exact congrArg Value.bool (by simp)⟩, rfl⟩

set_option maxHeartbeats 1000000 in
set_option maxRecDepth 100000 in
theorem p7_14_a {v : World} {a : Act} {b o n cap g ct key : Nat} {rw mv : Value} {i : Nat} {bx : Nat} {x : Int} (h : i = key) (hA : Fl 108 [(0, .slice (some ⟨b, o, none⟩) n cap), (1, I (key : Nat)), (2, rw), (9, .slice (some ⟨g, 0, none⟩) n ct), (10, mv), (11, I (i : Nat)), (12, P1 bx), (13, I x)] a) :
    q7_14.wp Try.prog (fun e a' w' => e = .normal ∧ (Fl 108 [(70, .bool false), (0, .slice (some ⟨b, o, none⟩) n cap), (1, I (key : Nat)), (2, rw), (9, .slice (some ⟨g, 0, none⟩) n ct), (10, mv), (11, I (i : Nat)), (12, P1 bx), (13, I x)] a' ∧ w' = v)) a v := by
  obtain ⟨hsz, hd, hp⟩ := hA
  obtain ⟨u, rfl, hg⟩ := litN hsz hd
  simp only [List.forall_mem_cons, hg] at hp
  obtain ⟨u0, u1, u2, u9, u10, u11, u12, u13, -⟩ := hp
  clear hg hsz hd
  unfold q7_14 C7 Try.f7 seq1 seq2 blockC loopC
  simp only [Option.getD_some, lits, Nat.reduceAdd, u0, u1, u2, u9, u10, u11, u12, u13]
  clear u0 u1 u2 u9 u10 u11 u12 u13
  go_wp2_with fail
  first
    | exact ⟨⟨rfl, rfl, by
      intro p hp
      simp only [List.mem_cons, List.not_mem_nil, or_false] at hp
      rcases hp with rfl | rfl | rfl | rfl | rfl | rfl | rfl | rfl | rfl <;> first | rfl | exact congrArg I (by omega) | exact congrArg Value.bool (by simp <;> omega) | exact congrArg Value.bool (by simp)⟩, rfl⟩
    | exact ⟨rfl, rfl, by
      intro p hp
      simp only [List.mem_cons, List.not_mem_nil, or_false] at hp
      rcases hp with rfl | rfl | rfl | rfl | rfl | rfl | rfl | rfl | rfl <;> first | rfl | exact congrArg I (by omega) | exact congrArg Value.bool (by simp <;> omega) | exact congrArg Value.bool (by simp)⟩
    | exact ⟨rfl, ⟨rfl, rfl, by
      intro p hp
      simp only [List.mem_cons, List.not_mem_nil, or_false] at hp
      rcases hp with rfl | rfl | rfl | rfl | rfl | rfl | rfl | rfl | rfl <;> first | rfl | exact congrArg I (by omega) | exact congrArg Value.bool (by simp <;> omega) | exact congrArg Value.bool (by simp)⟩, rfl⟩

set_option maxHeartbeats 1000000 in
set_option maxRecDepth 100000 in
theorem p7_14_b {v : World} {a : Act} {b o n cap g ct key : Nat} {rw mv : Value} {i : Nat} {bx : Nat} {x : Int} {rk : Nat} {t : Bool} (hn : n ≤ 100) (h : ((i : Int) != (key : Int)) = true) (hk : key < n) (hi : i < n) (ck : v.cell? ⟨g, key, none⟩ = some (.slice (some ⟨rk, 0, none⟩) n n)) (ct_ : v.cell? ⟨rk, i, none⟩ = some (.bool t)) (hA : Fl 108 [(0, .slice (some ⟨b, o, none⟩) n cap), (1, I (key : Nat)), (2, rw), (9, .slice (some ⟨g, 0, none⟩) n ct), (10, mv), (11, I (i : Nat)), (12, P1 bx), (13, I x)] a) :
    q7_14.wp Try.prog (fun e a' w' => e = .normal ∧ (Fl 108 [(70, .bool (!t)), (0, .slice (some ⟨b, o, none⟩) n cap), (1, I (key : Nat)), (2, rw), (9, .slice (some ⟨g, 0, none⟩) n ct), (10, mv), (11, I (i : Nat)), (12, P1 bx), (13, I x)] a' ∧ w' = v)) a v := by
  obtain ⟨hsz, hd, hp⟩ := hA
  obtain ⟨u, rfl, hg⟩ := litN hsz hd
  simp only [List.forall_mem_cons, hg] at hp
  obtain ⟨u0, u1, u2, u9, u10, u11, u12, u13, -⟩ := hp
  clear hg hsz hd
  unfold q7_14 C7 Try.f7 seq1 seq2 blockC loopC
  simp only [Option.getD_some, lits, Nat.reduceAdd, u0, u1, u2, u9, u10, u11, u12, u13]
  clear u0 u1 u2 u9 u10 u11 u12 u13
  go_wp2_with fail
  first
    | exact ⟨⟨rfl, rfl, by
      intro p hp
      simp only [List.mem_cons, List.not_mem_nil, or_false] at hp
      rcases hp with rfl | rfl | rfl | rfl | rfl | rfl | rfl | rfl | rfl <;> first | rfl | exact congrArg I (by omega) | exact congrArg Value.bool (by simp <;> omega) | exact congrArg Value.bool (by simp)⟩, rfl⟩
    | exact ⟨rfl, rfl, by
      intro p hp
      simp only [List.mem_cons, List.not_mem_nil, or_false] at hp
      rcases hp with rfl | rfl | rfl | rfl | rfl | rfl | rfl | rfl | rfl <;> first | rfl | exact congrArg I (by omega) | exact congrArg Value.bool (by simp <;> omega) | exact congrArg Value.bool (by simp)⟩
    | exact ⟨rfl, ⟨rfl, rfl, by
      intro p hp
      simp only [List.mem_cons, List.not_mem_nil, or_false] at hp
      rcases hp with rfl | rfl | rfl | rfl | rfl | rfl | rfl | rfl | rfl <;> first | rfl | exact congrArg I (by omega) | exact congrArg Value.bool (by simp <;> omega) | exact congrArg Value.bool (by simp)⟩, rfl⟩

set_option maxHeartbeats 1000000 in
set_option maxRecDepth 100000 in
theorem p7_15 {v : World} {a : Act} {b o n cap g ct key : Nat} {rw mv : Value} {i : Nat} {bx : Nat} {x : Int} {av : Value} (c : v.cell? ⟨bx, 2, none⟩ = some av) (f : v.frozen? ⟨bx, 2, none⟩ = false) (hA : Fl 108 [(0, .slice (some ⟨b, o, none⟩) n cap), (1, I (key : Nat)), (2, rw), (9, .slice (some ⟨g, 0, none⟩) n ct), (10, mv), (11, I (i : Nat)), (12, P1 bx), (13, I x)] a) :
    q7_15.wp Try.prog (fun e a' w' => e = .normal ∧ (Fl 108 [(0, .slice (some ⟨b, o, none⟩) n cap), (1, I (key : Nat)), (2, rw), (9, .slice (some ⟨g, 0, none⟩) n ct), (10, mv), (11, I (i : Nat)), (12, P1 bx), (13, I x)] a' ∧ w' = v.setCell ⟨bx, 2, none⟩ (I ((bits .and .i64 x 3).tmod 3)))) a v := by
  obtain ⟨hsz, hd, hp⟩ := hA
  obtain ⟨u, rfl, hg⟩ := litN hsz hd
  simp only [List.forall_mem_cons, hg] at hp
  obtain ⟨u0, u1, u2, u9, u10, u11, u12, u13, -⟩ := hp
  clear hg hsz hd
  unfold q7_15 C7 Try.f7 seq1 seq2 condA blockC loopC
  simp only [Option.getD_some, lits, Nat.reduceAdd, u0, u1, u2, u9, u10, u11, u12, u13]
  clear u0 u1 u2 u9 u10 u11 u12 u13
  go_wp2_with fail
  first
    | exact ⟨⟨rfl, rfl, by
      intro p hp
      simp only [List.mem_cons, List.not_mem_nil, or_false] at hp
      rcases hp with rfl | rfl | rfl | rfl | rfl | rfl | rfl | rfl <;> first | rfl | exact congrArg I (by omega) | exact congrArg Value.bool (by simp <;> omega) | exact congrArg Value.bool (by simp)⟩, rfl⟩
    | exact ⟨rfl, rfl, by
      intro p hp
      simp only [List.mem_cons, List.not_mem_nil, or_false] at hp
      rcases hp with rfl | rfl | rfl | rfl | rfl | rfl | rfl | rfl <;> first | rfl | exact congrArg I (by omega) | exact congrArg Value.bool (by simp <;> omega) | exact congrArg Value.bool (by simp)⟩
    | exact ⟨rfl, ⟨rfl, rfl, by
      intro p hp
      simp only [List.mem_cons, List.not_mem_nil, or_false] at hp
      rcases hp with rfl | rfl | rfl | rfl | rfl | rfl | rfl | rfl <;> first | rfl | exact congrArg I (by omega) | exact congrArg Value.bool (by simp <;> omega) | exact congrArg Value.bool (by simp)⟩, rfl⟩

set_option maxHeartbeats 1000000 in
set_option maxRecDepth 100000 in
theorem p7_16 {v : World} {a : Act} {b o n cap g ct key : Nat} {rw mv : Value} {i : Nat} {bx : Nat} {x : Int} {av : Value} (c : v.cell? ⟨bx, 3, none⟩ = some av) (f : v.frozen? ⟨bx, 3, none⟩ = false) (hA : Fl 108 [(0, .slice (some ⟨b, o, none⟩) n cap), (1, I (key : Nat)), (2, rw), (9, .slice (some ⟨g, 0, none⟩) n ct), (10, mv), (11, I (i : Nat)), (12, P1 bx), (13, I x)] a) :
    q7_16.wp Try.prog (fun e a' w' => e = .normal ∧ (Fl 108 [(0, .slice (some ⟨b, o, none⟩) n cap), (1, I (key : Nat)), (2, rw), (9, .slice (some ⟨g, 0, none⟩) n ct), (10, mv), (11, I (i : Nat)), (12, P1 bx), (13, I x)] a' ∧ w' = v.setCell ⟨bx, 3, none⟩ (I (bits .and .i64 x 511)))) a v := by
  obtain ⟨hsz, hd, hp⟩ := hA
  obtain ⟨u, rfl, hg⟩ := litN hsz hd
  simp only [List.forall_mem_cons, hg] at hp
  obtain ⟨u0, u1, u2, u9, u10, u11, u12, u13, -⟩ := hp
  clear hg hsz hd
  unfold q7_16 C7 Try.f7 seq1 seq2 condA blockC loopC
  simp only [Option.getD_some, lits, Nat.reduceAdd, u0, u1, u2, u9, u10, u11, u12, u13]
  clear u0 u1 u2 u9 u10 u11 u12 u13
  go_wp2_with fail
  first
    | exact ⟨⟨rfl, rfl, by
      intro p hp
      simp only [List.mem_cons, List.not_mem_nil, or_false] at hp
      rcases hp with rfl | rfl | rfl | rfl | rfl | rfl | rfl | rfl <;> first | rfl | exact congrArg I (by omega) | exact congrArg Value.bool (by simp <;> omega) | exact congrArg Value.bool (by simp)⟩, rfl⟩
    | exact ⟨rfl, rfl, by
      intro p hp
      simp only [List.mem_cons, List.not_mem_nil, or_false] at hp
      rcases hp with rfl | rfl | rfl | rfl | rfl | rfl | rfl | rfl <;> first | rfl | exact congrArg I (by omega) | exact congrArg Value.bool (by simp <;> omega) | exact congrArg Value.bool (by simp)⟩
    | exact ⟨rfl, ⟨rfl, rfl, by
      intro p hp
      simp only [List.mem_cons, List.not_mem_nil, or_false] at hp
      rcases hp with rfl | rfl | rfl | rfl | rfl | rfl | rfl | rfl <;> first | rfl | exact congrArg I (by omega) | exact congrArg Value.bool (by simp <;> omega) | exact congrArg Value.bool (by simp)⟩, rfl⟩

set_option maxHeartbeats 1000000 in
set_option maxRecDepth 100000 in
theorem p7_17 {v : World} {a : Act} {b o n cap g ct key : Nat} {rw mv : Value} {i : Nat} {bx : Nat} {x : Int}  (hA : Fl 108 [(0, .slice (some ⟨b, o, none⟩) n cap), (1, I (key : Nat)), (2, rw), (9, .slice (some ⟨g, 0, none⟩) n ct), (10, mv), (11, I (i : Nat)), (12, P1 bx), (13, I x)] a) :
    q7_17.wp Try.prog (fun e a' w' => e = .normal ∧ (Fl 108 [(80, .bool (bits .and .i64 x 4 == 4)), (0, .slice (some ⟨b, o, none⟩) n cap), (1, I (key : Nat)), (2, rw), (9, .slice (some ⟨g, 0, none⟩) n ct), (10, mv), (11, I (i : Nat)), (12, P1 bx), (13, I x)] a' ∧ w' = v)) a v := by
  obtain ⟨hsz, hd, hp⟩ := hA
  obtain ⟨u, rfl, hg⟩ := litN hsz hd
  simp only [List.forall_mem_cons, hg] at hp
  obtain ⟨u0, u1, u2, u9, u10, u11, u12, u13, -⟩ := hp
  clear hg hsz hd
  unfold q7_17 C7 Try.f7 seq1 seq2 condA blockC loopC
  simp only [Option.getD_some, lits, Nat.reduceAdd, u0, u1, u2, u9, u10, u11, u12, u13]
  clear u0 u1 u2 u9 u10 u11 u12 u13
  go_wp2_with fail
  first
    | exact ⟨⟨rfl, rfl, by
      intro p hp
      simp only [List.mem_cons, List.not_mem_nil, or_false] at hp
      rcases hp with rfl | rfl | rfl | rfl | rfl | rfl | rfl | rfl | rfl <;> first | rfl | exact congrArg I (by omega) | exact congrArg Value.bool (by simp <;> omega) | exact congrArg Value.bool (by simp)⟩, rfl⟩
    | exact ⟨rfl, rfl, by
      intro p hp
      simp only [List.mem_cons, List.not_mem_nil, or_false] at hp
      rcases hp with rfl | rfl | rfl | rfl | rfl | rfl | rfl | rfl | rfl <;> first | rfl | exact congrArg I (by omega) | exact congrArg Value.bool (by simp <;> omega) | exact congrArg Value.bool (by simp)⟩
    | exact ⟨rfl, ⟨rfl, rfl, by
      intro p hp
      simp only [List.mem_cons, List.not_mem_nil, or_false] at hp
      rcases hp with rfl | rfl | rfl | rfl | rfl | rfl | rfl | rfl | rfl <;> first | rfl | exact congrArg I (by omega) | exact congrArg Value.bool (by simp <;> omega) | exact congrArg Value.bool (by simp)⟩, rfl⟩

set_option maxHeartbeats 1000000 in
set_option maxRecDepth 100000 in
theorem p7_18 {v : World} {a : Act} {b o n cap g ct key : Nat} {rw mv : Value} {i : Nat} {bx : Nat} {x : Int} {av : Value} (hb : bx < v.heap.size) (c : v.cell? ⟨bx, 0, none⟩ = some av) (f : v.frozen? ⟨bx, 0, none⟩ = false) (hA : Fl 108 [(0, .slice (some ⟨b, o, none⟩) n cap), (1, I (key : Nat)), (2, rw), (9, .slice (some ⟨g, 0, none⟩) n ct), (10, mv), (11, I (i : Nat)), (12, P1 bx), (13, I x)] a) :
    q7_18.wp Try.prog (fun e a' w' => e = .normal ∧ (Fl 108 [(0, .slice (some ⟨b, o, none⟩) n cap), (1, I (key : Nat)), (2, rw), (9, .slice (some ⟨g, 0, none⟩) n ct), (10, mv), (11, I (i : Nat)), (12, P1 bx), (13, I x)] a' ∧ w' = (v.alloc (.cells #[I (i : Nat)] 3)).setCell ⟨bx, 0, none⟩ (.slice (some ⟨v.heap.size, 0, none⟩) 1 1))) a v := by
  obtain ⟨hsz, hd, hp⟩ := hA
  obtain ⟨u, rfl, hg⟩ := litN hsz hd
  simp only [List.forall_mem_cons, hg] at hp
  obtain ⟨u0, u1, u2, u9, u10, u11, u12, u13, -⟩ := hp
  clear hg hsz hd
  unfold q7_18 C7 Try.f7 seq1 seq2 condA blockC loopC
  simp only [Option.getD_some, lits, Nat.reduceAdd, u0, u1, u2, u9, u10, u11, u12, u13]
  clear u0 u1 u2 u9 u10 u11 u12 u13
  go_wp2_with fail
  first
    | exact ⟨⟨rfl, rfl, by
      intro p hp
      simp only [List.mem_cons, List.not_mem_nil, or_false] at hp
      rcases hp with rfl | rfl | rfl | rfl | rfl | rfl | rfl | rfl <;> first | rfl | exact congrArg I (by omega) | exact congrArg Value.bool (by simp <;> omega) | exact congrArg Value.bool (by simp)⟩, rfl⟩
    | exact ⟨rfl, rfl, by
      intro p hp
      simp only [List.mem_cons, List.not_mem_nil, or_false] at hp
      rcases hp with rfl | rfl | rfl | rfl | rfl | rfl | rfl | rfl <;> first | rfl | exact congrArg I (by omega) | exact congrArg Value.bool (by simp <;> omega) | exact congrArg Value.bool (by simp)⟩
    | exact ⟨rfl, ⟨rfl, rfl, by
      intro p hp
      simp only [List.mem_cons, List.not_mem_nil, or_false] at hp
      rcases hp with rfl | rfl | rfl | rfl | rfl | rfl | rfl | rfl <;> first | rfl | exact congrArg I (by omega) | exact congrArg Value.bool (by simp <;> omega) | exact congrArg Value.bool (by simp)⟩, rfl⟩

set_option maxHeartbeats 1000000 in
set_option maxRecDepth 100000 in
theorem p7_19 {v : World} {a : Act} {b o n cap g ct key : Nat} {rw mv : Value} {i : Nat} {bx : Nat} {Z : Nat → Prop} {P : List (Value × Rc)} {q : Option Addr} {nn nc : Nat} {r : Rc} (hO : OwnR Z v mv P) (hZ : ∀ i, Z i → i < v.heap.size) (hl : P.length ≤ 1000) (hil : IL (fun b => b < v.heap.size ∧ mv.ownBlock ≠ some b) v (.slice q nn nc) r.needs) (d0 : v.cell? ⟨bx, 0, none⟩ = some (.slice q nn nc)) (d1 : v.cell? ⟨bx, 1, none⟩ = some (I r.level)) (d2 : v.cell? ⟨bx, 2, none⟩ = some (I r.act)) (d3 : v.cell? ⟨bx, 3, none⟩ = some (I r.value)) (d4 : v.cell? ⟨bx, 4, none⟩ = some (I r.fin)) (hA : Fl 108 [(0, .slice (some ⟨b, o, none⟩) n cap), (1, I (key : Nat)), (2, rw), (9, .slice (some ⟨g, 0, none⟩) n ct), (10, mv), (11, I (i : Nat)), (12, P1 bx)] a) :
    q7_19.wp Try.prog (fun e a' w' => e = .normal ∧ ∃ g2 c2, (Fl 108 [(0, .slice (some ⟨b, o, none⟩) n cap), (1, I (key : Nat)), (2, rw), (9, .slice (some ⟨g, 0, none⟩) n ct), (10, .slice (some ⟨g2, 0, none⟩) (P.length + 1) c2), (11, I (i : Nat))] a' ∧ OwnR Z w' (.slice (some ⟨g2, 0, none⟩) (P.length + 1) c2) (P ++ [(.slice q nn nc, r)]) ∧ Kp Z v w')) a v := by
  have HO : Hid (OwnR Z v mv P) := hO
  have HZ : Hid (∀ i, Z i → i < v.heap.size) := hZ
  have HIL : Hid (IL (fun b => b < v.heap.size ∧ mv.ownBlock ≠ some b) v (.slice q nn nc) r.needs) := hil
  clear hO hZ hil
  obtain ⟨hsz, hd, hp⟩ := hA
  obtain ⟨u, rfl, hg⟩ := litN hsz hd
  simp only [List.forall_mem_cons, hg] at hp
  obtain ⟨u0, u1, u2, u9, u10, u11, u12, -⟩ := hp
  clear hg hsz hd
  unfold q7_19 C7 Try.f7 seq1 seq2 blockC loopC
  simp only [Option.getD_some, lits, Nat.reduceAdd, u0, u1, u2, u9, u10, u11, u12]
  clear u0 u1 u2 u9 u10 u11 u12
  go_wp2_with (first
    | (at_builtin; refine wp_app43 (nv := .slice q nn nc) (r := r) rfl (.tmp 84) (.tmp 86) rfl rfl rfl rfl HO.out HZ.out hl HIL.out ?_; intro g2 c2 w' hO' hk' hsz'; have H' : Hid (OwnR Z w' (.slice (some ⟨g2, 0, none⟩) (P.length + 1) c2) (P ++ [(.slice q nn nc, r)]) ∧ Kp Z v w') := ⟨hO', hk'⟩; clear hO' hk' hsz'))
  exact ⟨g2, c2, ⟨rfl, rfl, by
    intro p hp
    simp only [List.mem_cons, List.not_mem_nil, or_false] at hp
    rcases hp with rfl | rfl | rfl | rfl | rfl | rfl <;> first | rfl | exact congrArg I (by omega) | exact congrArg Value.bool (by simp <;> omega) | exact congrArg Value.bool (by simp)⟩, H'.out⟩

set_option maxHeartbeats 1000000 in
set_option maxRecDepth 100000 in
theorem p7_9 {v : World} {a : Act} {b o n cap g ct key : Nat} {rw mv : Value} {i : Nat} (hi : i < 100) (hA : Fl 108 [(0, .slice (some ⟨b, o, none⟩) n cap), (1, I (key : Nat)), (2, rw), (9, .slice (some ⟨g, 0, none⟩) n ct), (10, mv), (11, I (i : Nat))] a) :
    q7_9.wp Try.prog (fun e a' w' => e = .normal ∧ (Fl 108 [(0, .slice (some ⟨b, o, none⟩) n cap), (1, I (key : Nat)), (2, rw), (9, .slice (some ⟨g, 0, none⟩) n ct), (10, mv), (11, I ((i + 1 : Nat) : Int))] a' ∧ w' = v)) a v := by
  obtain ⟨hsz, hd, hp⟩ := hA
  obtain ⟨u, rfl, hg⟩ := litN hsz hd
  simp only [List.forall_mem_cons, hg] at hp
  obtain ⟨u0, u1, u2, u9, u10, u11, -⟩ := hp
  clear hg hsz hd
  unfold q7_9 C7 Try.f7 seq1 seq2 blockC loopC
  simp only [Option.getD_some, lits, Nat.reduceAdd, u0, u1, u2, u9, u10, u11]
  clear u0 u1 u2 u9 u10 u11
  go_wp2_with fail
  first
    | exact ⟨⟨rfl, rfl, by
      intro p hp
      simp only [List.mem_cons, List.not_mem_nil, or_false] at hp
      rcases hp with rfl | rfl | rfl | rfl | rfl | rfl <;> first | rfl | exact congrArg I (by omega) | exact congrArg Value.bool (by simp <;> omega) | exact congrArg Value.bool (by simp)⟩, rfl⟩
    | exact ⟨rfl, rfl, by
      intro p hp
      simp only [List.mem_cons, List.not_mem_nil, or_false] at hp
      rcases hp with rfl | rfl | rfl | rfl | rfl | rfl <;> first | rfl | exact congrArg I (by omega) | exact congrArg Value.bool (by simp <;> omega) | exact congrArg Value.bool (by simp)⟩
    | exact ⟨rfl, ⟨rfl, rfl, by
      intro p hp
      simp only [List.mem_cons, List.not_mem_nil, or_false] at hp
      rcases hp with rfl | rfl | rfl | rfl | rfl | rfl <;> first | rfl | exact congrArg I (by omega) | exact congrArg Value.bool (by simp <;> omega) | exact congrArg Value.bool (by simp)⟩, rfl⟩

set_option maxHeartbeats 1000000 in
set_option maxRecDepth 100000 in
theorem p7_20 {v : World} {a : Act} {x0 mv : Value} {key : Nat} {Z : Nat → Prop} {l : List Rc} {is : Bool} (hl : RL Z v (x0) l) (hZ : ∀ i, Z i → i < v.heap.size) (hk : key < 100) (his : is = true ↔ FateB l key) (hA : Fl 108 [(0, x0), (1, I (key : Nat)), (10, mv)] a) :
    q7_20.wp Try.prog (fun e a' w' => e = .normal ∧ (Fl 108 [(0, x0), (1, I (key : Nat)), (10, mv), (14, .bool is), (15, I (fateV l key))] a' ∧ Kp (fun i => i < v.heap.size) v w')) a v := by
  have HC : Hid (Calls Try.prog 13 #[x0, I (key : Nat)] v _) := fate_any hl hZ ⟨by omega, by omega⟩
  have HIS : Hid (is = true ↔ FateB l key) := his
  clear hl hZ his
  obtain ⟨hsz, hd, hp⟩ := hA
  obtain ⟨u, rfl, hg⟩ := litN hsz hd
  simp only [List.forall_mem_cons, hg] at hp
  obtain ⟨u0, u1, u10, -⟩ := hp
  clear hg hsz hd
  unfold q7_20 C7 Try.f7 seq1 seq2
  simp only [Option.getD_some, lits, Nat.reduceAdd, u0, u1, u10]
  clear u0 u1 u10
  go_wp2_with (first
    | (go_at_call 13; refine HC.out.mono ?_; rintro e w1 ⟨_, rfl, ⟨is', rfl, hb⟩, hk⟩; have he : is' = is := Bool.eq_iff_iff.2 (hb.trans HIS.out.symm); subst he; have HK : Hid (Kp (fun i => i < v.heap.size) v w1) := hk; clear hb hk))
  first
    | exact ⟨⟨rfl, rfl, by
      intro p hp
      simp only [List.mem_cons, List.not_mem_nil, or_false] at hp
      rcases hp with rfl | rfl | rfl | rfl | rfl <;> first | rfl | exact congrArg I (by omega) | exact congrArg Value.bool (by simp <;> omega) | exact congrArg Value.bool (by simp)⟩, HK.out⟩
    | exact ⟨rfl, rfl, by
      intro p hp
      simp only [List.mem_cons, List.not_mem_nil, or_false] at hp
      rcases hp with rfl | rfl | rfl | rfl | rfl <;> first | rfl | exact congrArg I (by omega) | exact congrArg Value.bool (by simp <;> omega) | exact congrArg Value.bool (by simp)⟩
    | exact ⟨rfl, ⟨rfl, rfl, by
      intro p hp
      simp only [List.mem_cons, List.not_mem_nil, or_false] at hp
      rcases hp with rfl | rfl | rfl | rfl | rfl <;> first | rfl | exact congrArg I (by omega) | exact congrArg Value.bool (by simp <;> omega) | exact congrArg Value.bool (by simp)⟩, HK.out⟩

set_option maxHeartbeats 1000000 in
set_option maxRecDepth 100000 in
theorem p7_21 {v : World} {a : Act} {mv : Value} {key : Nat} {ia : Bool} {va : Int} {Z : Nat → Prop} {l : List Rc} {is : Bool} (hl : RL Z v (mv) l) (hZ : ∀ i, Z i → i < v.heap.size) (hk : key < 100) (his : is = true ↔ FateB l key) (hA : Fl 108 [(1, I (key : Nat)), (10, mv), (14, .bool ia), (15, I va)] a) :
    q7_21.wp Try.prog (fun e a' w' => e = .normal ∧ (Fl 108 [(14, .bool ia), (15, I va), (16, .bool is), (17, I (fateV l key))] a' ∧ Kp (fun i => i < v.heap.size) v w')) a v := by
  have HC : Hid (Calls Try.prog 13 #[mv, I (key : Nat)] v _) := fate_any hl hZ ⟨by omega, by omega⟩
  have HIS : Hid (is = true ↔ FateB l key) := his
  clear hl hZ his
  obtain ⟨hsz, hd, hp⟩ := hA
  obtain ⟨u, rfl, hg⟩ := litN hsz hd
  simp only [List.forall_mem_cons, hg] at hp
  obtain ⟨u1, u10, u14, u15, -⟩ := hp
  clear hg hsz hd
  unfold q7_21 C7 Try.f7 seq1 seq2
  simp only [Option.getD_some, lits, Nat.reduceAdd, u1, u10, u14, u15]
  clear u1 u10 u14 u15
  go_wp2_with (first
    | (go_at_call 13; refine HC.out.mono ?_; rintro e w1 ⟨_, rfl, ⟨is', rfl, hb⟩, hk⟩; have he : is' = is := Bool.eq_iff_iff.2 (hb.trans HIS.out.symm); subst he; have HK : Hid (Kp (fun i => i < v.heap.size) v w1) := hk; clear hb hk))
  first
    | exact ⟨⟨rfl, rfl, by
      intro p hp
      simp only [List.mem_cons, List.not_mem_nil, or_false] at hp
      rcases hp with rfl | rfl | rfl | rfl <;> first | rfl | exact congrArg I (by omega) | exact congrArg Value.bool (by simp <;> omega) | exact congrArg Value.bool (by simp)⟩, HK.out⟩
    | exact ⟨rfl, rfl, by
      intro p hp
      simp only [List.mem_cons, List.not_mem_nil, or_false] at hp
      rcases hp with rfl | rfl | rfl | rfl <;> first | rfl | exact congrArg I (by omega) | exact congrArg Value.bool (by simp <;> omega) | exact congrArg Value.bool (by simp)⟩
    | exact ⟨rfl, ⟨rfl, rfl, by
      intro p hp
      simp only [List.mem_cons, List.not_mem_nil, or_false] at hp
      rcases hp with rfl | rfl | rfl | rfl <;> first | rfl | exact congrArg I (by omega) | exact congrArg Value.bool (by simp <;> omega) | exact congrArg Value.bool (by simp)⟩, HK.out⟩

set_option maxHeartbeats 1000000 in
set_option maxRecDepth 100000 in
theorem p7_22_a {v : World} {a : Act} {va : Int}  (hA : Fl 108 [(14, .bool true), (15, I va), (16, .bool true), (17, I va)] a) :
    q7_22.wp Try.prog (fun e a' w' => e = .normal ∧ (Fl 108 [(6, .bool true)] a' ∧ w' = v)) a v := by
  obtain ⟨hsz, hd, hp⟩ := hA
  obtain ⟨u, rfl, hg⟩ := litN hsz hd
  simp only [List.forall_mem_cons, hg] at hp
  obtain ⟨u14, u15, u16, u17, -⟩ := hp
  clear hg hsz hd
  unfold q7_22 C7 Try.f7 seq1 seq2
  simp only [Option.getD_some, lits, Nat.reduceAdd, u14, u15, u16, u17]
  clear u14 u15 u16 u17
  go_wp2_with fail
  first
    | exact ⟨⟨rfl, rfl, by
      intro p hp
      simp only [List.mem_cons, List.not_mem_nil, or_false] at hp
      rcases hp with rfl <;> first | rfl | exact congrArg I (by omega) | exact congrArg Value.bool (by simp <;> omega) | exact congrArg Value.bool (by simp)⟩, rfl⟩
    | exact ⟨rfl, rfl, by
      intro p hp
      simp only [List.mem_cons, List.not_mem_nil, or_false] at hp
      rcases hp with rfl <;> first | rfl | exact congrArg I (by omega) | exact congrArg Value.bool (by simp <;> omega) | exact congrArg Value.bool (by simp)⟩
    | exact ⟨rfl, ⟨rfl, rfl, by
      intro p hp
      simp only [List.mem_cons, List.not_mem_nil, or_false] at hp
      rcases hp with rfl <;> first | rfl | exact congrArg I (by omega) | exact congrArg Value.bool (by simp <;> omega) | exact congrArg Value.bool (by simp)⟩, rfl⟩

set_option maxHeartbeats 1000000 in
set_option maxRecDepth 100000 in
theorem p7_22_b {v : World} {a : Act} {va : Int}  (hA : Fl 108 [(14, .bool false), (15, I va), (16, .bool false), (17, I va)] a) :
    q7_22.wp Try.prog (fun e a' w' => e = .normal ∧ (Fl 108 [(6, .bool true)] a' ∧ w' = v)) a v := by
  obtain ⟨hsz, hd, hp⟩ := hA
  obtain ⟨u, rfl, hg⟩ := litN hsz hd
  simp only [List.forall_mem_cons, hg] at hp
  obtain ⟨u14, u15, u16, u17, -⟩ := hp
  clear hg hsz hd
  unfold q7_22 C7 Try.f7 seq1 seq2
  simp only [Option.getD_some, lits, Nat.reduceAdd, u14, u15, u16, u17]
  clear u14 u15 u16 u17
  go_wp2_with fail
  first
    | exact ⟨⟨rfl, rfl, by
      intro p hp
      simp only [List.mem_cons, List.not_mem_nil, or_false] at hp
      rcases hp with rfl <;> first | rfl | exact congrArg I (by omega) | exact congrArg Value.bool (by simp <;> omega) | exact congrArg Value.bool (by simp)⟩, rfl⟩
    | exact ⟨rfl, rfl, by
      intro p hp
      simp only [List.mem_cons, List.not_mem_nil, or_false] at hp
      rcases hp with rfl <;> first | rfl | exact congrArg I (by omega) | exact congrArg Value.bool (by simp <;> omega) | exact congrArg Value.bool (by simp)⟩
    | exact ⟨rfl, ⟨rfl, rfl, by
      intro p hp
      simp only [List.mem_cons, List.not_mem_nil, or_false] at hp
      rcases hp with rfl <;> first | rfl | exact congrArg I (by omega) | exact congrArg Value.bool (by simp <;> omega) | exact congrArg Value.bool (by simp)⟩, rfl⟩

theorem in7 {w : World} {R : Value → World → Prop} {x0 rw : Value} {key : Int} (h : ∀ a, Fl 108 [(0, x0), (1, I key), (2, rw)] a → C7.wp Try.prog (bodyPost Try.prog Try.f7 (Ret R)) a w) : Calls Try.prog 7 #[x0, I key, rw] w (Ret R) :=
  calls_of_wp Try.func7 (show Try.f7.body = some C7 by kernel_rfl) (by
    rw [Try.ntmps7]
    exact h _ (fl_enter _ _ 108 (by simp) _ (by intro p hp; simp only [List.mem_cons, List.not_mem_nil, or_false] at hp; rcases hp with rfl | rfl | rfl <;> rfl)))

end Go.Proofs.Ytgohfdgkihoilaa.Rcp
