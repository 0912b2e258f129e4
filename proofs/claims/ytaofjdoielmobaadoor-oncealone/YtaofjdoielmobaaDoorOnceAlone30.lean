/- OnceAlone holds, as a card tied to the program's text: a once of no world, asked by one free thread with any list of acts, carries out the first one alone and tells all of them what it came to; no condition besides the sizes that the statement itself names. Part 30 of 35. (Joined, by program, of: OnF, GObj, OnF2, GEnd.) -/
import Derived.Test.YtaofjdoielmobaaDoorOnceAlone19
import Derived.Test.YtaofjdoielmobaaDoorOnceAlone20
import Derived.Test.YtaofjdoielmobaaDoorOnceAlone26
import Derived.Test.YtaofjdoielmobaaDoorOnceAlone29

/- kept.Get and keep by a free thread, main alone: the pieces that meet a cell. (Made by wip/tools/mko_fr.py.) -/
set_option linter.unusedSimpArgs false
set_option linter.unusedVariables false
namespace Go.Proofs.YtaofjdoielmobaaDoor.Gen
open Go Go.Lift Go.Conc Go.RowKit

set_option maxHeartbeats 2000000 in
set_option maxRecDepth 100000 in
theorem fget_look {Ch : Nat → Prop} {Stop : Goroutine → World → Prop} {main : Bool} {v w : World} {cb kp rb tb : Nat} {F : Value} {x : Int} (h0 : v.cell? ⟨kp, 0, none⟩ = some (Pt cb 0)) {a : Act} (hA : Fl 62 [(0, Pt kp 0), (1, Pt tb 0), (2, F), (6, Pt rb 0)] a) (cs : List Frame) (hvw : Rel zn v w) (hn : NoRow Ch v) (hm : Fm tb cb x v)
    (hk : ∀ a v' w', Fl 62 [(0, Pt kp 0), (1, Pt tb 0), (2, F), (6, Pt rb 0)] a → Rel zn v' w' → NoRow Ch v' → Fto tb cb x v v' → GoesI Tryd.prog main (DT (ScZ zn) Ch) Stop (G (gSeen a (I x)) cs) w') :
    GoesI Tryd.prog main (DT (ScZ zn) Ch) Stop (G (gFr a) cs) w := by
  have e0 : w.cell? ⟨kp, 0, none⟩ = some (Pt cb 0) := by rw [hvw.cell?]; exact h0
  have HM : Hid (Fm tb cb x v) := ⟨hm⟩
  clear hm
  unfold gSeen gO1 gI gL gB Tryd.f30 seq1 seq2 blockC loopC opsOf at hk
  simp only [Option.getD_some] at hk
  obtain ⟨hsz, hd, hpp⟩ := hA
  obtain ⟨u, rfl, hg⟩ := litN hsz hd
  have u0 := (hg 0).symm.trans (hpp (0, Pt kp 0) (by simp))
  have u1 := (hg 1).symm.trans (hpp (1, Pt tb 0) (by simp))
  have u2 := (hg 2).symm.trans (hpp (2, F) (by simp))
  have u6 := (hg 6).symm.trans (hpp (6, Pt rb 0) (by simp))
  clear hg hpp hsz hd
  unfold gFr gL gB Tryd.f30 seq2 blockC loopC
  simp only [Option.getD_some, lits, Nat.reduceAdd, u0, u1, u2, u6]
  clear u0 u1 u2 u6
  refine goesI_block (dt_idle _ _) ?_
  refine goesI_seq (dt_idle _ _) ?_
  refine goesI_region (dt_idle _ _) ?_
  simp only [List.size_toArray, List.length_cons, List.length_nil, Nat.reduceAdd, Nat.zero_add, List.range, List.range.loop]
  iterate 5
    (refine goesI_oper rfl rfl (by decide) (fun d K hK => ?_)
     go_simp
     refine hK _ _ ⟨dt_reads (fun e he => ?_), GoesI.at ?_ d⟩
     · have hm := mem_listed he
       simp [go_sem, *] at hm
       try exact ⟨_, _, hm⟩
       try (rcases hm with rfl | rfl <;> exact ⟨_, _, rfl⟩)
     clear hK K)
  refine goesI_into (f := 44) (fn := Tryd.f44) (args := #[Pt cb 0, Pt tb 0]) (dt_idle _ _) rfl rfl (by decide) rfl (by simp [Act.eval]) Tryd.func44 (by decide) rfl ?_
  exact free17 x _ rfl hvw hn HM.out (fun v' w' r' n' f' => hk _ v' w' ⟨rfl, rfl, by
    intro p hp
    simp only [List.mem_cons, List.not_mem_nil, or_false] at hp
    rcases hp with rfl | rfl | rfl | rfl <;> rfl⟩ r' n' f') _ rfl
theorem Fm.grows {tb cb : Nat} {x : Int} {v v' : World} (h : Fm tb cb x v) (g : Grows v v') : Fm tb cb x v' := ⟨g.cell h.thr, h.ne, by rw [g.old cb (Array.getElem?_eq_some_iff.1 h.cel).1]; exact h.cel⟩
set_option maxHeartbeats 2000000 in
set_option maxRecDepth 100000 in
theorem fget_done {Ch : Nat → Prop} {Stop : Goroutine → World → Prop} {main : Bool} {v w : World} {cb kp rb tb : Nat} {F : Value} {x y : Int} (hx : R1.stI x = 2) (hF : R1.Flds v) (h1 : v.cell? ⟨kp, 1, none⟩ = some (Pt cb 0)) {a : Act} (hA : Fl 62 [(0, Pt kp 0), (1, Pt tb 0), (2, F), (6, Pt rb 0), (7, I x), (16, I (R1.stI x))] a) (cs : List Frame) (hvw : Rel zn v w) (hn : NoRow Ch v) (hm : Fm tb cb y v)
    (hk : ∀ a v2 v' w', Fl 62 [(37, I (R1.codI x)), (0, Pt kp 0), (1, Pt tb 0), (2, F), (6, Pt rb 0)] a → Rel zn v' w' → NoRow Ch v' → Grows v v2 → Fto tb cb y v2 v' → GoesI Tryd.prog main (DT (ScZ zn) Ch) Stop (G (gVal a (I y)) cs) w') :
    GoesI Tryd.prog main (DT (ScZ zn) Ch) Stop (G (gSw a) cs) w := by
  rw [show gSw a = (base 30).at a [.code (.seq (seq1 gS) (.cond (.tmp 33) (.seq (.region 8 gO8 true) .ret) (.seq (seq1 gE) (.cond (.tmp 45) (.seq (.region 10 gO10 true) (seq2 gN)) gW)))), .inBlock 2, .inBlock 1, .inLoop gL, .inBlock 0] by unfold gSw; rw [← eGS]]
  refine goesI_seq (dt_idle _ _) ?_
  refine goesI_plain (z := zn) (wr := true) (L := LT) (I := NoRow Ch) hE fineT noRow_keeps (fun v v' w w' es hi hr ho he => dt_of_z v v' w w' es hi hr ho he) hvw fine_g7 hA.2.1 (by simp [base]) hn (Q := fun a w' => Fl 62 [(33, .bool true), (0, Pt kp 0), (1, Pt tb 0), (2, F), (6, Pt rb 0), (7, I x), (16, I (R1.stI x))] a ∧ w'.heap = v.heap ∧ w'.os = v.os ∧ w'.output = v.output) (fun τ => g7_wp (v := onTape v τ 0) hA (by rw [hx]; rfl)) ?_
  rintro a v1 w1 ⟨hA, q1, q2, q3⟩ r1 n1 -
  have g1 : Grows v v1 := ⟨by rw [q1]; exact Nat.le_refl _, fun b _ => by rw [q1], q2, q3⟩
  refine goesI_cond (dt_idle _ _) (t := true) (hA.at 33 _ (by simp)) ?_
  simp only [if_true, if_false, Bool.false_eq_true]
  have hA : Fl 62 [(0, Pt kp 0), (1, Pt tb 0), (2, F), (6, Pt rb 0), (7, I x), (16, I (R1.stI x))] a := hA.sub (by simp)
  refine goesI_seq (dt_idle _ _) ?_
  refine g8_pre (main := main) (F := F) (rb := rb) kp tb cb x (hA.sub (l' := [(0, Pt kp 0), (1, Pt tb 0), (2, F), (6, Pt rb 0), (7, I x)]) (by simp)) _ cs (flds_grows hF g1) (g1.cell h1) r1 n1 (fun v2 w2 a2 o ho hw hA2 r2 n2 g2 => ?_)
  have g3 := gtrans g1 g2
  refine goesI_into (f := 44) (fn := Tryd.f44) (args := #[Pt cb 0, Pt tb 0]) (dt_idle _ _) ho (hw _) (by simp [base]) (op_at (p := .call { callee := .value (.func 44), args := #[.tmp 41, .tmp 42], argTypes := #[101, 48] }) (by kernel_rfl) ho) (by simp only [List.map_toArray, List.map_cons, List.map_nil]; rw [hA2.at 41 (Pt cb 0) (by simp), hA2.at 42 (Pt tb 0) (by simp)]) Tryd.func44 (by kernel_rfl) rfl ?_
  refine free17 y _ ho r2 n2 (hm.grows g3) (fun v' w' r' n' f' => ?_) _ rfl
  rw [dst_at (p := some 43) (by kernel_rfl) ho]
  exact hk _ v2 v' w' (hA2.sub (by simp)) r' n' g3 f'
set_option maxHeartbeats 2000000 in
set_option maxRecDepth 100000 in
theorem fget_new {Ch : Nat → Prop} {Stop : Goroutine → World → Prop} {main : Bool} {v w : World} {cb kp rb tb i : Nat} {F : Value} {x : Int} (hx : R1.stI x = 0) (hF : R1.Flds v) (h0 : v.cell? ⟨kp, 0, none⟩ = some (Pt cb 0)) (hid : v.cell? ⟨tb, 1, none⟩ = some (I i)) {a : Act} (hA : Fl 62 [(0, Pt kp 0), (1, Pt tb 0), (2, F), (6, Pt rb 0), (7, I x), (16, I (R1.stI x))] a) (cs : List Frame) (hvw : Rel zn v w) (hn : NoRow Ch v) (hm : Fm tb cb x v)
    (hk : ∀ a v2 v' w', Fl 62 [(0, Pt kp 0), (1, Pt tb 0), (2, F), (6, Pt rb 0)] a → Rel zn v' w' → NoRow Ch v' → Grows v v2 → Fto tb cb (R1.wordI 1 i 0) v2 v' → GoesI Tryd.prog main (DT (ScZ zn) Ch) Stop (G (gTry a (.bool true)) cs) w') :
    GoesI Tryd.prog main (DT (ScZ zn) Ch) Stop (G (gSw a) cs) w := by
  rw [show gSw a = (base 30).at a [.code (.seq (seq1 gS) (.cond (.tmp 33) (.seq (.region 8 gO8 true) .ret) (.seq (seq1 gE) (.cond (.tmp 45) (.seq (.region 10 gO10 true) (seq2 gN)) gW)))), .inBlock 2, .inBlock 1, .inLoop gL, .inBlock 0] by unfold gSw; rw [← eGS]]
  refine goesI_seq (dt_idle _ _) ?_
  refine goesI_plain (z := zn) (wr := true) (L := LT) (I := NoRow Ch) hE fineT noRow_keeps (fun v v' w w' es hi hr ho he => dt_of_z v v' w w' es hi hr ho he) hvw fine_g7 hA.2.1 (by simp [base]) hn (Q := fun a w' => Fl 62 [(33, .bool false), (0, Pt kp 0), (1, Pt tb 0), (2, F), (6, Pt rb 0), (7, I x), (16, I (R1.stI x))] a ∧ w'.heap = v.heap ∧ w'.os = v.os ∧ w'.output = v.output) (fun τ => g7_wp (v := onTape v τ 0) hA (by rw [hx]; rfl)) ?_
  rintro a v1 w1 ⟨hA, q1, q2, q3⟩ r1 n1 -
  have g1 : Grows v v1 := ⟨by rw [q1]; exact Nat.le_refl _, fun b _ => by rw [q1], q2, q3⟩
  refine goesI_cond (dt_idle _ _) (t := false) (hA.at 33 _ (by simp)) ?_
  simp only [if_true, if_false, Bool.false_eq_true]
  have hA : Fl 62 [(0, Pt kp 0), (1, Pt tb 0), (2, F), (6, Pt rb 0), (7, I x), (16, I (R1.stI x))] a := hA.sub (by simp)
  refine goesI_seq (dt_idle _ _) ?_
  refine goesI_plain (z := zn) (wr := true) (L := LT) (I := NoRow Ch) hE fineT noRow_keeps (fun v v' w w' es hi hr ho he => dt_of_z v v' w w' es hi hr ho he) r1 fine_g9 hA.2.1 (by simp [base]) n1 (Q := fun a w' => Fl 62 [(45, .bool true), (0, Pt kp 0), (1, Pt tb 0), (2, F), (6, Pt rb 0), (7, I x), (16, I (R1.stI x))] a ∧ w'.heap = v1.heap ∧ w'.os = v1.os ∧ w'.output = v1.output) (fun τ => g9_wp (v := onTape v1 τ 0) hA (by rw [hx]; rfl)) ?_
  rintro a v2 w2 ⟨hA, q4, q5, q6⟩ r2 n2 -
  have g2 : Grows v v2 := gtrans g1 ⟨by rw [q4]; exact Nat.le_refl _, fun b _ => by rw [q4], q5, q6⟩
  refine goesI_cond (dt_idle _ _) (t := true) (hA.at 45 _ (by simp)) ?_
  simp only [if_true, if_false, Bool.false_eq_true]
  have hA : Fl 62 [(0, Pt kp 0), (1, Pt tb 0), (2, F), (6, Pt rb 0), (7, I x), (16, I (R1.stI x))] a := hA.sub (by simp)
  refine goesI_seq (dt_idle _ _) ?_
  have c1 : v2.cell? ⟨tb, 1, none⟩ = some (I i) := g2.cell hid
  refine g10_pre (main := main) (F := F) (rb := rb) kp tb cb i x (hA.sub (l' := [(0, Pt kp 0), (1, Pt tb 0), (2, F), (6, Pt rb 0), (7, I x)]) (by simp)) _ cs (flds_grows hF g2) (g2.cell h0) c1 r2 n2 (fun v3 w3 a2 o ho hw hA2 r3 n3 g3 => ?_)
  have g4 := gtrans g2 g3
  refine goesI_into (f := 46) (fn := Tryd.f46) (args := #[Pt cb 0, Pt tb 0, I x, I (R1.wordI 1 i 0)]) (dt_idle _ _) ho (hw _) (by simp [base]) (op_at (p := .call { callee := .value (.func 46), args := #[.tmp 50, .tmp 51, .tmp 52, .tmp 55], argTypes := #[101, 48, 3, 3] }) (by kernel_rfl) ho) (by simp only [List.map_toArray, List.map_cons, List.map_nil]; rw [hA2.at 50 (Pt cb 0) (by simp), hA2.at 51 (Pt tb 0) (by simp), hA2.at 52 (I x) (by simp), hA2.at 55 (I (R1.wordI 1 i 0)) (by simp)]) Tryd.func46 (by kernel_rfl) rfl ?_
  refine free14 x (R1.wordI 1 i 0) x _ ho r3 n3 (hm.grows g4) (fun v' w' r' n' f' => ?_) _ rfl
  rw [dst_at (p := some 56) (by kernel_rfl) ho, show effCas x (R1.wordI 1 i 0) x = ((x, R1.wordI 1 i 0), R1.wordI 1 i 0, .bool true) from if_pos rfl]
  rw [show effCas x (R1.wordI 1 i 0) x = ((x, R1.wordI 1 i 0), R1.wordI 1 i 0, .bool true) from if_pos rfl] at f'
  exact hk _ v3 v' w' (hA2.sub (by simp)) r' n' g4 f'
set_option maxHeartbeats 2000000 in
set_option maxRecDepth 100000 in
theorem fkeep_store {Ch : Nat → Prop} {Stop : Goroutine → World → Prop} {main : Bool} {v w : World} {cb kp rb tb bx : Nat} {x y : Int} (h1 : v.cell? ⟨kp, 1, none⟩ = some (Pt cb 0)) (hb : v.cell? ⟨bx, 1, none⟩ = some (I x)) {a : Act} (hA : Fl 29 [(0, Pt kp 0), (1, Pt tb 0), (5, Pt bx 0), (6, Pt rb 0)] a) (cs : List Frame) (hvw : Rel zn v w) (hn : NoRow Ch v) (hm : Fm tb cb y v)
    (hk : ∀ a v2 v' w', Fl 29 [(0, Pt kp 0), (1, Pt tb 0), (5, Pt bx 0), (6, Pt rb 0)] a → Rel zn v' w' → NoRow Ch v' → Grows v v2 → Fto tb cb x v2 v' → GoesI Tryd.prog main (DT (ScZ zn) Ch) Stop (G (kVal a (.tuple #[])) cs) w') :
    GoesI Tryd.prog main (DT (ScZ zn) Ch) Stop (G ((base 49).at a [.code (.seq (.region 3 kO3 true) k4)]) cs) w := by
  refine goesI_seq (dt_idle _ _) ?_
  refine k3_pre (main := main) (rb := rb) kp tb bx cb x hA _ cs h1 hb hvw hn (fun v2 w2 a2 o ho hw hA2 r2 n2 g2 => ?_)
  refine goesI_into (f := 79) (fn := Tryd.f79) (args := #[Pt cb 0, Pt tb 0, I x]) (dt_idle _ _) ho (hw _) (by simp [base]) (op_at (p := .call { callee := .value (.func 79), args := #[.tmp 14, .tmp 15, .tmp 17], argTypes := #[101, 48, 3] }) (by kernel_rfl) ho) (by simp only [List.map_toArray, List.map_cons, List.map_nil]; rw [hA2.at 14 (Pt cb 0) (by simp), hA2.at 15 (Pt tb 0) (by simp), hA2.at 17 (I x) (by simp)]) Tryd.func79 (by kernel_rfl) rfl ?_
  refine free12 x y _ ho r2 n2 (hm.grows g2) (fun v' w' r' n' f' => ?_) _ rfl
  rw [dst_at (p := some 18) (by kernel_rfl) ho]
  exact hk _ v2 v' w' (hA2.sub (by simp)) r' n' g2 f'
set_option maxHeartbeats 2000000 in
set_option maxRecDepth 100000 in
theorem fkeep_word {Ch : Nat → Prop} {Stop : Goroutine → World → Prop} {main : Bool} {v w : World} {cb kp rb tb bx : Nat} {e y : Int} (hF : R1.Flds v) (h0 : v.cell? ⟨kp, 0, none⟩ = some (Pt cb 0)) (hb : v.cell? ⟨bx, 0, none⟩ = some (I e)) {a : Act} (hA : Fl 29 [(0, Pt kp 0), (1, Pt tb 0), (5, Pt bx 0), (6, Pt rb 0)] a) (r0 : Value) (cs : List Frame) (hvw : Rel zn v w) (hn : NoRow Ch v) (hm : Fm tb cb y v)
    (hk : ∀ a v2 v' w', Fl 29 [(0, Pt kp 0), (1, Pt tb 0), (5, Pt bx 0), (6, Pt rb 0)] a → Rel zn v' w' → NoRow Ch v' → Grows v v2 → Fto tb cb (R1.wordI 2 0 e) v2 v' → GoesI Tryd.prog main (DT (ScZ zn) Ch) Stop (G (kWord a (.tuple #[])) cs) w') :
    GoesI Tryd.prog main (DT (ScZ zn) Ch) Stop (G (kVal a r0) cs) w := by
  have hA1 : Fl 29 [(0, Pt kp 0), (1, Pt tb 0), (5, Pt bx 0), (6, Pt rb 0)] (a.put (some 18) r0) := (fl_put hA (by decide) (by simp)).sub (by simp)
  unfold kVal
  generalize a.put (some 18) r0 = a1 at hA1
  refine goesI_regionEnd (dt_idle _ _) ?_
  rw [eK4]
  refine goesI_seq (dt_idle _ _) ?_
  refine k4_pre (main := main) (rb := rb) kp tb bx cb e hA1 _ cs hF h0 hb hvw hn (fun v2 w2 a2 o ho hw hA2 r2 n2 g2 => ?_)
  refine goesI_into (f := 79) (fn := Tryd.f79) (args := #[Pt cb 0, Pt tb 0, I (R1.wordI 2 0 e)]) (dt_idle _ _) ho (hw _) (by simp [base]) (op_at (p := .call { callee := .value (.func 79), args := #[.tmp 22, .tmp 23, .tmp 26], argTypes := #[101, 48, 3] }) (by kernel_rfl) ho) (by simp only [List.map_toArray, List.map_cons, List.map_nil]; rw [hA2.at 22 (Pt cb 0) (by simp), hA2.at 23 (Pt tb 0) (by simp), hA2.at 26 (I (R1.wordI 2 0 e)) (by simp)]) Tryd.func79 (by kernel_rfl) rfl ?_
  refine free12 (R1.wordI 2 0 e) y _ ho r2 n2 (hm.grows g2) (fun v' w' r' n' f' => ?_) _ rfl
  rw [dst_at (p := some 27) (by kernel_rfl) ho]
  exact hk _ v2 v' w' (hA2.sub (by simp)) r' n' g2 f'
end Go.Proofs.YtaofjdoielmobaaDoor.Gen

/- A Play's objects, one by one: a cell more, a row more. -/
set_option linter.unusedSimpArgs false
set_option linter.unusedVariables false
namespace Go.Proofs.YtaofjdoielmobaaDoor.Gen
open Go Go.Lift Go.Conc Go.RowKit

def padd (pk : Nat → Option Obj) (b : Nat) (o : Obj) : Nat → Option Obj := fun x => if x = b then some o else pk x
theorem padd_at (pk : Nat → Option Obj) (b : Nat) (o : Obj) : padd pk b o b = some o := by unfold padd; rw [if_pos rfl]
theorem padd_ne {pk : Nat → Option Obj} {b x : Nat} {o : Obj} (h : x ≠ b) : padd pk b o x = pk x := by unfold padd; rw [if_neg h]
theorem cell_of {v : World} {b j : Nat} {c : Array Value} {t : TypeId} {f : Nat × Nat} {x : Value} (h : v.heap[b]? = some (.cells c t f)) (hj : c[j]? = some x) : v.cell? ⟨b, j, none⟩ = some x := by
  unfold World.cell?
  rw [h]
  exact hj

section
variable {v u u' : World} {S S1 : TS} {K : List (Nat × Int)} {xs : List Int} {pk : Nat → Option Obj}
theorem Objs.start (hm : Mem zn S [] v) (hch : S.chg = []) : Objs v S [] (fun _ => none) S [] v :=
  ⟨Cel.refl hm, rfl, ⟨S.cv, by unfold cellsS; rw [List.length_nil, List.replicate_zero, ← hch]⟩, fun b o h => (by cases h), fun b h => absurd rfl h, fun b o h => (by cases h)⟩
/-- Some of what was there may be read, too. -/
theorem Objs.startG (hm : Mem zn S [] v) (hch : S.chg = []) (hpk : Has pk v) (hf : ∀ b, pk b ≠ none → ¬ Own S [] b ∧ b ≠ S.bk) (hr : ∀ b o, pk b = some o → ∃ c e f, o = .cells c e f) : Objs v S [] pk S [] v :=
  ⟨Cel.refl hm, rfl, ⟨S.cv, by unfold cellsS; rw [List.length_nil, List.replicate_zero, ← hch]⟩, hpk, fun b h => ⟨.inr (hf b h).2, (hf b h).1⟩, hr⟩
theorem Objs.push (h : Objs v S xs pk S1 K u) {c : Array Value} {t : TypeId} (e : u'.heap = u.heap.push (.cells c t)) (e1 : u'.os = u.os) (e2 : u'.output = u.output) : Objs v S xs (padd pk u.heap.size (.cells c t)) S1 K u' := by
  refine ⟨h.cel.push e e1 e2, h.vals, h.st, fun b o hb => ?_, fun b hb => ?_, fun b o hb => ?_⟩
  · by_cases hbu : b = u.heap.size
    · subst hbu
      rw [padd_at] at hb
      cases hb
      rw [e]
      exact Array.getElem?_push_size
    · rw [padd_ne hbu] at hb
      have := h.has b o hb
      have hl := (Array.getElem?_eq_some_iff.1 this).1
      rw [e, Array.getElem?_push, if_neg (by omega)]
      exact this
  · by_cases hbu : b = u.heap.size
    · subst hbu
      exact ⟨.inl h.cel.fr.size, fun ho => by have := h.cel.mem.lt ho; omega⟩
    · rw [padd_ne hbu] at hb
      exact h.new b hb
  · by_cases hbu : b = u.heap.size
    · subst hbu
      rw [padd_at] at hb
      cases hb
      exact ⟨_, _, _, rfl⟩
    · rw [padd_ne hbu] at hb
      exact h.row b o hb
theorem Objs.more (h : Objs v S xs pk S1 K u) {S2 : TS} {K2 : List (Nat × Int)} {ys : List Int} (c : Cel zn S1 K u S2 K2 u') (hv : K2.map (·.2) = ys) (hs : ∃ cv, S2 = cellsS S cv ys.length) : Objs v S ys pk S2 K2 u' := by
  have hl : ∀ b o, pk b = some o → b < u.heap.size := fun b o hb => (Array.getElem?_eq_some_iff.1 (h.has b o hb)).1
  refine ⟨h.cel.trans c, hv, hs, fun b o hb => ?_, fun b hb => ?_, h.row⟩
  · rw [c.fr.block b (hl b o hb) (h.new b (by rw [hb]; simp)).2]
    exact h.has b o hb
  · obtain ⟨o, ho⟩ := Option.ne_none_iff_exists'.1 hb
    refine ⟨(h.new b hb).1, fun ho' => ?_⟩
    rcases c.own b ho' with e | e
    · exact (h.new b hb).2 e
    · have := hl b o ho; omega
/-- cell.New. -/
theorem Objs.cell (h : Objs v S xs pk S1 K u) (x : Int) (hl : xs.length ≤ 1000000) : Calls Tryd.prog 43 #[Pt S.wb 0, I x] u (fun e w' => ∃ cb, e = .returned (Pt cb 0) ∧ u.heap.size ≤ w'.heap.size ∧ ∃ S2, Objs v S (xs ++ [x]) pk S2 (K ++ [(cb, x)]) w') := by
  obtain ⟨cv, rfl⟩ := h.st
  have h10 := (body10 h.cel.mem x (by show (List.replicate xs.length (0 : Int)).length ≤ _; simp; omega)).calls Tryd.func43 rfl
  refine h10.mono ?_
  rintro e w' ⟨r, rfl, cb, cv', rfl, hm1, hf1, hn1⟩
  refine ⟨cb, rfl, hf1.size, _, h.more ⟨hm1, hf1, hn1⟩ (by rw [List.map_append, h.vals]; rfl) ⟨cv', ?_⟩⟩
  unfold celledS cellsS
  simp only [List.length_append, List.length_cons, List.length_nil, Nat.zero_add, List.replicate_succ']
end
end Go.Proofs.YtaofjdoielmobaaDoor.Gen

/- A once of no world, by a free thread: Do, whole. -/
set_option linter.unusedSimpArgs false
set_option linter.unusedVariables false
namespace Go.Proofs.YtaofjdoielmobaaDoor.Gen
open Go Go.Lift Go.Conc Go.RowKit

/-- But for the once's cells and what is new all stays. -/
structure Gx (cw cv : Nat) (v v' : World) : Prop where
  size : v.heap.size ≤ v'.heap.size
  old : ∀ b, b < v.heap.size → b ≠ cw → b ≠ cv → v'.heap[b]? = v.heap[b]?
  os : v'.os = v.os
  output : v'.output = v.output
/-- A once of no world, its word x and its value y, and a free thread. -/
structure FO (ob kp cw cv tb i : Nat) (x y : Int) (v : World) : Prop where
  hob : v.heap[ob]? = some (.cells #[Pt kp 0] 79 (0, 0))
  hkp : v.heap[kp]? = some (.cells #[Pt cw 0, Pt cv 0] 103 (0, 0))
  hcw : v.heap[cw]? = some (.cells #[I 0, I x] 149 (0, 0))
  hcv : v.heap[cv]? = some (.cells #[I 0, I y] 149 (0, 0))
  htb : v.heap[tb]? = some (.cells #[.pointer none, I i, .chan none, I 0, I 0, I 0, I 0] 81 (0, 0))
  fl : R1.Flds v
  ne : cw ≠ cv
  lo : 2 < cw ∧ 2 < cv
section
variable {ob kp cw cv tb i cb rb : Nat} {x y x' y' e a : Int} {v v' u u' : World}
theorem Gx.refl : Gx cw cv v v := ⟨Nat.le_refl _, fun _ _ _ _ => rfl, rfl, rfl⟩
theorem Gx.trans (h : Gx cw cv v u) (k : Gx cw cv u u') : Gx cw cv v u' := ⟨Nat.le_trans h.size k.size, fun b hb h1 h2 => by rw [k.old b (Nat.lt_of_lt_of_le hb h.size) h1 h2, h.old b hb h1 h2], k.os.trans h.os, k.output.trans h.output⟩
theorem Gx.of (g : Grows v v') : Gx cw cv v v' := ⟨g.size, fun b hb _ _ => g.old b hb, g.os, g.output⟩
theorem Gx.fto (f : Fto tb cb x v v') (h : cb = cw ∨ cb = cv) : Gx cw cv v v' := ⟨by rw [f.size]; exact Nat.le_refl _, fun b _ h1 h2 => f.old b (by rcases h with rfl | rfl <;> assumption), f.os, f.out⟩
theorem Gx.ans (h : Gx cw cv v u) (hr : v.heap.size ≤ rb) : Gx cw cv v (ansW u rb e a) := ⟨by rw [ans_size]; exact h.size, fun b hb h1 h2 => by rw [ans_far _ _ _ _ _ (by omega)]; exact h.old b hb h1 h2, h.os, h.output⟩
theorem grows_ans (h : Grows v u) (hr : v.heap.size ≤ rb) : Grows v (ansW u rb e a) := ⟨by rw [ans_size]; exact h.size, fun b hb => by rw [ans_far _ _ _ _ _ (by omega)]; exact h.old b hb, h.os, h.output⟩
theorem grows_of_fto (f : Fto tb cb x v v') (m : Fm tb cb x v) : Grows v v' := ⟨by rw [f.size]; exact Nat.le_refl _, fun b _ => by rw [f.stay m], f.os, f.out⟩
theorem blt {o : Obj} {b : Nat} (h : v.heap[b]? = some o) : b < v.heap.size := (Array.getElem?_eq_some_iff.1 h).1
theorem Gx.at {o : Obj} {b : Nat} (g : Gx cw cv v v') (h : v.heap[b]? = some o) (h1 : b ≠ cw) (h2 : b ≠ cv) : v'.heap[b]? = some o := by rw [g.old b (blt h) h1 h2]; exact h
theorem grows_at {o : Obj} {b : Nat} (g : Grows v v') (h : v.heap[b]? = some o) : v'.heap[b]? = some o := by rw [g.old b (blt h)]; exact h
theorem FO.fmw (h : FO ob kp cw cv tb i x y v) : Fm tb cw x v := ⟨cell_of h.htb rfl, fun e => by have := h.htb; rw [e, h.hcw] at this; simp at this, h.hcw⟩
theorem FO.fmv (h : FO ob kp cw cv tb i x y v) : Fm tb cv y v := ⟨cell_of h.htb rfl, fun e => by have := h.htb; rw [e, h.hcv] at this; simp at this, h.hcv⟩
theorem FO.gx (h : FO ob kp cw cv tb i x y v) (g : Gx cw cv v v') (hw : v'.heap[cw]? = some (.cells #[I 0, I x'] 149 (0, 0))) (hv : v'.heap[cv]? = some (.cells #[I 0, I y'] 149 (0, 0))) : FO ob kp cw cv tb i x' y' v' := by
  have e1 : ob ≠ cw := fun e => by have := h.hob; rw [e, h.hcw] at this; simp at this
  have e2 : ob ≠ cv := fun e => by have := h.hob; rw [e, h.hcv] at this; simp at this
  have e3 : kp ≠ cw := fun e => by have := h.hkp; rw [e, h.hcw] at this; simp at this
  have e4 : kp ≠ cv := fun e => by have := h.hkp; rw [e, h.hcv] at this; simp at this
  have hl := h.lo
  have hc : ∀ b j X, b < 3 → v.cell? ⟨b, j, none⟩ = some X → v'.cell? ⟨b, j, none⟩ = some X := fun b j X hb hX => by
    rw [World.cell?_of_block (w := v) (w' := v') (g.old b (World.block_lt_of_cell? _ _ hX) (by omega) (by omega))]; exact hX
  exact ⟨g.at h.hob e1 e2, g.at h.hkp e3 e4, hw, hv, g.at h.htb h.fmw.ne h.fmv.ne, ⟨hc _ _ _ (by decide) h.fl.s0, hc _ _ _ (by decide) h.fl.s1, hc _ _ _ (by decide) h.fl.c0, hc _ _ _ (by decide) h.fl.c1, hc _ _ _ (by decide) h.fl.w0, hc _ _ _ (by decide) h.fl.w1⟩, h.ne, hl⟩
theorem FO.grows (h : FO ob kp cw cv tb i x y v) (g : Grows v v') : FO ob kp cw cv tb i x y v' := h.gx (Gx.of g) (grows_at g h.hcw) (grows_at g h.hcv)
theorem FO.setw (h : FO ob kp cw cv tb i x y v) (f : Fto tb cw x' v v') : FO ob kp cw cv tb i x' y v' := h.gx (Gx.fto f (.inl rfl)) f.fm.cel (by rw [f.old cv h.ne.symm]; exact h.hcv)
theorem FO.setv (h : FO ob kp cw cv tb i x y v) (f : Fto tb cv y' v v') : FO ob kp cw cv tb i x y' v' := h.gx (Gx.fto f (.inr rfl)) (by rw [f.old cw h.ne]; exact h.hcw) f.fm.cel
theorem FO.back (h0 : FO ob kp cw cv tb i x y v) (g : Gx cw cv v u) (hw : u.heap[cw]? = some (.cells #[I 0, I x'] 149 (0, 0))) (hv : u.heap[cv]? = some (.cells #[I 0, I y'] 149 (0, 0))) (hr : v.heap.size ≤ rb) : FO ob kp cw cv tb i x' y' (ansW u rb e a) :=
  h0.gx (g.ans hr) (by rw [ans_far _ _ _ _ _ (by have := blt h0.hcw; omega)]; exact hw) (by rw [ans_far _ _ _ _ _ (by have := blt h0.hcv; omega)]; exact hv)
theorem ans_at {o : Obj} {b : Nat} (h : u.heap[b]? = some o) (hb : b ≠ rb) : (ansW u rb e a).heap[b]? = some o := by rw [ans_far _ _ _ _ _ hb]; exact h
end

section
variable {Ch : Nat → Prop} {Stop : Goroutine → World → Prop} {main : Bool} {v w : World} {ob kp cw cv tb i : Nat} {x y kd b : Int}
abbrev gAt (kp tb b3 b4 b5 rb : Nat) (x : Int) (a : Act) : Prop := Fl 62 [(0, Pt kp 0), (1, Pt tb 0), (2, .func (.func 31) #[] #[Pt b3 0, Pt b4 0, Pt b5 0]), (6, Pt rb 0), (7, I x), (16, I (R1.stI x))] a
/-- Do is entered, and has looked at the word. -/
theorem fdo_in (hF : FO ob kp cw cv tb i x y v) (cs : List Frame) (hvw : Rel zn v w) (hn : NoRow Ch v)
    (hk : ∀ v' w' (a a1 : Act) (o1 : Oper) (b3 b4 b5 rG rD : Nat), Rel zn v' w' → NoRow Ch v' → Grows v v' → v'.heap[b3]? = some (.cells #[Pt ob 0] 46 (0, 0)) → v'.heap[b4]? = some (.cells #[Pt tb 0] 48 (0, 0)) → v'.heap[b5]? = some (.cells #[I kd, I b] 52 (0, 0)) → v.heap.size ≤ b3 ∧ v.heap.size ≤ b4 ∧ v.heap.size ≤ b5 → v'.heap[rG]? = some zeroA → v'.heap[rD]? = some zeroA → v.heap.size ≤ rD → rD < rG → dO1[6]? = some o1 → o1.dst = some 13 → Fl 14 [(6, Pt rD 0)] a1 → gAt kp tb b3 b4 b5 rG x a →
      GoesI Tryd.prog main (DT (ScZ zn) Ch) Stop (G (gSw a) ((base 19).at a1 (.inRegion dO1 [6, 7] :: [.code .ret]) :: cs)) w') (code : Code) (hc : Tryd.f19.body = some code) :
    GoesI Tryd.prog main (DT (ScZ zn) Ch) Stop (G ((base 19).at { tmps := #[Pt ob 0, Pt tb 0, .agg #[I kd, I b]] ++ Array.replicate 11 undef, defers := [] } [.code code]) cs) w := by
  refine do_in (cell_of hF.hob rfl) _ hvw hn (fun a1 v1 w1 o1 hA1 r1 n1 g1 e3 e4 e5 e6 ho1 hd1 code1 hc1 => ?_) code hc
  refine get_in _ r1 n1 (fun a2 v2 w2 hA2 r2 n2 g2 hz2 => ?_) code1 hc1
  have F2 := (hF.grows g1).grows g2
  refine fget_look (cell_of F2.hkp rfl) hA2 _ r2 n2 F2.fmw (fun a3 v3 w3 hA3 r3 n3 f3 => ?_)
  have g3 := grows_of_fto f3 F2.fmw
  have F3 := F2.grows g3
  refine get_st F3.fl hA3 _ r3 n3 (fun a4 v4 w4 hA4 r4 n4 g4 => ?_)
  have g24 := gtrans g3 g4
  have g14 := gtrans g2 g24
  have hs := blt e6
  exact hk v4 w4 a4 a1 o1 v.heap.size (v.heap.size + 1) (v.heap.size + 2) v1.heap.size (v.heap.size + 3) r4 n4 (gtrans g1 g14) (grows_at g14 e3) (grows_at g14 e4) (grows_at g14 e5) ⟨by omega, by omega, by omega⟩ (grows_at g24 hz2) (grows_at g14 e6) (by omega) hs ho1 hd1 hA1 hA4

/-- Do, where it is done. -/
theorem fdo_done (hF : FO ob kp cw cv tb i x y v) (hx : R1.stI x = 2) {bc : Frame} {ac : Act} {ops : Array Oper} {q : Nat} {rest : List Nat} {oc : Oper} {k0 : List Item} (cs : List Frame) (hoc : ops[q]? = some oc) (hvw : Rel zn v w) (hn : NoRow Ch v)
    (hk : ∀ v' w', Rel zn v' w' → NoRow Ch v' → Grows v v' → GoesI Tryd.prog main (DT (ScZ zn) Ch) Stop (G (bc.at (ac.put oc.dst (.agg #[I (R1.codI x), I y])) (.inRegion ops rest :: k0)) cs) w') (code : Code) (hc : Tryd.f19.body = some code) :
    GoesI Tryd.prog main (DT (ScZ zn) Ch) Stop (G ((base 19).at { tmps := #[Pt ob 0, Pt tb 0, .agg #[I kd, I b]] ++ Array.replicate 11 undef, defers := [] } [.code code]) (bc.at ac (.inRegion ops (q :: rest) :: k0) :: cs)) w := by
  refine fdo_in hF _ hvw hn (fun v1 w1 a a1 o1 b3 b4 b5 rG rD r1 n1 g1 e3 e4 e5 _ hG hD l1 l2 ho1 hd1 hA1 hA => ?_) code hc
  have F1 := hF.grows g1
  refine fget_done hx F1.fl (cell_of F1.hkp rfl) hA _ r1 n1 F1.fmv (fun a2 v2 v3 w3 hA2 r3 n3 g2 f3 => ?_)
  have g3 := gtrans g2 (grows_of_fto f3 (F1.grows g2).fmv)
  refine get_val (bc := base 19) (ac := a1) (ops := dO1) (q := 6) (rest := [7]) (oc := o1) (k0 := [.code .ret]) hA2 _ ho1 (grows_at g3 hG) r3 n3 (fun w4 r4 n4 => ?_)
  rw [hd1]
  exact do_back hA1 cs hoc (ans_at (grows_at g3 hD) (by omega)) r4 n4 (fun w5 r5 n5 => hk _ w5 r5 n5 (grows_ans (grows_ans (gtrans g1 g3) (by omega)) l1))

/-- Do, where the thread itself is at it. -/
theorem fdo_again (hF : FO ob kp cw cv tb i x y v) (hx2 : R1.stI x ≠ 2) (hx0 : R1.stI x ≠ 0) (hwho : R1.whoI x = i) {bc : Frame} {ac : Act} {ops : Array Oper} {q : Nat} {rest : List Nat} {oc : Oper} {k0 : List Item} (cs : List Frame) (hoc : ops[q]? = some oc) (hvw : Rel zn v w) (hn : NoRow Ch v)
    (hk : ∀ v' w', Rel zn v' w' → NoRow Ch v' → Grows v v' → GoesI Tryd.prog main (DT (ScZ zn) Ch) Stop (G (bc.at (ac.put oc.dst (.agg #[I 72, I 0])) (.inRegion ops rest :: k0)) cs) w') (code : Code) (hc : Tryd.f19.body = some code) :
    GoesI Tryd.prog main (DT (ScZ zn) Ch) Stop (G ((base 19).at { tmps := #[Pt ob 0, Pt tb 0, .agg #[I kd, I b]] ++ Array.replicate 11 undef, defers := [] } [.code code]) (bc.at ac (.inRegion ops (q :: rest) :: k0) :: cs)) w := by
  refine fdo_in hF _ hvw hn (fun v1 w1 a a1 o1 b3 b4 b5 rG rD r1 n1 g1 e3 e4 e5 _ hG hD l1 l2 ho1 hd1 hA1 hA => ?_) code hc
  have F1 := hF.grows g1
  refine get_again (bc := base 19) (ac := a1) (ops := dO1) (q := 6) (rest := [7]) (oc := o1) (k0 := [.code .ret]) hx2 hx0 hwho F1.fl (cell_of F1.htb rfl) hA _ ho1 hG r1 n1 (fun v2 w2 r2 n2 g2 w4 r4 n4 => ?_)
  rw [hd1]
  exact do_back hA1 cs hoc (ans_at (grows_at g2 hD) (by omega)) r4 n4 (fun w5 r5 n5 => hk _ w5 r5 n5 (grows_ans (grows_ans (gtrans g1 g2) (by omega)) l1))

/-- What an act comes to, alone. -/
def cmF (kd b : Int) : Int × Int := if kd = 0 then (0, b) else if kd = 1 then (70, b) else if kd = 2 then (71, b) else if kd = 3 then (70, 72) else (1, 0)
theorem cmF_small (kd b : Int) : (0 ≤ (cmF kd b).1 ∧ (cmF kd b).1 < 1048576) ∧ (cmF kd b).1 ≠ 4 := by
  unfold cmF
  repeat' split
  all_goals simp

/-- The act is carried out, by a thread that has said so. -/
theorem fcome (hF : FO ob kp cw cv tb i x y v) (hx2 : R1.stI x ≠ 2) (hx0 : R1.stI x ≠ 0) (hwho : R1.whoI x = i) {bc : Frame} {ac : Act} {ops : Array Oper} {q : Nat} {rest : List Nat} {oc : Oper} {k0 : List Item} (cs : List Frame) (hoc : ops[q]? = some oc) (hvw : Rel zn v w) (hn : NoRow Ch v)
    (hk : ∀ v' w', Rel zn v' w' → NoRow Ch v' → Grows v v' → GoesI Tryd.prog main (DT (ScZ zn) Ch) Stop (G (bc.at (ac.put oc.dst (.agg #[I (cmF kd b).1, I (cmF kd b).2])) (.inRegion ops rest :: k0)) cs) w') (code : Code) (hc : Tryd.f32.body = some code) :
    GoesI Tryd.prog main (DT (ScZ zn) Ch) Stop (G ((base 32).at { tmps := #[Pt ob 0, Pt tb 0, .agg #[I kd, I b]] ++ Array.replicate 31 undef, defers := [] } [.code code]) (bc.at ac (.inRegion ops (q :: rest) :: k0) :: cs)) w := by
  unfold cmF at hk
  by_cases h0 : kd = 0
  · rw [if_pos h0] at hk
    exact come0 h0 cs hoc hvw hn hk code hc
  rw [if_neg h0] at hk
  by_cases h1 : kd = 1
  · rw [if_pos h1] at hk
    exact come1 h1 cs hoc hvw hn hk code hc
  rw [if_neg h1] at hk
  by_cases h2 : kd = 2
  · rw [if_pos h2] at hk
    exact come2 h2 cs hoc hvw hn hk code hc
  rw [if_neg h2] at hk
  by_cases h3 : kd = 3
  · rw [if_pos h3] at hk
    refine come3f h3 cs hoc hvw hn (fun v1 w1 bd ad od qd rd oe kd r1 n1 g1 hz1 hoe hback code2 hc2 => ?_) code hc
    exact fdo_again (hF.grows g1) hx2 hx0 hwho _ hoe r1 n1 (fun v2 w2 r2 n2 g2 => hback v2 w2 (72, 0) r2 n2 (grows_at g2 hz1) (fun w3 r3 n3 => hk _ w3 r3 n3 (grows_ans (gtrans g1 g2) (by omega)))) code2 hc2
  · rw [if_neg h3] at hk
    exact come4 h0 h1 h2 h3 cs hoc hvw hn hk code hc

/-- Do, where nothing was done yet. -/
theorem fdo_new (hF : FO ob kp cw cv tb i x y v) (hx : R1.stI x = 0) (hi : i < 256) {bc : Frame} {ac : Act} {ops : Array Oper} {q : Nat} {rest : List Nat} {oc : Oper} {k0 : List Item} (cs : List Frame) (hoc : ops[q]? = some oc) (hvw : Rel zn v w) (hn : NoRow Ch v)
    (hk : ∀ v' w', Rel zn v' w' → NoRow Ch v' → Gx cw cv v v' → FO ob kp cw cv tb i (R1.wordI 2 0 (cmF kd b).1) (cmF kd b).2 v' → GoesI Tryd.prog main (DT (ScZ zn) Ch) Stop (G (bc.at (ac.put oc.dst (.agg #[I (cmF kd b).1, I (cmF kd b).2])) (.inRegion ops rest :: k0)) cs) w') (code : Code) (hc : Tryd.f19.body = some code) :
    GoesI Tryd.prog main (DT (ScZ zn) Ch) Stop (G ((base 19).at { tmps := #[Pt ob 0, Pt tb 0, .agg #[I kd, I b]] ++ Array.replicate 11 undef, defers := [] } [.code code]) (bc.at ac (.inRegion ops (q :: rest) :: k0) :: cs)) w := by
  have lw := blt hF.hcw
  have lv := blt hF.hcv
  refine fdo_in hF _ hvw hn (fun v1 w1 a a1 o1 b3 b4 b5 rG rD r1 n1 g1 e3 e4 e5 lb hG hD l1 l2 ho1 hd1 hA1 hA => ?_) code hc
  have F1 := hF.grows g1
  have s1 := g1.size
  refine fget_new hx F1.fl (cell_of F1.hkp rfl) (cell_of F1.htb rfl) hA _ r1 n1 F1.fmw (fun a2 v2 v3 w3 hA2 r3 n3 g2 f3 => ?_)
  have F3 := (F1.grows g2).setw f3
  have x3 : Gx cw cv v1 v3 := (Gx.of g2).trans (Gx.fto f3 (.inl rfl))
  refine get_won hA2 _ (fun a4 o4 hA4 ho4 hd4 code4 hc4 => ?_)
  refine clo_in (x3.at e3 (by omega) (by omega)) (x3.at e4 (by omega) (by omega)) (x3.at e5 (by omega) (by omega)) _ r3 n3 (fun a5 v5 w5 o5 hA5 r5 n5 g5 hz5 ho5 hd5 code5 hc5 => ?_) code4 hc4
  have F5 := F3.grows g5
  have l3 := x3.size
  have hst : R1.stI (R1.wordI 1 i 0) = 1 := R1.st_word (by decide) (by decide)
  refine fcome (bc := base 31) (ac := a5) (ops := cO1) (q := 3) (rest := [4]) (oc := o5) (k0 := [.code .ret]) F5 (by rw [hst]; decide) (by rw [hst]; decide) (R1.who_word (by decide) (by decide) (by omega) (by omega) (by decide) (by decide)) _ ho5 r5 n5 (fun v6 w6 r6 n6 g6 => ?_) code5 hc5
  obtain ⟨hsm, hs4⟩ := cmF_small kd b
  generalize hce : (cmF kd b).1 = e at hsm hs4 hk ⊢
  generalize hcy : (cmF kd b).2 = z at hk ⊢
  rw [hd5]
  refine clo_back (bc := base 30) (ac := a4) (ops := gO11) (q := 3) (rest := [4, 5]) (oc := o4) (k0 := [.code .ret, .inBlock 2, .inBlock 1, .inLoop gL, .inBlock 0]) hA5 _ ho4 (grows_at g6 hz5) r6 n6 (fun w7 r7 n7 => ?_)
  rw [hd4]
  have g37 : Grows v3 (ansW v6 v3.heap.size e z) := grows_ans (gtrans g5 g6) (Nat.le_refl _)
  generalize hv7 : ansW v6 v3.heap.size e z = v7 at r7 n7 g37
  have F7 := F3.grows g37
  have x7 : Gx cw cv v1 v7 := x3.trans (Gx.of g37)
  refine get_came hA4 _ (fun a8 o8 hA8 ho8 hd8 code8 hc8 => ?_)
  refine keep_in hs4 _ r7 n7 (fun a9 v9 w9 hA9 r9 n9 g9 hbx hrk => ?_) code8 hc8
  have F9 := F7.grows g9
  have l7 := x7.size
  have l9 := blt hrk
  refine fkeep_store (cell_of F9.hkp rfl) (cell_of hbx rfl) hA9 _ r9 n9 F9.fmv (fun a10 v10 v11 w11 hA10 r11 n11 g10 f11 => ?_)
  have F11 := (F9.grows g10).setv f11
  have x11 : Gx cw cv v9 v11 := (Gx.of g10).trans (Gx.fto f11 (.inr rfl))
  refine fkeep_word F11.fl (cell_of F11.hkp rfl) (cell_of (x11.at hbx (by omega) (by omega)) rfl) hA10 _ _ r11 n11 F11.fmw (fun a12 v12 v13 w13 hA12 r13 n13 g12 f13 => ?_)
  have F13 := (F11.grows g12).setw f13
  have x13 : Gx cw cv v9 v13 := x11.trans ((Gx.of g12).trans (Gx.fto f13 (.inl rfl)))
  have y13 : Gx cw cv v1 v13 := x7.trans ((Gx.of g9).trans x13)
  refine keep_out (bc := base 30) (ac := a8) (ops := gO11) (q := 4) (rest := [5]) (oc := o8) (k0 := [.code .ret, .inBlock 2, .inBlock 1, .inLoop gL, .inBlock 0]) hA12 _ _ ho8 (x13.at hbx (by omega) (by omega)) (x13.at hrk (by omega) (by omega)) r13 n13 (fun w14 r14 n14 => ?_)
  rw [hd8]
  have lG := blt hG
  refine get_kept (bc := base 19) (ac := a1) (ops := dO1) (q := 6) (rest := [7]) (oc := o1) (k0 := [.code .ret]) hA8 _ ho1 (ans_at (y13.at hG (by omega) (by omega)) (by omega)) r14 n14 (fun w15 r15 n15 => ?_)
  rw [hd1]
  refine do_back hA1 cs hoc (ans_at (ans_at (y13.at hD (by omega) (by omega)) (by omega)) (by omega)) r15 n15 (fun w16 r16 n16 => hk _ w16 r16 n16 ?_ ?_)
  · exact (((((Gx.of g1).trans y13)).ans (by omega)).ans (by omega)).ans l1
  · exact hF.back ((((Gx.of g1).trans y13).ans (by omega)).ans (by omega)) (ans_at (ans_at F13.hcw (by omega)) (by omega)) (ans_at (ans_at F13.hcv (by omega)) (by omega)) l1
end
end Go.Proofs.YtaofjdoielmobaaDoor.Gen

/- A law's last stretch: a lone walk to its return; and its end. -/
set_option linter.unusedSimpArgs false
set_option linter.unusedVariables false
namespace Go.Proofs.YtaofjdoielmobaaDoor.Gen
open Go Go.Lift Go.Conc Go.RowKit

/-- Code that returns, walked alone. -/
theorem goesI_retZ {Ch : Nat → Prop} {Stop : Goroutine → World → Prop} {main : Bool} {f : FuncId} {c : Code} {act : Act} {more : List Item} {cs : List Frame} {v w : World} {Q : Act → World → Prop} (hvw : Rel zn v w) (hn : NoRow Ch v) (hc : fineCode Tryd.prog true LV c) (ha : act.defers = [])
    (hwp : ∀ τ, c.wp Tryd.prog (fun e a w' => e = .ret ∧ Q a w') act (onTape v τ 0))
    (h : ∀ a' v' w' todo, Q a' v' → a'.defers = [] → Rel zn v' w' → NoRow Ch v' → GoesI Tryd.prog main (DT (ScZ zn) Ch) Stop (G { (base f).at a' todo with mode := .returning } cs) w') :
    GoesI Tryd.prog main (DT (ScZ zn) Ch) Stop (G ((base f).at act (.code c :: more)) cs) w := by
  have hfin := lift_code (P := Tryd.prog) (z := zn) (wr := true) (L := LV) (D := DT (ScZ zn) Ch) (I := NoRow Ch) (main := main) (b := base f) (k := more) (cs := cs) hE fineV noRow_keeps (fun v v' w w' es hi hr ho he => dt_of_z v v' w w' es hi hr ho he) hvw hc ha (by simp [base]) hn
    (Q := fun e a w' => e = .ret ∧ Q a w') hwp (fun e a w hq => .inr hq.1)
  refine hfin.then ?_
  rintro g w' ⟨a', v', hr, hiv, hd, ⟨⟨hq, _⟩, _⟩ | ⟨⟨_, hQ⟩, todo, rfl⟩⟩
  · cases hq
  · exact h a' v' w' todo hQ hd hr hiv

theorem _root_.Go.Proofs.YtaofjdoielmobaaDoor.Grows.toAt {W v w : World} (h : Grows W v) (hr : Rel zn v w) (d : Nat) : Grows W (w.at d) := by
  have e : (w.at d).heap = v.heap := hr.eq
  exact ⟨by rw [e]; exact h.size, fun b hb => by rw [e]; exact h.old b hb, hr.os.trans h.os, hr.output.trans h.output⟩
theorem _root_.Go.Proofs.YtaofjdoielmobaaDoor.Grows.andThen {W v w : World} (h : Grows W v) (k : Grows v w) : Grows W w := ⟨Nat.le_trans h.size k.size, fun b hb => by rw [k.old b (by have := h.size; omega), h.old b hb], k.os.trans h.os, k.output.trans h.output⟩
def PostT (W : World) (r : Value) (w' : World) : Prop := r = .bool true ∧ Grows W w'
end Go.Proofs.YtaofjdoielmobaaDoor.Gen
