/- OnceAlone holds, as a card tied to the program's text: a once of no world, asked by one free thread with any list of acts, carries out the first one alone and tells all of them what it came to; no condition besides the sizes that the statement itself names. Part 33 of 35. (Joined, by program, of: OnY, OnY2, SamA, GPts, OnAw1.) -/
import Derived.Test.YtaofjdoielmobaaDoorOnceAlone18
import Derived.Test.YtaofjdoielmobaaDoorOnceAlone19
import Derived.Test.YtaofjdoielmobaaDoorOnceAlone23
import Derived.Test.YtaofjdoielmobaaDoorOnceAlone27
import Derived.Test.YtaofjdoielmobaaDoorOnceAlone32
import Derived.Deep.RegionHeld3
import Derived.BigQuiet
import Derived.KernelRfl

/- once.Play (9), main alone: from its entry to its call of play.Run, and behind it. (Made by wip/tools/mko.py.) -/
set_option linter.unusedSimpArgs false
set_option linter.unusedVariables false
namespace Go.Proofs.YtaofjdoielmobaaDoor.Gen
open Go Go.Lift Go.Conc Go.RowKit

noncomputable def yB : Code := Tryd.f9.body.getD .skip
noncomputable def y0 : Code := seq1 yB
noncomputable def y1 : Code := seq1 (seq2 yB)
noncomputable def y2 : Code := seq1 (seq2 (seq2 yB))
noncomputable def y3 : Code := seq1 (seq2 (seq2 (seq2 yB)))
noncomputable def y4 : Code := seq1 (seq2 (seq2 (seq2 (seq2 yB))))
noncomputable def yR : Code := seq2 (seq2 (seq2 (seq2 (seq2 yB))))
theorem eYB : yB = .seq y0 (.seq y1 (.seq y2 (.seq y3 (.seq y4 yR)))) := by kernel_rfl
theorem fine_y0 : fineCode Tryd.prog true LV y0 := fineCode_askS callV extT (by kernel_rfl)
theorem fine_y1 : fineCode Tryd.prog true LV y1 := fineCode_askS callV extT (by kernel_rfl)
theorem fine_y2 : fineCode Tryd.prog true LV y2 := fineCode_askS callV extT (by kernel_rfl)
theorem fine_y3 : fineCode Tryd.prog true LV y3 := fineCode_askS callV extT (by kernel_rfl)
theorem fine_y4 : fineCode Tryd.prog true LV y4 := fineCode_askS callV extT (by kernel_rfl)
section
variable {S : TS} {v : World} {a : Act} {n cap mb xb : Nat} {p : Option Addr} {m : Int}
set_option maxHeartbeats 2000000 in
set_option maxRecDepth 100000 in
theorem y0_wp (hA : Fl 40 [(0, Pt S.wb 0), (1, I m), (2, .slice p n cap)] a) : y0.wp Tryd.prog (fun e a w' => e = .normal ∧ Fl 40 [(0, Pt S.wb 0), (2, .slice p n cap), (4, Pt v.heap.size 0), (6, .slice none 0 0), (7, I 0)] a ∧ w'.heap = v.heap.push (.cells #[I m] 3) ∧ w'.os = v.os ∧ w'.output = v.output) a v := by
  obtain ⟨hsz, hd, hpp⟩ := hA
  obtain ⟨u, rfl, hg⟩ := litN hsz hd
  have u0 := (hg 0).symm.trans (hpp (0, Pt S.wb 0) (by simp))
  have u1 := (hg 1).symm.trans (hpp (1, I m) (by simp))
  have u2 := (hg 2).symm.trans (hpp (2, .slice p n cap) (by simp))
  clear hg hpp hsz hd
  unfold y0 yB Tryd.f9 seq1
  simp only [Option.getD_some, lits, Nat.reduceAdd, u0, u1, u2]
  clear u0 u1 u2
  go_wp2_with fail
  exact ⟨⟨rfl, rfl, by
    intro p hp
    simp only [List.mem_cons, List.not_mem_nil, or_false] at hp
    rcases hp with rfl | rfl | rfl | rfl | rfl <;> rfl⟩, rfl, rfl, rfl⟩
set_option maxHeartbeats 2000000 in
set_option maxRecDepth 100000 in
theorem y1_yes (h : Rep zn S v) (pc : Nat → Option Addr) (ln cp : Nat → Nat) (hs : ∀ k, k < n → ∃ sb so, p = some ⟨sb, so, none⟩ ∧ v.cell? ⟨sb, so + k, none⟩ = some (.slice (pc k) (ln k) (cp k))) (hln : ∀ k, k < n → ln k ≤ 64) (hn : 0 < n ∧ n ≤ 8) (hr : S.ran = false) (hA : Fl 40 [(0, Pt S.wb 0), (2, .slice p n cap), (4, Pt mb 0), (6, .slice none 0 0), (7, I 0)] a) :
    y1.wp Tryd.prog (fun e a w' => e = .normal ∧ Fl 40 [(0, Pt S.wb 0), (2, .slice p n cap), (4, Pt mb 0), (6, .slice none 0 0), (7, I 0)] a ∧ w'.heap = v.heap ∧ w'.os = v.os ∧ w'.output = v.output) a v := by
  have h19 := (body19 h p n cap (by omega) pc ln cp hs).calls Tryd.func23 rfl
  have he : checkE n S.ran = 0 := by unfold checkE; rw [if_neg (by rw [hr]; rintro (h | h | h) <;> first | omega | cases h)]
  have H19 : Hid (Calls Tryd.prog 23 #[Pt S.wb 0, .slice p n cap] v (fun e w' => e = .returned (I 0) ∧ w' = v)) := ⟨h19.mono (by
    rintro e w' ⟨r, rfl, rfl, ⟨⟨k, hk, h1⟩, _⟩ | ⟨_, rfl⟩⟩
    · exact absurd (hln k hk) (by omega)
    · rw [he]; exact ⟨rfl, rfl⟩)⟩
  clear h19 h hs hln hn hr he
  obtain ⟨hsz, hd, hpp⟩ := hA
  obtain ⟨u, rfl, hg⟩ := litN hsz hd
  have u0 := (hg 0).symm.trans (hpp (0, Pt S.wb 0) (by simp))
  have u2 := (hg 2).symm.trans (hpp (2, .slice p n cap) (by simp))
  have u4 := (hg 4).symm.trans (hpp (4, Pt mb 0) (by simp))
  have u6 := (hg 6).symm.trans (hpp (6, .slice none 0 0) (by simp))
  have u7 := (hg 7).symm.trans (hpp (7, I 0) (by simp))
  clear hg hpp hsz hd
  unfold y1 yB Tryd.f9 seq1 seq2
  simp only [Option.getD_some, lits, Nat.reduceAdd, u0, u2, u4, u6, u7]
  clear u0 u2 u4 u6 u7
  go_wp2_with (first
    | (go_at_call 23; refine H19.out.mono ?_; rintro e w1 ⟨rfl, rfl⟩))
  first
    | exact ⟨rfl, rfl, by
        intro p hp
        simp only [List.mem_cons, List.not_mem_nil, or_false] at hp
        rcases hp with rfl | rfl | rfl | rfl | rfl <;> rfl⟩
    | exact ⟨⟨rfl, rfl, by
        intro p hp
        simp only [List.mem_cons, List.not_mem_nil, or_false] at hp
        rcases hp with rfl | rfl | rfl | rfl | rfl <;> rfl⟩, rfl, rfl, rfl⟩
set_option maxHeartbeats 2000000 in
set_option maxRecDepth 100000 in
theorem y2_yes (h1 : 1 ≤ m) (h2 : m ≤ 1000) (hmb : v.cell? ⟨mb, 0, none⟩ = some (I m)) (hA : Fl 40 [(0, Pt S.wb 0), (2, .slice p n cap), (4, Pt mb 0), (6, .slice none 0 0), (7, I 0)] a) : y2.wp Tryd.prog (fun e a w' => e = .normal ∧ Fl 40 [(0, Pt S.wb 0), (2, .slice p n cap), (4, Pt mb 0), (6, .slice none 0 0), (7, I 0)] a ∧ w'.heap = v.heap ∧ w'.os = v.os ∧ w'.output = v.output) a v := by
  have g1 : decide (m < 1) = false := decide_eq_false (by omega)
  have g2 : decide (m > 1000) = false := decide_eq_false (by omega)
  have g3 : ¬ m < 1 := by omega
  have g4 : ¬ m > 1000 := by omega
  obtain ⟨hsz, hd, hpp⟩ := hA
  obtain ⟨u, rfl, hg⟩ := litN hsz hd
  have u0 := (hg 0).symm.trans (hpp (0, Pt S.wb 0) (by simp))
  have u2 := (hg 2).symm.trans (hpp (2, .slice p n cap) (by simp))
  have u4 := (hg 4).symm.trans (hpp (4, Pt mb 0) (by simp))
  have u6 := (hg 6).symm.trans (hpp (6, .slice none 0 0) (by simp))
  have u7 := (hg 7).symm.trans (hpp (7, I 0) (by simp))
  clear hg hpp hsz hd
  unfold y2 yB Tryd.f9 seq1 seq2
  simp only [Option.getD_some, lits, Nat.reduceAdd, u0, u2, u4, u6, u7]
  clear u0 u2 u4 u6 u7
  go_wp2_with fail
  first
    | exact ⟨rfl, rfl, by
        intro p hp
        simp only [List.mem_cons, List.not_mem_nil, or_false] at hp
        rcases hp with rfl | rfl | rfl | rfl | rfl <;> rfl⟩
    | exact ⟨⟨rfl, rfl, by
        intro p hp
        simp only [List.mem_cons, List.not_mem_nil, or_false] at hp
        rcases hp with rfl | rfl | rfl | rfl | rfl <;> rfl⟩, rfl, rfl, rfl⟩
end
theorem info46 : (Tryd.prog.info? 46).map (fun i => (i.zero, i.size, i.bytes)) = some (some (.pointer none), 1, 8) := by kernel_rfl
theorem make_onces (n : Nat) (hn : n ≤ 1048576) (w : World) :
    (Instr.makeSlice 68 (.int .i64 (n : Int)) (.int .i64 (n : Int))).run Tryd.prog w = .ok (.slice (some ⟨w.heap.size, 0, none⟩) n n) (w.alloc (.cells (madeCells #[.pointer none] n) 46)) := by
  cases hq : Tryd.prog.info? 46 with
  | none => have := info46; rw [hq] at this; cases this
  | some i =>
    have hi := info46
    rw [hq] at hi
    simp only [Option.map_some, Option.some.injEq, Prod.mk.injEq] at hi
    obtain ⟨hz, hs, hb⟩ := hi
    have := run_make (P := Tryd.prog) w 68 46 i _ Tryd.underlying68 hq hz .i64 .i64 (n : Int) (n : Int) (by omega) (by omega) (by rw [hb]; omega) (by omega)
    rw [hs] at this
    rw [this]
    simp [Value.cells]
/-- The row of onces, of which the first are there. -/
def rowQ (s : Nat) (obs : List Nat) : List Value := (List.range s).map fun j => match obs[j]? with | some b => Pt b 0 | none => .pointer none
def objQ (s : Nat) (obs : List Nat) : Obj := .cells (rowQ s obs).toArray 46 (0, 0)
theorem made_rowQ (s : Nat) : (.cells (madeCells #[.pointer none] s) 46 : Obj) = objQ s [] := by
  unfold objQ rowQ
  congr 1
  apply Array.ext_getElem?
  intro i
  by_cases h : i < s
  · simp [madeCells, h, Nat.mod_one]
  · simp [madeCells, h]
theorem rowQ_next {s : Nat} {obs : List Nat} (c : Nat) (hK : obs.length < s) : (rowQ s obs).toArray.setIfInBounds obs.length (Pt c 0) = (rowQ s (obs ++ [c])).toArray := by
  apply Array.ext_getElem?
  intro i
  unfold rowQ
  rw [Array.getElem?_setIfInBounds]
  by_cases h : obs.length = i
  · subst h
    simp [hK]
  · rw [if_neg h]
    by_cases hi : i < s
    · by_cases hlt : i < obs.length
      · have e2 : (obs ++ [c])[i]? = obs[i]? := List.getElem?_append_left hlt
        simp [hi, e2]
      · have h1 : obs[i]? = none := List.getElem?_eq_none (by omega)
        have h2 : (obs ++ [c])[i]? = none := List.getElem?_eq_none (by simp; omega)
        simp [hi, h1, h2]
    · simp [hi]
theorem objQ_at {s k : Nat} {obs : List Nat} {w : World} {N : Nat} (h : w.heap[N]? = some (objQ s obs)) (hK : obs.length = k) (hk : k < s) : w.cell? ⟨N, k, none⟩ = some (.pointer none) ∧ w.frozen? ⟨N, k, none⟩ = false := by
  constructor
  · refine cell_of h ?_
    unfold rowQ
    have : obs[k]? = none := List.getElem?_eq_none (by omega)
    simp [hk, this]
  · simp only [World.frozen?, h, objQ]
    simp
/-- The onces are made up to k. -/
structure OI (v : World) (S : TS) (m k sb xb mb : Nat) (pk : Nat → Option Obj) (S1 : TS) (K : List (Nat × Int)) (u : World) : Prop where
  objs : Objs v S (List.replicate (2 * k) 0) pk S1 K u
  klen : K.length = 2 * k
  fl : ∀ w, (∀ b o, b < v.heap.size → pk b = some o → w.heap[b]? = some o) → R1.Flds w
  var : pk xb = some (.cells #[.slice (some ⟨sb, 0, none⟩) m m] 68 (0, 0))
  many : pk mb = some (.cells #[I m] 3 (0, 0))
  low : v.heap.size ≤ sb
  row : ∃ obs : List Nat, obs.length = k ∧ pk sb = some (objQ m obs) ∧ ∀ o b, obs[o]? = some b → ∃ kp cw cv, pk b = some (.cells #[Pt kp 0] 79 (0, 0)) ∧ pk kp = some (.cells #[Pt cw 0, Pt cv 0] 103 (0, 0)) ∧ K[2 * o]? = some (cw, 0) ∧ K[2 * o + 1]? = some (cv, 0)
theorem OI.same {v : World} {S : TS} {m k sb xb mb : Nat} {pk : Nat → Option Obj} {S1 : TS} {K : List (Nat × Int)} {u u' : World} (h : OI v S m k sb xb mb pk S1 K u) (e : u'.heap = u.heap) (e1 : u'.os = u.os) (e2 : u'.output = u.output) : OI v S m k sb xb mb pk S1 K u' := ⟨h.objs.same e e1 e2, h.klen, h.fl, h.var, h.many, h.low, h.row⟩
/-- One once more. -/
theorem OI.next {v : World} {S : TS} {m k sb xb mb : Nat} {pk : Nat → Option Obj} {S1 S2 : TS} {K : List (Nat × Int)} {u w1 : World} (h : OI v S m k sb xb mb pk S1 K u) (hk : k < m) {cw cv ob : Nat} (ho : u.heap.size < ob) (o2 : Objs v S (List.replicate (2 * k) 0 ++ [0] ++ [0]) (padd (padd pk u.heap.size (.cells #[Pt cw 0, Pt cv 0] 103 (0, 0))) ob (.cells #[Pt u.heap.size 0] 79 (0, 0))) S2 (K ++ [(cw, 0)] ++ [(cv, 0)]) w1) : ∃ pk', OI v S m (k + 1) sb xb mb pk' S2 (K ++ [(cw, 0)] ++ [(cv, 0)]) (w1.setCell ⟨sb, k, none⟩ (Pt ob 0)) := by
  have lt : ∀ b o, pk b = some o → b < u.heap.size := fun b o hb => (Array.getElem?_eq_some_iff.1 (h.objs.has b o hb)).1
  obtain ⟨obs, hl, hrow, hobs⟩ := h.row
  have hsb := lt _ _ hrow
  let pk1 := padd (padd pk u.heap.size (.cells #[Pt cw 0, Pt cv 0] 103 (0, 0))) ob (.cells #[Pt u.heap.size 0] 79 (0, 0))
  have old : ∀ b o, pk b = some o → pk1 b = some o := fun b o hb => by
    have := lt b o hb
    show padd (padd pk _ _) _ _ b = _
    rw [padd_ne (by omega), padd_ne (by omega)]
    exact hb
  have hN : w1.heap[sb]? = some (objQ m obs) := o2.has sb _ (old _ _ hrow)
  have hrow2 : (w1.setCell ⟨sb, k, none⟩ (Pt ob 0)).heap[sb]? = some (objQ m (obs ++ [ob])) := by
    have := heap_setCell_same (o := k) (show w1.heap[sb]? = some (.cells (rowQ m obs).toArray 46 (0, 0)) from hN) (Pt ob 0)
    rw [← hl, rowQ_next ob (by omega)] at this
    rw [← hl]
    exact this
  have o3 := o2.set (u' := w1.setCell ⟨sb, k, none⟩ (Pt ob 0)) (b := sb) (o' := objQ m (obs ++ [ob])) (old _ _ hrow) h.low (fun x hx => Below.heap_setCell _ _ _ _ hx) hrow2 (by simp [World.setCell]) rfl rfl ⟨_, _, _, rfl⟩
  have old2 : ∀ b o, b ≠ sb → pk b = some o → padd pk1 sb (objQ m (obs ++ [ob])) b = some o := fun b o hne hb => by rw [padd_ne hne]; exact old b o hb
  have eR : List.replicate (2 * k) (0 : Int) ++ [0] ++ [0] = List.replicate (2 * (k + 1)) 0 := by
    rw [show 2 * (k + 1) = 2 * k + 1 + 1 by omega, List.replicate_succ', List.replicate_succ']
  rw [eR] at o3
  have ne1 : ∀ (c : Array Value) (t : TypeId), t ≠ 46 → ∀ b, pk b = some (.cells c t (0, 0)) → b ≠ sb := fun c t ht b hb e => by
    subst e
    rw [hrow] at hb
    unfold objQ at hb
    cases hb
    exact ht rfl
  refine ⟨padd pk1 sb (objQ m (obs ++ [ob])), o3, by simp [h.klen]; omega, fun w hw => h.fl w (fun b o hlt hb => hw b o hlt (old2 b o (by have := h.low; omega) hb)), old2 _ _ (ne1 _ _ (by decide) _ h.var) h.var, old2 _ _ (ne1 _ _ (by decide) _ h.many) h.many, h.low, obs ++ [ob], by simp [hl], padd_at _ _ _, fun o b hb => ?_⟩
  · rw [List.getElem?_append] at hb
    split at hb
    · rename_i hlt
      obtain ⟨kp, cw', cv', q1, q2, q3, q4⟩ := hobs o b hb
      refine ⟨kp, cw', cv', old2 _ _ (ne1 _ _ (by decide) _ q1) q1, old2 _ _ (ne1 _ _ (by decide) _ q2) q2, ?_, ?_⟩
      · rw [List.append_assoc, List.getElem?_append_left (List.getElem?_eq_some_iff.1 q3).1]; exact q3
      · rw [List.append_assoc, List.getElem?_append_left (List.getElem?_eq_some_iff.1 q4).1]; exact q4
    · rename_i hge
      have e0 : o = obs.length := by
        have := (List.getElem?_eq_some_iff.1 hb).1
        simp at this
        omega
      subst e0
      simp at hb
      subst hb
      refine ⟨u.heap.size, cw, cv, ?_, ?_, ?_, ?_⟩
      · rw [padd_ne (by omega)]; exact padd_at _ _ _
      · rw [padd_ne (by omega)]
        show padd (padd pk _ _) _ _ _ = _
        rw [padd_ne (by omega)]; exact padd_at _ _ _
      · rw [List.append_assoc, List.getElem?_append_right (by rw [h.klen, hl]; exact Nat.le_refl _), h.klen, hl]; simp
      · rw [List.append_assoc, List.getElem?_append_right (by rw [h.klen, hl]; omega), h.klen, hl, show 2 * k + 1 - 2 * k = 1 by omega]; rfl
set_option maxHeartbeats 2000000 in
set_option maxRecDepth 100000 in
theorem y3_wp {S : TS} {v : World} {a : Act} {n cap mb m : Nat} {p : Option Addr} (h1 : m ≤ 1000) (hmb : v.cell? ⟨mb, 0, none⟩ = some (I m)) (hA : Fl 40 [(0, Pt S.wb 0), (2, .slice p n cap), (4, Pt mb 0), (6, .slice none 0 0), (7, I 0)] a) : y3.wp Tryd.prog (fun e a w' => e = .normal ∧ Fl 40 [(0, Pt S.wb 0), (2, .slice p n cap), (4, Pt mb 0), (6, .slice none 0 0), (7, I 0), (9, Pt (v.heap.size + 1) 0)] a ∧ w'.heap = ((v.alloc (objQ m [])).alloc (.cells #[.slice (some ⟨v.heap.size, 0, none⟩) m m] 68)).heap ∧ w'.os = v.os ∧ w'.output = v.output) a v := by
  have hmk := make_onces m (by omega)
  rw [made_rowQ] at hmk
  obtain ⟨hsz, hd, hpp⟩ := hA
  obtain ⟨u, rfl, hg⟩ := litN hsz hd
  have u0 := (hg 0).symm.trans (hpp (0, Pt S.wb 0) (by simp))
  have u2 := (hg 2).symm.trans (hpp (2, .slice p n cap) (by simp))
  have u4 := (hg 4).symm.trans (hpp (4, Pt mb 0) (by simp))
  have u6 := (hg 6).symm.trans (hpp (6, .slice none 0 0) (by simp))
  have u7 := (hg 7).symm.trans (hpp (7, I 0) (by simp))
  clear hg hpp hsz hd
  unfold y3 yB Tryd.f9 seq1 seq2
  simp only [Option.getD_some, lits, Nat.reduceAdd, u0, u2, u4, u6, u7]
  clear u0 u2 u4 u6 u7
  go_wp2_with fail
  exact ⟨⟨rfl, rfl, by
    intro p hp
    simp only [List.mem_cons, List.not_mem_nil, or_false] at hp
    rcases hp with rfl | rfl | rfl | rfl | rfl | rfl <;> rfl⟩, rfl, rfl⟩
set_option maxHeartbeats 2000000 in
set_option maxRecDepth 100000 in
theorem y4_wp {S : TS} {v u : World} {a : Act} {n cap mb xb sb m : Nat} {p : Option Addr} {pk : Nat → Option Obj} {S1 : TS} {K : List (Nat × Int)} (h1 : m ≤ 1000) (hI : OI v S m 0 sb xb mb pk S1 K u) (hA : Fl 40 [(0, Pt S.wb 0), (2, .slice p n cap), (4, Pt mb 0), (6, .slice none 0 0), (7, I 0), (9, Pt xb 0)] a) : y4.wp Tryd.prog (fun e a w' => e = .normal ∧ Fl 40 [(0, Pt S.wb 0), (2, .slice p n cap), (4, Pt mb 0), (6, .slice none 0 0), (7, I 0), (9, Pt xb 0)] a ∧ ∃ pk S1 K, OI v S m m sb xb mb pk S1 K w') a u := by
  have HI : Hid (OI v S m 0 sb xb mb pk S1 K u) := ⟨hI⟩
  have c1 : u.cell? ⟨xb, 0, none⟩ = some (.slice (some ⟨sb, 0, none⟩) m m) := cell_of (hI.objs.has _ _ hI.var) rfl
  clear hI
  obtain ⟨hsz, hd, hpp⟩ := hA
  obtain ⟨u, rfl, hg⟩ := litN hsz hd
  have u0 := (hg 0).symm.trans (hpp (0, Pt S.wb 0) (by simp))
  have u2 := (hg 2).symm.trans (hpp (2, .slice p n cap) (by simp))
  have u4 := (hg 4).symm.trans (hpp (4, Pt mb 0) (by simp))
  have u6 := (hg 6).symm.trans (hpp (6, .slice none 0 0) (by simp))
  have u7 := (hg 7).symm.trans (hpp (7, I 0) (by simp))
  have u9 := (hg 9).symm.trans (hpp (9, Pt xb 0) (by simp))
  clear hg hpp hsz hd
  unfold y4 yB Tryd.f9 seq1 seq2
  simp only [Option.getD_some, lits, Nat.reduceAdd, u0, u2, u4, u6, u7, u9]
  clear u0 u2 u4 u6 u7 u9
  go_wp2_with fail
  go_loopw [27] (fun i u' => ∃ (k : Nat) (pk : Nat → Option Obj) (S1 : TS) (K : List (Nat × Int)), k ≤ m ∧ i = .int .i64 k ∧ OI v S m k sb xb mb pk S1 K u') (fun i _ => m - (intOf i).toNat)
  case atStart => exact ⟨0, pk, S1, K, Nat.zero_le _, rfl, HI.out⟩
  case round =>
    obtain ⟨k, pk2, S2, K2, hk, rfl, hO⟩ := hrel
    have HOB : Hid (OI v S m k sb xb mb pk2 S2 K2 wr) := ⟨hO⟩
    by_cases hlt : k < m
    · have c1 : wr.cell? ⟨xb, 0, none⟩ = some (.slice (some ⟨sb, 0, none⟩) m m) := cell_of (hO.objs.has _ _ hO.var) rfl
      have hks : (k : Int) < (m : Int) := by omega
      have hne : sb ≠ xb := fun e => by
        have h1 := hO.var
        obtain ⟨obs, _, h2, _⟩ := hO.row
        rw [← e, h2] at h1
        have h3 : (46 : Nat) = 68 := by
          have := Option.some.inj h1
          unfold objQ at this
          injection this
        exact absurd h3 (by decide)
      have hx : ∀ (ww : World) (val : Value), (ww.setCell ⟨sb, k, none⟩ val).cell? ⟨xb, 0, none⟩ = ww.cell? ⟨xb, 0, none⟩ := fun ww val => World.cell?_setCell_far _ _ _ _ hne
      clear hO
      go_wp2_with fail
      go_region_held3 (fun u => u.cell? ⟨xb, 0, none⟩ = some (.slice (some ⟨sb, 0, none⟩) m m))
        (first | assumption | (simp [go_sem, *]; done))
        (first
          | (go_at_call 16; refine (once_new (HOB.out.same (u' := wr.drew) rfl rfl rfl).objs (by rw [List.length_replicate]; omega)).mono ?_; rintro e w1 ⟨cw, cv, ob, rfl, hs1, hs2, S3, o2⟩
             have HO2 : Hid (∃ pk', OI v S m (k + 1) sb xb mb pk' S3 (K2 ++ [(cw, 0)] ++ [(cv, 0)]) (w1.setCell ⟨sb, k, none⟩ (Pt ob 0))) := ⟨(HOB.out.same (u' := wr.drew) rfl rfl rfl).next hlt hs1 o2⟩
             have lt : ∀ b o, pk2 b = some o → b < wr.heap.size := fun b o hb => (Array.getElem?_eq_some_iff.1 (HOB.out.objs.has b o hb)).1
             have oldv : ∀ b o, pk2 b = some o → w1.heap[b]? = some o := fun b o hb => o2.has b o (by
               have := lt b o hb
               have hs1 : wr.heap.size < ob := hs1
               rw [padd_ne (by omega), padd_ne (by show b ≠ wr.heap.size; omega)]
               exact hb)
             have c2 : w1.cell? ⟨xb, 0, none⟩ = some (.slice (some ⟨sb, 0, none⟩) m m) := cell_of (oldv _ _ HOB.out.var) rfl
             obtain ⟨obs, ol, orow, -⟩ := HOB.out.row
             obtain ⟨c3, c4⟩ := objQ_at (oldv _ _ orow) ol hlt
             clear o2 lt oldv hs1 hs2 obs ol orow))
      go_wp2_with fail
      go_roundw
      case rel =>
        obtain ⟨pk', hn⟩ := HO2.out
        exact ⟨k + 1, pk', S3, _, by omega, by go_num, hn⟩
      case measure => simp [intOf]; omega
    · have : k = m := by omega
      subst this
      clear hO
      go_wp2_with fail
      exact ⟨⟨rfl, rfl, by
        intro p hp
        simp only [List.mem_cons, List.not_mem_nil, or_false] at hp
        rcases hp with rfl | rfl | rfl | rfl | rfl | rfl <;> rfl⟩, pk2, S2, K2, HOB.out⟩
end Go.Proofs.YtaofjdoielmobaaDoor.Gen

/- once.Play (9), whole, by the machine. (Made by wip/tools/mko.py.) -/
set_option linter.unusedSimpArgs false
set_option linter.unusedVariables false
namespace Go.Proofs.YtaofjdoielmobaaDoor.Gen
open Go Go.Lift Go.Conc Go.RowKit

/-- What the threads read. -/
def QO (m : Nat) (caps : Array Value) (pk : Nat → Option Obj) (K : List (Nat × Int)) : Prop :=
  0 < m ∧ m ≤ 1000 ∧ ∃ xb mb sb, caps = #[Pt xb 0, Pt mb 0] ∧ (∀ w, Has pk w → R1.Flds w) ∧ pk xb = some (.cells #[.slice (some ⟨sb, 0, none⟩) m m] 68 (0, 0)) ∧ pk mb = some (.cells #[I m] 3 (0, 0)) ∧
    ∃ obs : List Nat, obs.length = m ∧ pk sb = some (objQ m obs) ∧ ∀ o b, obs[o]? = some b → ∃ kp cw cv, pk b = some (.cells #[Pt kp 0] 79 (0, 0)) ∧ pk kp = some (.cells #[Pt cw 0, Pt cv 0] 103 (0, 0)) ∧ K[2 * o]? = some (cw, 0) ∧ K[2 * o + 1]? = some (cv, 0)
theorem mineO (m : Nat) (caps : Array Value) (pk : Nat → Option Obj) (K : List (Nat × Int)) (h : QO m caps pk K) (X : Fix (mcO m)) (hf : X.fid = 25) (hc : X.caps = caps) (hp : X.pk = pk) (hk : X.kb = K.map (·.1)) : (pkgO m).Mine X := by
  obtain ⟨h0, h1, xb, mb, sb, rfl, hfl, hx, hmb, obs, hl, hrow, hobs⟩ := h
  subst hp
  refine ⟨xb, mb, sb, hc, h0, h1, fun v hv => ⟨hfl v hv, cell_of (hv _ _ hx) rfl, cell_of (hv _ _ hmb) rfl⟩, fun o ho => ?_⟩
  obtain ⟨b, hb⟩ : ∃ b, obs[o]? = some b := ⟨_, List.getElem?_eq_getElem (by omega)⟩
  obtain ⟨kp, cw, cv, q1, q2, q3, q4⟩ := hobs o b hb
  refine ⟨b, kp, cw, cv, by rw [hk, List.getElem?_map, q3]; rfl, by rw [hk, List.getElem?_map, q4]; rfl, fun v hv => ⟨cell_of (hv _ _ hrow) ?_, cell_of (hv _ _ q1) rfl, cell_of (hv _ _ q2) rfl, cell_of (hv _ _ q2) rfl⟩⟩
  unfold rowQ
  simp [ho, hb]
theorem kokO (m : Nat) (caps : Array Value) (pk : Nat → Option Obj) (K : List (Nat × Int)) (h : QO m caps pk K) : KOk (mcO m) K := fun j p _ => trivial

set_option maxHeartbeats 2000000 in
set_option maxRecDepth 100000 in
theorem oplay_in {Ch : Nat → Prop} {Stop : Goroutine → World → Prop} {main : Bool} {S : TS} {v w : World} (m : Nat) (h0 : 0 < m) (h1 : m ≤ 1000) {pk0 : Nat → Option Obj} (hfl : ∀ w, Has pk0 w → R1.Flds w) (hO : Objs v S [] pk0 S [] v) (hlt : ∀ b, pk0 b ≠ none → b < v.heap.size) (p : Option Addr) (n cap : Nat) (hn8 : 0 < n ∧ n ≤ 8) (hran : S.ran = false) (pc : Nat → Option Addr) (ln cp : Nat → Nat) (hs : ∀ k, k < n → ∃ sb so, p = some ⟨sb, so, none⟩ ∧ v.cell? ⟨sb, so + k, none⟩ = some (.slice (pc k) (ln k) (cp k))) (hln : ∀ k, k < n → ln k ≤ 64)
    (cs : List Frame) {bc : Frame} {ac : Act} {ops : Array Oper} {q : Nat} {rest : List Nat} {oc : Oper} {k : List Item} (hoc : ops[q]? = some oc) (hvw : Rel zn v w) (hn : NoRow Ch v)
    (hk : ∀ v' w' (bd : Frame) (ad : Act) (od : Array Oper) (qd : Nat) (rd : List Nat) (oe : Oper) (kd : List Item) (caps : Array Value) (pk : Nat → Option Obj) (S1 : TS) (K : List (Nat × Int)), Rel zn v' w' → NoRow Ch v' → Objs v S (List.replicate (2 * m) 0) pk S1 K v' → QO m caps pk K → od[qd]? = some oe →
      (∀ (Ch : Nat → Prop) (Stop : Goroutine → World → Prop) (w : World) (x : Value), (∀ d, GoesI Tryd.prog main (DT (ScZ zn) Ch) Stop (G (bc.at (ac.put oc.dst (.tuple #[x, I 0])) (.inRegion ops rest :: k)) cs) (w.at d)) → GoesI Tryd.prog main (DT (ScZ zn) Ch) Stop (G (bd.at (ad.put oe.dst x) (.inRegion od rd :: kd)) (bc.at ac (.inRegion ops (q :: rest) :: k) :: cs)) w) →
      GoesI Tryd.prog main (DT (ScZ zn) Ch) Stop (G ((base 24).at { tmps := #[Pt S.wb 0, .slice p n cap, .func (.func 25) ((mcO m).bn caps) ((mcO m).fr caps)] ++ Array.replicate 36 undef, defers := [] } [.code B20]) (bd.at ad (.inRegion od (qd :: rd) :: kd) :: bc.at ac (.inRegion ops (q :: rest) :: k) :: cs)) w') :
    GoesI Tryd.prog main (DT (ScZ zn) Ch) Stop (G ((base 9).at { tmps := #[Pt S.wb 0, I m, .slice p n cap] ++ Array.replicate 37 undef, defers := [] } [.code yB]) (bc.at ac (.inRegion ops (q :: rest) :: k) :: cs)) w := by
  have hm := hO.cel.mem
  have hA0 : Fl 40 [(0, Pt S.wb 0), (1, I m), (2, .slice p n cap)] { tmps := #[Pt S.wb 0, I m, .slice p n cap] ++ Array.replicate 37 undef, defers := [] } := by
    simp only [Array.replicate_succ, Array.replicate_zero, List.push_toArray, List.append_toArray, List.nil_append, List.cons_append]
    exact ⟨rfl, rfl, by
      intro p hp
      simp only [List.mem_cons, List.not_mem_nil, or_false] at hp
      rcases hp with rfl | rfl | rfl <;> rfl⟩
  rw [eYB]
  refine goesI_seq (dt_idle _ _) ?_
  refine goesI_plain (z := zn) (wr := true) (L := LV) (I := NoRow Ch) hE fineV noRow_keeps (fun v v' w w' es hi hr ho he => dt_of_z v v' w w' es hi hr ho he) hvw fine_y0 hA0.2.1 (by simp [base]) hn (Q := fun a w' => Fl 40 [(0, Pt S.wb 0), (2, .slice p n cap), (4, Pt v.heap.size 0), (6, .slice none 0 0), (7, I 0)] a ∧ w'.heap = v.heap.push (.cells #[I m] 3) ∧ w'.os = v.os ∧ w'.output = v.output) (fun τ => y0_wp (v := onTape v τ 0) hA0) ?_
  rintro a0 v0 w0 ⟨hB0, e0, o0, u0⟩ hr0 hn0 -
  have g0 : Grows v v0 := ⟨by rw [e0]; simp, fun b hb => by rw [e0, Array.getElem?_push, if_neg (by omega)], o0, u0⟩
  have m0 : Mem zn S [] v0 := (hm.grows g0).mem
  have hmb : v0.cell? ⟨v.heap.size, 0, none⟩ = some (I m) := by
    have : v0.heap[v.heap.size]? = some (.cells #[I m] 3) := by rw [e0]; exact Array.getElem?_push_size
    exact cell_of this rfl
  have hs0 : ∀ τ, ∀ k, k < n → ∃ sb so, p = some ⟨sb, so, none⟩ ∧ (onTape v0 τ 0).cell? ⟨sb, so + k, none⟩ = some (.slice (pc k) (ln k) (cp k)) := fun τ k hk => by
    obtain ⟨sb, so, h1, h2⟩ := hs k hk
    exact ⟨sb, so, h1, g0.cell h2⟩
  refine goesI_seq (dt_idle _ _) ?_
  refine goesI_plain (z := zn) (wr := true) (L := LV) (I := NoRow Ch) hE fineV noRow_keeps (fun v v' w w' es hi hr ho he => dt_of_z v v' w w' es hi hr ho he) hr0 fine_y1 hB0.2.1 (by simp [base]) hn0 (Q := fun a w' => Fl 40 [(0, Pt S.wb 0), (2, .slice p n cap), (4, Pt v.heap.size 0), (6, .slice none 0 0), (7, I 0)] a ∧ w'.heap = v0.heap ∧ w'.os = v0.os ∧ w'.output = v0.output) (fun τ => y1_yes (v := onTape v0 τ 0) (m0.grows (v' := onTape v0 τ 0) ⟨Nat.le_refl _, fun _ _ => rfl, rfl, rfl⟩).mem.rep pc ln cp (hs0 τ) hln hn8 hran hB0) ?_
  rintro a1 v1 w1 ⟨hB1, e1, o1, u1⟩ hr1 hn1 -
  have g1 : Grows v0 v1 := ⟨by rw [e1]; exact Nat.le_refl _, fun b _ => by rw [e1], o1, u1⟩
  refine goesI_seq (dt_idle _ _) ?_
  refine goesI_plain (z := zn) (wr := true) (L := LV) (I := NoRow Ch) hE fineV noRow_keeps (fun v v' w w' es hi hr ho he => dt_of_z v v' w w' es hi hr ho he) hr1 fine_y2 hB1.2.1 (by simp [base]) hn1 (Q := fun a w' => Fl 40 [(0, Pt S.wb 0), (2, .slice p n cap), (4, Pt v.heap.size 0), (6, .slice none 0 0), (7, I 0)] a ∧ w'.heap = v1.heap ∧ w'.os = v1.os ∧ w'.output = v1.output) (fun τ => y2_yes (v := onTape v1 τ 0) (by omega) (by omega) (g1.cell hmb) hB1) ?_
  rintro a2 v2 w2 ⟨hB2, e2, o2, u2⟩ hr2 hn2 -
  have g2 : Grows v1 v2 := ⟨by rw [e2]; exact Nat.le_refl _, fun b _ => by rw [e2], o2, u2⟩
  refine goesI_seq (dt_idle _ _) ?_
  refine goesI_plain (z := zn) (wr := true) (L := LV) (I := NoRow Ch) hE fineV noRow_keeps (fun v v' w w' es hi hr ho he => dt_of_z v v' w w' es hi hr ho he) hr2 fine_y3 hB2.2.1 (by simp [base]) hn2 (Q := fun a w' => Fl 40 [(0, Pt S.wb 0), (2, .slice p n cap), (4, Pt v.heap.size 0), (6, .slice none 0 0), (7, I 0), (9, Pt (v2.heap.size + 1) 0)] a ∧ w'.heap = ((v2.alloc (objQ m [])).alloc (.cells #[.slice (some ⟨v2.heap.size, 0, none⟩) m m] 68)).heap ∧ w'.os = v2.os ∧ w'.output = v2.output) (fun τ => y3_wp (v := onTape v2 τ 0) h1 (g2.cell (g1.cell hmb)) hB2) ?_
  rintro a3 v3 w3 ⟨hB3, e3, o3, u3⟩ hr3 hn3 -
  -- the objects so far
  have O0 := hO.push (u' := v0) (c := #[I m]) (t := 3) e0 o0 u0
  have O2 := (O0.same e1 o1 u1).same e2 o2 u2
  have O3a := O2.push (u' := v2.alloc (objQ m [])) (c := (rowQ m []).toArray) (t := 46) rfl rfl rfl
  have O3 := (O3a.push (u' := (v2.alloc (objQ m [])).alloc (.cells #[.slice (some ⟨v2.heap.size, 0, none⟩) m m] 68)) (c := #[.slice (some ⟨v2.heap.size, 0, none⟩) m m]) (t := 68) rfl rfl rfl).same (u' := v3) e3 o3 u3
  have hsz : (v2.alloc (objQ m [])).heap.size = v2.heap.size + 1 := by simp
  rw [hsz] at O3
  have hs2 : v2.heap.size = v.heap.size + 1 := by rw [e2, e1, e0]; simp
  have hI : OI v S m 0 v2.heap.size (v2.heap.size + 1) v.heap.size (padd (padd (padd pk0 v.heap.size (.cells #[I m] 3)) v2.heap.size (.cells (rowQ m []).toArray 46)) (v2.heap.size + 1) (.cells #[.slice (some ⟨v2.heap.size, 0, none⟩) m m] 68)) S [] v3 :=
    ⟨O3, rfl, fun w hw => hfl w (fun b o hb => hw b o (hlt b (by rw [hb]; simp)) (by have := hlt b (by rw [hb]; simp); rw [padd_ne (by omega), padd_ne (by omega), padd_ne (by omega)]; exact hb)), padd_at _ _ _, by rw [padd_ne (by omega), padd_ne (by omega)]; exact padd_at _ _ _, by omega, [], rfl, by rw [padd_ne (by omega)]; exact padd_at _ _ _, fun o b hb => by simp at hb⟩
  refine goesI_seq (dt_idle _ _) ?_
  refine goesI_plain (z := zn) (wr := true) (L := LV) (I := NoRow Ch) hE fineV noRow_keeps (fun v v' w w' es hi hr ho he => dt_of_z v v' w w' es hi hr ho he) hr3 fine_y4 hB3.2.1 (by simp [base]) hn3 (Q := fun a w' => Fl 40 [(0, Pt S.wb 0), (2, .slice p n cap), (4, Pt v.heap.size 0), (6, .slice none 0 0), (7, I 0), (9, Pt (v2.heap.size + 1) 0)] a ∧ ∃ pk S1 K, OI v S m m v2.heap.size (v2.heap.size + 1) v.heap.size pk S1 K w') (fun τ => y4_wp h1 (hI.same (u' := onTape v3 τ 0) rfl rfl rfl) hB3) ?_
  rintro a4 v4 w4 ⟨hB4, pk, S1, K, hI4⟩ hr4 hn4 -
  have hset := hI4.objs
  have hql : QO m #[Pt (v2.heap.size + 1) 0, Pt v.heap.size 0] pk K := ⟨h0, h1, _, _, _, rfl, fun w hw => hI4.fl w (fun b o _ hb => hw b o hb), hI4.var, hI4.many, hI4.row⟩
  clear hI4 hI O3 O3a O2 O0 hr0 hr1 hr2 hr3 hn0 hn1 hn2 hn3 e0 e1 e2 e3 o0 o1 o2 o3 u0 u1 u2 u3 hvw hn hs hs0 hln m0 hO hlt hB0 hB1 hB2 hB3 hmb hm
  generalize v2.heap.size + 1 = xb at hB4 hql
  generalize v.heap.size = mb at hB4 hql
  have hA := hB4
  clear hB4
  obtain ⟨hsz, hd, hpp⟩ := hA
  obtain ⟨u, rfl, hg⟩ := litN hsz hd
  have u0 := (hg 0).symm.trans (hpp (0, Pt S.wb 0) (by simp))
  have u2 := (hg 2).symm.trans (hpp (2, .slice p n cap) (by simp))
  have u4 := (hg 4).symm.trans (hpp (4, Pt mb 0) (by simp))
  have u6 := (hg 6).symm.trans (hpp (6, .slice none 0 0) (by simp))
  have u7 := (hg 7).symm.trans (hpp (7, I 0) (by simp))
  have u9 := (hg 9).symm.trans (hpp (9, Pt xb 0) (by simp))
  clear hg hpp hsz hd
  unfold yR yB Tryd.f9 seq2
  simp only [Option.getD_some, lits, Nat.reduceAdd, u0, u2, u4, u6, u7, u9]
  clear u0 u2 u4 u6 u7 u9
  refine goesI_seq (dt_idle _ _) ?_
  refine goesI_region (dt_idle _ _) ?_
  simp only [List.size_toArray, List.length_cons, List.length_nil, Nat.reduceAdd, Nat.zero_add, List.range, List.range.loop]
  iterate 3
    (refine goesI_oper rfl rfl (by decide) (fun d K hK => ?_)
     go_simp
     refine hK _ _ ⟨dt_reads (fun e he => ?_), GoesI.at ?_ d⟩
     · have hm := mem_listed he
       simp [go_sem, *] at hm
       try exact ⟨_, _, hm⟩
       try (rcases hm with rfl | rfl <;> exact ⟨_, _, rfl⟩)
     clear hK K)
  refine goesI_into (f := 24) (fn := Tryd.f24) (args := #[Pt S.wb 0, .slice p n cap, .func (.func 25) #[] #[Pt xb 0, Pt mb 0]]) (dt_idle _ _) rfl rfl (by decide) rfl (by simp [Act.eval]) Tryd.func24 (by decide) rfl ?_
  refine hk v4 w4 _ _ _ _ _ _ _ _ _ _ _ hr4 hn4 hset hql rfl (fun Ch Stop w x hg => ?_)
  clear hk hset hr4 hn4 hql
  iterate 2
    (refine goesI_oper rfl rfl (by decide) (fun d K hK => ?_)
     go_simp
     refine hK _ _ ⟨dt_reads (fun e he => ?_), GoesI.at ?_ d⟩
     · have hm := mem_listed he
       simp [go_sem, *] at hm
       try exact ⟨_, _, hm⟩
       try (rcases hm with rfl | rfl <;> exact ⟨_, _, rfl⟩)
     clear hK K)
  refine goesI_regionEnd (dt_idle _ _) ?_
  refine GoesI.ctl rfl (fun _ => stepG_ret') (dt_idle _ _) ?_
  refine goesI_leave (b := base 9) (fn := Tryd.f9) (v := .tuple #[x, I 0]) rfl rfl Tryd.func9 (fun w => ?_) (fun w => by simp [results, go_sem, Tryd.f9]) hoc (dt_idle _ _) ?_
  · rw [results_tmp2 (t := 6) (u := 7) rfl]
    simp
  · have := hg w.drawn
    exact this
section
variable {S : TS} {n sb so cap : Nat} {pc : Nat → Option Addr} {ln cp rb : Nat → Nat} {cl : Nat → List Cl}
/-- once.Play, whole, by the machine. -/
theorem oplay_all (m : Nat) (h0 : 0 < m) (h1 : m ≤ 1000) {pk0 : Nat → Option Obj} (hfl : ∀ w, Has pk0 w → R1.Flds w) {cs : List Frame} {bc : Frame} {ac : Act} {ops : Array Oper} {q0 : Nat} {rest : List Nat} {oc : Oper} {k0 : List Item} (hoc : ops[q0]? = some oc) {w : World} {T : Trace} {gs : Array Goroutine} {q : Nat → Nat} (sl : Option (Nat × Nat)) (NT : Nat) (A : Alone gs w T q)
    (hg : gs[0]? = some (G ((base 9).at { tmps := #[Pt S.wb 0, I m, .slice (some ⟨sb, so, none⟩) n cap] ++ Array.replicate 37 undef, defers := [] } [.code yB]) (bc.at ac (.inRegion ops (q0 :: rest) :: k0) :: cs)))
    (hm : Mem zn S [] w) (hthr : S.thr = []) (hran : S.ran = false) (hch : S.chg = []) (hbk : Open w S.bk) (hpk : Has pk0 w) (hpf : ∀ b, pk0 b ≠ none → ¬ Own S [] b ∧ b ≠ S.bk) (hpr : ∀ b o, pk0 b = some o → ∃ c e f, o = .cells c e f) (t : Asked w S n sb so pc ln cp rb cl) (hn8 : 0 < n ∧ n ≤ 8)
    (hlen : ∀ caps pk N K, S.n + 2 * lens (scrs (mcO m) 25 caps pk N n K pc ln cp rb cl) ≤ 1000000) (hsl : S.sched.length ≤ 4611686018427387904) (hsc : ∀ x ∈ S.sched, -9223372036854775808 ≤ x ∧ x < 9223372036854775808) (l0 : Nat → Ph)
    (hturn : ∀ (caps : Array Value) (pk : Nat → Option Obj) (N : Nat) (cv : Value) (K : List (Nat × Int)), K.map (·.2) = List.replicate (2 * m) 0 → ∀ S1 l1, Hires (mcO m) 0 (scrs (mcO m) 25 caps pk N n K pc ln cp rb cl) (nv { cellsS S cv (List.replicate (2 * m) (0 : Int)).length with ran := true }) l0 S1 l1 → ∃ mm p', mm ≤ NT ∧ Turns (mcO m) mm ⟨S1, K, l1⟩ p' ∧ p'.S.n * 40 ≤ 140737488355328) :
    ∃ (N' : Nat) (gs' : Array Goroutine) (w' : World) (sl' : Option (Nat × Nat)) (T' : Trace) (q' : Nat → Nat) (caps : Array Value) (pk : Nat → Option Obj) (N : Nat) (cv : Value) (K : List (Nat × Int)) (S' : TS) (S1 : TS) (l1 : Nat → Ph) (mm : Nat) (p' : PSt),
      runNT Tryd.prog N' (crowd gs w sl) T = (.next (crowd gs' w' sl'), T') ∧ gs'.size = gs.size + n ∧ gs'[0]? = some (G (bc.at (ac.put oc.dst (.tuple #[.slice (some ⟨N + 1, 0, none⟩) n n, I 0])) (.inRegion ops rest :: k0)) cs) ∧
      Alone gs' w' T' q' ∧ K.map (·.2) = List.replicate (2 * m) 0 ∧ nv S' = p'.S ∧ Hires (mcO m) 0 (scrs (mcO m) 25 caps pk N n K pc ln cp rb cl) (nv { cellsS S cv (List.replicate (2 * m) (0 : Int)).length with ran := true }) l0 S1 l1 ∧ Turns (mcO m) mm ⟨S1, K, l1⟩ p' ∧ GOut w S n ln N S' p'.K p'.l w' := by
  refine gplay_all (xs := List.replicate (2 * m) 0) (cap := cap) (q0 := q0) (pkgO m) (mineO m) (kokO m) sl NT A hg ?_ hm hthr hran hbk t hn8 hlen hsl hsc l0 hturn
  exact oplay_in m h0 h1 hfl (Objs.startG (pk := pk0) hm hch hpk hpf hpr) (fun b hb => by obtain ⟨o, ho⟩ := Option.ne_none_iff_exists'.1 hb; exact (Array.getElem?_eq_some_iff.1 (hpk b o ho)).1) (some ⟨sb, so, none⟩) n cap hn8 hran pc ln cp (fun k hk => ⟨sb, so, rfl, t.row k hk⟩) (fun k hk => (t.len k hk).2) cs hoc (Rel.refl w) (fun c hc => hc.elim)
    (fun v' w' bd ad od qd rd oe kd caps pk S1 K hr hn ho hq hoe hback => GoesI.stop fun d => ⟨bd, ad, od, qd, rd, oe, kd, caps, pk, S1, K, ho.same hr.eq hr.os hr.output, hq, hoe, hback, rfl⟩)
end
end Go.Proofs.YtaofjdoielmobaaDoor.Gen

/- The document's SameAnswers (63), of answers that are the same, walked alone. -/
set_option linter.unusedSimpArgs false
set_option linter.unusedVariables false
namespace Go.Proofs.YtaofjdoielmobaaDoor.Gen
open Go Go.Lift Go.Conc Go.RowKit

/-- Rows of answers: each a code and a value. -/
structure Rws (M : Nat) (n : Nat) (A cp ln : Nat → Nat) (e x : Nat → Nat → Int) (v : World) : Prop where
  row : ∀ k, k < n → v.cell? ⟨M, k, none⟩ = some (.slice (some ⟨A k, 0, none⟩) (ln k) (cp k))
  ans : ∀ k, k < n → ∀ j, j < ln k → v.cell? ⟨A k, j * 2, none⟩ = some (I (e k j)) ∧ v.cell? ⟨A k, j * 2 + 1, none⟩ = some (I (x k j))
theorem Rws.same {M n : Nat} {A cp ln : Nat → Nat} {e x : Nat → Nat → Int} {v v' : World} (h : Rws M n A cp ln e x v) (hh : v'.heap = v.heap) : Rws M n A cp ln e x v' := by
  have hc : ∀ a, v'.cell? a = v.cell? a := fun a => World.cell?_of_block (w := v) (w' := v') (by rw [hh])
  exact ⟨fun k hk => by rw [hc]; exact h.row k hk, fun k hk j hj => by rw [hc, hc]; exact h.ans k hk j hj⟩
def Sam (v u : World) : Prop := u.heap = v.heap ∧ u.os = v.os ∧ u.output = v.output
set_option maxHeartbeats 8000000 in
set_option maxRecDepth 100000 in
theorem body22 {v : World} (M M' n c1 c2 : Nat) {A B ca cb ln : Nat → Nat} {e x : Nat → Nat → Int} (h1 : Rws M n A ca ln e x v) (h2 : Rws M' n B cb ln e x v) (hn : n ≤ 1000000) (hln : ∀ k, k < n → ln k ≤ 1000000) :
    Body Tryd.f22 #[.slice (some ⟨M, 0, none⟩) n c1, .slice (some ⟨M', 0, none⟩) n c2] v (fun r v' => r = .bool true ∧ v'.heap = v.heap ∧ v'.os = v.os ∧ v'.output = v.output) := by
  intro code hb
  obtain rfl := Option.some.inj hb
  clear hb
  have H1 : Hid (∀ u, Sam v u → Rws M n A ca ln e x u ∧ Rws M' n B cb ln e x u) := ⟨fun u hu => ⟨h1.same hu.1, h2.same hu.1⟩⟩
  have HL : Hid (∀ k, k < n → ln k ≤ 1000000) := ⟨hln⟩
  clear h1 h2 hln
  simp only [Tryd.ntmps22, List.size_toArray, List.length_cons, List.length_nil, Nat.reduceAdd, Nat.reduceSub, Array.replicate_succ, Array.replicate_zero, List.push_toArray, List.append_toArray, List.nil_append, List.cons_append]
  go_wp2_with fail
  go_loopw [5] (fun i u => ∃ k : Nat, k ≤ n ∧ i = .int .i64 k ∧ Hid (Sam v u)) (fun i _ => n - (intOf i).toNat)
  case atStart => exact ⟨0, Nat.zero_le _, rfl, ⟨rfl, rfl, rfl⟩⟩
  case round =>
    obtain ⟨k, hk, rfl, hs⟩ := hrel
    by_cases hlt : k < n
    · obtain ⟨r1, r2⟩ := H1.out wr hs.out
      have a1 := r1.row k hlt
      have a2 := r2.row k hlt
      have hl := HL.out k hlt
      clear r1 r2
      have hlt' : (k : Int) < (n : Int) := by omega
      have hnl : ¬ n ≤ k := by omega
      obtain ⟨wo, hwo⟩ : ∃ wo, wo = wr := ⟨wr, rfl⟩
      rw [← hwo] at hs a1 a2 ⊢
      clear hwo
      go_wp2_with fail
      go_quiet (fail)
      go_wp2_with fail
      go_loopw [6] (fun i u => ∃ j : Nat, j ≤ ln k ∧ i = .int .i64 j ∧ Hid (Sam v u)) (fun i _ => ln k - (intOf i).toNat)
      case atStart => exact ⟨0, Nat.zero_le _, rfl, hs.out.1, hs.out.2.1, hs.out.2.2⟩
      case round =>
        obtain ⟨j, hj, rfl, hs2⟩ := hrel
        obtain ⟨r1, r2⟩ := H1.out wr hs2.out
        have b1 := r1.row k hlt
        have b2 := r2.row k hlt
        by_cases hjl : j < ln k
        · have c1' := r1.ans k hlt j hjl
          have c2' := r2.ans k hlt j hjl
          obtain ⟨x1, x2⟩ := c1'
          obtain ⟨y1, y2⟩ := c2'
          clear r1 r2 a1 a2
          have hjl' : (j : Int) < (ln k : Int) := by omega
          have hnj : ¬ ln k ≤ j := by omega
          go_wp2_with fail
          go_quiet (fail)
          go_wp2_with fail
          go_roundw
          case rel => exact ⟨j + 1, by omega, by go_num, hs2.out.1, hs2.out.2.1, hs2.out.2.2⟩
          case measure => simp [intOf]; omega
        · have hjj : j = ln k := by omega
          subst hjj
          clear r1 r2 a1 a2
          go_wp2_with fail
          go_roundw
          case rel => exact ⟨k + 1, by omega, by go_num, hs2.out.1, hs2.out.2.1, hs2.out.2.2⟩
          case measure => simp [intOf]; omega
    · have hkk : k = n := by omega
      subst hkk
      go_wp2_with fail
      go_ret
      exact ⟨_, rfl, rfl, hs.out.1, hs.out.2.1, hs.out.2.2⟩
end Go.Proofs.YtaofjdoielmobaaDoor.Gen

/- Turns, reckoned: so many turns as a Bool tells. -/
set_option linter.unusedSimpArgs false
set_option linter.unusedVariables false
namespace Go.Proofs.YtaofjdoielmobaaDoor.Gen
open Go Go.Lift Go.Conc Go.RowKit
variable {mc : Mc}

theorem turns_det : ∀ {m m' : Nat} {p p1 p2 : PSt}, Turns mc m p p1 → Turns mc m' p p2 → p1 = p2
  | _, _, _, _, _, .stop h, .stop h' => rfl
  | _, _, _, _, _, .stop h, .step h' _ => by rw [h] at h'; cases h'
  | _, _, _, _, _, .step h _, .stop h' => by rw [h] at h'; cases h'
  | _, _, _, _, _, .step h t, .step h' t' => by
    rw [h] at h'
    cases h'
    exact turns_det t t'
def pt (mc : Mc) (p : PSt) : PSt := (pturn mc p).getD p
def pts (mc : Mc) : Nat → PSt → PSt
  | 0, p => p
  | n + 1, p => pts mc n (pt mc p)
def runs (mc : Mc) : Nat → PSt → Bool
  | 0, p => (pturn mc p).isNone
  | n + 1, p => (pturn mc p).isSome && runs mc n (pt mc p)
theorem turns_of : ∀ (n : Nat) (p : PSt), runs mc n p = true → Turns mc n p (pts mc n p)
  | 0, p, h => by
    refine .stop ?_
    cases hp : pturn mc p with
    | none => rfl
    | some x => unfold runs at h; rw [hp] at h; cases h
  | n + 1, p, h => by
    unfold runs at h
    rw [Bool.and_eq_true] at h
    refine .step ?_ (turns_of n (pt mc p) h.2)
    unfold pt
    cases hp : pturn mc p with
    | none => rw [hp] at h; cases h.1
    | some x => rfl
end Go.Proofs.YtaofjdoielmobaaDoor.Gen

/- The laws' first play of a once (awake, 7): what its turns come to. (Made by wip/tools/mko_aw.py.) -/
set_option linter.unusedSimpArgs false
set_option linter.unusedVariables false
namespace Go.Proofs.YtaofjdoielmobaaDoor.Gen
open Go Go.Lift Go.Conc Go.RowKit
open Go.ConcN (upd upd_same upd_ne)

def clW (j : Nat) : List Cl := [⟨2, 0, 7, 0⟩, ⟨1, 0, 8, 0⟩]
def lnW (j : Nat) : Nat := 2
def an0 (j : Nat) : List (Int × Int) := List.replicate (lnW j) (0, 0)
/-- The world ahead of the hiring. -/
def awST (wb bk base : Nat) (sc cv : Value) (k : Nat) : TS := nv { cellsS (newS wb bk base sc []) cv k with ran := true }
def awF (wb bk base : Nat) (sc cv : Value) (tv0 : Value) (tb0 gc0 : Nat) : TS × Ph := flow 0 (mcO 1) (clW 0) 0 false (an0 0) (hiredS (awST wb bk base sc cv 2) tv0 tb0 gc0)
def awPT (wb bk base : Nat) (sc cv : Value) (tv0 : Value) (tb0 gc0 : Nat) (cb0 cb1 : Nat) (l0 : Nat → Ph) : PSt :=
  ⟨(awF wb bk base sc cv tv0 tb0 gc0).1, [(cb0, 0), (cb1, 0)], upd l0 0 (awF wb bk base sc cv tv0 tb0 gc0).2⟩
section
variable (wb bk base : Nat) (sc cv : Value) (tv0 : Value) (tb0 gc0 : Nat) (cb0 cb1 : Nat) (l0 : Nat → Ph)
set_option maxRecDepth 100000
theorem awt_runs : runs (mcO 1) 6 (awPT wb bk base sc cv tv0 tb0 gc0 cb0 cb1 l0) = true := by kernel_rfl
theorem awt_n : (pts (mcO 1) 6 (awPT wb bk base sc cv tv0 tb0 gc0 cb0 cb1 l0)).S.n = 10 := by kernel_rfl
theorem awt_ans : ((pts (mcO 1) 6 (awPT wb bk base sc cv tv0 tb0 gc0 cb0 cb1 l0)).l 0).ans = [(70, 7), (70, 7)] := by kernel_rfl
end
end Go.Proofs.YtaofjdoielmobaaDoor.Gen
