/- CounterAlone, whatever the shards, the numbers and the ids: a counter of no world, added to by free threads; behind each Add its Sum is the sum of the shards' amounts, each within 32 bits with a sign; the law answers true and its input reads as it did. Part 26 of 35. (Joined, by program, of: GLit, CtA, CtS.) -/
import Derived.Test.YtcfmffmcammbjaaDoorCounterAlone08
import Derived.Test.YtcfmffmcammbjaaDoorCounterAlone22
import Derived.Test.YtcfmffmcammbjaaDoorCounterAlone25

/- A frame of so many slots as a list of letters. -/
set_option linter.unusedSimpArgs false
set_option linter.unusedVariables false
namespace Go.Proofs.YtcfmffmcammbjaaDoor.Gen
open Go Go.Lift Go.Conc Go.RowKit
def lits (u : Nat → Value) : Nat → Nat → List Value
  | _, 0 => []
  | s, n + 1 => u s :: lits u (s + 1) n
theorem lits_get (u : Nat → Value) : ∀ (n s i : Nat), (lits u s n)[i]? = if i < n then some (u (s + i)) else none
  | 0, s, i => by simp [lits]
  | n + 1, s, 0 => by simp [lits]
  | n + 1, s, i + 1 => by
    have := lits_get u n (s + 1) i
    simp only [lits, List.getElem?_cons_succ, this, Nat.add_lt_add_iff_right]
    rw [show s + 1 + i = s + (i + 1) by omega]
theorem litN {n : Nat} {a : Act} (h : a.tmps.size = n) (hd : a.defers = []) : ∃ u : Nat → Value, a = { tmps := (lits u 0 n).toArray, defers := [] } ∧ ∀ i, a.tmps.getD i undef = u i := by
  obtain ⟨⟨l⟩, ds⟩ := a
  simp only at hd h
  subst hd
  refine ⟨fun i => (Array.mk l).getD i undef, ?_, fun i => rfl⟩
  have e : l = lits (fun i => (Array.mk l).getD i undef) 0 n := by
    apply List.ext_getElem?
    intro i
    rw [lits_get]
    have hl : l.length = n := h
    by_cases hi : i < n
    · rw [if_pos hi, List.getElem?_eq_getElem (by omega)]
      simp [Array.getD, hl, hi]
    · rw [if_neg hi, List.getElem?_eq_none (by omega)]
  exact congrArg (fun x => ({ tmps := x.toArray, defers := [] } : Act)) e
/-- Slots of a frame of n slots. -/
def Fl (n : Nat) (l : List (Nat × Value)) (a : Act) : Prop := a.tmps.size = n ∧ a.defers = [] ∧ ∀ p ∈ l, a.tmps.getD p.1 undef = p.2
theorem Fl.sub {n : Nat} {l l' : List (Nat × Value)} {a : Act} (h : Fl n l a) (hs : ∀ p ∈ l', p ∈ l) : Fl n l' a := ⟨h.1, h.2.1, fun p hp => h.2.2 p (hs p hp)⟩
theorem Fl.at {n : Nat} {l : List (Nat × Value)} {a : Act} (h : Fl n l a) (k : Nat) (v : Value) (hs : (k, v) ∈ l) : a.eval (.tmp k) = v := h.2.2 (k, v) hs
end Go.Proofs.YtcfmffmcammbjaaDoor.Gen

/- counter's Add (55), in company, in pieces: its shard is found; it looks at the cell; it tries to add; it did, or another was ahead of it. (Made by wip/tools/mkcta.py.) -/
set_option linter.unusedSimpArgs false
set_option linter.unusedVariables false
namespace Go.Proofs.YtcfmffmcammbjaaDoor.Gen
open Go Go.Lift Go.Conc Go.RowKit

theorem id_any (tb i : Nat) (w : World) (h : w.cell? ⟨tb, 1, none⟩ = some (I i)) : Calls Tryd.prog 68 #[Pt tb 0] w fun e w' => e = .returned (I i) ∧ w' = w := by
  go_enter Tryd.func68, Tryd.ntmps68
  go_wp2_with fail
  go_ret
  exact ⟨rfl, rfl⟩
theorem which_any (i s j : Nat) (hj : i % s = j) (hs : 0 < s) (w : World) : Calls Tryd.prog 62 #[I i, I s] w fun e w' => e = .returned (I j) ∧ w' = w := by
  subst hj
  have h2 : ((s : Int) == 0) = false := by simp; omega
  have h3 : ¬ ((s : Int) = 0) := by omega
  have h4 : 0 ≤ ((i : Int) % (s : Int)) := Int.emod_nonneg _ h3
  have h5 : decide ((i : Int) % (s : Int) < 0) = false := decide_eq_false (by omega)
  go_enter Tryd.func62, Tryd.ntmps62
  go_wp2_with fail
  go_ret
  exact ⟨by rw [Int.natCast_emod]; rfl, rfl⟩

noncomputable def a55 : Code := seq1 (Tryd.f55.body.getD .skip)
noncomputable def L55 : Code := loopC (blockC (seq2 (Tryd.f55.body.getD .skip)))
noncomputable def B55 : Code := blockC L55
noncomputable def ops551 : Array Oper := opsOf (seq1 B55)
noncomputable def ops552 : Array Oper := opsOf (seq1 (seq2 B55))
theorem fine_a55 : fineCode Tryd.prog true LT a55 := fineCode_ask callT extT (by kernel_rfl)

/-- The frame where it looks; where it has seen; where it has tried. -/
noncomputable def aFr (a : Act) : Frame := (base 55).at a [.code L55, .inLoop L55, .inBlock 0]
noncomputable def aSeen (a : Act) (r : Value) : Frame := (base 55).at (a.put (some 24) r) [.inRegion ops551 [3], .code (seq2 B55), .inBlock 1, .inLoop L55, .inBlock 0]
noncomputable def aTried (a : Act) (r : Value) : Frame := (base 55).at (a.put (some 31) r) [.inRegion ops552 [], .code (seq2 (seq2 B55)), .inBlock 1, .inLoop L55, .inBlock 0]
/-- Where a counter's shards lie. -/
structure Ctr (v : World) (c sb s : Nat) (kb : List Nat) : Prop where
  row : v.cell? ⟨c, 0, none⟩ = some (.slice (some ⟨sb, 0, none⟩) s s)
  cel : ∀ j, j < s → ∃ cb, kb[j]? = some cb ∧ v.cell? ⟨sb, j, none⟩ = some (Pt cb 0)
  s0 : 0 < s
  s1 : s ≤ 16

set_option maxHeartbeats 2000000 in
set_option maxRecDepth 100000 in
theorem a55_wp (v : World) (c sb s tb i cb : Nat) (n : Int) (h0 : v.cell? ⟨c, 0, none⟩ = some (.slice (some ⟨sb, 0, none⟩) s s)) (h1 : v.cell? ⟨tb, 1, none⟩ = some (I i)) (h2 : v.cell? ⟨sb, i % s, none⟩ = some (Pt cb 0)) (hs : 0 < s) :
    a55.wp Tryd.prog (fun e a w' => e = .normal ∧ Fl 32 [(0, Pt c 0), (1, Pt tb 0), (2, I n), (6, Pt cb 0)] a ∧ w'.heap = v.heap ∧ w'.os = v.os ∧ w'.output = v.output) { tmps := #[Pt c 0, Pt tb 0, I n] ++ Array.replicate 29 undef, defers := [] } v := by
  have hlt : i % s < s := Nat.mod_lt _ hs
  have hlt2 : ((i % s : Nat) : Int) < (s : Int) := by omega
  have hge : ¬ ((i % s : Nat) : Int) < 0 := by omega
  generalize hj : i % s = j at h2 hlt hlt2 hge
  have HJ : Hid (i % s = j) := ⟨hj⟩
  clear hj
  unfold a55 Tryd.f55 seq1
  simp only [Option.getD_some, Array.replicate_succ, Array.replicate_zero, List.push_toArray, List.append_toArray, List.nil_append, List.cons_append]
  go_wp2_with fail
  go_quiet ((first
    | (go_at_call 68; exact Calls.quiet_of_same (id_any tb i _ (by simpa using h1)))
    | (go_at_call 62; exact Calls.quiet_of_same (which_any i s j HJ.out hs _))))
  exact ⟨rfl, ⟨rfl, rfl, by
    intro p hp
    simp only [List.mem_cons, List.not_mem_nil, or_false] at hp
    rcases hp with rfl | rfl | rfl | rfl <;> rfl⟩, rfl, rfl, rfl⟩

/-- It has been entered: its shard is found. -/
theorem add_in {z : Nat → Option Nat} {Ch : Nat → Prop} {Stop : Goroutine → World → Prop} {main : Bool} {v w : World} {c sb s tb i cb : Nat} {kb : List Nat} (n : Int) (hC : Ctr v c sb s kb) (h1 : v.cell? ⟨tb, 1, none⟩ = some (I i)) (hcb : kb[i % s]? = some cb) (cs : List Frame) (hvw : Rel z v w) (hn : NoRow Ch v)
    (hk : ∀ a v' w', Fl 32 [(0, Pt c 0), (1, Pt tb 0), (2, I n), (6, Pt cb 0)] a → Rel z v' w' → NoRow Ch v' → v'.heap = v.heap → v'.os = v.os → v'.output = v.output → GoesI Tryd.prog main (DT (ScZ z) Ch) Stop (G (aFr a) cs) w') (code : Code) (hc : Tryd.f55.body = some code) :
    GoesI Tryd.prog main (DT (ScZ z) Ch) Stop (G ((base 55).at { tmps := #[Pt c 0, Pt tb 0, I n] ++ Array.replicate 29 undef, defers := [] } [.code code]) cs) w := by
  have hw0 : code = .seq a55 (.block 0 (.loop L55)) := by
    rw [show code = Tryd.f55.body.getD .skip by rw [hc]; rfl]; rfl
  subst hw0
  clear hc
  obtain ⟨cb', e1, e2⟩ := hC.cel (i % s) (Nat.mod_lt _ hC.s0)
  have e3 : cb' = cb := by rw [hcb] at e1; exact (Option.some.inj e1).symm
  rw [e3] at e2
  refine goesI_seq (dt_idle _ _) ?_
  refine goesI_plain (z := z) (wr := true) (L := LT) (I := NoRow Ch) hE fineT noRow_keeps (fun v v' w w' es hi hr ho he => dt_of_z v v' w w' es hi hr ho he) hvw fine_a55 rfl (by simp [base]) hn
    (Q := fun a w' => Fl 32 [(0, Pt c 0), (1, Pt tb 0), (2, I n), (6, Pt cb 0)] a ∧ w'.heap = v.heap ∧ w'.os = v.os ∧ w'.output = v.output) (fun τ => a55_wp (onTape v τ 0) c sb s tb i cb n hC.row h1 e2 hC.s0) ?_
  rintro a' v' w' ⟨hA, q1, q2, q3⟩ hr' hn' -
  refine goesI_block (dt_idle _ _) ?_
  refine goesI_loop (dt_idle _ _) ?_
  exact hk a' v' w' hA hr' hn' q1 q2 q3

set_option maxHeartbeats 2000000 in
set_option maxRecDepth 100000 in
theorem add_loop {z : Nat → Option Nat} {Ch : Nat → Prop} {Stop : Goroutine → World → Prop} {h : Nat} {cont : Addr → Value} {S : TS} {K : List (Nat × Int)} {v w : World} {i j cb c : Nat} {t : Thr} {n : Int} (x : Int) {a : Act} (hA : Fl 32 [(0, Pt c 0), (1, Pt t.tb 0), (2, I n), (6, Pt cb 0)] a) (cs : List Frame) (Hm : Goroutine → Prop)
    (hH : ∀ g, (∃ a, Fl 32 [(0, Pt c 0), (1, Pt t.tb 0), (2, I n), (6, Pt cb 0)] a ∧ OpBack (h == 0) i j cb t.tb 1 effLoad (fun r => G (aSeen a r) cs) g) → Hm g)
    (hvw : Rel z v w) (hn : NoRow Ch v) (hm : Mem z S K v) (ht : S.thr[i]? = some t) (hK : K[j]? = some (cb, x)) (hz : z t.tb = some 2) (hcont : cont ⟨t.tb, 2, none⟩ = .chan (some t.gc))
    (hstop : ∀ g w', GiveT z cont h S.bk t.gc Hm (Then z Ch S K v (waiting S i t 1 1 j) K) g w' → Stop g w') :
    GoesI Tryd.prog (h == 0) (DT (ScZ z) Ch) Stop (G (aFr a) cs) w := by
  have HM : Hid (Mem z S K v) := ⟨hm⟩
  clear hm
  unfold aSeen ops551 B55 L55 Tryd.f55 seq1 seq2 blockC loopC opsOf at hH
  simp only [Option.getD_some] at hH
  obtain ⟨hsz, hd, hpp⟩ := hA
  obtain ⟨u, rfl, hg⟩ := litN hsz hd
  have u0 := (hg 0).symm.trans (hpp (0, Pt c 0) (by simp))
  have u1 := (hg 1).symm.trans (hpp (1, Pt t.tb 0) (by simp))
  have u2 := (hg 2).symm.trans (hpp (2, I n) (by simp))
  have u6 := (hg 6).symm.trans (hpp (6, Pt cb 0) (by simp))
  clear hg hpp hsz hd
  unfold aFr L55 Tryd.f55 seq2 blockC loopC
  simp only [Option.getD_some, lits, Nat.reduceAdd, u0, u1, u2, u6]
  clear u0 u1 u2 u6
  refine goesI_block (dt_idle _ _) ?_
  refine goesI_seq (dt_idle _ _) ?_
  refine goesI_region (dt_idle _ _) ?_
  simp only [List.size_toArray, List.length_cons, List.length_nil, Nat.reduceAdd, Nat.zero_add, List.range, List.range.loop]
  iterate 2
    (refine goesI_oper rfl rfl (by decide) (fun d K hK => ?_)
     go_simp
     refine hK _ _ ⟨dt_reads (fun e he => ?_), GoesI.at ?_ d⟩
     · have hm := mem_listed he
       simp [go_sem, *] at hm
       try exact ⟨_, _, hm⟩
     clear hK K)
  refine goesI_into (f := 64) (fn := Tryd.f64) (args := #[Pt cb 0, Pt t.tb 0]) (dt_idle _ _) rfl rfl (by decide) rfl (by simp [Act.eval]) Tryd.func64 (by decide) rfl ?_
  exact load_goes x _ Hm rfl (fun g hg => hH g ⟨_, ⟨rfl, rfl, by
    intro p hp
    simp only [List.mem_cons, List.not_mem_nil, or_false] at hp
    rcases hp with rfl | rfl | rfl | rfl <;> rfl⟩, hg⟩) hvw hn HM.out ht hK hz hcont hstop _ rfl

theorem fits_flds {v w : World} (h : R1.Flds v) (e : w.heap = v.heap) : R1.Flds w := h.of fun a x ha => by rw [World.cell?_of_block (w := v) (by rw [e])]; exact ha
theorem blw_grows {v v' : World} (h : Below v.heap.size v v') : Grows v v' := ⟨h.size, fun b hb => h.block b hb, h.os, h.output⟩

set_option maxHeartbeats 2000000 in
set_option maxRecDepth 100000 in
theorem add_try {z : Nat → Option Nat} {Ch : Nat → Prop} {Stop : Goroutine → World → Prop} {h : Nat} {cont : Addr → Value} {S : TS} {K : List (Nat × Int)} {v w : World} {i j cb c : Nat} {t : Thr} {n : Int} (x y : Int) (hF : R1.Flds v) {a : Act} (hA : Fl 32 [(0, Pt c 0), (1, Pt t.tb 0), (2, I n), (6, Pt cb 0)] a) (cs : List Frame) (Hm : Goroutine → Prop)
    (hH : ∀ g, (∃ a, Fl 32 [(0, Pt c 0), (1, Pt t.tb 0), (2, I n), (6, Pt cb 0)] a ∧ OpBack (h == 0) i j cb t.tb 4 (effCas x (R1.addI x n)) (fun r => G (aTried a r) cs) g) → Hm g)
    (hvw : Rel z v w) (hn : NoRow Ch v) (hm : Mem z S K v) (ht : S.thr[i]? = some t) (hK : K[j]? = some (cb, y)) (hz : z t.tb = some 2) (hcont : cont ⟨t.tb, 2, none⟩ = .chan (some t.gc))
    (hstop : ∀ g w', GiveT z cont h S.bk t.gc Hm (Then z Ch S K v (waiting S i t 1 4 j) K) g w' → Stop g w') :
    GoesI Tryd.prog (h == 0) (DT (ScZ z) Ch) Stop (G (aSeen a (I x)) cs) w := by
  have HM : Hid (Mem z S K v) := ⟨hm⟩
  clear hm
  unfold aTried ops552 B55 L55 Tryd.f55 seq1 seq2 blockC loopC opsOf at hH
  simp only [Option.getD_some] at hH
  obtain ⟨hsz, hd, hpp⟩ := hA
  obtain ⟨u, rfl, hg⟩ := litN hsz hd
  have u0 := (hg 0).symm.trans (hpp (0, Pt c 0) (by simp))
  have u1 := (hg 1).symm.trans (hpp (1, Pt t.tb 0) (by simp))
  have u2 := (hg 2).symm.trans (hpp (2, I n) (by simp))
  have u6 := (hg 6).symm.trans (hpp (6, Pt cb 0) (by simp))
  clear hg hpp hsz hd
  unfold aSeen ops551 B55 L55 Tryd.f55 seq2 seq1 blockC loopC opsOf
  simp only [Option.getD_some, lits, Nat.reduceAdd, u0, u1, u2, u6]
  clear u0 u1 u2 u6
  walk_nrm
  iterate 1
    (refine goesI_oper rfl rfl (by decide) (fun d K hK => ?_)
     go_simp
     refine hK _ _ ⟨dt_reads (fun e he => ?_), GoesI.at ?_ d⟩
     · have hm := mem_listed he
       simp [go_sem, *] at hm
       try exact ⟨_, _, hm⟩
     clear hK K)
  refine goesI_regionEnd (dt_idle _ _) ?_
  refine goesI_seq (dt_idle _ _) ?_
  refine goesI_region (dt_idle _ _) ?_
  simp only [List.size_toArray, List.length_cons, List.length_nil, Nat.reduceAdd, Nat.zero_add, List.range, List.range.loop]
  iterate 5
    (refine goesI_oper rfl rfl (by decide) (fun d K hK => ?_)
     go_simp
     refine hK _ _ ⟨dt_reads (fun e he => ?_), GoesI.at ?_ d⟩
     · have hm := mem_listed he
       simp [go_sem, *] at hm
       try exact ⟨_, _, hm⟩
     clear hK K)
  refine goesI_call (f := 87) (fn := Tryd.f87) (args := #[I x, I n]) hE fineT rfl rfl (by decide) rfl (by simp [Act.eval]) Tryd.func87 (by kernel_rfl) rfl (fineFn_body fineT (by simp [LT, plainFs]) Tryd.func87 rfl) (fun tmps => ⟨_, fun w => results_tmp rfl _ _ _, fun w => by simp [results, go_sem, Tryd.f87]⟩) hvw hn
    (R := fun r v4 => r = I (R1.addI x n) ∧ Grows v v4) (fun τ => ?_) (fun r v4 w4 hR hvw4 hn4 => ?_)
  · exact wp_mono (R1.added_any x n (onTape v τ 0) (fits_flds hF rfl) _ rfl) (bp_mono fun r u hq => ⟨hq.1, ⟨(blw_grows hq.2).size, (blw_grows hq.2).old, hq.2.os, hq.2.output⟩⟩)
  obtain ⟨rfl, hg4⟩ := hR
  have hm4 := (HM.out.grows hg4)
  walk_nrm
  refine goesI_into (f := 66) (fn := Tryd.f66) (args := #[Pt cb 0, Pt t.tb 0, I x, I (R1.addI x n)]) (dt_idle _ _) rfl rfl (by decide) rfl (by simp [Act.eval]) Tryd.func66 (by decide) rfl ?_
  exact cas_goes x (R1.addI x n) y _ Hm rfl (fun g hg => hH g ⟨_, ⟨rfl, rfl, by
    intro p hp
    simp only [List.mem_cons, List.not_mem_nil, or_false] at hp
    rcases hp with rfl | rfl | rfl | rfl <;> rfl⟩, hg⟩) hvw4 hn4 hm4.mem ht hK hz hcont (fun g w' hs => hstop g w' (give_mono (fun hT => by obtain ⟨v', r1, r2, r3⟩ := hT; exact ⟨v', r1, r2, hm4.trans r3⟩) hs)) _ rfl

noncomputable def won55 : Code := condA (seq2 (seq2 B55))
theorem eWon55 : won55 = .ret := rfl
set_option maxHeartbeats 2000000 in
set_option maxRecDepth 100000 in
/-- It did. -/
theorem add_won {z : Nat → Option Nat} {Ch : Nat → Prop} {Stop : Goroutine → World → Prop} {main : Bool} {v w : World} {a : Act} {L : List (Nat × Value)} (hA : Fl 32 L a) (cs : List Frame) {bc : Frame} {ac : Act} {ops : Array Oper} {q : Nat} {rest : List Nat} {oc : Oper} {k : List Item} (hoc : ops[q]? = some oc)
    (hvw : Rel z v w) (hn : NoRow Ch v)
    (hk : ∀ w', Rel z v w' → GoesI Tryd.prog main (DT (ScZ z) Ch) Stop (G (bc.at (ac.put oc.dst (.tuple #[])) (.inRegion ops rest :: k)) cs) w') :
    GoesI Tryd.prog main (DT (ScZ z) Ch) Stop (G (aTried a (.bool true)) (bc.at ac (.inRegion ops (q :: rest) :: k) :: cs)) w := by
  obtain ⟨hsz, hd, hpp⟩ := hA
  obtain ⟨u, rfl, hg⟩ := litN hsz hd
  clear hg hpp hsz hd
  unfold aTried ops552 B55 L55 Tryd.f55 seq2 seq1 blockC loopC opsOf
  simp only [Option.getD_some, lits, Nat.reduceAdd]
  walk_nrm
  refine goesI_regionEnd (dt_idle _ _) ?_
  refine goesI_cond (dt_idle _ _) (t := true) rfl ?_
  simp only [if_true, if_false, Bool.false_eq_true]
  refine GoesI.ctl rfl (fun _ => stepG_ret') (dt_idle _ _) ?_
  exact goesI_leaveZ (f := 55) (fn := Tryd.f55) (x := .tuple #[]) hvw hn Tryd.func55 rfl hoc (by simp [results, go_sem, Tryd.f55]) (fun w' r' => hk w' r')
set_option maxHeartbeats 2000000 in
set_option maxRecDepth 100000 in
/-- Another was ahead of it: it looks again. -/
theorem add_again {z : Nat → Option Nat} {Ch : Nat → Prop} {Stop : Goroutine → World → Prop} {main : Bool} {w : World} {c tb cb : Nat} {n : Int} {a : Act} (hA : Fl 32 [(0, Pt c 0), (1, Pt tb 0), (2, I n), (6, Pt cb 0)] a) (cs : List Frame)
    (hk : ∀ a, Fl 32 [(0, Pt c 0), (1, Pt tb 0), (2, I n), (6, Pt cb 0)] a → GoesI Tryd.prog main (DT (ScZ z) Ch) Stop (G (aFr a) cs) w) :
    GoesI Tryd.prog main (DT (ScZ z) Ch) Stop (G (aTried a (.bool false)) cs) w := by
  unfold aFr L55 Tryd.f55 seq2 blockC loopC at hk
  simp only [Option.getD_some] at hk
  obtain ⟨hsz, hd, hpp⟩ := hA
  obtain ⟨u, rfl, hg⟩ := litN hsz hd
  have u0 := (hg 0).symm.trans (hpp (0, Pt c 0) (by simp))
  have u1 := (hg 1).symm.trans (hpp (1, Pt tb 0) (by simp))
  have u2 := (hg 2).symm.trans (hpp (2, I n) (by simp))
  have u6 := (hg 6).symm.trans (hpp (6, Pt cb 0) (by simp))
  clear hg hpp hsz hd
  unfold aTried ops552 B55 L55 Tryd.f55 seq2 seq1 blockC loopC opsOf
  simp only [Option.getD_some, lits, Nat.reduceAdd, u0, u1, u2, u6]
  clear u0 u1 u2 u6
  walk_nrm
  refine goesI_regionEnd (dt_idle _ _) ?_
  refine goesI_cond (dt_idle _ _) (t := false) rfl ?_
  simp only [if_true, if_false, Bool.false_eq_true]
  refine goesI_skip (dt_idle _ _) ?_
  refine goesI_inBlock (dt_idle _ _) ?_
  refine goesI_inLoop (dt_idle _ _) ?_
  exact hk _ ⟨rfl, rfl, by
    intro p hp
    simp only [List.mem_cons, List.not_mem_nil, or_false] at hp
    rcases hp with rfl | rfl | rfl | rfl <;> rfl⟩
end Go.Proofs.YtcfmffmcammbjaaDoor.Gen

/- counter's collect (88), in company, in pieces: it looks at one shard behind the other; what it saw is written down. (Made by wip/tools/mkcts.py.) -/
set_option linter.unusedSimpArgs false
set_option linter.unusedVariables false
namespace Go.Proofs.YtcfmffmcammbjaaDoor.Gen
open Go Go.Lift Go.Conc Go.RowKit

noncomputable def a88 : Code := seq1 (Tryd.f88.body.getD .skip)
noncomputable def L88 : Code := loopC (blockC (seq2 (Tryd.f88.body.getD .skip)))
noncomputable def B88 : Code := blockC (seq1 (seq2 (seq2 L88)))
noncomputable def ops883 : Array Oper := opsOf (seq2 B88)
noncomputable def r884 : Code := seq2 (seq2 (seq2 L88))
theorem fine_a88 : fineCode Tryd.prog true LT a88 := fineCode_ask callT extT (by kernel_rfl)
/-- The frame at the loop's head; where it has seen. -/
noncomputable def kFr (a : Act) : Frame := (base 88).at a [.code L88, .inLoop L88, .inBlock 0]
noncomputable def kSeen (a : Act) (r : Value) : Frame := (base 88).at (a.put (some 22) r) [.inRegion ops883 [5, 6], .inBlock 1, .code r884, .inLoop L88, .inBlock 0]

set_option maxHeartbeats 2000000 in
set_option maxRecDepth 100000 in
theorem a88_wp (v : World) (c sb s nb tb : Nat) (h0 : v.cell? ⟨c, 0, none⟩ = some (.slice (some ⟨sb, 0, none⟩) s s)) :
    a88.wp Tryd.prog (fun e a w' => e = .normal ∧ Fl 25 [(0, Pt c 0), (1, Pt tb 0), (2, .slice (some ⟨nb, 0, none⟩) s s), (11, .slice (some ⟨sb, 0, none⟩) s s), (12, I s), (13, I 0)] a ∧ w'.heap = v.heap ∧ w'.os = v.os ∧ w'.output = v.output) { tmps := #[Pt c 0, Pt tb 0, .slice (some ⟨nb, 0, none⟩) s s] ++ Array.replicate 22 undef, defers := [] } v := by
  unfold a88 Tryd.f88 seq1
  simp only [Option.getD_some, Array.replicate_succ, Array.replicate_zero, List.push_toArray, List.append_toArray, List.nil_append, List.cons_append]
  go_wp2_with fail
  first
    | exact ⟨rfl, ⟨rfl, rfl, by
      intro p hp
      simp only [List.mem_cons, List.not_mem_nil, or_false] at hp
      rcases hp with rfl | rfl | rfl | rfl | rfl | rfl <;> rfl⟩, rfl, rfl, rfl⟩
    | exact ⟨rfl, rfl, by
      intro p hp
      simp only [List.mem_cons, List.not_mem_nil, or_false] at hp
      rcases hp with rfl | rfl | rfl | rfl | rfl | rfl <;> rfl⟩
/-- It has been entered. -/
theorem coll_in {z : Nat → Option Nat} {Ch : Nat → Prop} {Stop : Goroutine → World → Prop} {main : Bool} {v w : World} {c sb s nb tb : Nat} (h0 : v.cell? ⟨c, 0, none⟩ = some (.slice (some ⟨sb, 0, none⟩) s s)) (cs : List Frame) (hvw : Rel z v w) (hn : NoRow Ch v)
    (hk : ∀ a v' w', Fl 25 [(0, Pt c 0), (1, Pt tb 0), (2, .slice (some ⟨nb, 0, none⟩) s s), (11, .slice (some ⟨sb, 0, none⟩) s s), (12, I s), (13, I 0)] a → Rel z v' w' → NoRow Ch v' → v'.heap = v.heap → v'.os = v.os → v'.output = v.output → GoesI Tryd.prog main (DT (ScZ z) Ch) Stop (G (kFr a) cs) w') (code : Code) (hc : Tryd.f88.body = some code) :
    GoesI Tryd.prog main (DT (ScZ z) Ch) Stop (G ((base 88).at { tmps := #[Pt c 0, Pt tb 0, .slice (some ⟨nb, 0, none⟩) s s] ++ Array.replicate 22 undef, defers := [] } [.code code]) cs) w := by
  have hw0 : code = .seq a88 (.block 0 (.loop L88)) := by
    rw [show code = Tryd.f88.body.getD .skip by rw [hc]; rfl]; rfl
  subst hw0
  clear hc
  refine goesI_seq (dt_idle _ _) ?_
  refine goesI_plain (z := z) (wr := true) (L := LT) (I := NoRow Ch) hE fineT noRow_keeps (fun v v' w w' es hi hr ho he => dt_of_z v v' w w' es hi hr ho he) hvw fine_a88 rfl (by simp [base]) hn
    (Q := fun a w' => Fl 25 [(0, Pt c 0), (1, Pt tb 0), (2, .slice (some ⟨nb, 0, none⟩) s s), (11, .slice (some ⟨sb, 0, none⟩) s s), (12, I s), (13, I 0)] a ∧ w'.heap = v.heap ∧ w'.os = v.os ∧ w'.output = v.output) (fun τ => a88_wp (onTape v τ 0) c sb s nb tb h0) ?_
  rintro a' v' w' ⟨hA, q1, q2, q3⟩ hr' hn' -
  refine goesI_block (dt_idle _ _) ?_
  refine goesI_loop (dt_idle _ _) ?_
  exact hk a' v' w' hA hr' hn' q1 q2 q3

set_option maxHeartbeats 2000000 in
set_option maxRecDepth 100000 in
/-- It looks at shard k. -/
theorem coll_look {z : Nat → Option Nat} {Ch : Nat → Prop} {Stop : Goroutine → World → Prop} {h : Nat} {cont : Addr → Value} {S : TS} {K : List (Nat × Int)} {v w : World} {i k cb c sb s nb : Nat} {t : Thr} (x : Int) (hks : k < s) (hcb : v.cell? ⟨sb, k, none⟩ = some (Pt cb 0)) {a : Act} (hA : Fl 25 [(0, Pt c 0), (1, Pt t.tb 0), (2, .slice (some ⟨nb, 0, none⟩) s s), (11, .slice (some ⟨sb, 0, none⟩) s s), (12, I s), (13, I k)] a) (cs : List Frame) (Hm : Goroutine → Prop)
    (hH : ∀ g, (∃ a, Fl 25 [(0, Pt c 0), (1, Pt t.tb 0), (2, .slice (some ⟨nb, 0, none⟩) s s), (11, .slice (some ⟨sb, 0, none⟩) s s), (12, I s), (13, I k)] a ∧ Fl 25 [(18, .slice (some ⟨nb, 0, none⟩) s s), (19, I k)] a ∧ OpBack (h == 0) i k cb t.tb 1 effLoad (fun r => G (kSeen a r) cs) g) → Hm g)
    (hvw : Rel z v w) (hn : NoRow Ch v) (hm : Mem z S K v) (ht : S.thr[i]? = some t) (hK : K[k]? = some (cb, x)) (hz : z t.tb = some 2) (hcont : cont ⟨t.tb, 2, none⟩ = .chan (some t.gc))
    (hstop : ∀ g w', GiveT z cont h S.bk t.gc Hm (Then z Ch S K v (waiting S i t 1 1 k) K) g w' → Stop g w') :
    GoesI Tryd.prog (h == 0) (DT (ScZ z) Ch) Stop (G (kFr a) cs) w := by
  have e0 : w.cell? ⟨sb, k, none⟩ = some (Pt cb 0) := by rw [hvw.cell?]; exact hcb
  have hks' : (k : Int) < (s : Int) := by omega
  have HM : Hid (Mem z S K v) := ⟨hm⟩
  clear hm
  unfold kSeen ops883 r884 B88 L88 Tryd.f88 seq1 seq2 blockC loopC opsOf at hH
  simp only [Option.getD_some] at hH
  obtain ⟨hsz, hd, hpp⟩ := hA
  obtain ⟨u, rfl, hg⟩ := litN hsz hd
  have u0 := (hg 0).symm.trans (hpp (0, Pt c 0) (by simp))
  have u1 := (hg 1).symm.trans (hpp (1, Pt t.tb 0) (by simp))
  have u2 := (hg 2).symm.trans (hpp (2, .slice (some ⟨nb, 0, none⟩) s s) (by simp))
  have u11 := (hg 11).symm.trans (hpp (11, .slice (some ⟨sb, 0, none⟩) s s) (by simp))
  have u12 := (hg 12).symm.trans (hpp (12, I s) (by simp))
  have u13 := (hg 13).symm.trans (hpp (13, I k) (by simp))
  clear hg hpp hsz hd
  unfold kFr L88 Tryd.f88 seq2 blockC loopC
  simp only [Option.getD_some, lits, Nat.reduceAdd, u0, u1, u2, u11, u12, u13]
  clear u0 u1 u2 u11 u12 u13
  refine goesI_seq (dt_idle _ _) ?_
  refine goesI_region (dt_idle _ _) ?_
  simp only [List.size_toArray, List.length_cons, List.length_nil, Nat.reduceAdd, Nat.zero_add, List.range, List.range.loop]
  iterate 1
    (refine goesI_oper rfl rfl (by decide) (fun d K hK => ?_)
     go_simp
     refine hK _ _ ⟨dt_reads (fun e he => ?_), GoesI.at ?_ d⟩
     · have hm := mem_listed he
       simp [go_sem, *] at hm
       try exact ⟨_, _, hm⟩
     clear hK K)
  refine goesI_regionEnd (dt_idle _ _) ?_
  refine goesI_seq (dt_idle _ _) ?_
  refine goesI_cond (dt_idle _ _) (t := true) (by simp [Act.eval, hks]) ?_
  simp only [if_true, if_false, Bool.false_eq_true]
  refine goesI_skip (dt_idle _ _) ?_
  refine goesI_seq (dt_idle _ _) ?_
  refine goesI_block (dt_idle _ _) ?_
  refine goesI_seq (dt_idle _ _) ?_
  refine goesI_region (dt_idle _ _) ?_
  simp only [List.size_toArray, List.length_cons, List.length_nil, Nat.reduceAdd, Nat.zero_add, List.range, List.range.loop]
  iterate 5
    (refine goesI_oper rfl rfl (by decide) (fun d K hK => ?_)
     go_simp
     refine hK _ _ ⟨dt_reads (fun e he => ?_), GoesI.at ?_ d⟩
     · have hm := mem_listed he
       simp [go_sem, *] at hm
       try exact ⟨_, _, hm⟩
     clear hK K)
  refine goesI_regionEnd (dt_idle _ _) ?_
  refine goesI_region (dt_idle _ _) ?_
  simp only [List.size_toArray, List.length_cons, List.length_nil, Nat.reduceAdd, Nat.zero_add, List.range, List.range.loop]
  iterate 4
    (refine goesI_oper rfl rfl (by decide) (fun d K hK => ?_)
     go_simp
     refine hK _ _ ⟨dt_reads (fun e he => ?_), GoesI.at ?_ d⟩
     · have hm := mem_listed he
       simp [go_sem, *] at hm
       try exact ⟨_, _, hm⟩
     clear hK K)
  refine goesI_into (f := 64) (fn := Tryd.f64) (args := #[Pt cb 0, Pt t.tb 0]) (dt_idle _ _) rfl rfl (by decide) rfl (by simp [Act.eval]) Tryd.func64 (by decide) rfl ?_
  exact load_goes x _ Hm rfl (fun g hg => hH g ⟨_, ⟨rfl, rfl, by
    intro p hp
    simp only [List.mem_cons, List.not_mem_nil, or_false] at hp
    rcases hp with rfl | rfl | rfl | rfl | rfl | rfl <;> rfl⟩, ⟨rfl, rfl, by
    intro p hp
    simp only [List.mem_cons, List.not_mem_nil, or_false] at hp
    rcases hp with rfl | rfl <;> rfl⟩, hg⟩) hvw hn HM.out ht hK hz hcont hstop _ rfl

set_option maxHeartbeats 2000000 in
set_option maxRecDepth 100000 in
/-- What it saw is written down. -/
theorem coll_put {z : Nat → Option Nat} {Ch : Nat → Prop} {Stop : Goroutine → World → Prop} {main : Bool} {v w : World} {k c sb s nb tb : Nat} (x y : Int) (hks : k < s) (hs1 : s ≤ 16) (hy : v.cell? ⟨nb, k, none⟩ = some (I y)) (hf : v.frozen? ⟨nb, k, none⟩ = false) {a : Act} (hA : Fl 25 [(0, Pt c 0), (1, Pt tb 0), (2, .slice (some ⟨nb, 0, none⟩) s s), (11, .slice (some ⟨sb, 0, none⟩) s s), (12, I s), (13, I k)] a) (hA2 : Fl 25 [(18, .slice (some ⟨nb, 0, none⟩) s s), (19, I k)] a) (cs : List Frame) (hvw : Rel z v w) (hn : NoRow Ch v)
    (hk : ∀ a w', Fl 25 [(0, Pt c 0), (1, Pt tb 0), (2, .slice (some ⟨nb, 0, none⟩) s s), (11, .slice (some ⟨sb, 0, none⟩) s s), (12, I s), (13, I ((k + 1 : Nat) : Int))] a → Rel z (v.setCell ⟨nb, k, none⟩ (I x)) w' → NoRow Ch (v.setCell ⟨nb, k, none⟩ (I x)) → GoesI Tryd.prog main (DT (ScZ z) Ch) Stop (G (kFr a) cs) w') :
    GoesI Tryd.prog main (DT (ScZ z) Ch) Stop (G (kSeen a (I x)) cs) w := by
  have hks' : (k : Int) < (s : Int) := by omega
  have e18 := hA2.2.2 (18, .slice (some ⟨nb, 0, none⟩) s s) (by simp)
  have e19 := hA2.2.2 (19, I k) (by simp)
  clear hA2
  obtain ⟨hsz, hd, hpp⟩ := hA
  obtain ⟨u, rfl, hg⟩ := litN hsz hd
  have u0 := (hg 0).symm.trans (hpp (0, Pt c 0) (by simp))
  have u1 := (hg 1).symm.trans (hpp (1, Pt tb 0) (by simp))
  have u2 := (hg 2).symm.trans (hpp (2, .slice (some ⟨nb, 0, none⟩) s s) (by simp))
  have u11 := (hg 11).symm.trans (hpp (11, .slice (some ⟨sb, 0, none⟩) s s) (by simp))
  have u12 := (hg 12).symm.trans (hpp (12, I s) (by simp))
  have u13 := (hg 13).symm.trans (hpp (13, I k) (by simp))
  have u18 := (hg 18).symm.trans e18
  have u19 := (hg 19).symm.trans e19
  clear hg hpp hsz hd e18 e19
  unfold kFr L88 Tryd.f88 seq2 blockC loopC at hk
  simp only [Option.getD_some] at hk
  unfold kSeen ops883 r884 B88 L88 Tryd.f88 seq1 seq2 blockC loopC opsOf
  simp only [Option.getD_some, lits, Nat.reduceAdd, u0, u1, u2, u11, u12, u13, u18, u19]
  clear u0 u1 u2 u11 u12 u13 u18 u19
  walk_nrm
  refine goesI_opZ (L := LT) rfl rfl (by decide) (fineOp_ask callT extT (by kernel_rfl)) hvw hn (x := .pointer (some ⟨nb, k, none⟩)) (v' := v) (by go_simp) rfl (fun w1 hvw1 _ => ?_)
  refine goesI_doZ (L := LT) rfl rfl (by decide) (fineOp_ask callT extT (by kernel_rfl)) hvw1 hn (v' := v.setCell ⟨nb, k, none⟩ (I x)) (by go_simp) rfl (fun w2 hvw2 hn2 => ?_)
  walk_nrm
  refine goesI_regionEnd (dt_idle _ _) ?_
  refine goesI_inBlock (dt_idle _ _) ?_
  refine goesI_region (dt_idle _ _) ?_
  simp only [List.size_toArray, List.length_cons, List.length_nil, Nat.reduceAdd, Nat.zero_add, List.range, List.range.loop]
  iterate 2
    (refine goesI_oper rfl rfl (by decide) (fun d K hK => ?_)
     go_simp
     refine hK _ _ ⟨dt_reads (fun e he => ?_), GoesI.at ?_ d⟩
     · have hm := mem_listed he
       simp [go_sem, *] at hm
       try exact ⟨_, _, hm⟩
     clear hK K)
  refine goesI_regionEnd (dt_idle _ _) ?_
  refine goesI_inLoop (dt_idle _ _) ?_
  have hw1 : IntKind.i64.wrap ((k : Int) + 1) = ((k + 1 : Nat) : Int) := by rw [IntKind.wrap_i64]; omega
  rw [hw1]
  refine hk _ _ ?_ hvw2 hn2
  exact ⟨rfl, rfl, by
    intro p hp
    simp only [List.mem_cons, List.not_mem_nil, or_false] at hp
    rcases hp with rfl | rfl | rfl | rfl | rfl | rfl <;> rfl⟩

set_option maxHeartbeats 2000000 in
set_option maxRecDepth 100000 in
/-- It has seen all. -/
theorem coll_done {z : Nat → Option Nat} {Ch : Nat → Prop} {Stop : Goroutine → World → Prop} {main : Bool} {v w : World} {k c sb s nb tb : Nat} (hks : k = s) {a : Act} (hA : Fl 25 [(0, Pt c 0), (1, Pt tb 0), (2, .slice (some ⟨nb, 0, none⟩) s s), (11, .slice (some ⟨sb, 0, none⟩) s s), (12, I s), (13, I k)] a) (cs : List Frame) {bc : Frame} {ac : Act} {ops : Array Oper} {q : Nat} {rest : List Nat} {oc : Oper} {kk : List Item} (hoc : ops[q]? = some oc) (hvw : Rel z v w) (hn : NoRow Ch v)
    (hk : ∀ w', Rel z v w' → GoesI Tryd.prog main (DT (ScZ z) Ch) Stop (G (bc.at (ac.put oc.dst (.tuple #[])) (.inRegion ops rest :: kk)) cs) w') :
    GoesI Tryd.prog main (DT (ScZ z) Ch) Stop (G (kFr a) (bc.at ac (.inRegion ops (q :: rest) :: kk) :: cs)) w := by
  subst hks
  obtain ⟨hsz, hd, hpp⟩ := hA
  obtain ⟨u, rfl, hg⟩ := litN hsz hd
  have u0 := (hg 0).symm.trans (hpp (0, Pt c 0) (by simp))
  have u1 := (hg 1).symm.trans (hpp (1, Pt tb 0) (by simp))
  have u2 := (hg 2).symm.trans (hpp (2, .slice (some ⟨nb, 0, none⟩) k k) (by simp))
  have u11 := (hg 11).symm.trans (hpp (11, .slice (some ⟨sb, 0, none⟩) k k) (by simp))
  have u12 := (hg 12).symm.trans (hpp (12, I k) (by simp))
  have u13 := (hg 13).symm.trans (hpp (13, I k) (by simp))
  clear hg hpp hsz hd
  unfold kFr L88 Tryd.f88 seq2 blockC loopC
  simp only [Option.getD_some, lits, Nat.reduceAdd, u0, u1, u2, u11, u12, u13]
  clear u0 u1 u2 u11 u12 u13
  refine goesI_seq (dt_idle _ _) ?_
  refine goesI_region (dt_idle _ _) ?_
  simp only [List.size_toArray, List.length_cons, List.length_nil, Nat.reduceAdd, Nat.zero_add, List.range, List.range.loop]
  iterate 1
    (refine goesI_oper rfl rfl (by decide) (fun d K hK => ?_)
     go_simp
     refine hK _ _ ⟨dt_reads (fun e he => ?_), GoesI.at ?_ d⟩
     · have hm := mem_listed he
       simp [go_sem, *] at hm
       try exact ⟨_, _, hm⟩
     clear hK K)
  refine goesI_regionEnd (dt_idle _ _) ?_
  refine goesI_seq (dt_idle _ _) ?_
  refine goesI_cond (dt_idle _ _) (t := false) (by simp [Act.eval]) ?_
  simp only [if_true, if_false, Bool.false_eq_true]
  refine goesI_exit (dt_idle _ _) (k' := []) rfl ?_
  refine goesI_end (dt_idle _ _) ?_
  exact goesI_leaveZ (f := 88) (fn := Tryd.f88) (x := .tuple #[]) hvw hn Tryd.func88 rfl hoc (by simp [results, go_sem, Tryd.f88]) (fun w' r' => hk w' r')
end Go.Proofs.YtcfmffmcammbjaaDoor.Gen
