/- CellAlone returns true, whatever the number and the calls, and leaves what it was given as it was: of the law's statement as given, with no condition of our own. Part 8 of 22. (Joined, by program, of: Freeze, Await, Lift26, Awake2, Lift27, AwaitNo, Until, Carry, Play5.) -/
import Derived.Test.YtmgaojbfmohboaaCellAlone07

/- From the world in company to a lone world that keeps the still cells, and back. -/
set_option linter.unusedSimpArgs false
set_option linter.unusedVariables false
namespace Go.Proofs.Ytmgaojbfmohboaa
open Go Go.Lift Go.Conc Go.RowKit

/-- A row's cell is kept. -/
def chill : Option Nat → Obj → Obj
  | some n, .cells c e _ => .cells c e (n, n + 1)
  | _, o => o
theorem zap_chill (x : Option Nat) (o : Obj) (h : ∀ c e f, o = .cells c e f → x.isSome = true → f = (0, 0)) : zap x (chill x o) = o := by
  cases x with
  | none => cases o <;> rfl
  | some n =>
    cases o with
    | cells c e f =>
      have := h c e f rfl rfl
      subst this
      rfl
    | _ => rfl

/-- Of a world whose rows bear no mark at the kept blocks there is a lone world that keeps the cells. -/
theorem freeze_rel {z : Nat → Option Nat} {w : World} (h : ∀ r n, z r = some n → r < w.heap.size ∧ ∀ c e f, w.heap[r]? = some (.cells c e f) → f = (0, 0)) :
    ∃ v, Rel z v w ∧ (∀ r, v.heap[r]? = (w.heap[r]?).map (chill (z r))) ∧ v.heap.size = w.heap.size ∧ v.os = w.os ∧ v.output = w.output := by
  have hget : ∀ r : Nat, (w.heap.mapIdx fun r o => chill (z r) o)[r]? = (w.heap[r]?).map (chill (z r)) := fun r => by rw [Array.getElem?_mapIdx]
  refine ⟨{ w with heap := w.heap.mapIdx fun r o => chill (z r) o }, ⟨fun r => ?_, fun r n c e f hz hh => ?_, fun r n hz => ?_, rfl, rfl⟩, hget, by simp, rfl, rfl⟩
  · show w.heap[r]? = ((w.heap.mapIdx fun r o => chill (z r) o)[r]?).map (zap (z r))
    rw [hget]
    cases ho : w.heap[r]? with
    | none => rfl
    | some o =>
      simp only [Option.map_some, Option.some.injEq]
      exact (zap_chill _ _ fun c e f he hs => by
        cases hz : z r with
        | none => rw [hz] at hs; cases hs
        | some n => exact (h r n hz).2 c e f (by rw [ho, he])).symm
  · simp only at hh
    rw [hget, hz] at hh
    cases ho : w.heap[r]? with
    | none => rw [ho] at hh; cases hh
    | some o =>
      rw [ho] at hh
      cases o <;> simp only [Option.map_some, chill, Option.some.injEq, Obj.cells.injEq, reduceCtorEq] at hh
      exact hh.2.2.symm
  · simpa using (h r n hz).1

section
variable {z : Nat → Option Nat} {S : TS} {K : List (Nat × Int)} {v w : World}
/-- The world in company is such a world too. -/
theorem Mem.thaw (h : Mem z S K v) (hr : Rel z v w) : Mem zn S K w := by
  have hno : ∀ b : Nat, (∀ c e, v.heap[b]? ≠ some (Obj.cells c e (0, 0))) ∨ w.heap[b]? = v.heap[b]? := fun b => by
    cases hz : z b with
    | none => right; rw [hr.heap, hz]; cases v.heap[b]? <;> simp [zap_none]
    | some n =>
      left
      intro c e hh
      have := hr.kept b n c e _ hz hh
      simp at this
  have hrow : ∀ (b : Nat) (c : Array Value) (e : TypeId), v.heap[b]? = some (.cells c e (fz z b)) → w.heap[b]? = some (.cells c e (fz zn b)) := fun b c e hh => by
    rw [hr.heap, hh]
    unfold fz
    cases hz : z b <;> rfl
  have hown : ∀ {base : Nat} {e : TypeId} {size : Nat} {x : Value} {n : Nat} {xs : List Value}, v.ownsRow base e size x n xs → w.ownsRow base e size x n xs := fun {base e size x n xs} ho => by
    refine ⟨ho.1, ?_⟩
    rcases ho.2 with h2 | ⟨g, cap, cur, h1, h2, h3, h4⟩
    · exact .inl h2
    · refine .inr ⟨g, cap, cur, h1, h2, ?_, h4⟩
      rcases hno g with hn | hn
      · exact absurd h3 (hn _ _)
      · rw [hn]; exact h3
  refine ⟨⟨hrow _ _ _ h.rep.wor, fun i t ht => hrow _ _ _ (h.rep.thr i t ht), hown h.rep.own, hown h.rep.chg, hown h.rep.ths, hown h.rep.sch, by rw [hr.size]; exact h.rep.bs, h.rep.apart, fun b n hz => (nomatch hz)⟩, fun j c hc => ?_, h.far, h.inj, h.len⟩
  rcases hno c.1 with hn | hn
  · exact absurd (h.cel j c hc) (hn _ _)
  · rw [hn]; exact h.cel j c hc

/-- .. and the other way: what is kept are cells of the world's row and of threads' rows. -/
theorem Mem.freeze (h : Mem zn S K w) (hz : ∀ b n, z b = some n → (b = S.wb ∧ n = 8) ∨ ∃ (i : Nat) (t : Thr), S.thr[i]? = some t ∧ b = t.tb ∧ n = 2) : ∃ v, Rel z v w ∧ Mem z S K v ∧ v.os = w.os ∧ v.output = w.output := by
  have hits : ∀ b n, z b = some n → Its S b := fun b n hb => by
    rcases hz b n hb with ⟨rfl, _⟩ | ⟨i, t, ht, rfl, _⟩
    · exact ⟨0, rfl⟩
    · exact ⟨i + 5, by simp [blk, ht]⟩
  have hlo : ∀ r n, z r = some n → r < w.heap.size ∧ ∀ c e f, w.heap[r]? = some (.cells c e f) → f = (0, 0) := fun r n hb => by
    refine ⟨h.lt (.inl (hits r n hb)), fun c e f hh => ?_⟩
    rcases hz r n hb with ⟨rfl, _⟩ | ⟨i, t, ht, rfl, _⟩
    · rw [h.rep.wor] at hh; cases hh; rfl
    · rw [h.rep.thr i t ht] at hh; cases hh; rfl
  obtain ⟨v, hr, hget, hs, ho, hu⟩ := freeze_rel hlo
  have hrow : ∀ (b : Nat) (c : Array Value) (e : TypeId), w.heap[b]? = some (.cells c e (fz zn b)) → v.heap[b]? = some (.cells c e (fz z b)) := fun b c e hh => by
    rw [hget, hh]
    unfold fz
    cases hzb : z b <;> rfl
  have hoth : ∀ b, z b = none → v.heap[b]? = w.heap[b]? := fun b hb => by
    rw [hget, hb]
    cases w.heap[b]? with
    | none => rfl
    | some o => cases o <;> rfl
  have hzo : ∀ k b, blk S k = some b → k ≠ 0 → k < 5 → z b = none := fun k b hk h0 h5 => by
    cases hb : z b with
    | none => rfl
    | some n =>
      rcases hz b n hb with ⟨rfl, _⟩ | ⟨i, t, ht, rfl, _⟩
      · exact absurd (h.rep.apart k 0 _ hk rfl) h0
      · have := h.rep.apart k (i + 5) _ hk (by simp [blk, ht]); omega
  refine ⟨v, hr, ⟨⟨hrow _ _ _ h.rep.wor, fun i t ht => hrow _ _ _ (h.rep.thr i t ht), own_stay (fun b hb => hoth b (hzo 3 b hb (by omega) (by omega))) h.rep.own, own_stay (fun b hb => hoth b (hzo 1 b hb (by omega) (by omega))) h.rep.chg, own_stay (fun b hb => hoth b (hzo 2 b hb (by omega) (by omega))) h.rep.ths, own_stay (fun b hb => hoth b (hzo 4 b hb (by omega) (by omega))) h.rep.sch, by rw [hs]; exact h.rep.bs, h.rep.apart, hz⟩, fun j c hc => ?_, h.far, h.inj, h.len⟩, ho, hu⟩
  rw [hoth c.1 (by
    cases hb : z c.1 with
    | none => rfl
    | some n => exact absurd (hits _ n hb) (h.far j c hc))]
  exact h.cel j c hc
end
end Go.Proofs.Ytmgaojbfmohboaa

/- A thread of a world waits till a cell is changed (Await), in company; a channel that turns changes nothing of the world's rows. -/
set_option linter.unusedSimpArgs false
set_option linter.unusedVariables false
namespace Go.Proofs.Ytmgaojbfmohboaa
open Go Go.Lift Go.Conc Go.RowKit

/-- A channel is turned. -/
theorem Mem.chan {z : Nat → Option Nat} {S : TS} {K : List (Nat × Int)} {w : World} (h : Mem z S K w) {c : Nat} {o : Obj} (hc : w.heap[c]? = some o) (ho : ∀ (x : Array Value) (e : TypeId) (f : Nat × Nat), o ≠ Obj.cells x e f) (cap : Nat) (buf : Array Value) (cl : Bool) (a b : Nat) (tm : Bool) : Mem z S K (w.setChan c cap buf cl a b tm) := by
  have hne : ∀ (r : Nat) (x : Array Value) (e : TypeId) (f : Nat × Nat), w.heap[r]? = some (Obj.cells x e f) → (w.setChan c cap buf cl a b tm).heap[r]? = some (Obj.cells x e f) := fun r x e f hr => by
    rw [heap_setChan_ne]
    · exact hr
    · rintro rfl
      rw [hc] at hr
      cases hr
      exact ho _ _ _ rfl
  have hown : ∀ {base : Nat} {e : TypeId} {size : Nat} {x : Value} {n : Nat} {xs : List Value}, w.ownsRow base e size x n xs → (w.setChan c cap buf cl a b tm).ownsRow base e size x n xs := fun {base e size x n xs} ho => by
    refine ⟨ho.1, ?_⟩
    rcases ho.2 with h2 | ⟨g, cp, cur, h1, h2, h3, h4⟩
    · exact .inl h2
    · exact .inr ⟨g, cp, cur, h1, h2, hne _ _ _ _ h3, h4⟩
  have hs : (w.setChan c cap buf cl a b tm).heap.size = w.heap.size := by simp [World.setChan]
  exact ⟨⟨hne _ _ _ _ h.rep.wor, fun i t ht => hne _ _ _ _ (h.rep.thr i t ht), hown h.rep.own, hown h.rep.chg, hown h.rep.ths, hown h.rep.sch, by rw [hs]; exact h.rep.bs, h.rep.apart, h.rep.kept⟩, fun j d hd => hne _ _ _ _ (h.cel j d hd), h.far, h.inj, h.len⟩

theorem wait_mem {z : Nat → Option Nat} {Ch : Nat → Prop} {Stop : Goroutine → World → Prop} {h : Nat} {cont : Addr → Value} {S : TS} {K : List (Nat × Int)} {v w : World} {i : Nat} {t : Thr} (s o c : Int) (cs : List Frame) (Hm : Goroutine → Prop) {bc : Frame} {ac : Act} {ops : Array Oper} {j : Nat} {rest : List Nat} {oc : Oper} {k : List Item} (hoc : ops[j]? = some oc)
    (hH : ∀ g, Back Try.prog (h == 0) g (G (bc.at (ac.put oc.dst (.tuple #[])) (.inRegion ops rest :: k)) cs) → Hm g)
    (hvw : Rel z v w) (hn : NoRow Ch v) (hm : Mem z S K v) (ht : S.thr[i]? = some t) (hz : z t.tb = some 2) (hcont : cont ⟨t.tb, 2, none⟩ = .chan (some t.gc))
    (hstop : ∀ g w', GiveT z cont h S.bk t.gc Hm (Then z Ch S K v (waiting S i t s o c) K) g w' → Stop g w') (code : Code) (hc : Try.f37.body = some code) :
    GoesI Try.prog (h == 0) (DT (ScZ z) Ch) Stop (G ((base 37).at { tmps := #[Pt t.tb 0, I s, I o, I c] ++ Array.replicate 38 undef, defers := [] } [.code code]) (bc.at ac (.inRegion ops (j :: rest) :: k) :: cs)) w := by
  have hrow := hm.rep.thr i t ht
  have hfz : fz z t.tb = (2, 3) := by unfold fz; rw [hz]
  rw [hfz] at hrow
  refine wait_goes t.tb S.wb i t.gc S.bk s o c t.st t.ce t.op t.se S.cv S.chg v w cs Hm hoc hH hvw hn hz hrow hm.rep.wcell.2.2.2.1 (int_row hm.rep.chg) hm.rep.wcell.2.2.2.2.2.2.2.2 (fun e => by have := hm.rep.apart 0 (i + 5) S.wb rfl (by simp [blk, ht, e]); omega) hcont (fun g w' hg => hstop g w' (give_mono (fun hF => ?_) hg)) code hc
  obtain ⟨v', k1, k2, k3, k4, k5⟩ := hF
  refine ⟨v', k1, k2, Evo.of_ev hm ((wait_ev hm.rep ht s o c).same k3 ?_ ?_) rfl⟩
  · rw [k4]; rfl
  · rw [k5]; rfl
end Go.Proofs.Ytmgaojbfmohboaa

/- One plain operation in company, by what it does in the lone world. -/
namespace Go.Lift
open Go.Conc
section
variable {P : Program} {main : Bool} {Stop : Goroutine → World → Prop} {k : List Item} {cs : List Frame} {w : World} {ops : Array Oper} {i : Nat} {rest : List Nat} {o : Oper} {L : FuncId → Prop} {b : Frame} {a : Act} {z : Nat → Option Nat} {Ch : Nat → Prop} {v v' : World}

theorem op_like (hof : fineOp P true L o) (hvw : Rel z v w) {x : Next} (hr : (execOp a.eval o).run P v = .ok x v') (hd : v'.drawn = v.drawn) (d : Nat) :
    ∃ w', Out z true v v' (w.at d) w' ∧ (∀ e ∈ listed P b.fn a o (w.at d), Okay true e ∧ Spares z w' e) ∧ (execOp a.eval o).run P (w.at d) = .ok x w' := by
  have hT : (execOp a.eval o).runT P v #[] = (.ok x v', (execOp a.eval o).events P v #[]) := by
    have := runT_fst (P := P) (execOp a.eval o) v #[]
    rw [hr] at this
    exact Prod.ext this rfl
  obtain ⟨w', h1, h2, h3⟩ := sim z _ (hof a).1 v (w.at d) #[] x v' _ (hvw.re rfl rfl rfl rfl rfl rfl) hT (fun i hi => absurd hi (by omega))
  refine ⟨w', h2, fun e he => ?_, by rw [← runT_fst (P := P) _ (w.at d) #[], h1]⟩
  have e2 : (execOp a.eval o).events P (w.at d) #[] = (execOp a.eval o).events P v #[] := by
    show ((execOp a.eval o).runT P (w.at d) #[]).2 = _
    rw [h1]
  unfold listed at he
  rw [e2] at he
  rcases h3 e (mem_seen he) with h | h
  · simp at h
  · exact h

/-- It yields a value. -/
theorem goesI_opZ (ho : ops[i]? = some o) (hw : Region.wanted o (yielded ops a.tmps) = true) (hk : b.kind ≠ .early) (hof : fineOp P true L o) (hvw : Rel z v w) (hn : NoRow Ch v) {x : Value} (hr : (execOp a.eval o).run P v = .ok (.value x) v') (hd : v'.drawn = v.drawn)
    (h : ∀ w', Rel z v' w' → NoRow Ch v' → GoesI P main (DT (ScZ z) Ch) Stop (G (b.at (a.put o.dst x) (.inRegion ops rest :: k)) cs) w') : GoesI P main (DT (ScZ z) Ch) Stop (G (b.at a (.inRegion ops (i :: rest) :: k)) cs) w := by
  have one := op_like (b := b) hof hvw hr hd
  exact .step rfl _ (fun d => (one d).choose) _ (fun d => stepG_value ho hw hk (one d).choose_spec.2.2) (fun d => dt_of_z v v' (w.at d) _ _ hn (hvw.re rfl rfl rfl rfl rfl rfl) (one d).choose_spec.1 (one d).choose_spec.2.1) (fun d => h _ (one d).choose_spec.1.rel (noRow_keeps _ _ (one d).choose_spec.1.keeps hn))
/-- It yields nothing. -/
theorem goesI_doZ (ho : ops[i]? = some o) (hw : Region.wanted o (yielded ops a.tmps) = true) (hk : b.kind ≠ .early) (hof : fineOp P true L o) (hvw : Rel z v w) (hn : NoRow Ch v) (hr : (execOp a.eval o).run P v = .ok .skip v') (hd : v'.drawn = v.drawn)
    (h : ∀ w', Rel z v' w' → NoRow Ch v' → GoesI P main (DT (ScZ z) Ch) Stop (G (b.at (a.put o.dst undef) (.inRegion ops rest :: k)) cs) w') : GoesI P main (DT (ScZ z) Ch) Stop (G (b.at a (.inRegion ops (i :: rest) :: k)) cs) w := by
  have one := op_like (b := b) hof hvw hr hd
  exact .step rfl _ (fun d => (one d).choose) _ (fun d => stepG_none ho hw hk (one d).choose_spec.2.2) (fun d => dt_of_z v v' (w.at d) _ _ hn (hvw.re rfl rfl rfl rfl rfl rfl) (one d).choose_spec.1 (one d).choose_spec.2.1) (fun d => h _ (one d).choose_spec.1.rel (noRow_keeps _ _ (one d).choose_spec.1.keeps hn))

theorem Agr.eval {n : Nat} {val : Nat → Value} {a0 : Act} {l : Array Bool} (h : Agr ops n val a0 l a) {j : Nat} {t : Tmp} (hj : j < n) (ho : ops[j]? = some o) (hl : l.getD j false = true) (hd : o.dst = some t) : a.eval (.tmp t) = val j := by
  simp [Act.eval, h.done j o t hj ho hl hd]
theorem Agr.eval0 {n : Nat} {val : Nat → Value} {a0 : Act} {l : Array Bool} (h : Agr ops n val a0 l a) {t : Tmp} (hd : ∀ (j : Nat) (o : Oper), j < n → ops[j]? = some o → o.dst ≠ some t) : a.eval (.tmp t) = a0.eval (.tmp t) := by
  simp [Act.eval, h.else_ t (fun j o hj ho _ => hd j o hj ho)]
end
end Go.Lift

/- Await whole (turn.Await of a thread that goes by turns), in company: it waits, and answers whether it was woken. -/
set_option linter.unusedSimpArgs false
set_option linter.unusedVariables false
namespace Go.Proofs.Ytmgaojbfmohboaa
open Go Go.Lift Go.Conc Go.RowKit

/-- Served at its Await: woken, it notes that and answers true; stuck, it answers false. -/
def WakeBack (main : Bool) (i tb : Nat) (c : Int) (cl : Value → Goroutine) (g : Goroutine) : Prop :=
  ∀ (z : Nat → Option Nat) (Ch : Nat → Prop) (Stop : Goroutine → World → Prop) (y : Value) (w v : World) (S : TS) (K : List (Nat × Int)) (t : Thr), Rel z v w → NoRow Ch v → Mem z S K v → S.thr[i]? = some t → t.tb = tb → (S.n + 1) * 40 ≤ 140737488355328 →
    (∀ v' w' tv, S.stk = false → Rel z v' w' → NoRow Ch v' → Evo z S K v (noted S tv i 6 c 0 0) K v' → GoesI Try.prog main (DT (ScZ z) Ch) Stop (cl (.bool true)) w') →
    (∀ v' w', S.stk = true → Rel z v' w' → NoRow Ch v' → Evo z S K v S K v' → GoesI Try.prog main (DT (ScZ z) Ch) Stop (cl (.bool false)) w') →
    GoesI Try.prog main (DT (ScZ z) Ch) Stop (Go.Conc.served g y) w

noncomputable def rest31 : Code := seq2 (seq2 (seq2 (seq2 (Try.f31.body.getD .skip))))
theorem fine31 : fineCode Try.prog true LT rest31 := fineCode_ask callT extT (by kernel_rfl)
theorem res31 (tmps : Array Value) : ∃ v, (∀ w, (results Try.f31 tmps).run Try.prog w = .ok v w) ∧ ∀ w, (results Try.f31 tmps).events Try.prog w #[] = #[] :=
  ⟨_, fun w => results_tmp rfl _ _ _, fun w => by simp [results, go_sem]⟩

set_option maxHeartbeats 1000000 in
set_option maxRecDepth 100000 in
theorem tail31 {z : Nat → Option Nat} {S : TS} {K : List (Nat × Int)} {v : World} {i : Nat} {t : Thr} {c : Int} (hm : Mem z S K v) (ht : S.thr[i]? = some t) (hn : (S.n + 1) * 40 ≤ 140737488355328) (a6 a7 a8 a9 a10 a15 a16 a17 a18 a19 a20 a21 a22 a23 a24 : Value) :
    rest31.wp Try.prog (bodyPost Try.prog Try.f31 (fun e w' => ∃ r, e = .returned r ∧ ((r = .bool true ∧ S.stk = false ∧ ∃ tv, Evo z S K v (noted S tv i 6 c 0 0) K w') ∨ (r = .bool false ∧ S.stk = true ∧ Evo z S K v S K w'))))
      { tmps := #[Pt t.tb 0, I c, undef, undef, .bool false, undef, a6, a7, a8, a9, a10, undef, undef, undef, undef, a15, a16, a17, a18, a19, a20, a21, a22, a23, a24, undef, undef, undef, undef, undef, undef, undef, undef, undef, undef], defers := [] } v := by
  obtain ⟨c0, _⟩ := hm.rep.cell ht
  obtain ⟨_, _, _, _, _, _, c6, _⟩ := hm.rep.wcell
  have HM : Hid (Mem z S K v) := ⟨hm⟩
  clear hm
  show Code.wp Try.prog (seq2 (seq2 (seq2 (seq2 (Try.f31.body.getD .skip))))) _ _ _
  unfold Try.f31 seq2
  simp only [Option.getD_some]
  cases hs : S.stk with
  | true =>
    rw [hs] at c6
    go_wp2_with fail
    go_ret
    exact ⟨_, rfl, rfl, Evo.refl HM.out⟩
  | false =>
    rw [hs] at c6
    go_wp2_with (go_at_call 38; refine ((note_rep HM.out.rep ht 6 c 0 0 hn).calls Try.func38 rfl).mono ?_; rintro e w1 ⟨_, rfl, rfl, tv, hev⟩)
    go_ret
    exact ⟨_, rfl, rfl, tv, Evo.of_ev HM.out hev rfl⟩

set_option maxHeartbeats 1000000 in
set_option maxRecDepth 100000 in
theorem await_goes {z : Nat → Option Nat} {Ch : Nat → Prop} {Stop : Goroutine → World → Prop} {h : Nat} {cont : Addr → Value} {S : TS} {K : List (Nat × Int)} {v w : World} {i : Nat} {t : Thr} (c : Int) (cs : List Frame) (Hm : Goroutine → Prop) {bc : Frame} {ac : Act} {ops : Array Oper} {q : Nat} {rest : List Nat} {oc : Oper} {k : List Item} (hoc : ops[q]? = some oc)
    (hH : ∀ g, WakeBack (h == 0) i t.tb c (fun r => G (bc.at (ac.put oc.dst r) (.inRegion ops rest :: k)) cs) g → Hm g)
    (hvw : Rel z v w) (hn : NoRow Ch v) (hm : Mem z S K v) (hs : S.stk = false) (ht : S.thr[i]? = some t) (hz : z t.tb = some 2) (hcont : cont ⟨t.tb, 2, none⟩ = .chan (some t.gc))
    (hstop : ∀ g w', GiveT z cont h S.bk t.gc Hm (Then z Ch S K v (waiting S i t 2 6 c) K) g w' → Stop g w') (code : Code) (hc : Try.f31.body = some code) :
    GoesI Try.prog (h == 0) (DT (ScZ z) Ch) Stop (G ((base 31).at { tmps := #[Pt t.tb 0, I c] ++ Array.replicate 33 undef, defers := [] } [.code code]) (bc.at ac (.inRegion ops (q :: rest) :: k) :: cs)) w := by
  obtain rfl := Option.some.inj hc
  clear hc
  have e0 : w.cell? ⟨t.tb, 0, none⟩ = some (Pt S.wb 0) := by rw [hvw.cell?]; exact (hm.rep.cell ht).1
  have e6 : w.cell? ⟨S.wb, 6, none⟩ = some (.bool false) := by rw [hvw.cell?, ← hs]; exact hm.rep.wcell.2.2.2.2.2.2.1
  simp only [Array.replicate_succ, Array.replicate_zero, List.push_toArray, List.append_toArray, List.nil_append, List.cons_append]
  have HM : Hid (Mem z S K v) := ⟨hm⟩
  clear hm
  refine goesI_seq (dt_idle _ _) ?_
  refine goesI_region (dt_idle _ _) ?_
  simp only [List.size_toArray, List.length_cons, List.length_nil, Nat.reduceAdd, Nat.zero_add, List.range, List.range.loop]
  (refine goesI_oper rfl rfl (by decide) (fun d K hK => ?_)
   go_simp
   refine hK _ _ ⟨dt_reads (fun e he => ?_), GoesI.at ?_ d⟩
   · have hm := mem_listed he
     simp [go_sem, *] at hm
   clear hK K)
  refine goesI_regionEnd (dt_idle _ _) ?_
  refine goesI_seq (dt_idle _ _) ?_
  refine goesI_seq (dt_idle _ _) ?_
  refine goesI_region (dt_idle _ _) ?_
  simp only [List.size_toArray, List.length_cons, List.length_nil, Nat.reduceAdd, Nat.zero_add, List.range, List.range.loop]
  iterate 4
    (refine goesI_oper rfl rfl (by decide) (fun d K hK => ?_)
     go_simp
     refine hK _ _ ⟨dt_reads (fun e he => ?_), GoesI.at ?_ d⟩
     · have hm := mem_listed he
       simp [go_sem, *] at hm
       try exact ⟨_, _, hm⟩
     clear hK K)
  refine goesI_opZ (L := LT) rfl rfl (by decide) (fineOp_ask callT extT (by kernel_rfl)) hvw hn (x := .bool false) (v' := v) ?_ rfl (fun w1 hvw1 _ => ?_)
  · go_simp
  clear e0 e6 hvw
  have e0 : w1.cell? ⟨t.tb, 0, none⟩ = some (Pt S.wb 0) := by rw [hvw1.cell?]; exact (HM.out.rep.cell ht).1
  have e6 : w1.cell? ⟨S.wb, 6, none⟩ = some (.bool false) := by rw [hvw1.cell?, ← hs]; exact HM.out.rep.wcell.2.2.2.2.2.2.1
  refine goesI_regionEnd (dt_idle _ _) ?_
  refine goesI_cond (dt_idle _ _) (t := false) rfl ?_
  simp only [if_true, if_false, Bool.false_eq_true]
  refine goesI_skip (dt_idle _ _) ?_
  refine goesI_seq (dt_idle _ _) ?_
  refine goesI_seq (dt_idle _ _) ?_
  refine goesI_region (dt_idle _ _) ?_
  simp only [List.size_toArray, List.length_cons, List.length_nil, Nat.reduceAdd, Nat.zero_add, List.range, List.range.loop]
  iterate 7
    (refine goesI_oper rfl rfl (by decide) (fun d K hK => ?_)
     go_simp
     refine hK _ _ ⟨dt_reads (fun e he => ?_), GoesI.at ?_ d⟩
     · have hm := mem_listed he
       simp [go_sem, *] at hm
       try exact ⟨_, _, hm⟩
     clear hK K)
  refine goesI_regionEnd (dt_idle _ _) ?_
  refine goesI_cond (dt_idle _ _) (t := false) rfl ?_
  simp only [if_true, if_false, Bool.false_eq_true]
  refine goesI_skip (dt_idle _ _) ?_
  refine goesI_seq (dt_idle _ _) ?_
  refine goesI_region (dt_idle _ _) ?_
  simp only [List.size_toArray, List.length_cons, List.length_nil, Nat.reduceAdd, Nat.zero_add, List.range, List.range.loop]
  iterate 2
    (refine goesI_oper rfl rfl (by decide) (fun d K hK => ?_)
     go_simp
     refine hK _ _ ⟨dt_reads (fun e he => ?_), GoesI.at ?_ d⟩
     · have hm := mem_listed he
       simp [go_sem, *] at hm
       try exact ⟨_, _, hm⟩
     clear hK K)
  refine goesI_into (f := 37) (fn := Try.f37) (args := #[Pt t.tb 0, I 2, I 6, I c]) (dt_idle _ _) rfl rfl (by decide) rfl (by simp [Act.eval]) Try.func37 (by decide) rfl ?_
  refine wait_mem 2 6 c _ Hm rfl (fun g hg => hH g ?_) hvw1 hn HM.out ht hz hcont hstop _ rfl
  intro z1 Ch1 St y w2 v1 S1 K1 t1 r1 n1 m1 h1 htb hn1 hk1 hk2
  refine hg _ St y w2 (dt_idle _ _) ?_
  refine goesI_regionEnd (dt_idle _ _) ?_
  rw [← htb]
  refine goesI_rest (f := 31) (fn := Try.f31) (c := rest31) hE fineT r1 n1 Try.func31 fine31 rfl hoc res31 (fun τ => ?_) (fun r v' w' hR hr' hn' => ?_) (R := fun r w' => (r = .bool true ∧ S1.stk = false ∧ ∃ tv, Evo z1 S1 K1 v1 (noted S1 tv i 6 c 0 0) K1 w') ∨ (r = .bool false ∧ S1.stk = true ∧ Evo z1 S1 K1 v1 S1 K1 w'))
  · refine wp_mono (tail31 (m1.same (v' := onTape v1 τ 0) rfl) h1 hn1 _ _ _ _ _ _ _ _ _ _ _ _ _ _ _) (bp_mono fun r u hq => ?_)
    rcases hq with ⟨q1, q2, tv, q3⟩ | ⟨q1, q2, q3⟩
    · exact .inl ⟨q1, q2, tv, q3.base rfl rfl rfl⟩
    · exact .inr ⟨q1, q2, q3.base rfl rfl rfl⟩
  · rcases hR with ⟨rfl, q2, tv, q3⟩ | ⟨rfl, q2, q3⟩
    · exact hk1 v' w' tv q2 hr' hn' q3
    · exact hk2 v' w' q2 hr' hn' q3
end Go.Proofs.Ytmgaojbfmohboaa

/- A plain piece that leaves its function, with more code behind it. -/
namespace Go.Lift
open Go.Conc
section
variable {P : Program} {main : Bool} {Stop : Goroutine → World → Prop} {k : List Item} {cs : List Frame} {w : World} {ops : Array Oper} {i : Nat} {rest : List Nat} {o : Oper}
theorem goesI_outZ {z : Nat → Option Nat} {Ch : Nat → Prop} {L : FuncId → Prop} (hE : ∀ fr cs dy g w, ∃ o w', early P fr cs dy g w = .ended o w') (hL : ∀ g, L g → fineFn P true L g)
    {f : FuncId} {fn : Func} {c : Code} {act : Act} {more : List Item} {bc : Frame} {ac : Act} {R : Value → World → Prop} {v0 : World} (hvw : Rel z v0 w) (hn : NoRow Ch v0) (hf : P.funcs[f]? = some fn) (hc : fineCode P true L c) (ha : act.defers = []) (ho : ops[i]? = some o)
    (hwp : ∀ τ, c.wp P (fun e a w' => e = .ret ∧ ∃ x, (results fn a.tmps).run P w' = .ok x w' ∧ R x w') act (onTape v0 τ 0))
    (h : ∀ v v' w', R v v' → Rel z v' w' → NoRow Ch v' → GoesI P main (DT (ScZ z) Ch) Stop (G (bc.at (ac.put o.dst v) (.inRegion ops rest :: k)) cs) w') :
    GoesI P main (DT (ScZ z) Ch) Stop (G ((base f).at act (.code c :: more)) (bc.at ac (.inRegion ops (i :: rest) :: k) :: cs)) w := by
  refine (lift_code (P := P) (z := z) (wr := true) (L := L) (D := DT (ScZ z) Ch) (I := NoRow Ch) (main := main) (b := base f) (k := more) (cs := bc.at ac (.inRegion ops (i :: rest) :: k) :: cs) hE hL noRow_keeps
    (fun v v' w w' es hi hr ho he => dt_of_z v v' w w' es hi hr ho he) hvw hc ha (by simp [base]) hn hwp (fun e a w hq => .inr hq.1)).then ?_
  rintro g w' ⟨a', v', hr, hiv, hd, ⟨⟨hq, _⟩, _⟩ | ⟨⟨_, x, hx, hR⟩, todo, rfl⟩⟩
  · cases hq
  · exact goesI_leaveZ hr hiv hf hd ho hx (fun w'' hr'' => h x v' w'' hR hr'' hiv)
end
end Go.Lift

/- Await of a thread whose world is stuck, in company: it answers false at once. -/
set_option linter.unusedSimpArgs false
set_option linter.unusedVariables false
namespace Go.Proofs.Ytmgaojbfmohboaa
open Go Go.Lift Go.Conc Go.RowKit

def condA : Code → Code
  | .cond _ a _ => a
  | c => c
noncomputable def no31 : Code := condA (seq2 (seq1 (seq2 (seq2 (Try.f31.body.getD .skip)))))
theorem fineNo31 : fineCode Try.prog true LT no31 := fineCode_ask callT extT (by kernel_rfl)

set_option maxHeartbeats 1000000 in
set_option maxRecDepth 100000 in
theorem await_no {z : Nat → Option Nat} {Ch : Nat → Prop} {Stop : Goroutine → World → Prop} {main : Bool} {S : TS} {K : List (Nat × Int)} {v w : World} {i : Nat} {t : Thr} (c : Int) (cs : List Frame) {bc : Frame} {ac : Act} {ops : Array Oper} {q : Nat} {rest : List Nat} {oc : Oper} {k : List Item} (hoc : ops[q]? = some oc)
    (hvw : Rel z v w) (hn : NoRow Ch v) (hm : Mem z S K v) (hs : S.stk = true) (ht : S.thr[i]? = some t)
    (hk : ∀ v' w', Rel z v' w' → NoRow Ch v' → Evo z S K v S K v' → GoesI Try.prog main (DT (ScZ z) Ch) Stop (G (bc.at (ac.put oc.dst (.bool false)) (.inRegion ops rest :: k)) cs) w') (code : Code) (hc : Try.f31.body = some code) :
    GoesI Try.prog main (DT (ScZ z) Ch) Stop (G ((base 31).at { tmps := #[Pt t.tb 0, I c] ++ Array.replicate 33 undef, defers := [] } [.code code]) (bc.at ac (.inRegion ops (q :: rest) :: k) :: cs)) w := by
  obtain rfl := Option.some.inj hc
  clear hc
  have e0 : w.cell? ⟨t.tb, 0, none⟩ = some (Pt S.wb 0) := by rw [hvw.cell?]; exact (hm.rep.cell ht).1
  have e6 : w.cell? ⟨S.wb, 6, none⟩ = some (.bool true) := by rw [hvw.cell?, ← hs]; exact hm.rep.wcell.2.2.2.2.2.2.1
  simp only [Array.replicate_succ, Array.replicate_zero, List.push_toArray, List.append_toArray, List.nil_append, List.cons_append]
  have HM : Hid (Mem z S K v) := ⟨hm⟩
  clear hm
  refine goesI_seq (dt_idle _ _) ?_
  refine goesI_region (dt_idle _ _) ?_
  simp only [List.size_toArray, List.length_cons, List.length_nil, Nat.reduceAdd, Nat.zero_add, List.range, List.range.loop]
  (refine goesI_oper rfl rfl (by decide) (fun d K hK => ?_)
   go_simp
   refine hK _ _ ⟨dt_reads (fun e he => ?_), GoesI.at ?_ d⟩
   · have hm := mem_listed he
     simp [go_sem, *] at hm
   clear hK K)
  refine goesI_regionEnd (dt_idle _ _) ?_
  refine goesI_seq (dt_idle _ _) ?_
  refine goesI_seq (dt_idle _ _) ?_
  refine goesI_region (dt_idle _ _) ?_
  simp only [List.size_toArray, List.length_cons, List.length_nil, Nat.reduceAdd, Nat.zero_add, List.range, List.range.loop]
  iterate 4
    (refine goesI_oper rfl rfl (by decide) (fun d K hK => ?_)
     go_simp
     refine hK _ _ ⟨dt_reads (fun e he => ?_), GoesI.at ?_ d⟩
     · have hm := mem_listed he
       simp [go_sem, *] at hm
       try exact ⟨_, _, hm⟩
     clear hK K)
  refine goesI_opZ (L := LT) rfl rfl (by decide) (fineOp_ask callT extT (by kernel_rfl)) hvw hn (x := .bool false) (v' := v) ?_ rfl (fun w1 hvw1 _ => ?_)
  · go_simp
  clear e0 e6 hvw
  have e0 : w1.cell? ⟨t.tb, 0, none⟩ = some (Pt S.wb 0) := by rw [hvw1.cell?]; exact (HM.out.rep.cell ht).1
  have e6 : w1.cell? ⟨S.wb, 6, none⟩ = some (.bool true) := by rw [hvw1.cell?, ← hs]; exact HM.out.rep.wcell.2.2.2.2.2.2.1
  refine goesI_regionEnd (dt_idle _ _) ?_
  refine goesI_cond (dt_idle _ _) (t := false) rfl ?_
  simp only [if_true, if_false, Bool.false_eq_true]
  refine goesI_skip (dt_idle _ _) ?_
  refine goesI_seq (dt_idle _ _) ?_
  refine goesI_seq (dt_idle _ _) ?_
  refine goesI_region (dt_idle _ _) ?_
  simp only [List.size_toArray, List.length_cons, List.length_nil, Nat.reduceAdd, Nat.zero_add, List.range, List.range.loop]
  iterate 7
    (refine goesI_oper rfl rfl (by decide) (fun d K hK => ?_)
     go_simp
     refine hK _ _ ⟨dt_reads (fun e he => ?_), GoesI.at ?_ d⟩
     · have hm := mem_listed he
       simp [go_sem, *] at hm
       try exact ⟨_, _, hm⟩
     clear hK K)
  refine goesI_regionEnd (dt_idle _ _) ?_
  refine goesI_cond (dt_idle _ _) (t := true) rfl ?_
  simp only [if_true, if_false, Bool.false_eq_true]
  refine goesI_outZ (c := no31) (f := 31) (fn := Try.f31) (L := LT) hE fineT hvw1 hn Try.func31 fineNo31 rfl hoc (R := fun r w' => r = .bool false ∧ Evo z S K v S K w') (fun τ => ?_) (fun r v' w' hR hr' hn' => ?_)
  · have HV : Hid (Evo z S K v S K (onTape v τ 0)) := ⟨(Evo.refl HM.out).same rfl rfl rfl⟩
    show Code.wp Try.prog (condA (seq2 (seq1 (seq2 (seq2 (Try.f31.body.getD .skip)))))) _ _ _
    unfold Try.f31 condA seq2 seq1
    simp only [Option.getD_some]
    go_wp2_with fail
    exact ⟨_, results_tmp rfl _ _ _, rfl, HV.out⟩
  · obtain ⟨rfl, he⟩ := hR
    exact hk v' w' hr' hn' he
end Go.Proofs.Ytmgaojbfmohboaa

/- Until of a cell (16), in company, in pieces: it looks at the cell; it has seen what stands there; it was woken. -/
set_option linter.unusedSimpArgs false
set_option linter.unusedVariables false
namespace Go.Proofs.Ytmgaojbfmohboaa
open Go Go.Lift Go.Conc Go.RowKit

def blockC : Code → Code
  | .block _ c => c
  | c => c
def loopC : Code → Code
  | .loop c => c
  | c => c
noncomputable def L16 : Code := loopC (blockC (seq1 (seq2 (Try.f16.body.getD .skip))))
noncomputable def T16 : Code := seq2 (seq2 (Try.f16.body.getD .skip))
noncomputable def ops161 : Array Oper := opsOf (seq1 (seq1 L16))
noncomputable def ops162 : Array Oper := opsOf (seq1 (blockC (seq2 L16)))
theorem fineT16 : fineCode Try.prog true LT T16 := fineCode_ask callT extT (by kernel_rfl)

/-- The frame where it looks. -/
noncomputable def uFr (cb tb : Nat) (n : Int) (u : Nat → Value) : Frame :=
  (base 16).at ⟨#[Pt cb 0, Pt tb 0, I n, undef, undef, undef, .bool false, u 7, u 8, u 9, u 10, u 11, u 12, u 13, u 14, u 15, u 16, u 17, u 18], []⟩ [.code L16, .inLoop L16, .inBlock 0, .code T16]
/-- The frame where it has seen what stands there. -/
noncomputable def uSeen (cb tb : Nat) (n : Int) (u : Nat → Value) (r : Value) : Frame :=
  (base 16).at ((⟨#[Pt cb 0, Pt tb 0, I n, undef, undef, undef, .bool false, Pt cb 0, Pt tb 0, u 9, u 10, u 11, u 12, u 13, u 14, u 15, u 16, u 17, u 18], []⟩ : Act).put (some 9) r) [.inRegion ops161 [3, 4], .code (seq2 (seq1 L16)), .code (seq2 L16), .inLoop L16, .inBlock 0, .code T16]

set_option maxHeartbeats 1000000 in
set_option maxRecDepth 100000 in
theorem until_loop {z : Nat → Option Nat} {Ch : Nat → Prop} {Stop : Goroutine → World → Prop} {h : Nat} {cont : Addr → Value} {S : TS} {K : List (Nat × Int)} {v w : World} {i j cb : Nat} {t : Thr} (n x : Int) (u : Nat → Value) (cs : List Frame) (Hm : Goroutine → Prop)
    (hH : ∀ g, OpBack (h == 0) i j cb t.tb 1 effLoad (fun r => G (uSeen cb t.tb n u r) cs) g → Hm g)
    (hvw : Rel z v w) (hn : NoRow Ch v) (hm : Mem z S K v) (ht : S.thr[i]? = some t) (hK : K[j]? = some (cb, x)) (hz : z t.tb = some 2) (hcont : cont ⟨t.tb, 2, none⟩ = .chan (some t.gc))
    (hstop : ∀ g w', GiveT z cont h S.bk t.gc Hm (Then z Ch S K v (waiting S i t 1 1 j) K) g w' → Stop g w') :
    GoesI Try.prog (h == 0) (DT (ScZ z) Ch) Stop (G (uFr cb t.tb n u) cs) w := by
  unfold uFr L16 T16 Try.f16 seq2 seq1 blockC loopC
  simp only [Option.getD_some]
  refine goesI_seq (dt_idle _ _) ?_
  refine goesI_seq (dt_idle _ _) ?_
  refine goesI_region (dt_idle _ _) ?_
  simp only [List.size_toArray, List.length_cons, List.length_nil, Nat.reduceAdd, Nat.zero_add, List.range, List.range.loop]
  iterate 2
    (refine goesI_oper rfl rfl (by decide) (fun d K hK => ?_)
     go_simp
     refine hK _ _ ⟨dt_reads (fun e he => ?_), GoesI.at ?_ d⟩
     · have hm := mem_listed he
       simp [go_sem, *] at hm
     clear hK K)
  refine goesI_into (f := 17) (fn := Try.f17) (args := #[Pt cb 0, Pt t.tb 0]) (dt_idle _ _) rfl rfl (by decide) rfl (by simp [Act.eval]) Try.func17 (by decide) rfl ?_
  exact load_goes x _ Hm rfl (fun g hg => hH g hg) hvw hn hm ht hK hz hcont hstop _ rfl

/-- It has been entered. -/
theorem until_in {z : Nat → Option Nat} {Ch : Nat → Prop} {Stop : Goroutine → World → Prop} {main : Bool} {w : World} {cb tb : Nat} (n : Int) (cs : List Frame)
    (hk : ∀ u, GoesI Try.prog main (DT (ScZ z) Ch) Stop (G (uFr cb tb n u) cs) w) (code : Code) (hc : Try.f16.body = some code) :
    GoesI Try.prog main (DT (ScZ z) Ch) Stop (G ((base 16).at { tmps := #[Pt cb 0, Pt tb 0, I n] ++ Array.replicate 16 undef, defers := [] } [.code code]) cs) w := by
  obtain rfl := Option.some.inj hc
  clear hc
  simp only [Array.replicate_succ, Array.replicate_zero, List.push_toArray, List.append_toArray, List.nil_append, List.cons_append]
  refine goesI_seq (dt_idle _ _) ?_
  refine goesI_region (dt_idle _ _) ?_
  simp only [List.size_toArray, List.length_cons, List.length_nil, Nat.reduceAdd, Nat.zero_add, List.range, List.range.loop]
  (refine goesI_oper rfl rfl (by decide) (fun d K hK => ?_)
   go_simp
   refine hK _ _ ⟨dt_reads (fun e he => ?_), GoesI.at ?_ d⟩
   · have hm := mem_listed he
     simp [go_sem, *] at hm
   clear hK K)
  refine goesI_regionEnd (dt_idle _ _) ?_
  refine goesI_seq (dt_idle _ _) ?_
  refine goesI_block (dt_idle _ _) ?_
  refine goesI_loop (dt_idle _ _) ?_
  exact hk (fun _ => undef)
end Go.Proofs.Ytmgaojbfmohboaa

/- A script is carried out (play.carryOut), in company, in pieces: its way in, and its end. -/
set_option linter.unusedSimpArgs false
set_option linter.unusedVariables false
namespace Go.Proofs.Ytmgaojbfmohboaa
open Go Go.Lift Go.Conc Go.RowKit

noncomputable def L34 : Code := loopC (blockC (seq2 (seq2 (Try.f34.body.getD .skip))))
/-- The frame at the loop's head: so many calls are done (ii), and whether one was stuck (sk). -/
noncomputable def cFr (tb : Nat) (csl F asl : Value) (n ii : Nat) (sk : Bool) (u : Nat → Value) : Frame :=
  (base 34).at ⟨#[Pt tb 0, csl, F, asl, undef, undef, undef, undef, .bool sk, u 9, u 10, csl, I n, I ii, u 14, u 15, u 16, u 17, u 18, u 19, u 20, u 21, u 22, u 23] ++ #[u 24, u 25, u 26, u 27, u 28, u 29, u 30, u 31, u 32, u 33, u 34, u 35, u 36, u 37, u 38, u 39, u 40, u 41, u 42, u 43, u 44, u 45, u 46, u 47], []⟩ [.code L34, .inLoop L34, .inBlock 0]

set_option maxHeartbeats 1000000 in
set_option maxRecDepth 100000 in
theorem carry_in {z : Nat → Option Nat} {Ch : Nat → Prop} {Stop : Goroutine → World → Prop} {main : Bool} {w : World} {tb : Nat} (F asl : Value) (p : Option Addr) (n cap : Nat) (cs : List Frame)
    (hk : ∀ u, GoesI Try.prog main (DT (ScZ z) Ch) Stop (G (cFr tb (.slice p n cap) F asl n 0 false u) cs) w) (code : Code) (hc : Try.f34.body = some code) :
    GoesI Try.prog main (DT (ScZ z) Ch) Stop (G ((base 34).at { tmps := #[Pt tb 0, .slice p n cap, F, asl] ++ Array.replicate 44 undef, defers := [] } [.code code]) cs) w := by
  obtain rfl := Option.some.inj hc
  clear hc
  simp only [Array.replicate_succ, Array.replicate_zero, List.push_toArray, List.append_toArray, List.nil_append, List.cons_append]
  refine goesI_seq (dt_idle _ _) ?_
  refine goesI_region (dt_idle _ _) ?_
  simp only [List.size_toArray, List.length_cons, List.length_nil, Nat.reduceAdd, Nat.zero_add, List.range, List.range.loop]
  (refine goesI_oper rfl rfl (by decide) (fun d K hK => ?_)
   go_simp
   refine hK _ _ ⟨dt_reads (fun e he => ?_), GoesI.at ?_ d⟩
   · have hm := mem_listed he
     simp [go_sem, *] at hm
   clear hK K)
  refine goesI_regionEnd (dt_idle _ _) ?_
  refine goesI_seq (dt_idle _ _) ?_
  refine goesI_region (dt_idle _ _) ?_
  simp only [List.size_toArray, List.length_cons, List.length_nil, Nat.reduceAdd, Nat.zero_add, List.range, List.range.loop]
  iterate 3
    (refine goesI_oper rfl rfl (by decide) (fun d K hK => ?_)
     go_simp
     refine hK _ _ ⟨dt_reads (fun e he => ?_), GoesI.at ?_ d⟩
     · have hm := mem_listed he
       simp [go_sem, *] at hm
     clear hK K)
  refine goesI_regionEnd (dt_idle _ _) ?_
  refine goesI_block (dt_idle _ _) ?_
  refine goesI_loop (dt_idle _ _) ?_
  have hk := hk (fun _ => undef)
  unfold cFr L34 Try.f34 seq2 blockC loopC at hk
  simp only [Option.getD_some, List.append_toArray, List.cons_append, List.nil_append] at hk
  exact hk

set_option maxHeartbeats 1000000 in
set_option maxRecDepth 100000 in
/-- All calls are done: it leaves. -/
theorem carry_end {z : Nat → Option Nat} {Ch : Nat → Prop} {Stop : Goroutine → World → Prop} {main : Bool} {w : World} {tb : Nat} (csl F asl : Value) (n : Nat) (sk : Bool) (u : Nat → Value) (cs : List Frame) {bc : Frame} {ac : Act} {ops : Array Oper} {q : Nat} {rest : List Nat} {oc : Oper} {k : List Item} (hoc : ops[q]? = some oc)
    (hk : GoesI Try.prog main (DT (ScZ z) Ch) Stop (G (bc.at (ac.put oc.dst (.tuple #[])) (.inRegion ops rest :: k)) cs) w) :
    GoesI Try.prog main (DT (ScZ z) Ch) Stop (G (cFr tb csl F asl n n sk u) (bc.at ac (.inRegion ops (q :: rest) :: k) :: cs)) w := by
  unfold cFr L34 Try.f34 seq2 blockC loopC
  simp only [Option.getD_some, List.append_toArray, List.cons_append, List.nil_append]
  refine goesI_seq (dt_idle _ _) ?_
  refine goesI_region (dt_idle _ _) ?_
  simp only [List.size_toArray, List.length_cons, List.length_nil, Nat.reduceAdd, Nat.zero_add, List.range, List.range.loop]
  (refine goesI_oper rfl rfl (by decide) (fun d K hK => ?_)
   go_simp
   refine hK _ _ ⟨dt_reads (fun e he => ?_), GoesI.at ?_ d⟩
   · have hm := mem_listed he
     simp [go_sem, *] at hm
   clear hK K)
  refine goesI_regionEnd (dt_idle _ _) ?_
  refine goesI_seq (dt_idle _ _) ?_
  refine goesI_cond (dt_idle _ _) (t := false) (by simp [Act.eval]) ?_
  simp only [if_true, if_false, Bool.false_eq_true]
  refine goesI_exit (dt_idle _ _) rfl ?_
  refine goesI_end (dt_idle _ _) ?_
  exact goesI_leave (b := base 34) (fn := Try.f34) rfl rfl Try.func34 (fun w => results_none rfl _ _ _) (fun w => by simp [results, go_sem]) hoc (dt_idle _ _) hk
end Go.Proofs.Ytmgaojbfmohboaa

/- What a Play of cells does for a call of a script (cell.Play's closure), in company: a call that adds. -/
set_option linter.unusedSimpArgs false
set_option linter.unusedVariables false
namespace Go.Proofs.Ytmgaojbfmohboaa
open Go Go.Lift Go.Conc Go.RowKit

/-- The place that a number names among so many. -/
def which (a : Int) (n : Nat) : Nat := (if a.tmod n < 0 then a.tmod n + n else a.tmod n).toNat
theorem which_lt (a : Int) {n : Nat} (h : 0 < n) : which a n < n := by
  unfold which
  have h1 := Int.tmod_lt_of_pos a (show (0 : Int) < n by omega)
  have h2 : -(n : Int) < a.tmod n := Int.lt_tmod_of_pos a (by omega)
  split <;> omega

theorem which_pos {a : Int} {n : Nat} (h : 0 ≤ a.tmod n) : a.tmod n = (which a n : Int) := by
  unfold which
  rw [if_neg (by omega), Int.toNat_of_nonneg h]
theorem which_neg {a : Int} {n : Nat} (h : a.tmod n < 0) (h0 : 0 < n) (hb : (n : Int) < 9223372036854775808) : wrap64 (a.tmod n + n) = (which a n : Int) := by
  have h2 : -(n : Int) < a.tmod n := Int.lt_tmod_of_pos a (by omega)
  unfold which
  rw [if_pos h, Int.toNat_of_nonneg (by omega)]
  unfold wrap64
  omega

set_option maxHeartbeats 1000000 in
set_option maxRecDepth 100000 in
theorem body22 (a : Int) (n : Nat) (h0 : 0 < n) (hb : (n : Int) < 9223372036854775808) (ha : -9223372036854775808 ≤ a ∧ a < 9223372036854775808) (w : World) : Body Try.f22 #[I a, I n] w (fun v w' => v = I (which a n) ∧ w' = w) := by
  intro code hb'
  obtain rfl := Option.some.inj hb'
  clear hb'
  simp only [Try.ntmps22, List.size_toArray, List.length_cons, List.length_nil, Nat.reduceAdd, Nat.reduceSub, Array.replicate_succ, Array.replicate_zero, List.push_toArray, List.append_toArray, List.nil_append, List.cons_append]
  have hne : ¬ ((n : Int) = 0) := by omega
  have HB : Hid ((n : Int) < 9223372036854775808 ∧ -9223372036854775808 ≤ a ∧ a < 9223372036854775808 ∧ 0 < n) := ⟨⟨hb, ha.1, ha.2, h0⟩⟩
  clear hb ha h0
  go_wp2_with fail
  all_goals
    go_ret
    rename_i h
    first
      | exact ⟨_, rfl, congrArg I (which_pos h), rfl⟩
      | exact ⟨_, rfl, congrArg I (which_neg h HB.out.2.2.2 HB.out.1), rfl⟩

/-- Served at its turn, the closure's call of a script comes back with its answer; it has laid it in memory of its own twice (ab, pb). -/
def PlayBack (main : Bool) (i j cb tb pb ab : Nat) (opn : Int) (eff : Int → (Int × Int) × Int × Value) (ans : Value → Array Value) (cl : Value → Goroutine) (g : Goroutine) : Prop :=
  ∀ (z : Nat → Option Nat) (Ch : Nat → Prop) (Stop : Goroutine → World → Prop) (y : Value) (w v : World) (S : TS) (K : List (Nat × Int)) (t : Thr) (x : Int), Rel z v w → NoRow Ch v → Mem z S K v → S.thr[i]? = some t → t.tb = tb → t.op = opn → t.ce = (j : Int) → K[j]? = some (cb, x) → (S.n + 1) * 40 ≤ 140737488355328 →
    v.heap[ab]? = some (.cells #[I 0, I 0] 42 (0, 0)) → ¬ Own S K ab → v.heap[pb]? = some (.cells #[I 0, I 0] 42 (0, 0)) → ¬ Own S K pb → pb ≠ ab →
    (∀ v' w' tv, Rel z v' w' → NoRow Ch v' → EvoP (fun b => b = ab ∨ b = pb) z S K v (didS S tv i t (eff x).1.1 (eff x).1.2) (K.set j (cb, (eff x).2.1)) v' → GoesI Try.prog main (DT (ScZ z) Ch) Stop (cl (.agg (ans (eff x).2.2))) w') →
    GoesI Try.prog main (DT (ScZ z) Ch) Stop (Go.Conc.served g y) w

noncomputable def play0 : Code := seq1 (Try.f21.body.getD .skip)
theorem finePlay0 : fineCode Try.prog true LT play0 := fineCode_ask callT extT (by kernel_rfl)
noncomputable def ops21 : Array Oper := opsOf (seq1 (seq2 (Try.f21.body.getD .skip)))
/-- What the closure's second statement computes ahead of the call. -/
def val21 (csl agg : Value) (N rb j cb tb m : Nat) (ca : Int) : Nat → Value
  | 0 => csl
  | 1 => Pt N 1
  | 2 => I ca
  | 3 => csl
  | 4 => I m
  | 5 => I j
  | 6 => Pt rb j
  | 7 => Pt cb 0
  | 8 => Pt tb 0
  | 9 => agg
  | _ => undef
theorem lead21 : leadsOn .any ops21 10 = true := by kernel_rfl
theorem text21 : inText .any ops21 10 = true := by kernel_rfl
theorem mix21 : Try.prog.follows .mixedOrders = true := by kernel_rfl
theorem fineOps21 (i : Nat) (hi : i < 10) (o : Oper) (ho : ops21[i]? = some o) : fineOp Try.prog true LT o := by
  have h : ((ops21.extract 0 10).all fun o => plainOp Try.prog true o.op || askCall plainFs plainXs o.op) = true := by kernel_rfl
  refine fineOp_ask callT extT ((Array.all_eq_true_iff_forall_mem.1 h) o ?_)
  have : (ops21.extract 0 10)[i]? = some o := by
    have hs := (Array.getElem?_eq_some_iff.1 ho).1
    rw [Array.getElem?_extract, if_pos (by omega)]
    simpa using ho
  exact Array.mem_of_getElem? this
theorem rest21 (t : Nat) : Region.linearise.go .any ops21 (ops21.size - 10) t (listedN ops21.size 10) [] = [10, 11] := by
  have e1 : ((List.range ops21.size).filter fun i => !(listedN ops21.size 10).getD i true && ((ops21[i]?).map (·.after.all fun e => !Region.binds .any e || (listedN ops21.size 10).getD e.on false)).getD false) = [10] := by kernel_rfl
  have e2 : ((List.range ops21.size).filter fun i => !((listedN ops21.size 10).setIfInBounds 10 true).getD i true && ((ops21[i]?).map (·.after.all fun e => !Region.binds .any e || ((listedN ops21.size 10).setIfInBounds 10 true).getD e.on false)).getD false) = [11] := by kernel_rfl
  have e0 : ops21.size - 10 = 2 := by kernel_rfl
  rw [e0]
  unfold Region.linearise.go
  simp only [e1, List.length_cons, List.length_nil, Nat.zero_add, Nat.mod_one, List.getElem?_cons_zero]
  unfold Region.linearise.go
  simp only [e2, List.length_cons, List.length_nil, Nat.zero_add, Nat.mod_one, List.getElem?_cons_zero]
  rfl

theorem fineFn_body {P : Program} {L : FuncId → Prop} {f : FuncId} {fn : Func} {c : Code} (hL : ∀ g, L g → fineFn P true L g) (hf : L f) (h1 : P.funcs[f]? = some fn) (h2 : fn.body = some c) : fineCode P true L c := by
  obtain ⟨fn', c', h3, h4, h5, _⟩ := hL f hf
  rw [h1] at h3
  cases h3
  rw [h2] at h4
  cases h4
  exact h5
theorem dst21 (i : Nat) (hi : i < 10) (o : Oper) (ho : ops21[i]? = some o) : o.dst = some (6 + i) := by
  have h : ((List.range 10).all fun i => (ops21[i]?).map (·.dst) == some (some (6 + i))) = true := by kernel_rfl
  have := (List.all_eq_true.1 h) i (by simpa using hi)
  rw [ho] at this
  simpa using this
theorem guard21 (i : Nat) (hi : i < 12) (o : Oper) (ho : ops21[i]? = some o) : o.guard = none := by
  have h : ((List.range 12).all fun i => ((ops21[i]?).map (·.guard.isNone)) == some true) = true := by kernel_rfl
  have := (List.all_eq_true.1 h) i (by simpa using hi)
  rw [ho] at this
  simpa using this
theorem op21 {i : Nat} {o : Oper} {p : Op} (h : (ops21[i]?).map (·.op) = some p) (ho : ops21[i]? = some o) : o.op = p := by
  rw [ho] at h
  exact Option.some.inj h
theorem after21 {i j : Nat} {o : Oper} (h : ((ops21[i]?).map (fun o => o.after.toList.any fun e => e.on == j && Region.binds .any e)) = some true) (ho : ops21[i]? = some o) {l : Array Bool} (hd : ∀ e ∈ o.after.toList, Region.binds .any e = true → l.getD e.on false = true) : l.getD j false = true := by
  rw [ho] at h
  simp only [Option.map_some, Option.some.injEq, List.any_eq_true, Bool.and_eq_true, beq_iff_eq] at h
  obtain ⟨e, he, rfl, hb⟩ := h
  exact hd e he hb

set_option maxHeartbeats 1000000 in
set_option maxRecDepth 100000 in
theorem play5_goes {z : Nat → Option Nat} {Ch : Nat → Prop} {Stop : Goroutine → World → Prop} {h : Nat} {cont : Addr → Value} {S : TS} {K : List (Nat × Int)} {v w : World} {i cb xb rb cap : Nat} {t : Thr} (ca n cc x : Int) (hca : -9223372036854775808 ≤ ca ∧ ca < 9223372036854775808) (hKl : 0 < K.length ∧ (K.length : Int) < 9223372036854775808)
    (hx0 : v.cell? ⟨xb, 0, none⟩ = some (.slice (some ⟨rb, 0, none⟩) K.length cap)) (hx1 : v.cell? ⟨rb, which ca K.length, none⟩ = some (Pt cb 0)) (cs : List Frame) (Hm : Goroutine → Prop) {bc : Frame} {ac : Act} {ops : Array Oper} {q : Nat} {rest : List Nat} {oc : Oper} {k : List Item} (hoc : ops[q]? = some oc)
    (hH : ∀ g, PlayBack (h == 0) i (which ca K.length) cb t.tb (v.heap.size + 1) (v.heap.size + 3) 5 (effAdd n) (fun r => #[I 0, r]) (fun r => G (bc.at (ac.put oc.dst r) (.inRegion ops rest :: k)) cs) g → Hm g)
    (hvw : Rel z v w) (hn : NoRow Ch v) (hm : Mem z S K v) (ht : S.thr[i]? = some t) (hK : K[which ca K.length]? = some (cb, x)) (hz : z t.tb = some 2) (hcont : cont ⟨t.tb, 2, none⟩ = .chan (some t.gc))
    (hstop : ∀ v1 g w', Grows v v1 → v1.heap[v.heap.size + 1]? = some (.cells #[I 0, I 0] 42 (0, 0)) → v1.heap[v.heap.size + 3]? = some (.cells #[I 0, I 0] 42 (0, 0)) → GiveT z cont h S.bk t.gc Hm (Then z Ch S K v1 (waiting S i t 1 5 (which ca K.length)) K) g w' → Stop g w') (code : Code) (hc : Try.f21.body = some code) :
    GoesI Try.prog (h == 0) (DT (ScZ z) Ch) Stop (G ((base 21).at { tmps := #[Pt t.tb 0, .agg #[I 5, I ca, I n, I cc], Pt xb 0] ++ Array.replicate 14 undef, defers := [] } [.code code]) (bc.at ac (.inRegion ops (q :: rest) :: k) :: cs)) w := by
  have hw0 : code = .seq play0 (seq2 (Try.f21.body.getD .skip)) := by
    rw [hc]; obtain rfl := Option.some.inj hc; rfl
  subst hw0
  clear hc
  refine goesI_seq (dt_idle _ _) ?_
  refine goesI_plain (z := z) (wr := true) (L := LT) (I := NoRow Ch) hE fineT noRow_keeps (fun v v' w w' es hi hr ho he => dt_of_z v v' w w' es hi hr ho he) hvw finePlay0 rfl (by simp [base]) hn
    (Q := fun a w' => a = { tmps := #[Pt t.tb 0, .agg #[I 5, I ca, I n, I cc], Pt xb 0, undef, Pt v.heap.size 0, Pt (v.heap.size + 1) 0] ++ Array.replicate 11 undef, defers := [] } ∧
      w'.heap = (v.heap.push (.cells #[I 5, I ca, I n, I cc] 39)).push (.cells #[I 0, I 0] 42) ∧ w'.os = v.os ∧ w'.output = v.output) (fun τ => ?_) ?_
  · show Code.wp Try.prog (seq1 (Try.f21.body.getD .skip)) _ _ _
    unfold Try.f21 seq1
    simp only [Option.getD_some, Array.replicate_succ, Array.replicate_zero, List.push_toArray, List.append_toArray, List.nil_append, List.cons_append]
    go_wp2_with fail
    exact ⟨rfl, rfl, rfl, rfl⟩
  rintro a' v' w' ⟨rfl, hv1, hv2, hv3⟩ hr' hn' -
  have hsz : v'.heap.size = v.heap.size + 2 := by rw [hv1]; simp
  have hg : Grows v v' := ⟨by omega, fun b hb => by rw [hv1, Array.getElem?_push, if_neg (by simp; omega), Array.getElem?_push, if_neg (by omega)], hv2, hv3⟩
  have hbox : v'.heap[v.heap.size]? = some (.cells #[I 5, I ca, I n, I cc] 39) := by rw [hv1, Array.getElem?_push, if_neg (by simp)]; exact Array.getElem?_push_size
  have hans : v'.heap[v.heap.size + 1]? = some (.cells #[I 0, I 0] 42) := by rw [hv1, Array.getElem?_push, if_pos (by simp)]
  have b0 : v'.cell? ⟨v.heap.size, 0, none⟩ = some (I 5) := by simp [World.cell?, hbox]
  have b1 : v'.cell? ⟨v.heap.size, 1, none⟩ = some (I ca) := by simp [World.cell?, hbox]
  have b2 : v'.cell? ⟨v.heap.size, 2, none⟩ = some (I n) := by simp [World.cell?, hbox]
  have b3 : v'.cell? ⟨v.heap.size, 3, none⟩ = some (I cc) := by simp [World.cell?, hbox]
  have x0 := hg.cell hx0
  have x1 := hg.cell hx1
  have hev := hm.grows hg
  have hj : which ca K.length < K.length := which_lt ca hKl.1
  simp only [Array.replicate_succ, Array.replicate_zero, List.push_toArray, List.append_toArray, List.nil_append, List.cons_append]
  have hs2 : seq2 (Try.f21.body.getD .skip) = .seq (.region 1 ops21 true) .ret := rfl
  rw [hs2]
  refine goesI_seq (dt_idle _ _) ?_
  refine goesI_region_quiet (n := 10) (val := val21 (.slice (some ⟨rb, 0, none⟩) K.length cap) (.agg #[I 5, I ca, I n, I cc]) v.heap.size rb (which ca K.length) cb t.tb K.length ca) (J := fun w => Rel z v' w) mix21 (fun w d hJ => hJ.re rfl rfl rfl rfl rfl rfl) (fun w => dt_draw _ _ w) lead21 text21 (on := ops21[10]'(by decide)) rfl ?_ ?_ ?_
    { tmps := #[Pt t.tb 0, .agg #[I 5, I ca, I n, I cc], Pt xb 0, undef, Pt v.heap.size 0, Pt (v.heap.size + 1) 0, .slice (some ⟨rb, 0, none⟩) K.length cap, Pt v.heap.size 1, I ca, .slice (some ⟨rb, 0, none⟩) K.length cap, I K.length, I (which ca K.length), Pt rb (which ca K.length), Pt cb 0, Pt t.tb 0, .agg #[I 5, I ca, I n, I cc], undef], defers := [] } ?_ ?_ hr'
  · intro i1 j1 oi oj t1 h1 h2 h3 h4 h5 h6
    rw [dst21 i1 h1 oi h3] at h5
    rw [dst21 j1 h2 oj h4] at h6
    have := Option.some.inj (h5.trans h6.symm)
    omega
  · intro i1 o1 t1 h1 h2 h3
    rw [dst21 i1 h1 o1 h2] at h3
    have := Option.some.inj h3
    subst this
    show (6 + i1 : Nat) < 17
    omega
  · intro i' o rest' listed a w1 hi ho hdep hagr hJ hgo
    have ev : ∀ j, j < 10 → listed.getD j false = true → a.eval (.tmp (6 + j)) = val21 (.slice (some ⟨rb, 0, none⟩) K.length cap) (.agg #[I 5, I ca, I n, I cc]) v.heap.size rb (which ca K.length) cb t.tb K.length ca j := fun j hj hl =>
      hagr.eval hj (o := ops21[j]'(by have : ops21.size = 12 := rfl; omega)) (Array.getElem?_eq_getElem _) hl (dst21 j hj _ (Array.getElem?_eq_getElem _))
    have ev0 : ∀ t' : Nat, t' < 6 → a.eval (.tmp t') = _ := fun t' ht' => hagr.eval0 (t := t') (fun j o hj ho e => by
      rw [dst21 j hj o ho] at e
      have : (6 + j : Nat) = t' := Option.some.inj e
      omega)
    have e0 : a.eval (.tmp 0) = Pt t.tb 0 := ev0 0 (by omega)
    have e2 : a.eval (.tmp 2) = Pt xb 0 := ev0 2 (by omega)
    have e4 : a.eval (.tmp 4) = Pt v.heap.size 0 := ev0 4 (by omega)
    have hw : Region.wanted o (yielded ops21 a.tmps) = true := by simp [Region.wanted, guard21 i' (by omega) o ho]
    by_cases h5 : i' = 5
    · subst h5
      have hop := op21 (p := .call { callee := .value (.func 22), args := #[.tmp 8, .tmp 10], argTypes := #[3, 3] }) rfl ho
      have l2 := ev 2 (by omega) (after21 (by kernel_rfl) ho hdep)
      have l4 := ev 4 (by omega) (after21 (by kernel_rfl) ho hdep)
      refine goesI_call (f := 22) (fn := Try.f22) (args := #[I ca, I K.length]) hE fineT ho hw (by simp [base]) hop (by simp only [List.map_toArray, List.map_cons, List.map_nil]; rw [l2, l4]; rfl) Try.func22 (by kernel_rfl) rfl (fineFn_body fineT (by simp [LT, plainFs]) Try.func22 rfl) (fun tmps => ⟨_, fun w => results_tmp rfl _ _ _, fun w => by simp [results, go_sem]⟩) hJ hn'
        (R := fun r u => r = I (which ca K.length) ∧ u.heap = v'.heap ∧ u.os = v'.os ∧ u.output = v'.output) (fun τ => ?_) (fun r u w2 hR hr2 _ => ?_)
      · exact wp_mono (body22 ca K.length hKl.1 hKl.2 hca (onTape v' τ 0) _ rfl) (bp_mono fun r u hq => ⟨hq.1, by rw [hq.2]; rfl, by rw [hq.2]; rfl, by rw [hq.2]; rfl⟩)
      · obtain ⟨rfl, q1, q2, q3⟩ := hR
        exact hgo w2 (hr2.re q1.symm rfl q2.symm rfl q3.symm rfl)
    · have hrun : (execOp a.eval o).run Try.prog v' = .ok (.value (val21 (.slice (some ⟨rb, 0, none⟩) K.length cap) (.agg #[I 5, I ca, I n, I cc]) v.heap.size rb (which ca K.length) cb t.tb K.length ca i')) v' := by
        have hjl : ((which ca K.length : Nat) : Int) < (K.length : Int) := by omega
        match i', hi, h5, ho with
        | 0, _, _, ho => have hop := op21 (p := .load 60 (.tmp 2)) rfl ho; unfold execOp; rw [hop]; simp only [e2]; simp [go_sem, x0, val21]
        | 1, _, _, ho => have hop := op21 (p := .fieldAddr 39 (.tmp 4) 1) rfl ho; unfold execOp; rw [hop]; simp only [e4]; simp [go_sem, val21]
        | 2, _, _, ho => have hop := op21 (p := .load 3 (.tmp 7)) rfl ho; have l : a.eval (.tmp 7) = Pt v.heap.size 1 := ev 1 (by omega) (after21 (by kernel_rfl) ho hdep); unfold execOp; rw [hop]; simp only [l]; simp [go_sem, b1, val21]
        | 3, _, _, ho => have hop := op21 (p := .load 60 (.tmp 2)) rfl ho; unfold execOp; rw [hop]; simp only [e2]; simp [go_sem, x0, val21]
        | 4, _, _, ho => have hop := op21 (p := .call { callee := .builtin .len, args := #[.tmp 9], argTypes := #[60] }) rfl ho; have l : a.eval (.tmp 9) = .slice (some ⟨rb, 0, none⟩) K.length cap := ev 3 (by omega) (after21 (by kernel_rfl) ho hdep); unfold execOp; rw [hop]; simp only [resolve, List.map_toArray, List.map_cons, List.map_nil, l]; simp [go_sem, val21]
        | 5, _, h5, _ => exact absurd rfl h5
        | 6, _, _, ho => have hop := op21 (p := .indexAddr 60 (.tmp 6) (.tmp 11)) rfl ho; have l : a.eval (.tmp 6) = .slice (some ⟨rb, 0, none⟩) K.length cap := ev 0 (by omega) (after21 (by kernel_rfl) ho hdep); have l' : a.eval (.tmp 11) = I (which ca K.length) := ev 5 (by omega) (after21 (by kernel_rfl) ho hdep); unfold execOp; rw [hop]; simp only [l, l']; simp [go_sem, val21, hjl]
        | 7, _, _, ho => have hop := op21 (p := .load 44 (.tmp 12)) rfl ho; have l : a.eval (.tmp 12) = Pt rb (which ca K.length) := ev 6 (by omega) (after21 (by kernel_rfl) ho hdep); unfold execOp; rw [hop]; simp only [l]; simp [go_sem, x1, val21]
        | 8, _, _, ho => have hop := op21 (p := .move (.tmp 0)) rfl ho; unfold execOp; rw [hop]; simp only [e0]; simp [go_sem, val21]
        | 9, _, _, ho => have hop := op21 (p := .load 39 (.tmp 4)) rfl ho; unfold execOp; rw [hop]; simp only [e4]; simp [go_sem, b0, b1, b2, b3, val21]
      exact goesI_opZ ho hw (by simp [base]) (fineOps21 i' hi o ho) hJ hn' hrun rfl (fun w2 hr2 _ => hgo w2 hr2)
  · refine ⟨rfl, rfl, fun j o t' hj ho _ hd => ?_, fun t' hne => ?_⟩
    · rw [dst21 j hj o ho] at hd
      have : (6 + j : Nat) = t' := Option.some.inj hd
      subst this
      match j, hj with
      | 0, _ => rfl
      | 1, _ => rfl
      | 2, _ => rfl
      | 3, _ => rfl
      | 4, _ => rfl
      | 5, _ => rfl
      | 6, _ => rfl
      | 7, _ => rfl
      | 8, _ => rfl
      | 9, _ => rfl
    · have hcase : ∀ m : Nat, m < 10 → t' ≠ 6 + m := fun m hm e => by
        have hs : m < ops21.size := by have : ops21.size = 12 := rfl; omega
        refine hne m (ops21[m]'hs) hm (Array.getElem?_eq_getElem hs) ?_ ((dst21 m hm _ (Array.getElem?_eq_getElem hs)).trans (by rw [e]))
        rw [Array.getD_eq_getD_getElem?, listedN_get hs]
        simp [hm]
      match t', hcase with
      | 0, _ => rfl
      | 1, _ => rfl
      | 2, _ => rfl
      | 3, _ => rfl
      | 4, _ => rfl
      | 5, _ => rfl
      | 6, h => exact absurd rfl (h 0 (by omega))
      | 7, h => exact absurd rfl (h 1 (by omega))
      | 8, h => exact absurd rfl (h 2 (by omega))
      | 9, h => exact absurd rfl (h 3 (by omega))
      | 10, h => exact absurd rfl (h 4 (by omega))
      | 11, h => exact absurd rfl (h 5 (by omega))
      | 12, h => exact absurd rfl (h 6 (by omega))
      | 13, h => exact absurd rfl (h 7 (by omega))
      | 14, h => exact absurd rfl (h 8 (by omega))
      | 15, h => exact absurd rfl (h 9 (by omega))
      | 16, _ => rfl
      | m + 17, _ => rfl
  · intro tt w1 hJ
    rw [rest21]
    refine goesI_into (f := 23) (fn := Try.f23) (args := #[Pt cb 0, Pt t.tb 0, .agg #[I 5, I ca, I n, I cc]]) (dt_idle _ _) (o := ops21[10]'(by decide)) rfl rfl (by decide) rfl (by simp [Act.eval]) Try.func23 (by decide) rfl ?_
    have e3 : v'.heap.size + 1 = v.heap.size + 3 := by omega
    refine call5_goes ca n cc x _ (fun _ => Hm) rfl (fun g hg => hH g ?_) hJ hn' hev.mem ht hK hz hcont (fun v1 g w2 hg1 hab hgv => hstop v1 g w2 ⟨Nat.le_trans hg.size hg1.size, fun b hb => (hg1.old b (Nat.lt_of_lt_of_le hb hg.size)).trans (hg.old b hb), hg1.os.trans hg.os, hg1.output.trans hg.output⟩ ?_ (by rw [← e3]; exact hab) (give_mono ?_ hgv)) _ rfl
    · rw [e3] at hg
      intro z1 Ch1 St y w1 v1 S1 K1 t1 x1 r1 n1 m1 h1 htb hop hce hK1 hn1 hab hown hpb hownp hne hk
      refine hg z1 Ch1 St y w1 v1 S1 K1 t1 x1 r1 n1 m1 h1 htb hop hce hK1 hn1 hab hown (fun v2 w2 tv r2 n2 ev => ?_)
      have hlt : v.heap.size + 1 < v1.heap.size := (Array.getElem?_eq_some_iff.1 hpb).1
      have hpb2 : v2.heap[v.heap.size + 1]? = some (.cells #[I 0, I 0] 42 (0, 0)) := by rw [ev.fr.block _ hlt (fun h => h.elim hownp hne)]; exact hpb
      have hown2 : ¬ Own (didS S1 tv i t1 (effAdd n x1).1.1 (effAdd n x1).1.2) (K1.set (which ca K.length) (cb, (effAdd n x1).2.1)) (v.heap.size + 1) := fun hO => (ev.new _ hO).elim hownp (fun hle => by omega)
      have q0 : v2.cell? ⟨v.heap.size + 1, 0, none⟩ = some (I 0) := by simp [World.cell?, hpb2]
      have q1 : v2.cell? ⟨v.heap.size + 1, 1, none⟩ = some (I 0) := by simp [World.cell?, hpb2]
      have p0 : v2.frozen? ⟨v.heap.size + 1, 0, none⟩ = false := by simp [World.frozen?, hpb2]
      have p1 : v2.frozen? ⟨v.heap.size + 1, 1, none⟩ = false := by simp [World.frozen?, hpb2]
      have e3 := (ev.wider (Pr' := fun b => b = v.heap.size + 3 ∨ b = v.heap.size + 1) (fun b _ hb => .inl hb)).trans ((ev.mem.other (v' := (v2.setCell ⟨v.heap.size + 1, 0, none⟩ (I 0)).setCell ⟨v.heap.size + 1, 1, none⟩ (I (wrap64 (x1 + n)))) hown2 (fun b hb => by rw [Below.heap_setCell _ _ _ _ hb, Below.heap_setCell _ _ _ _ hb]) (by simp [World.setCell]) rfl rfl).wider (fun b _ hb => .inr hb))
      have hrow : ((v2.setCell ⟨v.heap.size + 1, 0, none⟩ (I 0)).setCell ⟨v.heap.size + 1, 1, none⟩ (I (wrap64 (x1 + n)))).heap[v.heap.size + 1]? = some (.cells #[I 0, I (wrap64 (x1 + n))] 42 (0, 0)) := by
        have := heap_setCell_same (o := 1) (heap_setCell_same (o := 0) hpb2 (I 0)) (I (wrap64 (x1 + n)))
        simpa using this
      refine goesI_doZ (L := LT) (o := ops21[11]'(by decide)) rfl rfl (by decide) (fineOp_ask callT extT (by kernel_rfl)) r2 n2 (v' := (v2.setCell ⟨v.heap.size + 1, 0, none⟩ (I 0)).setCell ⟨v.heap.size + 1, 1, none⟩ (I (wrap64 (x1 + n)))) ?_ rfl (fun w3 r3 n3 => ?_)
      · have hop : (ops21[11]'(by decide)).op = .store 42 (.tmp 5) (.tmp 16) := rfl
        have hd : (ops21[10]'(by decide)).dst = some 16 := rfl
        unfold execOp
        rw [hop, hd]
        simp [go_sem, Act.eval, Act.put, q0, q1, p0, p1, effAdd]
      · refine goesI_regionEnd (dt_idle _ _) ?_
        refine GoesI.ctl rfl (fun _ => stepG_ret') (dt_idle _ _) ?_
        refine goesI_leaveZ (f := 21) (fn := Try.f21) (x := .agg #[I 0, I (wrap64 (x1 + n))]) r3 n3 Try.func21 rfl hoc ?_ (fun w' r' => hk _ w' tv r' n3 e3)
        generalize ((v2.setCell ⟨v.heap.size + 1, 0, none⟩ (I 0)).setCell ⟨v.heap.size + 1, 1, none⟩ (I (wrap64 (x1 + n)))) = V at hrow
        have k0 : V.cell? ⟨v.heap.size + 1, 0, none⟩ = some (I 0) := by simp [World.cell?, hrow]
        have k1 : V.cell? ⟨v.heap.size + 1, 1, none⟩ = some (I (wrap64 (x1 + n))) := by simp [World.cell?, hrow]
        have hd : (ops21[10]'(by decide)).dst = some 16 := rfl
        have hd' : (ops21[11]'(by decide)).dst = none := rfl
        rw [hd, hd']
        simp [results, go_sem, Try.f21, Act.put, k0, k1]
    · rw [hg1.old _ (by omega)]; exact hans
    · intro hF; exact hF
end Go.Proofs.Ytmgaojbfmohboaa
