/- ChainRing: of a ring the last who writes down is told, under every schedule. Part 9 of 37. (Joined, by program, of: Freeze, Await, Lift26, Awake2, Lift27, AwaitNo, Until, Carry, Play5, Carry2, Carry3.) -/
import Derived.Test.YtfjjoohflcchnaaChainRing08
set_option linter.unusedSimpArgs false
set_option linter.unusedVariables false
namespace Go.Proofs.Ytfjjoohflcchnaa
open Go Go.Lift Go.Conc Go.RowKit

/-- A row's cell is kept. -/
def chill : Option Nat → Obj → Obj
  | some n, .cells c e _ => .cells c e (n, n + 1)
  | _, o => o
theorem zap_chill (x : Option Nat) (o : Obj) (h : ∀ c e f, o = .cells c e f → x.isSome = true → f = (0, 0)) : zap x (chill x o) = o := by
  cases x with
  | none => cases o <;> rfl
  | some n =>
    cases o with
    | cells c e f =>
      have := h c e f rfl rfl
      subst this
      rfl
    | _ => rfl

/-- Of a world whose rows bear no mark at the kept blocks there is a lone world that keeps the cells. -/
theorem freeze_rel {z : Nat → Option Nat} {w : World} (h : ∀ r n, z r = some n → r < w.heap.size ∧ ∀ c e f, w.heap[r]? = some (.cells c e f) → f = (0, 0)) :
    ∃ v, Rel z v w ∧ (∀ r, v.heap[r]? = (w.heap[r]?).map (chill (z r))) ∧ v.heap.size = w.heap.size ∧ v.os = w.os ∧ v.output = w.output := by
  have hget : ∀ r : Nat, (w.heap.mapIdx fun r o => chill (z r) o)[r]? = (w.heap[r]?).map (chill (z r)) := fun r => by rw [Array.getElem?_mapIdx]
  refine ⟨{ w with heap := w.heap.mapIdx fun r o => chill (z r) o }, ⟨fun r => ?_, fun r n c e f hz hh => ?_, fun r n hz => ?_, rfl, rfl⟩, hget, by simp, rfl, rfl⟩
  · show w.heap[r]? = ((w.heap.mapIdx fun r o => chill (z r) o)[r]?).map (zap (z r))
    rw [hget]
    cases ho : w.heap[r]? with
    | none => rfl
    | some o =>
      simp only [Option.map_some, Option.some.injEq]
      exact (zap_chill _ _ fun c e f he hs => by
        cases hz : z r with
        | none => rw [hz] at hs; cases hs
        | some n => exact (h r n hz).2 c e f (by rw [ho, he])).symm
  · simp only at hh
    rw [hget, hz] at hh
    cases ho : w.heap[r]? with
    | none => rw [ho] at hh; cases hh
    | some o =>
      rw [ho] at hh
      cases o <;> simp only [Option.map_some, chill, Option.some.injEq, Obj.cells.injEq, reduceCtorEq] at hh
      exact hh.2.2.symm
  · simpa using (h r n hz).1

section
variable {z : Nat → Option Nat} {S : TS} {K : List (Nat × Int)} {v w : World}
/-- The world in company is such a world too. -/
theorem Mem.thaw (h : Mem z S K v) (hr : Rel z v w) : Mem zn S K w := by
  have hno : ∀ b : Nat, (∀ c e, v.heap[b]? ≠ some (Obj.cells c e (0, 0))) ∨ w.heap[b]? = v.heap[b]? := fun b => by
    cases hz : z b with
    | none => right; rw [hr.heap, hz]; cases v.heap[b]? <;> simp [zap_none]
    | some n =>
      left
      intro c e hh
      have := hr.kept b n c e _ hz hh
      simp at this
  have hrow : ∀ (b : Nat) (c : Array Value) (e : TypeId), v.heap[b]? = some (.cells c e (fz z b)) → w.heap[b]? = some (.cells c e (fz zn b)) := fun b c e hh => by
    rw [hr.heap, hh]
    unfold fz
    cases hz : z b <;> rfl
  have hown : ∀ {base : Nat} {e : TypeId} {size : Nat} {x : Value} {n : Nat} {xs : List Value}, v.ownsRow base e size x n xs → w.ownsRow base e size x n xs := fun {base e size x n xs} ho => by
    refine ⟨ho.1, ?_⟩
    rcases ho.2 with h2 | ⟨g, cap, cur, h1, h2, h3, h4⟩
    · exact .inl h2
    · refine .inr ⟨g, cap, cur, h1, h2, ?_, h4⟩
      rcases hno g with hn | hn
      · exact absurd h3 (hn _ _)
      · rw [hn]; exact h3
  refine ⟨⟨hrow _ _ _ h.rep.wor, fun i t ht => hrow _ _ _ (h.rep.thr i t ht), hown h.rep.own, hown h.rep.chg, hown h.rep.ths, hown h.rep.sch, by rw [hr.size]; exact h.rep.bs, h.rep.apart, fun b n hz => (nomatch hz)⟩, fun j c hc => ?_, h.far, h.inj, h.len⟩
  rcases hno c.1 with hn | hn
  · exact absurd (h.cel j c hc) (hn _ _)
  · rw [hn]; exact h.cel j c hc

/-- .. and the other way: what is kept are cells of the world's row and of threads' rows. -/
theorem Mem.freeze (h : Mem zn S K w) (hz : ∀ b n, z b = some n → (b = S.wb ∧ n = 8) ∨ ∃ (i : Nat) (t : Thr), S.thr[i]? = some t ∧ b = t.tb ∧ n = 2) : ∃ v, Rel z v w ∧ Mem z S K v ∧ v.os = w.os ∧ v.output = w.output := by
  have hits : ∀ b n, z b = some n → Its S b := fun b n hb => by
    rcases hz b n hb with ⟨rfl, _⟩ | ⟨i, t, ht, rfl, _⟩
    · exact ⟨0, rfl⟩
    · exact ⟨i + 5, by simp [blk, ht]⟩
  have hlo : ∀ r n, z r = some n → r < w.heap.size ∧ ∀ c e f, w.heap[r]? = some (.cells c e f) → f = (0, 0) := fun r n hb => by
    refine ⟨h.lt (.inl (hits r n hb)), fun c e f hh => ?_⟩
    rcases hz r n hb with ⟨rfl, _⟩ | ⟨i, t, ht, rfl, _⟩
    · rw [h.rep.wor] at hh; cases hh; rfl
    · rw [h.rep.thr i t ht] at hh; cases hh; rfl
  obtain ⟨v, hr, hget, hs, ho, hu⟩ := freeze_rel hlo
  have hrow : ∀ (b : Nat) (c : Array Value) (e : TypeId), w.heap[b]? = some (.cells c e (fz zn b)) → v.heap[b]? = some (.cells c e (fz z b)) := fun b c e hh => by
    rw [hget, hh]
    unfold fz
    cases hzb : z b <;> rfl
  have hoth : ∀ b, z b = none → v.heap[b]? = w.heap[b]? := fun b hb => by
    rw [hget, hb]
    cases w.heap[b]? with
    | none => rfl
    | some o => cases o <;> rfl
  have hzo : ∀ k b, blk S k = some b → k ≠ 0 → k < 5 → z b = none := fun k b hk h0 h5 => by
    cases hb : z b with
    | none => rfl
    | some n =>
      rcases hz b n hb with ⟨rfl, _⟩ | ⟨i, t, ht, rfl, _⟩
      · exact absurd (h.rep.apart k 0 _ hk rfl) h0
      · have := h.rep.apart k (i + 5) _ hk (by simp [blk, ht]); omega
  refine ⟨v, hr, ⟨⟨hrow _ _ _ h.rep.wor, fun i t ht => hrow _ _ _ (h.rep.thr i t ht), own_stay (fun b hb => hoth b (hzo 3 b hb (by omega) (by omega))) h.rep.own, own_stay (fun b hb => hoth b (hzo 1 b hb (by omega) (by omega))) h.rep.chg, own_stay (fun b hb => hoth b (hzo 2 b hb (by omega) (by omega))) h.rep.ths, own_stay (fun b hb => hoth b (hzo 4 b hb (by omega) (by omega))) h.rep.sch, by rw [hs]; exact h.rep.bs, h.rep.apart, hz⟩, fun j c hc => ?_, h.far, h.inj, h.len⟩, ho, hu⟩
  rw [hoth c.1 (by
    cases hb : z c.1 with
    | none => rfl
    | some n => exact absurd (hits _ n hb) (h.far j c hc))]
  exact h.cel j c hc
end
end Go.Proofs.Ytfjjoohflcchnaa

namespace Go.Proofs.Ytfjjoohflcchnaa
open Go Go.Lift Go.Conc Go.RowKit

/-- A channel is turned. -/
theorem Mem.chan {z : Nat → Option Nat} {S : TS} {K : List (Nat × Int)} {w : World} (h : Mem z S K w) {c : Nat} {o : Obj} (hc : w.heap[c]? = some o) (ho : ∀ (x : Array Value) (e : TypeId) (f : Nat × Nat), o ≠ Obj.cells x e f) (cap : Nat) (buf : Array Value) (cl : Bool) (a b : Nat) (tm : Bool) : Mem z S K (w.setChan c cap buf cl a b tm) := by
  have hne : ∀ (r : Nat) (x : Array Value) (e : TypeId) (f : Nat × Nat), w.heap[r]? = some (Obj.cells x e f) → (w.setChan c cap buf cl a b tm).heap[r]? = some (Obj.cells x e f) := fun r x e f hr => by
    rw [heap_setChan_ne]
    · exact hr
    · rintro rfl
      rw [hc] at hr
      cases hr
      exact ho _ _ _ rfl
  have hown : ∀ {base : Nat} {e : TypeId} {size : Nat} {x : Value} {n : Nat} {xs : List Value}, w.ownsRow base e size x n xs → (w.setChan c cap buf cl a b tm).ownsRow base e size x n xs := fun {base e size x n xs} ho => by
    refine ⟨ho.1, ?_⟩
    rcases ho.2 with h2 | ⟨g, cp, cur, h1, h2, h3, h4⟩
    · exact .inl h2
    · exact .inr ⟨g, cp, cur, h1, h2, hne _ _ _ _ h3, h4⟩
  have hs : (w.setChan c cap buf cl a b tm).heap.size = w.heap.size := by simp [World.setChan]
  exact ⟨⟨hne _ _ _ _ h.rep.wor, fun i t ht => hne _ _ _ _ (h.rep.thr i t ht), hown h.rep.own, hown h.rep.chg, hown h.rep.ths, hown h.rep.sch, by rw [hs]; exact h.rep.bs, h.rep.apart, h.rep.kept⟩, fun j d hd => hne _ _ _ _ (h.cel j d hd), h.far, h.inj, h.len⟩

end Go.Proofs.Ytfjjoohflcchnaa

namespace Go.Lift
open Go.Conc
section
variable {P : Program} {main : Bool} {Stop : Goroutine → World → Prop} {k : List Item} {cs : List Frame} {w : World} {ops : Array Oper} {i : Nat} {rest : List Nat} {o : Oper} {L : FuncId → Prop} {b : Frame} {a : Act} {z : Nat → Option Nat} {Ch : Nat → Prop} {v v' : World}

theorem op_like (hof : fineOp P true L o) (hvw : Rel z v w) {x : Next} (hr : (execOp a.eval o).run P v = .ok x v') (hd : v'.drawn = v.drawn) (d : Nat) :
    ∃ w', Out z true v v' (w.at d) w' ∧ (∀ e ∈ listed P b.fn a o (w.at d), Okay true e ∧ Spares z w' e) ∧ (execOp a.eval o).run P (w.at d) = .ok x w' := by
  have hT : (execOp a.eval o).runT P v #[] = (.ok x v', (execOp a.eval o).events P v #[]) := by
    have := runT_fst (P := P) (execOp a.eval o) v #[]
    rw [hr] at this
    exact Prod.ext this rfl
  obtain ⟨w', h1, h2, h3⟩ := sim z _ (hof a).1 v (w.at d) #[] x v' _ (hvw.re rfl rfl rfl rfl rfl rfl) hT (fun i hi => absurd hi (by omega))
  refine ⟨w', h2, fun e he => ?_, by rw [← runT_fst (P := P) _ (w.at d) #[], h1]⟩
  have e2 : (execOp a.eval o).events P (w.at d) #[] = (execOp a.eval o).events P v #[] := by
    show ((execOp a.eval o).runT P (w.at d) #[]).2 = _
    rw [h1]
  unfold listed at he
  rw [e2] at he
  rcases h3 e (mem_seen he) with h | h
  · simp at h
  · exact h

/-- It yields a value. -/
theorem goesI_opZ (ho : ops[i]? = some o) (hw : Region.wanted o (yielded ops a.tmps) = true) (hk : b.kind ≠ .early) (hof : fineOp P true L o) (hvw : Rel z v w) (hn : NoRow Ch v) {x : Value} (hr : (execOp a.eval o).run P v = .ok (.value x) v') (hd : v'.drawn = v.drawn)
    (h : ∀ w', Rel z v' w' → NoRow Ch v' → GoesI P main (DT (ScZ z) Ch) Stop (G (b.at (a.put o.dst x) (.inRegion ops rest :: k)) cs) w') : GoesI P main (DT (ScZ z) Ch) Stop (G (b.at a (.inRegion ops (i :: rest) :: k)) cs) w := by
  have one := op_like (b := b) hof hvw hr hd
  exact .step rfl _ (fun d => (one d).choose) _ (fun d => stepG_value ho hw hk (one d).choose_spec.2.2) (fun d => dt_of_z v v' (w.at d) _ _ hn (hvw.re rfl rfl rfl rfl rfl rfl) (one d).choose_spec.1 (one d).choose_spec.2.1) (fun d => h _ (one d).choose_spec.1.rel (noRow_keeps _ _ (one d).choose_spec.1.keeps hn))
/-- It yields nothing. -/
theorem goesI_doZ (ho : ops[i]? = some o) (hw : Region.wanted o (yielded ops a.tmps) = true) (hk : b.kind ≠ .early) (hof : fineOp P true L o) (hvw : Rel z v w) (hn : NoRow Ch v) (hr : (execOp a.eval o).run P v = .ok .skip v') (hd : v'.drawn = v.drawn)
    (h : ∀ w', Rel z v' w' → NoRow Ch v' → GoesI P main (DT (ScZ z) Ch) Stop (G (b.at (a.put o.dst undef) (.inRegion ops rest :: k)) cs) w') : GoesI P main (DT (ScZ z) Ch) Stop (G (b.at a (.inRegion ops (i :: rest) :: k)) cs) w := by
  have one := op_like (b := b) hof hvw hr hd
  exact .step rfl _ (fun d => (one d).choose) _ (fun d => stepG_none ho hw hk (one d).choose_spec.2.2) (fun d => dt_of_z v v' (w.at d) _ _ hn (hvw.re rfl rfl rfl rfl rfl rfl) (one d).choose_spec.1 (one d).choose_spec.2.1) (fun d => h _ (one d).choose_spec.1.rel (noRow_keeps _ _ (one d).choose_spec.1.keeps hn))

theorem Agr.eval {n : Nat} {val : Nat → Value} {a0 : Act} {l : Array Bool} (h : Agr ops n val a0 l a) {j : Nat} {t : Tmp} (hj : j < n) (ho : ops[j]? = some o) (hl : l.getD j false = true) (hd : o.dst = some t) : a.eval (.tmp t) = val j := by
  simp [Act.eval, h.done j o t hj ho hl hd]
theorem Agr.eval0 {n : Nat} {val : Nat → Value} {a0 : Act} {l : Array Bool} (h : Agr ops n val a0 l a) {t : Tmp} (hd : ∀ (j : Nat) (o : Oper), j < n → ops[j]? = some o → o.dst ≠ some t) : a.eval (.tmp t) = a0.eval (.tmp t) := by
  simp [Act.eval, h.else_ t (fun j o hj ho _ => hd j o hj ho)]
end
end Go.Lift

namespace Go.Proofs.Ytfjjoohflcchnaa
open Go Go.Lift Go.Conc Go.RowKit

end Go.Proofs.Ytfjjoohflcchnaa

namespace Go.Lift
open Go.Conc
section
variable {P : Program} {main : Bool} {Stop : Goroutine → World → Prop} {k : List Item} {cs : List Frame} {w : World} {ops : Array Oper} {i : Nat} {rest : List Nat} {o : Oper}
theorem goesI_outZ {z : Nat → Option Nat} {Ch : Nat → Prop} {L : FuncId → Prop} (hE : ∀ fr cs dy g w, ∃ o w', early P fr cs dy g w = .ended o w') (hL : ∀ g, L g → fineFn P true L g)
    {f : FuncId} {fn : Func} {c : Code} {act : Act} {more : List Item} {bc : Frame} {ac : Act} {R : Value → World → Prop} {v0 : World} (hvw : Rel z v0 w) (hn : NoRow Ch v0) (hf : P.funcs[f]? = some fn) (hc : fineCode P true L c) (ha : act.defers = []) (ho : ops[i]? = some o)
    (hwp : ∀ τ, c.wp P (fun e a w' => e = .ret ∧ ∃ x, (results fn a.tmps).run P w' = .ok x w' ∧ R x w') act (onTape v0 τ 0))
    (h : ∀ v v' w', R v v' → Rel z v' w' → NoRow Ch v' → GoesI P main (DT (ScZ z) Ch) Stop (G (bc.at (ac.put o.dst v) (.inRegion ops rest :: k)) cs) w') :
    GoesI P main (DT (ScZ z) Ch) Stop (G ((base f).at act (.code c :: more)) (bc.at ac (.inRegion ops (i :: rest) :: k) :: cs)) w := by
  refine (lift_code (P := P) (z := z) (wr := true) (L := L) (D := DT (ScZ z) Ch) (I := NoRow Ch) (main := main) (b := base f) (k := more) (cs := bc.at ac (.inRegion ops (i :: rest) :: k) :: cs) hE hL noRow_keeps
    (fun v v' w w' es hi hr ho he => dt_of_z v v' w w' es hi hr ho he) hvw hc ha (by simp [base]) hn hwp (fun e a w hq => .inr hq.1)).then ?_
  rintro g w' ⟨a', v', hr, hiv, hd, ⟨⟨hq, _⟩, _⟩ | ⟨⟨_, x, hx, hR⟩, todo, rfl⟩⟩
  · cases hq
  · exact goesI_leaveZ hr hiv hf hd ho hx (fun w'' hr'' => h x v' w'' hR hr'' hiv)
end
end Go.Lift

namespace Go.Proofs.Ytfjjoohflcchnaa
open Go Go.Lift Go.Conc Go.RowKit

def condA : Code → Code
  | .cond _ a _ => a
  | c => c
end Go.Proofs.Ytfjjoohflcchnaa

namespace Go.Proofs.Ytfjjoohflcchnaa
open Go Go.Lift Go.Conc Go.RowKit

def blockC : Code → Code
  | .block _ c => c
  | c => c
def loopC : Code → Code
  | .loop c => c
  | c => c
end Go.Proofs.Ytfjjoohflcchnaa

namespace Go.Proofs.Ytfjjoohflcchnaa
open Go Go.Lift Go.Conc Go.RowKit

noncomputable def L34 : Code := loopC (blockC (seq2 (seq2 (Try.f85.body.getD .skip))))
/-- The frame at the loop's head: so many calls are done (ii), and whether one was stuck (sk). -/
noncomputable def cFr (tb : Nat) (csl F asl : Value) (n ii : Nat) (sk : Bool) (u : Nat → Value) : Frame :=
  (base 85).at ⟨#[Pt tb 0, csl, F, asl, undef, undef, undef, undef, .bool sk, u 9, u 10, csl, I n, I ii, u 14, u 15, u 16, u 17, u 18, u 19, u 20, u 21, u 22, u 23] ++ #[u 24, u 25, u 26, u 27, u 28, u 29, u 30, u 31, u 32, u 33, u 34, u 35, u 36, u 37, u 38, u 39, u 40, u 41, u 42, u 43, u 44, u 45, u 46, u 47], []⟩ [.code L34, .inLoop L34, .inBlock 0]

set_option maxHeartbeats 1000000 in
set_option maxRecDepth 100000 in
theorem carry_in {z : Nat → Option Nat} {Ch : Nat → Prop} {Stop : Goroutine → World → Prop} {main : Bool} {w : World} {tb : Nat} (F asl : Value) (p : Option Addr) (n cap : Nat) (cs : List Frame)
    (hk : ∀ u, GoesI Try.prog main (DT (ScZ z) Ch) Stop (G (cFr tb (.slice p n cap) F asl n 0 false u) cs) w) (code : Code) (hc : Try.f85.body = some code) :
    GoesI Try.prog main (DT (ScZ z) Ch) Stop (G ((base 85).at { tmps := #[Pt tb 0, .slice p n cap, F, asl] ++ Array.replicate 44 undef, defers := [] } [.code code]) cs) w := by
  obtain rfl := Option.some.inj hc
  clear hc
  simp only [Array.replicate_succ, Array.replicate_zero, List.push_toArray, List.append_toArray, List.nil_append, List.cons_append]
  refine goesI_seq (dt_idle _ _) ?_
  refine goesI_region (dt_idle _ _) ?_
  simp only [List.size_toArray, List.length_cons, List.length_nil, Nat.reduceAdd, Nat.zero_add, List.range, List.range.loop]
  (refine goesI_oper rfl rfl (by decide) (fun d K hK => ?_)
   go_simp
   refine hK _ _ ⟨dt_reads (fun e he => ?_), GoesI.at ?_ d⟩
   · have hm := mem_listed he
     simp [go_sem, *] at hm
   clear hK K)
  refine goesI_regionEnd (dt_idle _ _) ?_
  refine goesI_seq (dt_idle _ _) ?_
  refine goesI_region (dt_idle _ _) ?_
  simp only [List.size_toArray, List.length_cons, List.length_nil, Nat.reduceAdd, Nat.zero_add, List.range, List.range.loop]
  iterate 3
    (refine goesI_oper rfl rfl (by decide) (fun d K hK => ?_)
     go_simp
     refine hK _ _ ⟨dt_reads (fun e he => ?_), GoesI.at ?_ d⟩
     · have hm := mem_listed he
       simp [go_sem, *] at hm
     clear hK K)
  refine goesI_regionEnd (dt_idle _ _) ?_
  refine goesI_block (dt_idle _ _) ?_
  refine goesI_loop (dt_idle _ _) ?_
  have hk := hk (fun _ => undef)
  unfold cFr L34 Try.f85 seq2 blockC loopC at hk
  simp only [Option.getD_some, List.append_toArray, List.cons_append, List.nil_append] at hk
  exact hk

set_option maxHeartbeats 1000000 in
set_option maxRecDepth 100000 in
/-- All calls are done: it leaves. -/
theorem carry_end {z : Nat → Option Nat} {Ch : Nat → Prop} {Stop : Goroutine → World → Prop} {main : Bool} {w : World} {tb : Nat} (csl F asl : Value) (n : Nat) (sk : Bool) (u : Nat → Value) (cs : List Frame) {bc : Frame} {ac : Act} {ops : Array Oper} {q : Nat} {rest : List Nat} {oc : Oper} {k : List Item} (hoc : ops[q]? = some oc)
    (hk : GoesI Try.prog main (DT (ScZ z) Ch) Stop (G (bc.at (ac.put oc.dst (.tuple #[])) (.inRegion ops rest :: k)) cs) w) :
    GoesI Try.prog main (DT (ScZ z) Ch) Stop (G (cFr tb csl F asl n n sk u) (bc.at ac (.inRegion ops (q :: rest) :: k) :: cs)) w := by
  unfold cFr L34 Try.f85 seq2 blockC loopC
  simp only [Option.getD_some, List.append_toArray, List.cons_append, List.nil_append]
  refine goesI_seq (dt_idle _ _) ?_
  refine goesI_region (dt_idle _ _) ?_
  simp only [List.size_toArray, List.length_cons, List.length_nil, Nat.reduceAdd, Nat.zero_add, List.range, List.range.loop]
  (refine goesI_oper rfl rfl (by decide) (fun d K hK => ?_)
   go_simp
   refine hK _ _ ⟨dt_reads (fun e he => ?_), GoesI.at ?_ d⟩
   · have hm := mem_listed he
     simp [go_sem, *] at hm
   clear hK K)
  refine goesI_regionEnd (dt_idle _ _) ?_
  refine goesI_seq (dt_idle _ _) ?_
  refine goesI_cond (dt_idle _ _) (t := false) (by simp [Act.eval]) ?_
  simp only [if_true, if_false, Bool.false_eq_true]
  refine goesI_exit (dt_idle _ _) rfl ?_
  refine goesI_end (dt_idle _ _) ?_
  exact goesI_leave (b := base 85) (fn := Try.f85) rfl rfl Try.func85 (fun w => results_none rfl _ _ _) (fun w => by simp [results, go_sem]) hoc (dt_idle _ _) hk
end Go.Proofs.Ytfjjoohflcchnaa

namespace Go.Proofs.Ytfjjoohflcchnaa
open Go Go.Lift Go.Conc Go.RowKit

/-- The place that a number names among so many. -/
def which (a : Int) (n : Nat) : Nat := (if a.tmod n < 0 then a.tmod n + n else a.tmod n).toNat
theorem which_lt (a : Int) {n : Nat} (h : 0 < n) : which a n < n := by
  unfold which
  have h1 := Int.tmod_lt_of_pos a (show (0 : Int) < n by omega)
  have h2 : -(n : Int) < a.tmod n := Int.lt_tmod_of_pos a (by omega)
  split <;> omega

theorem which_pos {a : Int} {n : Nat} (h : 0 ≤ a.tmod n) : a.tmod n = (which a n : Int) := by
  unfold which
  rw [if_neg (by omega), Int.toNat_of_nonneg h]
theorem which_neg {a : Int} {n : Nat} (h : a.tmod n < 0) (h0 : 0 < n) (hb : (n : Int) < 9223372036854775808) : wrap64 (a.tmod n + n) = (which a n : Int) := by
  have h2 : -(n : Int) < a.tmod n := Int.lt_tmod_of_pos a (by omega)
  unfold which
  rw [if_pos h, Int.toNat_of_nonneg (by omega)]
  unfold wrap64
  omega

theorem mix21 : Try.prog.follows .mixedOrders = true := by kernel_rfl
theorem fineFn_body {P : Program} {L : FuncId → Prop} {f : FuncId} {fn : Func} {c : Code} (hL : ∀ g, L g → fineFn P true L g) (hf : L f) (h1 : P.funcs[f]? = some fn) (h2 : fn.body = some c) : fineCode P true L c := by
  obtain ⟨fn', c', h3, h4, h5, _⟩ := hL f hf
  rw [h1] at h3
  cases h3
  rw [h2] at h4
  cases h4
  exact h5
end Go.Proofs.Ytfjjoohflcchnaa

namespace Go.Proofs.Ytfjjoohflcchnaa
open Go Go.Lift Go.Conc Go.RowKit

noncomputable def ops347 : Array Oper := opsOf (seq1 (seq2 (seq2 (seq2 (blockC (seq1 (seq2 (seq2 L34))))))))
noncomputable def R89 : Code := seq2 (seq2 (seq2 (seq2 (blockC (seq1 (seq2 (seq2 L34)))))))
noncomputable def R10 : Code := seq2 (seq2 (seq2 L34))
/-- What the frame holds where the closure is called: the call's box lies at N. -/
noncomputable def cAct (tb : Nat) (csl F asl : Value) (rb ro n ii N : Nat) (x : Value) (u : Nat → Value) : Act :=
  ⟨#[Pt tb 0, csl, F, asl, undef, undef, undef, undef, .bool false, I ii, Pt N 0, csl, I n, I ii, .bool true, I ii, Pt rb (ro + ii * 4), x, .bool false, u 19, u 20, u 21, u 22, Pt tb 0] ++ #[I ii, .tuple #[], asl, I ii, F, Pt tb 0, x, u 31, u 32, u 33, u 34, u 35, u 36, u 37, u 38, u 39, u 40, u 41, u 42, u 43, u 44, u 45, u 46, u 47], []⟩

set_option maxHeartbeats 2000000 in
set_option maxRecDepth 100000 in
theorem carry_step {z : Nat → Option Nat} {Ch : Nat → Prop} {Stop : Goroutine → World → Prop} {main : Bool} {S : TS} {K : List (Nat × Int)} {v w : World} {i : Nat} {t : Thr} (asl : Value) (f : FuncId) (fn : Func) (bn cp : Array Value) (hf : Try.prog.funcs[f]? = some fn) (hname : (fn.name == "runtime.NumGoroutine") = false) (cf : Code) (hcf : fn.body = some cf) (rb ro n cap ii : Nat) (po ca cb cc : Int) (u : Nat → Value) (cs : List Frame) (hi : ii < n)
    (h0 : v.cell? ⟨rb, ro + ii * 4, none⟩ = some (I po)) (h1 : v.cell? ⟨rb, ro + ii * 4 + 1, none⟩ = some (I ca)) (h2 : v.cell? ⟨rb, ro + ii * 4 + 2, none⟩ = some (I cb)) (h3 : v.cell? ⟨rb, ro + ii * 4 + 3, none⟩ = some (I cc))
    (hvw : Rel z v w) (hn : NoRow Ch v) (hm : Mem z S K v) (ht : S.thr[i]? = some t) (hl : (S.n + 1) * 40 ≤ 140737488355328)
    (hk : ∀ v' w' tv, Rel z v' w' → NoRow Ch v' → Evo z S K v (noted S tv i 9 (-1) ii 0) K v' → v'.heap[v.heap.size]? = some (.cells #[I po, I ca, I cb, I cc] 39 (0, 0)) →
      GoesI Try.prog main (DT (ScZ z) Ch) Stop (G ((base f).at { tmps := (bn ++ #[Pt t.tb 0, .agg #[I po, I ca, I cb, I cc]] ++ cp) ++ Array.replicate (fn.ntmps - (bn ++ #[Pt t.tb 0, .agg #[I po, I ca, I cb, I cc]] ++ cp).size) undef, defers := [] } [.code cf])
        ((base 85).at (cAct t.tb (.slice (some ⟨rb, ro, none⟩) n cap) (.func (.func f) bn cp) asl rb ro n ii v.heap.size (.agg #[I po, I ca, I cb, I cc]) u) [.inRegion ops347 [5, 6, 7], .code R89, .inBlock 1, .code R10, .inLoop L34, .inBlock 0] :: cs)) w') :
    GoesI Try.prog main (DT (ScZ z) Ch) Stop (G (cFr t.tb (.slice (some ⟨rb, ro, none⟩) n cap) (.func (.func f) bn cp) asl n ii false u) cs) w := by
  have hi' : (ii : Int) < (n : Int) := by omega
  have hq : ¬ fn.name = "runtime.NumGoroutine" := by simpa using hname
  have HM : Hid (Mem z S K v) := ⟨hm⟩
  clear hm
  unfold cAct ops347 R89 R10 L34 Try.f85 seq2 seq1 blockC loopC opsOf at hk
  simp only [Option.getD_some, List.append_toArray, List.cons_append, List.nil_append] at hk
  unfold cFr L34 Try.f85 seq2 blockC loopC
  simp only [Option.getD_some, List.append_toArray, List.cons_append, List.nil_append]
  refine goesI_seq (dt_idle _ _) ?_
  refine goesI_region (dt_idle _ _) ?_
  simp only [List.size_toArray, List.length_cons, List.length_nil, Nat.reduceAdd, Nat.zero_add, List.range, List.range.loop]
  (refine goesI_oper rfl rfl (by decide) (fun d K hK => ?_)
   go_simp
   refine hK _ _ ⟨dt_reads (fun e he => ?_), GoesI.at ?_ d⟩
   · have hm := mem_listed he
     simp [go_sem, *] at hm
   clear hK K)
  refine goesI_regionEnd (dt_idle _ _) ?_
  refine goesI_seq (dt_idle _ _) ?_
  refine goesI_cond (dt_idle _ _) (t := true) (by simp [Act.eval, hi]) ?_
  simp only [if_true, if_false, Bool.false_eq_true]
  refine goesI_skip (dt_idle _ _) ?_
  refine goesI_seq (dt_idle _ _) ?_
  refine goesI_block (dt_idle _ _) ?_
  refine goesI_seq (dt_idle _ _) ?_
  refine goesI_region (dt_idle _ _) ?_
  simp only [List.size_toArray, List.length_cons, List.length_nil, Nat.reduceAdd, Nat.zero_add, List.range, List.range.loop]
  iterate 2
    (refine goesI_oper rfl rfl (by decide) (fun d K hK => ?_)
     go_simp
     refine hK _ _ ⟨dt_reads (fun e he => ?_), GoesI.at ?_ d⟩
     · have hm := mem_listed he
       simp [go_sem, *] at hm
       try exact ⟨_, _, hm⟩
       try (rcases hm with rfl | rfl | rfl | rfl <;> exact ⟨_, _, rfl⟩)
     clear hK K)
  refine goesI_opZ (L := LT) rfl rfl (by decide) (fineOp_ask callT extT (by kernel_rfl)) hvw hn (x := .agg #[I po, I ca, I cb, I cc]) (v' := v) (by go_simp) rfl (fun w1 hvw1 _ => ?_)
  refine goesI_opZ (L := LT) rfl rfl (by decide) (fineOp_ask callT extT (by kernel_rfl)) hvw1 hn (x := Pt v.heap.size 0) (v' := { v with heap := v.heap.push (.cells #[I 0, I 0, I 0, I 0] 39) }) (by go_simp) rfl (fun w2 hvw2 hn2 => ?_)
  walk_nrm
  (refine goesI_oper rfl rfl (by decide) (fun d K hK => ?_)
   go_simp
   refine hK _ _ ⟨dt_reads (fun e he => ?_), GoesI.at ?_ d⟩
   · have hm := mem_listed he
     simp [go_sem, *] at hm
   clear hK K)
  have hB : ({ v with heap := v.heap.push (.cells #[I 0, I 0, I 0, I 0] 39) } : World).heap[v.heap.size]? = some (.cells #[I 0, I 0, I 0, I 0] 39) := Array.getElem?_push_size
  generalize hV : ({ v with heap := v.heap.push (.cells #[I 0, I 0, I 0, I 0] 39) } : World) = V at hvw2 hn2 hB
  generalize hN : v.heap.size = N at hk hB ⊢
  have g0 : V.cell? ⟨N, 0, none⟩ = some (I 0) := by simp [World.cell?, hB]
  have g1 : V.cell? ⟨N, 1, none⟩ = some (I 0) := by simp [World.cell?, hB]
  have g2 : V.cell? ⟨N, 2, none⟩ = some (I 0) := by simp [World.cell?, hB]
  have g3 : V.cell? ⟨N, 3, none⟩ = some (I 0) := by simp [World.cell?, hB]
  have p0 : V.frozen? ⟨N, 0, none⟩ = false := by simp [World.frozen?, hB]
  have p1 : V.frozen? ⟨N, 1, none⟩ = false := by simp [World.frozen?, hB]
  have p2 : V.frozen? ⟨N, 2, none⟩ = false := by simp [World.frozen?, hB]
  have p3 : V.frozen? ⟨N, 3, none⟩ = false := by simp [World.frozen?, hB]
  refine goesI_doZ (L := LT) rfl rfl (by decide) (fineOp_ask callT extT (by kernel_rfl)) hvw2 hn2 (v' := (((V.setCell ⟨N, 0, none⟩ (I po)).setCell ⟨N, 1, none⟩ (I ca)).setCell ⟨N, 2, none⟩ (I cb)).setCell ⟨N, 3, none⟩ (I cc)) (by go_simp) rfl (fun w3 hvw3 hn3 => ?_)
  have hrow : ((((V.setCell ⟨N, 0, none⟩ (I po)).setCell ⟨N, 1, none⟩ (I ca)).setCell ⟨N, 2, none⟩ (I cb)).setCell ⟨N, 3, none⟩ (I cc)).heap[N]? = some (.cells #[I po, I ca, I cb, I cc] 39 (0, 0)) := by
    have := heap_setCell_same (o := 3) (heap_setCell_same (o := 2) (heap_setCell_same (o := 1) (heap_setCell_same (o := 0) hB (I po)) (I ca)) (I cb)) (I cc)
    simpa using this
  have hg : Grows v ((((V.setCell ⟨N, 0, none⟩ (I po)).setCell ⟨N, 1, none⟩ (I ca)).setCell ⟨N, 2, none⟩ (I cb)).setCell ⟨N, 3, none⟩ (I cc)) := by
    refine ⟨by rw [← hV]; simp [World.setCell], fun b hb => ?_, by rw [← hV]; rfl, by rw [← hV]; rfl⟩
    have hbN : b ≠ N := by omega
    rw [Below.heap_setCell _ _ _ _ hbN, Below.heap_setCell _ _ _ _ hbN, Below.heap_setCell _ _ _ _ hbN, Below.heap_setCell _ _ _ _ hbN, ← hV]
    show (v.heap.push _)[b]? = _
    rw [Array.getElem?_push, if_neg (by omega)]
  generalize ((((V.setCell ⟨N, 0, none⟩ (I po)).setCell ⟨N, 1, none⟩ (I ca)).setCell ⟨N, 2, none⟩ (I cb)).setCell ⟨N, 3, none⟩ (I cc)) = V3 at hvw3 hn3 hrow hg
  have HE : Hid (Evo z S K v S K V3) := ⟨HM.out.grows hg⟩
  clear hV hB g0 g1 g2 g3 p0 p1 p2 p3 hvw2 hn2 hvw1 hvw
  refine goesI_regionEnd (dt_idle _ _) ?_
  refine goesI_seq (dt_idle _ _) ?_
  refine goesI_seq (dt_idle _ _) ?_
  refine goesI_region (dt_idle _ _) ?_
  simp only [List.size_toArray, List.length_cons, List.length_nil, Nat.reduceAdd, Nat.zero_add, List.range, List.range.loop]
  (refine goesI_oper rfl rfl (by decide) (fun d K hK => ?_)
   go_simp
   refine hK _ _ ⟨dt_reads (fun e he => ?_), GoesI.at ?_ d⟩
   · have hm := mem_listed he
     simp [go_sem, *] at hm
   clear hK K)
  refine goesI_regionEnd (dt_idle _ _) ?_
  refine goesI_cond (dt_idle _ _) (t := false) rfl ?_
  simp only [if_true, if_false, Bool.false_eq_true]
  refine goesI_skip (dt_idle _ _) ?_
  refine goesI_seq (dt_idle _ _) ?_
  refine goesI_region (dt_idle _ _) ?_
  simp only [List.size_toArray, List.length_cons, List.length_nil, Nat.reduceAdd, Nat.zero_add, List.range, List.range.loop]
  iterate 2
    (refine goesI_oper rfl rfl (by decide) (fun d K hK => ?_)
     go_simp
     refine hK _ _ ⟨dt_reads (fun e he => ?_), GoesI.at ?_ d⟩
     · have hm := mem_listed he
       simp [go_sem, *] at hm
       try exact ⟨_, _, hm⟩
       try (rcases hm with rfl | rfl | rfl | rfl <;> exact ⟨_, _, rfl⟩)
     clear hK K)
  refine goesI_call (f := 106) (fn := Try.f106) (args := #[Pt t.tb 0, I 9, I ii, I 0]) hE fineT rfl rfl (by decide) rfl (by simp [Act.eval]) Try.func106 (by kernel_rfl) rfl (fineFn_body fineT (by simp [LT, plainFs]) Try.func106 rfl) (fun tmps => ⟨_, fun w => results_none rfl _ _ _, fun w => by simp [results, go_sem]⟩) hvw3 hn3
    (R := fun r v4 => r = .tuple #[] ∧ ∃ tv, Ev z S V3 (noted S tv i 9 (-1) ii 0) v4) (fun τ => ?_) (fun r v4 w4 hR hvw4 hn4 => ?_)
  · exact wp_mono (body43 (v := onTape V3 τ 0) (HE.out.mem.rep.same rfl) ht 9 ii 0 hl _ rfl) (bp_mono fun r x hq => ⟨hq.1, hq.2.choose, hq.2.choose_spec.base rfl rfl rfl⟩)
  obtain ⟨rfl, tv, hev⟩ := hR
  have HE4 : Hid (Evo z S K v (noted S tv i 9 (-1) ii 0) K v4) := ⟨HE.out.trans (Evo.of_ev HE.out.mem hev rfl)⟩
  have hNo : ¬ Own S K N := fun hO => by have := HM.out.lt hO; omega
  have hrow4 : v4.heap[N]? = some (.cells #[I po, I ca, I cb, I cc] 39 (0, 0)) := by
    rw [hev.fr.block N (Array.getElem?_eq_some_iff.1 hrow).1 (fun hI => hNo (.inl hI))]
    exact hrow
  clear hev hrow hg HE hvw3 hn3
  have k0 : w4.cell? ⟨N, 0, none⟩ = some (I po) := by rw [hvw4.cell?]; simp [World.cell?, hrow4]
  have k1 : w4.cell? ⟨N, 1, none⟩ = some (I ca) := by rw [hvw4.cell?]; simp [World.cell?, hrow4]
  have k2 : w4.cell? ⟨N, 2, none⟩ = some (I cb) := by rw [hvw4.cell?]; simp [World.cell?, hrow4]
  have k3 : w4.cell? ⟨N, 3, none⟩ = some (I cc) := by rw [hvw4.cell?]; simp [World.cell?, hrow4]
  have hk := hk v4 w4 tv hvw4 hn4 HE4.out hrow4
  walk_nrm
  refine goesI_regionEnd (dt_idle _ _) ?_
  refine goesI_seq (dt_idle _ _) ?_
  refine goesI_region (dt_idle _ _) ?_
  simp only [List.size_toArray, List.length_cons, List.length_nil, Nat.reduceAdd, Nat.zero_add, List.range, List.range.loop]
  iterate 5
    (refine goesI_oper rfl rfl (by decide) (fun d K hK => ?_)
     go_simp
     refine hK _ _ ⟨dt_reads (fun e he => ?_), GoesI.at ?_ d⟩
     · have hm := mem_listed he
       simp [go_sem, *] at hm
       try exact ⟨_, _, hm⟩
       try (rcases hm with rfl | rfl | rfl | rfl <;> exact ⟨_, _, rfl⟩)
     clear hK K)
  refine goesI_enter (f := f) (args := bn ++ #[Pt t.tb 0, .agg #[I po, I ca, I cb, I cc]] ++ cp) rfl rfl (by decide) (fun w => ?_) (fun w => ?_) (dt_idle _ _) hf hcf ?_
  · simp [execOp, resolve, Deferred.ofValue, Act.eval, invoke, callFunc, hf, hq, hcf]
  · refine listed_none ?_
    simp [go_sem, execOp, resolve, Deferred.ofValue, Act.eval, invoke, callFunc, hf, hq, hcf]
  exact hk
end Go.Proofs.Ytfjjoohflcchnaa

namespace Go.Proofs.Ytfjjoohflcchnaa
open Go Go.Lift Go.Conc Go.RowKit

set_option maxHeartbeats 2000000 in
set_option maxRecDepth 100000 in
theorem carry_back {z : Nat → Option Nat} {Ch : Nat → Prop} {Stop : Goroutine → World → Prop} {main : Bool} {S : TS} {K : List (Nat × Int)} {v w : World} {i : Nat} {t : Thr} (csl F : Value) (rb ro ab n cap2 ii N : Nat) (X : Value) (e x y0 y1 : Int) (u : Nat → Value) (cs : List Frame) (hi : ii < n) (hb : (n : Int) < 9223372036854775808)
    (a0 : v.cell? ⟨ab, ii * 2, none⟩ = some (I y0)) (a1 : v.cell? ⟨ab, ii * 2 + 1, none⟩ = some (I y1)) (f0 : v.frozen? ⟨ab, ii * 2, none⟩ = false) (f1 : v.frozen? ⟨ab, ii * 2 + 1, none⟩ = false) (hbo : ¬ Own S K ab)
    (hvw : Rel z v w) (hn : NoRow Ch v) (hm : Mem z S K v) (ht : S.thr[i]? = some t) (hl : (S.n + 1) * 40 ≤ 140737488355328)
    (hk : ∀ v' w' tv u', Rel z v' w' → NoRow Ch v' → EvoP (· = ab) z S K v (noted S tv i 10 (-1) ii e) K v' → v'.heap[ab]? = ((v.setCell ⟨ab, ii * 2, none⟩ (I e)).setCell ⟨ab, ii * 2 + 1, none⟩ (I x)).heap[ab]? →
      GoesI Try.prog main (DT (ScZ z) Ch) Stop (G (cFr t.tb csl F (.slice (some ⟨ab, 0, none⟩) n cap2) n (ii + 1) (e == 4) u') cs) w') :
    GoesI Try.prog main (DT (ScZ z) Ch) Stop (G ((base 85).at ((cAct t.tb csl F (.slice (some ⟨ab, 0, none⟩) n cap2) rb ro n ii N X u).put (some 31) (.agg #[I e, I x])) [.inRegion ops347 [6, 7], .code R89, .inBlock 1, .code R10, .inLoop L34, .inBlock 0]) cs) w := by
  have hi' : (ii : Int) < (n : Int) := by omega
  have hlt : ab < v.heap.size := World.block_lt_of_cell? _ _ a0
  have HM : Hid (Mem z S K v) := ⟨hm⟩
  have HW : Hid (IntKind.i64.wrap ((ii : Int) + 1) = ((ii + 1 : Nat) : Int)) := ⟨by rw [IntKind.wrap_i64]; omega⟩
  clear hm hb
  unfold cAct ops347 R89 R10 L34 Try.f85 seq2 seq1 blockC loopC opsOf
  simp only [Option.getD_some, List.append_toArray, List.cons_append, List.nil_append]
  walk_nrm
  (refine goesI_oper rfl rfl (by decide) (fun d K hK => ?_)
   go_simp
   refine hK _ _ ⟨dt_reads (fun e he => ?_), GoesI.at ?_ d⟩
   · have hm := mem_listed he
     simp [go_sem, *] at hm
   clear hK K)
  refine goesI_doZ (L := LT) rfl rfl (by decide) (fineOp_ask callT extT (by kernel_rfl)) hvw hn (v' := (v.setCell ⟨ab, ii * 2, none⟩ (I e)).setCell ⟨ab, ii * 2 + 1, none⟩ (I x)) (by go_simp) rfl (fun w2 hvw2 hn2 => ?_)
  have HE : Hid (EvoP (· = ab) z S K v S K ((v.setCell ⟨ab, ii * 2, none⟩ (I e)).setCell ⟨ab, ii * 2 + 1, none⟩ (I x))) := ⟨HM.out.other hbo (fun b hb => by rw [Below.heap_setCell _ _ _ _ hb, Below.heap_setCell _ _ _ _ hb]) (by simp [World.setCell]) rfl rfl⟩
  have e0 : ((v.setCell ⟨ab, ii * 2, none⟩ (I e)).setCell ⟨ab, ii * 2 + 1, none⟩ (I x)).cell? ⟨ab, ii * 2, none⟩ = some (I e) := by
    rw [World.cell?_setCell_other _ _ _ _ (by simp)]
    exact World.cell?_setCell_same _ _ _ (by rw [a0])
  have hs2 : ab < ((v.setCell ⟨ab, ii * 2, none⟩ (I e)).setCell ⟨ab, ii * 2 + 1, none⟩ (I x)).heap.size := by simpa [World.setCell] using hlt
  generalize ((v.setCell ⟨ab, ii * 2, none⟩ (I e)).setCell ⟨ab, ii * 2 + 1, none⟩ (I x)) = V at hvw2 hn2 HE e0 hs2 hk
  have q0 : w2.cell? ⟨ab, ii * 2, none⟩ = some (I e) := by rw [hvw2.cell?]; exact e0
  clear a0 a1 f0 f1 hvw
  refine goesI_regionEnd (dt_idle _ _) ?_
  refine goesI_seq (dt_idle _ _) ?_
  refine goesI_region (dt_idle _ _) ?_
  simp only [List.size_toArray, List.length_cons, List.length_nil, Nat.reduceAdd, Nat.zero_add, List.range, List.range.loop]
  iterate 7
    (refine goesI_oper rfl rfl (by decide) (fun d K hK => ?_)
     go_simp
     refine hK _ _ ⟨dt_reads (fun e he => ?_), GoesI.at ?_ d⟩
     · have hm := mem_listed he
       simp [go_sem, *] at hm
       try exact ⟨_, _, hm⟩
       try (rcases hm with rfl | rfl | rfl | rfl <;> exact ⟨_, _, rfl⟩)
     clear hK K)
  refine goesI_call (f := 106) (fn := Try.f106) (args := #[Pt t.tb 0, I 10, I ii, I e]) hE fineT rfl rfl (by decide) rfl (by simp [Act.eval]) Try.func106 (by kernel_rfl) rfl (fineFn_body fineT (by simp [LT, plainFs]) Try.func106 rfl) (fun tmps => ⟨_, fun w => results_none rfl _ _ _, fun w => by simp [results, go_sem]⟩) hvw2 hn2
    (R := fun r v4 => r = .tuple #[] ∧ ∃ tv, Ev z S V (noted S tv i 10 (-1) ii e) v4) (fun τ => ?_) (fun r v4 w4 hR hvw4 hn4 => ?_)
  · exact wp_mono (body43 (v := onTape V τ 0) (HE.out.mem.rep.same rfl) ht 10 ii e hl _ rfl) (bp_mono fun r x hq => ⟨hq.1, hq.2.choose, hq.2.choose_spec.base rfl rfl rfl⟩)
  obtain ⟨rfl, tv, hev⟩ := hR
  have HE4 : Hid (EvoP (· = ab) z S K v (noted S tv i 10 (-1) ii e) K v4) := ⟨HE.out.trans (Evo.of_ev HE.out.mem hev rfl).toP⟩
  have hsame : v4.heap[ab]? = V.heap[ab]? := hev.fr.block ab hs2 (fun hI => hbo (.inl hI))
  have k0 : w4.cell? ⟨ab, ii * 2, none⟩ = some (I e) := by
    rw [hvw4.cell?, World.cell?_of_block hsame]
    exact e0
  clear hev HE hvw2 hn2 q0 e0 hs2
  have hk := hk v4 w4 tv (fun m => match m with
    | 9 => I ii | 10 => Pt N 0 | 14 => .bool true | 15 => I ii | 16 => Pt rb (ro + ii * 4) | 17 => X | 18 => .bool false | 23 => Pt t.tb 0 | 24 => I ii | 25 => .tuple #[] | 26 => .slice (some ⟨ab, 0, none⟩) n cap2 | 27 => I ii | 28 => F | 29 => Pt t.tb 0 | 30 => X | 31 => .agg #[I e, I x] | 32 => Pt ab (ii * 2)
    | 33 => Pt t.tb 0 | 34 => I ii | 35 => .slice (some ⟨ab, 0, none⟩) n cap2 | 36 => I ii | 37 => Pt ab (ii * 2) | 38 => Pt ab (ii * 2) | 39 => I e | 40 => .tuple #[] | 41 => .slice (some ⟨ab, 0, none⟩) n cap2 | 42 => I ii | 43 => Pt ab (ii * 2) | 44 => Pt ab (ii * 2) | 45 => I e | 46 => .bool (e == 4) | 47 => I ((ii + 1 : Nat) : Int) | m => u m) hvw4 hn4 HE4.out hsame
  unfold cFr L34 Try.f85 seq2 blockC loopC at hk
  simp only [Option.getD_some, List.append_toArray, List.cons_append, List.nil_append] at hk
  rw [← HW.out] at hk
  clear HE4 hvw4 hn4
  walk_nrm
  refine goesI_regionEnd (dt_idle _ _) ?_
  refine goesI_region (dt_idle _ _) ?_
  simp only [List.size_toArray, List.length_cons, List.length_nil, Nat.reduceAdd, Nat.zero_add, List.range, List.range.loop]
  iterate 7
    (refine goesI_oper rfl rfl (by decide) (fun d K hK => ?_)
     go_simp
     refine hK _ _ ⟨dt_reads (fun e he => ?_), GoesI.at ?_ d⟩
     · have hm := mem_listed he
       simp [go_sem, *] at hm
       try exact ⟨_, _, hm⟩
       try (rcases hm with rfl | rfl | rfl | rfl <;> exact ⟨_, _, rfl⟩)
     clear hK K)
  refine goesI_regionEnd (dt_idle _ _) ?_
  refine goesI_inBlock (dt_idle _ _) ?_
  refine goesI_region (dt_idle _ _) ?_
  simp only [List.size_toArray, List.length_cons, List.length_nil, Nat.reduceAdd, Nat.zero_add, List.range, List.range.loop]
  iterate 2
    (refine goesI_oper rfl rfl (by decide) (fun d K hK => ?_)
     go_simp
     refine hK _ _ ⟨dt_reads (fun e he => ?_), GoesI.at ?_ d⟩
     · have hm := mem_listed he
       simp [go_sem, *] at hm
       try exact ⟨_, _, hm⟩
       try (rcases hm with rfl | rfl | rfl | rfl <;> exact ⟨_, _, rfl⟩)
     clear hK K)
  refine goesI_regionEnd (dt_idle _ _) ?_
  refine goesI_inLoop (dt_idle _ _) ?_
  exact hk
end Go.Proofs.Ytfjjoohflcchnaa
