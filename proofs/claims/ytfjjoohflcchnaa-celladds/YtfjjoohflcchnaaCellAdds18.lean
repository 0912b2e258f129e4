/- CellAdds returns true, whatever the schedule, the start and the numbers, and leaves what it was given as it was: of the law's statement as given, with no condition of our own. Part 18 of 34. (Joined, by program, of: Until2, None, MainN, Pure.) -/
import Derived.Test.YtfjjoohflcchnaaCellAdds11
import Derived.Test.YtfjjoohflcchnaaCellAdds12
import Derived.Test.YtfjjoohflcchnaaCellAdds14
import Derived.Test.YtfjjoohflcchnaaCellAdds15
import Derived.Test.YtfjjoohflcchnaaCellAdds16
import Derived.Test.YtfjjoohflcchnaaCellAdds17
set_option linter.unusedSimpArgs false
set_option linter.unusedVariables false
namespace Go.Proofs.Ytfjjoohflcchnaa
open Go Go.Lift Go.Conc Go.RowKit

theorem res16 (tmps : Array Value) : ∃ v, (∀ w, (results Try.f27 tmps).run Try.prog w = .ok v w) ∧ ∀ w, (results Try.f27 tmps).events Try.prog w #[] = #[] :=
  ⟨_, fun w => results_tmp rfl _ _ _, fun w => by simp [results, go_sem]⟩

/-- The frame where it was woken, or is stuck. -/
noncomputable def uWoke (cb tb : Nat) (n : Int) (cid : Int) (u : Nat → Value) (r : Value) : Frame :=
  (base 27).at ((⟨#[Pt cb 0, Pt tb 0, I n, undef, undef, undef, .bool false, u 7, u 8, u 9, u 10, u 11, u 12, u 13, u 14, u 15, u 16, u 17, u 18], []⟩ : Act).put (some 17) r) [.inRegion ops162 [6], .code (seq2 (blockC (seq2 L16))), .inBlock 1, .inLoop L16, .inBlock 0, .code T16]

set_option maxHeartbeats 1000000 in
set_option maxRecDepth 100000 in
/-- Something else stands there: it answers true. -/
theorem until_diff {z : Nat → Option Nat} {Ch : Nat → Prop} {Stop : Goroutine → World → Prop} {main : Bool} {v w : World} {cb tb : Nat} (n x : Int) (hx : x ≠ n) (u : Nat → Value) (cs : List Frame) {bc : Frame} {ac : Act} {ops : Array Oper} {q : Nat} {rest : List Nat} {oc : Oper} {k : List Item} (hoc : ops[q]? = some oc)
    (hvw : Rel z v w) (hn : NoRow Ch v)
    (hk : ∀ v' w', Rel z v' w' → NoRow Ch v' → v'.heap = v.heap → v'.os = v.os → v'.output = v.output → GoesI Try.prog main (DT (ScZ z) Ch) Stop (G (bc.at (ac.put oc.dst (.bool true)) (.inRegion ops rest :: k)) cs) w') :
    GoesI Try.prog main (DT (ScZ z) Ch) Stop (G (uSeen cb tb n u (I x)) (bc.at ac (.inRegion ops (q :: rest) :: k) :: cs)) w := by
  unfold uSeen ops161 L16 T16 Try.f27 seq2 seq1 blockC loopC opsOf
  simp only [Option.getD_some]
  walk_nrm
  (refine goesI_oper rfl rfl (by decide) (fun d K hK => ?_)
   go_simp
   refine hK _ _ ⟨dt_reads (fun e he => ?_), GoesI.at ?_ d⟩
   · have hm := mem_listed he
     simp [go_sem, *] at hm
   clear hK K)
  (refine goesI_oper rfl rfl (by decide) (fun d K hK => ?_)
   go_simp
   refine hK _ _ ⟨dt_reads (fun e he => ?_), GoesI.at ?_ d⟩
   · have hm := mem_listed he
     simp [go_sem, *] at hm
   clear hK K)
  refine goesI_regionEnd (dt_idle _ _) ?_
  refine goesI_cond (dt_idle _ _) (t := false) (by simp [Act.eval, hx]) ?_
  simp only [if_true, if_false, Bool.false_eq_true]
  refine goesI_exit (dt_idle _ _) rfl ?_
  refine goesI_rest (f := 27) (fn := Try.f27) (c := T16) hE fineT hvw hn Try.func27 fineT16 rfl hoc res16 (fun τ => ?_) (fun r v' w' hR hr' hn' => ?_) (R := fun r w' => r = .bool true ∧ w'.heap = v.heap ∧ w'.os = v.os ∧ w'.output = v.output)
  · show Code.wp Try.prog (seq2 (seq2 (Try.f27.body.getD .skip))) _ _ _
    unfold Try.f27 seq2
    simp only [Option.getD_some]
    go_wp2_with fail
    go_ret
    exact ⟨_, rfl, rfl, rfl, rfl, rfl⟩
  · obtain ⟨rfl, h1, h2, h3⟩ := hR
    exact hk v' w' hr' hn' h1 h2 h3
/-- What it holds there. -/
def uVal (cb tb : Nat) (n : Int) (j : Nat) (u : Nat → Value) : Nat → Value
  | 7 => Pt cb 0
  | 8 => Pt tb 0
  | 9 => I n
  | 10 => I n
  | 11 => .bool true
  | 12 => Pt tb 0
  | 13 => Pt cb 0
  | 14 => Pt cb 0
  | 15 => Pt cb 0
  | 16 => I j
  | k => u k

set_option maxHeartbeats 1000000 in
set_option maxRecDepth 100000 in
/-- The number still stands there: it awaits a change. -/
theorem until_same {z : Nat → Option Nat} {Ch : Nat → Prop} {Stop : Goroutine → World → Prop} {h : Nat} {cont : Addr → Value} {S : TS} {K : List (Nat × Int)} {v w : World} {i j cb : Nat} {t : Thr} (n x : Int) (u : Nat → Value) (cs : List Frame) (Hm : Goroutine → Prop)
    (hH : ∀ g, WakeBack (h == 0) i t.tb j (fun r => G (uWoke cb t.tb n j (uVal cb t.tb n j u) r) cs) g → Hm g)
    (hvw : Rel z v w) (hn : NoRow Ch v) (hm : Mem z S K v) (hs : S.stk = false) (ht : S.thr[i]? = some t) (hK : K[j]? = some (cb, x)) (hz : z t.tb = some 2) (hcont : cont ⟨t.tb, 2, none⟩ = .chan (some t.gc))
    (hstop : ∀ g w', GiveT z cont h S.bk t.gc Hm (Then z Ch S K v (waiting S i t 2 6 j) K) g w' → Stop g w') :
    GoesI Try.prog (h == 0) (DT (ScZ z) Ch) Stop (G (uSeen cb t.tb n u (I n)) cs) w := by
  have e0 : w.cell? ⟨cb, 0, none⟩ = some (I j) := by rw [hvw.cell?]; exact (hm.cells hK).1
  have HM : Hid (Mem z S K v) := ⟨hm⟩
  clear hm
  unfold uSeen ops161 L16 T16 Try.f27 seq2 seq1 blockC loopC opsOf
  simp only [Option.getD_some]
  walk_nrm
  (refine goesI_oper rfl rfl (by decide) (fun d K hK => ?_)
   go_simp
   refine hK _ _ ⟨dt_reads (fun e he => ?_), GoesI.at ?_ d⟩
   · have hm := mem_listed he
     simp [go_sem, *] at hm
   clear hK K)
  (refine goesI_oper rfl rfl (by decide) (fun d K hK => ?_)
   go_simp
   refine hK _ _ ⟨dt_reads (fun e he => ?_), GoesI.at ?_ d⟩
   · have hm := mem_listed he
     simp [go_sem, *] at hm
   clear hK K)
  refine goesI_regionEnd (dt_idle _ _) ?_
  refine goesI_cond (dt_idle _ _) (t := true) (by simp [Act.eval]) ?_
  simp only [if_true, if_false, Bool.false_eq_true]
  refine goesI_skip (dt_idle _ _) ?_
  refine goesI_block (dt_idle _ _) ?_
  refine goesI_seq (dt_idle _ _) ?_
  refine goesI_region (dt_idle _ _) ?_
  simp only [List.size_toArray, List.length_cons, List.length_nil, Nat.reduceAdd, Nat.zero_add, List.range, List.range.loop]
  iterate 5
    (refine goesI_oper rfl rfl (by decide) (fun d K hK => ?_)
     go_simp
     refine hK _ _ ⟨dt_reads (fun e he => ?_), GoesI.at ?_ d⟩
     · have hm := mem_listed he
       simp [go_sem, *] at hm
       try exact ⟨_, _, hm⟩
     clear hK K)
  refine goesI_into (f := 65) (fn := Try.f65) (args := #[Pt t.tb 0, I j]) (dt_idle _ _) rfl rfl (by decide) rfl (by simp [Act.eval]) Try.func65 (by decide) rfl ?_
  exact await_goes j _ Hm rfl (fun g hg => hH g hg) hvw hn HM.out hs ht hz hcont hstop _ rfl

set_option maxHeartbeats 1000000 in
set_option maxRecDepth 100000 in
/-- The number still stands there, and the world is stuck. -/
theorem until_stuck {z : Nat → Option Nat} {Ch : Nat → Prop} {Stop : Goroutine → World → Prop} {main : Bool} {S : TS} {K : List (Nat × Int)} {v w : World} {i j cb : Nat} {t : Thr} (n x : Int) (u : Nat → Value) (cs : List Frame)
    (hvw : Rel z v w) (hn : NoRow Ch v) (hm : Mem z S K v) (hs : S.stk = true) (ht : S.thr[i]? = some t) (hK : K[j]? = some (cb, x))
    (hk : ∀ v' w', Rel z v' w' → NoRow Ch v' → Evo z S K v S K v' → GoesI Try.prog main (DT (ScZ z) Ch) Stop (G (uWoke cb t.tb n j (uVal cb t.tb n j u) (.bool false)) cs) w') :
    GoesI Try.prog main (DT (ScZ z) Ch) Stop (G (uSeen cb t.tb n u (I n)) cs) w := by
  have e0 : w.cell? ⟨cb, 0, none⟩ = some (I j) := by rw [hvw.cell?]; exact (hm.cells hK).1
  have HM : Hid (Mem z S K v) := ⟨hm⟩
  clear hm
  unfold uSeen ops161 L16 T16 Try.f27 seq2 seq1 blockC loopC opsOf
  simp only [Option.getD_some]
  walk_nrm
  (refine goesI_oper rfl rfl (by decide) (fun d K hK => ?_)
   go_simp
   refine hK _ _ ⟨dt_reads (fun e he => ?_), GoesI.at ?_ d⟩
   · have hm := mem_listed he
     simp [go_sem, *] at hm
   clear hK K)
  (refine goesI_oper rfl rfl (by decide) (fun d K hK => ?_)
   go_simp
   refine hK _ _ ⟨dt_reads (fun e he => ?_), GoesI.at ?_ d⟩
   · have hm := mem_listed he
     simp [go_sem, *] at hm
   clear hK K)
  refine goesI_regionEnd (dt_idle _ _) ?_
  refine goesI_cond (dt_idle _ _) (t := true) (by simp [Act.eval]) ?_
  simp only [if_true, if_false, Bool.false_eq_true]
  refine goesI_skip (dt_idle _ _) ?_
  refine goesI_block (dt_idle _ _) ?_
  refine goesI_seq (dt_idle _ _) ?_
  refine goesI_region (dt_idle _ _) ?_
  simp only [List.size_toArray, List.length_cons, List.length_nil, Nat.reduceAdd, Nat.zero_add, List.range, List.range.loop]
  iterate 5
    (refine goesI_oper rfl rfl (by decide) (fun d K hK => ?_)
     go_simp
     refine hK _ _ ⟨dt_reads (fun e he => ?_), GoesI.at ?_ d⟩
     · have hm := mem_listed he
       simp [go_sem, *] at hm
       try exact ⟨_, _, hm⟩
     clear hK K)
  refine goesI_into (f := 65) (fn := Try.f65) (args := #[Pt t.tb 0, I j]) (dt_idle _ _) rfl rfl (by decide) rfl (by simp [Act.eval]) Try.func65 (by decide) rfl ?_
  exact await_no j _ rfl hvw hn HM.out hs ht (fun v' w' h1 h2 h3 => hk v' w' h1 h2 h3) _ rfl

set_option maxHeartbeats 1000000 in
set_option maxRecDepth 100000 in
/-- Woken, it looks again. -/
theorem until_again {z : Nat → Option Nat} {Ch : Nat → Prop} {Stop : Goroutine → World → Prop} {main : Bool} {w : World} {cb tb : Nat} (n cid : Int) (u : Nat → Value) (cs : List Frame)
    (hk : ∀ u, GoesI Try.prog main (DT (ScZ z) Ch) Stop (G (uFr cb tb n u) cs) w) :
    GoesI Try.prog main (DT (ScZ z) Ch) Stop (G (uWoke cb tb n cid u (.bool true)) cs) w := by
  unfold uFr L16 T16 Try.f27 seq2 seq1 blockC loopC at hk
  simp only [Option.getD_some] at hk
  unfold uWoke ops162 L16 T16 Try.f27 seq2 seq1 blockC loopC opsOf
  simp only [Option.getD_some]
  walk_nrm
  (refine goesI_oper rfl rfl (by decide) (fun d K hK => ?_)
   go_simp
   refine hK _ _ ⟨dt_reads (fun e he => ?_), GoesI.at ?_ d⟩
   · have hm := mem_listed he
     simp [go_sem, *] at hm
   clear hK K)
  refine goesI_regionEnd (dt_idle _ _) ?_
  refine goesI_cond (dt_idle _ _) (t := false) rfl ?_
  simp only [if_true, if_false, Bool.false_eq_true]
  refine goesI_skip (dt_idle _ _) ?_
  refine goesI_inBlock (dt_idle _ _) ?_
  refine goesI_inLoop (dt_idle _ _) ?_
  exact hk (fun m => match m with | 17 => .bool true | 18 => .bool false | m => u m)

noncomputable def no16 : Code := condA (seq2 (blockC (seq2 L16)))
theorem fineNo16 : fineCode Try.prog true LT no16 := fineCode_ask callT extT (by kernel_rfl)
set_option maxHeartbeats 1000000 in
set_option maxRecDepth 100000 in
/-- Stuck, it answers false. -/
theorem until_no {z : Nat → Option Nat} {Ch : Nat → Prop} {Stop : Goroutine → World → Prop} {main : Bool} {v w : World} {cb tb : Nat} (n cid : Int) (u : Nat → Value) (cs : List Frame) {bc : Frame} {ac : Act} {ops : Array Oper} {q : Nat} {rest : List Nat} {oc : Oper} {k : List Item} (hoc : ops[q]? = some oc)
    (hvw : Rel z v w) (hn : NoRow Ch v)
    (hk : ∀ v' w', Rel z v' w' → NoRow Ch v' → v'.heap = v.heap → v'.os = v.os → v'.output = v.output → GoesI Try.prog main (DT (ScZ z) Ch) Stop (G (bc.at (ac.put oc.dst (.bool false)) (.inRegion ops rest :: k)) cs) w') :
    GoesI Try.prog main (DT (ScZ z) Ch) Stop (G (uWoke cb tb n cid u (.bool false)) (bc.at ac (.inRegion ops (q :: rest) :: k) :: cs)) w := by
  unfold uWoke ops162 L16 T16 Try.f27 seq2 seq1 blockC loopC opsOf
  simp only [Option.getD_some]
  walk_nrm
  (refine goesI_oper rfl rfl (by decide) (fun d K hK => ?_)
   go_simp
   refine hK _ _ ⟨dt_reads (fun e he => ?_), GoesI.at ?_ d⟩
   · have hm := mem_listed he
     simp [go_sem, *] at hm
   clear hK K)
  refine goesI_regionEnd (dt_idle _ _) ?_
  refine goesI_cond (dt_idle _ _) (t := true) rfl ?_
  simp only [if_true, if_false, Bool.false_eq_true]
  refine goesI_outZ (c := no16) (f := 27) (fn := Try.f27) (L := LT) hE fineT hvw hn Try.func27 fineNo16 rfl hoc (R := fun r w' => r = .bool false ∧ w'.heap = v.heap ∧ w'.os = v.os ∧ w'.output = v.output) (fun τ => ?_) (fun r v' w' hR hr' hn' => ?_)
  · show Code.wp Try.prog (condA (seq2 (blockC (seq2 (loopC (blockC (seq1 (seq2 (Try.f27.body.getD .skip))))))))) _ _ _
    unfold Try.f27 condA seq2 seq1 blockC loopC
    simp only [Option.getD_some]
    go_wp2_with fail
    exact ⟨_, results_tmp rfl _ _ _, rfl, rfl, rfl, rfl⟩
  · obtain ⟨rfl, h1, h2, h3⟩ := hR
    exact hk v' w' hr' hn' h1 h2 h3
end Go.Proofs.Ytfjjoohflcchnaa

namespace Go.Proofs.Ytfjjoohflcchnaa
open Go Go.Lift Go.Conc Go.RowKit

/-- The trace has grown. -/
theorem noted_ev {z : Nat → Option Nat} {S : TS} {v v' : World} {news : List Value} (h : Rep z S v) (hN : Noted S.wb S.tv S.n S.base S.tr news v v') : ∃ tv', Ev z S v { S with tv := tv', n := S.n + 1, tr := S.tr ++ news } v' := by
  obtain ⟨g, cap, hw, hown, hat, hfr⟩ := hN
  have hst : ∀ k b, blk S k = some b → k ≠ 0 → k ≠ 3 → v'.heap[b]? = v.heap[b]? := fun k b hk h0 h3 => hfr.block b (h.lt hk) (fun hS => by
    rcases hS with rfl | hS
    · exact h0 (h.apart k 0 _ hk rfl)
    · exact h3 (h.apart k 3 b hk hS.symm))
  have hnew : ∀ k b, blk { S with tv := .slice (some ⟨g, 0, none⟩) (S.n + 1) cap, n := S.n + 1, tr := S.tr ++ news } k = some b → (blk S k = some b) ∨ (k = 3 ∧ b = g) := fun k b hk => by
    match k, hk with
    | 0, hk => exact .inl hk
    | 1, hk => exact .inl hk
    | 2, hk => exact .inl hk
    | 3, hk => cases hk; exact .inr ⟨rfl, rfl⟩
    | 4, hk => exact .inl hk
    | k + 5, hk => exact .inl hk
  refine ⟨.slice (some ⟨g, 0, none⟩) (S.n + 1) cap, ⟨?_, fun j t' ht' => ?_, hown, ?_, ?_, ?_, Nat.le_trans h.bs hfr.size, fun j k b hj hk => ?_, h.kept⟩, hfr.mono (fun x _ hx => ?_), fun b ⟨k, hk⟩ => ?_⟩
  · have := hw _ _ _ h.wor
    simpa using this
  · rw [hst (j + 5) t'.tb (by simp [blk, ht']) (by omega) (by omega)]
    exact h.thr j t' ht'
  · exact own_stay (fun b hb => hst 1 b hb (by omega) (by omega)) h.chg
  · exact own_stay (fun b hb => hst 2 b hb (by omega) (by omega)) h.ths
  · exact own_stay (fun b hb => hst 4 b hb (by omega) (by omega)) h.sch
  · rcases hnew j b hj with e1 | ⟨rfl, rfl⟩ <;> rcases hnew k b hk with e2 | ⟨rfl, e2⟩
    · exact h.apart j k b e1 e2
    · subst e2
      rcases hat with ha | ha
      · exact h.apart j 3 b e1 ha
      · have := h.lt e1; omega
    · rcases hat with ha | ha
      · exact h.apart 3 k b ha e2
      · have := h.lt e2; omega
    · rfl
  · rcases hx with rfl | hx
    · exact ⟨0, rfl⟩
    · exact ⟨3, hx.symm⟩
  · rcases hnew k b hk with e1 | ⟨_, rfl⟩
    · exact .inl ⟨k, e1⟩
    · rcases hat with ha | ha
      · exact .inl ⟨3, ha⟩
      · exact .inr ha
/-- The world is stuck, and that is noted. -/
def stuckS (S : TS) (tv : Value) : TS := { S with stk := true, tv := tv, n := S.n + 1, tr := S.tr ++ [I (-1), I (-1), I 7, I 0, I 0] }

set_option maxHeartbeats 1000000 in
theorem news5n (w : World) (a b c d e : Int) (t : TypeId) {n : Nat} (hn : n = w.heap.size) : ∀ j u, [I a, I b, I c, I d, I e][j]? = some u → (w.alloc (.cells #[I a, I b, I c, I d, I e] t)).cell? ((⟨n, 0, none⟩ : Addr).add j) = some u := by
  subst hn; exact news5 w a b c d e t

set_option maxHeartbeats 1000000 in
set_option maxRecDepth 100000 in
theorem end_wp {S : TS} {v : World} (p : Option Addr) (cap : Nat) (u6 u8 u9 u10 u11 u12 u13 u14 u15 u16 u17 u18 u19 u20 u21 u22 u23 u24 u25 u26 u27 u28 u29 u30 u31 : Value) :
    c510.wp Try.prog (fun e a w' => e = .ret ∧ ∃ x, (results Try.f113 a.tmps).run Try.prog w' = .ok x w' ∧ (x = .bool false ∧ w' = v)) { tmps := #[Pt S.wb 0, undef, .bool false, .slice p 0 cap, .bool false, undef, u6, undef, u8, u9, u10, u11, u12, u13, u14, u15, u16, u17, u18, u19, u20, u21, u22, u23, u24, u25, u26, u27, u28, u29, u30, u31] ++ Array.replicate 41 undef, defers := [] } v := by
  show Code.wp Try.prog c510 _ _ _
  unfold c510 Try.f113 seq1 seq2
  simp only [Option.getD_some, Array.replicate_succ, Array.replicate_zero, List.push_toArray, List.append_toArray, List.nil_append, List.cons_append]
  go_wp2_with fail
  exact results_tmp (t := 2) rfl _ _ _

set_option maxHeartbeats 2000000 in
set_option maxRecDepth 100000 in
theorem stuck_wp {z : Nat → Option Nat} {S : TS} {v : World} (h : Rep z S v) (hn : (S.n + 1) * 40 ≤ 140737488355328) (p : Option Addr) (cap : Nat) (u6 u8 u9 u10 u11 u12 u13 u14 u15 u16 u17 u18 u19 u20 u21 u22 u23 u24 u25 u26 u27 u28 u29 u30 u31 : Value) :
    c510.wp Try.prog (fun e a w' => e = .ret ∧ ∃ x, (results Try.f113 a.tmps).run Try.prog w' = .ok x w' ∧ (x = .bool true ∧ ∃ tv, Ev z S v (stuckS S tv) w')) { tmps := #[Pt S.wb 0, undef, .bool false, .slice p 0 cap, .bool true, undef, u6, undef, u8, u9, u10, u11, u12, u13, u14, u15, u16, u17, u18, u19, u20, u21, u22, u23, u24, u25, u26, u27, u28, u29, u30, u31] ++ Array.replicate 41 undef, defers := [] } v := by
  have c5 := h.wcell.2.2.2.2.2.1
  have c6 := h.wcell.2.2.2.2.2.2.1
  have f5 := fz_off h 5 (by omega)
  have f6 := fz_off h 6 (by omega)
  have h1 := world_set h S.us S.la true 6 (.bool true) (by simp)
  have HV : Hid (Ev z S v { S with us := S.us, la := S.la, stk := true } (v.setCell ⟨S.wb, 6, none⟩ (.bool true))) := ⟨h1⟩
  have K5 : Hid ((v.setCell ⟨S.wb, 6, none⟩ (.bool true)).cell? ⟨S.wb, 5, none⟩ = some S.tv ∧ (v.setCell ⟨S.wb, 6, none⟩ (.bool true)).frozen? ⟨S.wb, 5, none⟩ = false) := ⟨⟨h1.rep.wcell.2.2.2.2.2.1, fz_off h1.rep 5 (by omega)⟩⟩
  have n1 : S.tv.ownBlock ≠ some S.wb := fun e => by have := h.apart 3 0 S.wb e rfl; omega
  have q5 : S.wb < v.heap.size := World.block_lt_of_cell? _ _ c5
  have qb : S.base ≤ v.heap.size := h.bs
  have HO : Hid ((v.setCell ⟨S.wb, 6, none⟩ (.bool true)).ownsRow S.base 34 5 S.tv S.n S.tr) := ⟨h1.rep.own⟩
  obtain ⟨tp, tc, htv⟩ := own_form h.own
  rw [htv] at c5
  have HO' : Hid ((v.setCell ⟨S.wb, 6, none⟩ (.bool true)).ownsRow S.base 34 5 (.slice tp S.n tc) S.n S.tr) := ⟨by rw [← htv]; exact HO.out⟩
  have n1' : (Value.slice tp S.n tc).ownBlock ≠ some S.wb := by rw [← htv]; exact n1
  have HTV : Hid (S.tv = .slice tp S.n tc) := ⟨htv⟩
  clear htv
  obtain ⟨j0, hj, hj0, hj1, hj2⟩ := info_parts info34
  have hne : S.wb ≠ v.heap.size := by omega
  have hne' : v.heap.size ≠ S.wb := by omega
  clear h h1
  show Code.wp Try.prog c510 _ _ _
  unfold c510 Try.f113 seq1 seq2
  simp only [Option.getD_some, Array.replicate_succ, Array.replicate_zero, List.push_toArray, List.append_toArray, List.nil_append, List.cons_append]
  go_wp2_with (first
    | (refine wpList_append_lies _ rfl (.tmp 43) (.tmp 45) 31 rfl S.base 34 j0 _ 5 40 Try.underlying31 hj hj0 hj1 hj2 rfl (by decide) (.slice tp S.n tc) S.n S.tr rfl (own_later (below_alloc (Below.refl _ _) _) HO'.out) ⟨_, 0, none⟩ 1 1 [I (-1), I (-1), I 7, I 0, I 0] rfl rfl (news5n _ _ _ _ _ _ _ (by simp [World.setCell])) (one5 _ _ _ _ _) (by decide) (by unfold maxLen; omega) (by omega) (by simp; omega) _ rfl ?_
       intro g cpg w6 hown6 hgrow6 hat6 hlt6
       obtain ⟨_, _, k5, k6⟩ := keep4g (keep4 ⟨K5.out.1, K5.out.1, K5.out.1, K5.out.2⟩ (below_alloc (Below.refl _ _) _)) hgrow6 n1' n1' n1'))
  refine ⟨_, results_tmp (t := 2) rfl _ _ _, rfl, ?_⟩
  have hN : Noted S.wb S.tv S.n S.base S.tr [I (-1), I (-1), I 7, I 0, I 0] (v.setCell ⟨S.wb, 6, none⟩ (.bool true)) (w6.setCell ⟨S.wb, 5, none⟩ (.slice (some ⟨g, 0, none⟩) (S.n + 1) cpg)) := by
    rw [HTV.out]
    exact noted_of (below_alloc (Below.refl _ _) _) (by simpa [World.setCell] using q5) hgrow6 hown6 hat6 n1'
  obtain ⟨tv, hev⟩ := noted_ev HV.out.rep hN
  exact ⟨tv, HV.out.trans hev⟩

end Go.Proofs.Ytfjjoohflcchnaa

namespace Go.Proofs.Ytfjjoohflcchnaa
open Go Go.Lift Go.Conc Go.RowKit

set_option maxHeartbeats 2000000 in
set_option maxRecDepth 100000 in
theorem turn50_stuck {z : Nat → Option Nat} {Ch : Nat → Prop} {Stop : Goroutine → World → Prop} {S : TS} {K : List (Nat × Int)} {v w : World} (cs : List Frame) {bc : Frame} {ac : Act} {ops : Array Oper} {q : Nat} {rest : List Nat} {oc : Oper} {k : List Item} (hoc : ops[q]? = some oc)
    (hvw : Rel z v w) (hn : NoRow Ch v) (hm : Mem z S K v) (h8 : S.thr.length ≤ 8) (h0 : rdyIds S S.thr.length = []) (hw : waits2 S S.thr.length = true) (hnn : (S.n + 1) * 40 ≤ 140737488355328)
    (hk : ∀ v' w' tv, Rel z v' w' → NoRow Ch v' → Evo z S K v (stuckS S tv) K v' → GoesI Try.prog true (DT (ScZ z) Ch) Stop (G (bc.at (ac.put oc.dst (.bool true)) (.inRegion ops rest :: k)) cs) w') (code : Code) (hc : Try.f113.body = some code) :
    GoesI Try.prog true (DT (ScZ z) Ch) Stop (G ((base 113).at { tmps := #[Pt S.wb 0] ++ Array.replicate 72 undef, defers := [] } [.code code]) (bc.at ac (.inRegion ops (q :: rest) :: k) :: cs)) w := by
  have hw0 : code = .seq c500 (.seq c501 (.seq c502 (.seq scan c504))) := by
    obtain rfl := Option.some.inj hc; rfl
  subst hw0
  clear hc
  simp only [Array.replicate_succ, Array.replicate_zero, List.push_toArray, List.append_toArray, List.nil_append, List.cons_append]
  refine goesI_seq (dt_idle _ _) ?_
  refine goesI_look hE fineM hvw hn fine500 rfl (by simp [base]) (a' := { tmps := #[Pt S.wb 0, undef, .bool false] ++ Array.replicate 70 undef, defers := [] }) (fun τ => ?_) (fun w hvw => ?_)
  · show Code.wp Try.prog (c500) _ _ _
    unfold c500 Try.f113 seq1
    simp only [Option.getD_some, Array.replicate_succ, Array.replicate_zero, List.push_toArray, List.append_toArray, List.nil_append, List.cons_append]
    go_wp2_with fail
    exact ⟨rfl, rfl, rfl⟩
  simp only [Array.replicate_succ, Array.replicate_zero, List.push_toArray, List.append_toArray, List.nil_append, List.cons_append]
  refine goesI_seq (dt_idle _ _) ?_
  refine goesI_look hE fineM hvw hn fine501 rfl (by simp [base]) (a' := { tmps := #[Pt S.wb 0, undef, .bool false, .slice none 0 0] ++ Array.replicate 69 undef, defers := [] }) (fun τ => ?_) (fun w hvw => ?_)
  · show Code.wp Try.prog (c501) _ _ _
    unfold c501 Try.f113 seq1 seq2
    simp only [Option.getD_some, Array.replicate_succ, Array.replicate_zero, List.push_toArray, List.append_toArray, List.nil_append, List.cons_append]
    go_wp2_with fail
    exact ⟨rfl, rfl, rfl⟩
  simp only [Array.replicate_succ, Array.replicate_zero, List.push_toArray, List.append_toArray, List.nil_append, List.cons_append]
  refine goesI_seq (dt_idle _ _) ?_
  refine goesI_look hE fineM hvw hn fine502 rfl (by simp [base]) (a' := { tmps := #[Pt S.wb 0, undef, .bool false, .slice none 0 0, .bool false] ++ Array.replicate 68 undef, defers := [] }) (fun τ => ?_) (fun w hvw => ?_)
  · show Code.wp Try.prog (c502) _ _ _
    unfold c502 Try.f113 seq1 seq2
    simp only [Option.getD_some, Array.replicate_succ, Array.replicate_zero, List.push_toArray, List.append_toArray, List.nil_append, List.cons_append]
    go_wp2_with fail
    exact ⟨rfl, rfl, rfl⟩
  simp only [Array.replicate_succ, Array.replicate_zero, List.push_toArray, List.append_toArray, List.nil_append, List.cons_append]
  refine goesI_seq (dt_idle _ _) ?_
  have hscan : ∀ τ, scan.wp Try.prog (fun e a w' => e = .normal ∧ ScanQ S v a w') { tmps := #[Pt S.wb 0, undef, .bool false, .slice none 0 0, .bool false] ++ Array.replicate 68 undef, defers := [] } (onTape v τ 0) := fun τ => scan_wp (hm.rep.same (v' := onTape v τ 0) rfl) h8
  simp only [Array.replicate_succ, Array.replicate_zero, List.push_toArray, List.append_toArray, List.nil_append, List.cons_append] at hscan
  refine goesI_plain (c := scan) (z := z) (wr := true) (L := LM) (I := NoRow Ch) hE fineM noRow_keeps (fun v v' w w' es hi hr ho he => dt_of_z v v' w w' es hi hr ho he) hvw fineScan rfl (by simp [base]) hn hscan ?_
  rintro a' v1 w1 ⟨⟨lv, ⟨u6, u8, u9, u10, u11, u12, u13, u14, u15, u16, u17, u18, u19, u20, u21, u22, u23, u24, u25, u26, u27, u28, u29, u30, u31, rfl⟩, hown⟩, hsz, hbl, hos, hou⟩ hr1 hn1 -
  have hg : Grows v v1 := ⟨hsz, hbl, hos, hou⟩
  have he1 := hm.grows hg
  obtain ⟨p, cap, rfl⟩ := own_form hown
  have hc504 : c504 = .seq c510 (.seq pick15 (.seq last16 (.seq state17 c518))) := rfl
  rw [hc504]
  clear hscan
  rw [h0, hw]
  simp only [List.length_nil]
  refine goesI_seq (dt_idle _ _) ?_
  have hst := fun τ => stuck_wp (he1.mem.rep.same (v' := onTape v1 τ 0) rfl) hnn p cap u6 u8 u9 u10 u11 u12 u13 u14 u15 u16 u17 u18 u19 u20 u21 u22 u23 u24 u25 u26 u27 u28 u29 u30 u31
  refine goesI_outZ (f := 113) (fn := Try.f113) (c := c510) hE fineM hr1 hn1 Try.func113 fine510 rfl hoc (R := fun x w' => x = .bool true ∧ ∃ tv, Ev z S v1 (stuckS S tv) w') (fun τ => wp_mono (hst τ) (fun e a w' hq => by obtain ⟨h1, x, h2, h3, tv, h4⟩ := hq; exact ⟨h1, x, h2, h3, tv, h4.base rfl rfl rfl⟩)) ?_
  rintro x v2 w2 ⟨rfl, tv, hev⟩ hr2 hn2
  exact hk v2 w2 tv hr2 hn2 (he1.trans (Evo.of_ev he1.mem hev rfl))

set_option maxHeartbeats 2000000 in
set_option maxRecDepth 100000 in
theorem turn50_end {z : Nat → Option Nat} {Ch : Nat → Prop} {Stop : Goroutine → World → Prop} {S : TS} {K : List (Nat × Int)} {v w : World} (cs : List Frame) {bc : Frame} {ac : Act} {ops : Array Oper} {q : Nat} {rest : List Nat} {oc : Oper} {k : List Item} (hoc : ops[q]? = some oc)
    (hvw : Rel z v w) (hn : NoRow Ch v) (hm : Mem z S K v) (h8 : S.thr.length ≤ 8) (h0 : rdyIds S S.thr.length = []) (hw : waits2 S S.thr.length = false)
    (hk : ∀ v' w', Rel z v' w' → NoRow Ch v' → Evo z S K v S K v' → GoesI Try.prog true (DT (ScZ z) Ch) Stop (G (bc.at (ac.put oc.dst (.bool false)) (.inRegion ops rest :: k)) cs) w') (code : Code) (hc : Try.f113.body = some code) :
    GoesI Try.prog true (DT (ScZ z) Ch) Stop (G ((base 113).at { tmps := #[Pt S.wb 0] ++ Array.replicate 72 undef, defers := [] } [.code code]) (bc.at ac (.inRegion ops (q :: rest) :: k) :: cs)) w := by
  have hw0 : code = .seq c500 (.seq c501 (.seq c502 (.seq scan c504))) := by
    obtain rfl := Option.some.inj hc; rfl
  subst hw0
  clear hc
  simp only [Array.replicate_succ, Array.replicate_zero, List.push_toArray, List.append_toArray, List.nil_append, List.cons_append]
  refine goesI_seq (dt_idle _ _) ?_
  refine goesI_look hE fineM hvw hn fine500 rfl (by simp [base]) (a' := { tmps := #[Pt S.wb 0, undef, .bool false] ++ Array.replicate 70 undef, defers := [] }) (fun τ => ?_) (fun w hvw => ?_)
  · show Code.wp Try.prog (c500) _ _ _
    unfold c500 Try.f113 seq1
    simp only [Option.getD_some, Array.replicate_succ, Array.replicate_zero, List.push_toArray, List.append_toArray, List.nil_append, List.cons_append]
    go_wp2_with fail
    exact ⟨rfl, rfl, rfl⟩
  simp only [Array.replicate_succ, Array.replicate_zero, List.push_toArray, List.append_toArray, List.nil_append, List.cons_append]
  refine goesI_seq (dt_idle _ _) ?_
  refine goesI_look hE fineM hvw hn fine501 rfl (by simp [base]) (a' := { tmps := #[Pt S.wb 0, undef, .bool false, .slice none 0 0] ++ Array.replicate 69 undef, defers := [] }) (fun τ => ?_) (fun w hvw => ?_)
  · show Code.wp Try.prog (c501) _ _ _
    unfold c501 Try.f113 seq1 seq2
    simp only [Option.getD_some, Array.replicate_succ, Array.replicate_zero, List.push_toArray, List.append_toArray, List.nil_append, List.cons_append]
    go_wp2_with fail
    exact ⟨rfl, rfl, rfl⟩
  simp only [Array.replicate_succ, Array.replicate_zero, List.push_toArray, List.append_toArray, List.nil_append, List.cons_append]
  refine goesI_seq (dt_idle _ _) ?_
  refine goesI_look hE fineM hvw hn fine502 rfl (by simp [base]) (a' := { tmps := #[Pt S.wb 0, undef, .bool false, .slice none 0 0, .bool false] ++ Array.replicate 68 undef, defers := [] }) (fun τ => ?_) (fun w hvw => ?_)
  · show Code.wp Try.prog (c502) _ _ _
    unfold c502 Try.f113 seq1 seq2
    simp only [Option.getD_some, Array.replicate_succ, Array.replicate_zero, List.push_toArray, List.append_toArray, List.nil_append, List.cons_append]
    go_wp2_with fail
    exact ⟨rfl, rfl, rfl⟩
  simp only [Array.replicate_succ, Array.replicate_zero, List.push_toArray, List.append_toArray, List.nil_append, List.cons_append]
  refine goesI_seq (dt_idle _ _) ?_
  have hscan : ∀ τ, scan.wp Try.prog (fun e a w' => e = .normal ∧ ScanQ S v a w') { tmps := #[Pt S.wb 0, undef, .bool false, .slice none 0 0, .bool false] ++ Array.replicate 68 undef, defers := [] } (onTape v τ 0) := fun τ => scan_wp (hm.rep.same (v' := onTape v τ 0) rfl) h8
  simp only [Array.replicate_succ, Array.replicate_zero, List.push_toArray, List.append_toArray, List.nil_append, List.cons_append] at hscan
  refine goesI_plain (c := scan) (z := z) (wr := true) (L := LM) (I := NoRow Ch) hE fineM noRow_keeps (fun v v' w w' es hi hr ho he => dt_of_z v v' w w' es hi hr ho he) hvw fineScan rfl (by simp [base]) hn hscan ?_
  rintro a' v1 w1 ⟨⟨lv, ⟨u6, u8, u9, u10, u11, u12, u13, u14, u15, u16, u17, u18, u19, u20, u21, u22, u23, u24, u25, u26, u27, u28, u29, u30, u31, rfl⟩, hown⟩, hsz, hbl, hos, hou⟩ hr1 hn1 -
  have hg : Grows v v1 := ⟨hsz, hbl, hos, hou⟩
  have he1 := hm.grows hg
  obtain ⟨p, cap, rfl⟩ := own_form hown
  have hc504 : c504 = .seq c510 (.seq pick15 (.seq last16 (.seq state17 c518))) := rfl
  rw [hc504]
  clear hscan
  rw [h0, hw]
  simp only [List.length_nil]
  refine goesI_seq (dt_idle _ _) ?_
  have hst := fun τ => end_wp (S := S) (v := onTape v1 τ 0) p cap u6 u8 u9 u10 u11 u12 u13 u14 u15 u16 u17 u18 u19 u20 u21 u22 u23 u24 u25 u26 u27 u28 u29 u30 u31
  refine goesI_outZ (f := 113) (fn := Try.f113) (c := c510) hE fineM hr1 hn1 Try.func113 fine510 rfl hoc (R := fun x w' => x = .bool false ∧ w'.heap = v1.heap ∧ w'.os = v1.os ∧ w'.output = v1.output) (fun τ => wp_mono (hst τ) (fun e a w' hq => by obtain ⟨h1, x, h2, h3, h4⟩ := hq; subst h4; exact ⟨h1, x, h2, h3, rfl, rfl, rfl⟩)) ?_
  rintro x v2 w2 ⟨rfl, q1, q2, q3⟩ hr2 hn2
  exact hk v2 w2 hr2 hn2 (he1.same q1 q2 q3)
end Go.Proofs.Ytfjjoohflcchnaa

namespace Go.Proofs.Ytfjjoohflcchnaa
open Go Go.Lift Go.Conc Go.RowKit

/-- A call of a script. -/
structure Cl where
  po : Int
  ca : Int
  cb : Int
  cc : Int
/-- Where a thread sits: at the turn of call ii, at its Await, or nowhere any more; 'rest' begins with that call. -/
inductive Ph where
  | turn (rest : List Cl) (ii : Nat) (ans : List (Int × Int))
  | wait (rest : List Cl) (ii : Nat) (ans : List (Int × Int))
  | done (ans : List (Int × Int))
def Ph.ans : Ph → List (Int × Int)
  | .turn _ _ a => a
  | .wait _ _ a => a
  | .done a => a

/-- The state without the place of its trace. -/
def nv (S : TS) : TS := { S with tv := undef }
def thrI (S : TS) (i : Nat) : Thr := (S.thr[i]?).getD ⟨0, 0, 0, 0, 0, 0⟩
def opn (po : Int) : Int := if po = 6 then 1 else po
def effC (c : Cl) (x : Int) : (Int × Int) × Int × Value :=
  if c.po = 2 then effStore c.cb x else if c.po = 3 then effSwap c.cb x else if c.po = 4 then effCas c.cb c.cc x else if c.po = 5 then effAdd c.cb x else effLoad x
/-- What a call answers that found x. -/
def ansC (c : Cl) (x : Int) : Int × Int :=
  if c.po = 2 then (0, 0) else if c.po = 3 then (0, x) else if c.po = 4 then (0, if x = c.cb then 1 else 0) else if c.po = 5 then (0, wrap64 (x + c.cb)) else if c.po = 6 then (0, 0) else (0, x)

/-- From the loop's head to the next seat. -/
def flow (i nk : Nat) : List Cl → Nat → Bool → List (Int × Int) → TS → TS × Ph
  | [], _, _, ans, S => (ended S i (thrI S i), .done ans)
  | _ :: rest, ii, true, ans, S => flow i nk rest (ii + 1) true (ans.set ii (4, 0)) S
  | c :: rest, ii, false, ans, S =>
    if 1 ≤ c.po ∧ c.po ≤ 6 then (waiting (noted S undef i 9 (-1) ii 0) i (thrI S i) 1 (opn c.po) (which c.ca nk), .turn (c :: rest) ii ans)
    else flow i nk rest (ii + 1) false (ans.set ii (1, 0)) (noted (noted S undef i 9 (-1) ii 0) undef i 10 (-1) ii 1)
/-- A call has its answer. -/
def back (i nk : Nat) (rest : List Cl) (ii : Nat) (ans : List (Int × Int)) (e x : Int) (S : TS) (K : List (Nat × Int)) : TS × List (Nat × Int) × Ph :=
  ((flow i nk rest (ii + 1) (e == 4) (ans.set ii (e, x)) (noted S undef i 10 (-1) ii e)).1, K, (flow i nk rest (ii + 1) (e == 4) (ans.set ii (e, x)) (noted S undef i 10 (-1) ii e)).2)
def cellAt (K : List (Nat × Int)) (j : Nat) : Nat × Int := (K[j]?).getD (0, 0)
/-- From a seat to the next one. -/
def resume (i nk : Nat) : Ph → TS → List (Nat × Int) → TS × List (Nat × Int) × Ph
  | .turn (c :: rest) ii ans, S, K =>
    if c.po = 6 ∧ (cellAt K (which c.ca nk)).2 = c.cb then
      if S.stk then back i nk rest ii ans 4 0 (didS S undef i (thrI S i) c.cb c.cb) K
      else (waiting (didS S undef i (thrI S i) c.cb c.cb) i (thrI S i) 2 6 (which c.ca nk), K, .wait (c :: rest) ii ans)
    else back i nk rest ii ans (ansC c (cellAt K (which c.ca nk)).2).1 (ansC c (cellAt K (which c.ca nk)).2).2
      (didS S undef i (thrI S i) (effC c (cellAt K (which c.ca nk)).2).1.1 (effC c (cellAt K (which c.ca nk)).2).1.2) (K.set (which c.ca nk) ((cellAt K (which c.ca nk)).1, (effC c (cellAt K (which c.ca nk)).2).2.1))
  | .wait (c :: rest) ii ans, S, K =>
    if S.stk then back i nk rest ii ans 4 0 S K
    else (waiting (noted S undef i 6 (which c.ca nk) 0 0) i (thrI S i) 1 1 (which c.ca nk), K, .turn (c :: rest) ii ans)
  | p, S, K => (S, K, p)

theorem flow_cons (i nk : Nat) (c : Cl) (rest : List Cl) (ii : Nat) (ans : List (Int × Int)) (S : TS) : flow i nk (c :: rest) ii false ans S =
    if 1 ≤ c.po ∧ c.po ≤ 6 then (waiting (noted S undef i 9 (-1) ii 0) i (thrI S i) 1 (opn c.po) (which c.ca nk), .turn (c :: rest) ii ans)
    else flow i nk rest (ii + 1) false (ans.set ii (1, 0)) (noted (noted S undef i 9 (-1) ii 0) undef i 10 (-1) ii 1) := rfl
theorem resume_turn (i nk : Nat) (c : Cl) (rest : List Cl) (ii : Nat) (ans : List (Int × Int)) (S : TS) (K : List (Nat × Int)) : resume i nk (.turn (c :: rest) ii ans) S K =
    if c.po = 6 ∧ (cellAt K (which c.ca nk)).2 = c.cb then
      if S.stk then back i nk rest ii ans 4 0 (didS S undef i (thrI S i) c.cb c.cb) K
      else (waiting (didS S undef i (thrI S i) c.cb c.cb) i (thrI S i) 2 6 (which c.ca nk), K, .wait (c :: rest) ii ans)
    else back i nk rest ii ans (ansC c (cellAt K (which c.ca nk)).2).1 (ansC c (cellAt K (which c.ca nk)).2).2
      (didS S undef i (thrI S i) (effC c (cellAt K (which c.ca nk)).2).1.1 (effC c (cellAt K (which c.ca nk)).2).1.2) (K.set (which c.ca nk) ((cellAt K (which c.ca nk)).1, (effC c (cellAt K (which c.ca nk)).2).2.1)) := rfl
theorem resume_wait (i nk : Nat) (c : Cl) (rest : List Cl) (ii : Nat) (ans : List (Int × Int)) (S : TS) (K : List (Nat × Int)) : resume i nk (.wait (c :: rest) ii ans) S K =
    if S.stk then back i nk rest ii ans 4 0 S K
    else (waiting (noted S undef i 6 (which c.ca nk) 0 0) i (thrI S i) 1 1 (which c.ca nk), K, .turn (c :: rest) ii ans) := rfl

section
variable {S : TS} {i nk : Nat}
theorem thrI_of {t : Thr} (h : S.thr[i]? = some t) : thrI S i = t := by unfold thrI; rw [h]; rfl
theorem nv_did (tv : Value) (t : Thr) (b a : Int) : nv (didS S tv i t b a) = didS (nv S) undef i t b a := by
  show nv (if b ≠ a ∧ 0 ≤ t.ce ∧ t.ce < S.chg.length then _ else _) = if b ≠ a ∧ 0 ≤ t.ce ∧ t.ce < S.chg.length then _ else _
  split <;> rfl
/-- What a thread's going leaves as it is. -/
structure Sta (i : Nat) (S S' : TS) : Prop where
  wb : S'.wb = S.wb
  bk : S'.bk = S.bk
  base : S'.base = S.base
  us : S'.us = S.us
  la : S'.la = S.la
  sc : S'.sc = S.sc
  cv : S'.cv = S.cv
  ths : S'.ths = S.ths
  sched : S'.sched = S.sched
  stk : S'.stk = S.stk
  ran : S'.ran = S.ran
  n : S.n ≤ S'.n
  chg : S'.chg.length = S.chg.length
  len : S'.thr.length = S.thr.length
  oth : ∀ j, j ≠ i → S'.thr[j]? = S.thr[j]?
  own : ∀ t, S.thr[i]? = some t → ∃ t', S'.thr[i]? = some t' ∧ t'.tb = t.tb ∧ t'.gc = t.gc
theorem Sta.refl (i : Nat) (S : TS) : Sta i S S := ⟨rfl, rfl, rfl, rfl, rfl, rfl, rfl, rfl, rfl, rfl, rfl, Nat.le_refl _, rfl, rfl, fun _ _ => rfl, fun t h => ⟨t, h, rfl, rfl⟩⟩
theorem Sta.trans {S S' S'' : TS} (h : Sta i S S') (k : Sta i S' S'') : Sta i S S'' := by
  refine ⟨k.wb.trans h.wb, k.bk.trans h.bk, k.base.trans h.base, k.us.trans h.us, k.la.trans h.la, k.sc.trans h.sc, k.cv.trans h.cv, k.ths.trans h.ths, k.sched.trans h.sched, k.stk.trans h.stk, k.ran.trans h.ran, Nat.le_trans h.n k.n, k.chg.trans h.chg, k.len.trans h.len, fun j hj => (k.oth j hj).trans (h.oth j hj), fun t ht => ?_⟩
  obtain ⟨t1, h1, h2, h3⟩ := h.own t ht
  obtain ⟨t2, k1, k2, k3⟩ := k.own t1 h1
  exact ⟨t2, k1, k2.trans h2, k3.trans h3⟩
theorem sta_noted (S : TS) (tv : Value) (op ce ol ne : Int) : Sta i S (noted S tv i op ce ol ne) := ⟨rfl, rfl, rfl, rfl, rfl, rfl, rfl, rfl, rfl, rfl, rfl, Nat.le_succ _, rfl, rfl, fun _ _ => rfl, fun t h => ⟨t, h, rfl, rfl⟩⟩
theorem sta_set (S : TS) (t' : Thr) (h1 : ∀ t, S.thr[i]? = some t → t'.tb = t.tb ∧ t'.gc = t.gc) : Sta i S { S with thr := S.thr.set i t' } := by
  refine ⟨rfl, rfl, rfl, rfl, rfl, rfl, rfl, rfl, rfl, rfl, rfl, Nat.le_refl _, rfl, by simp, fun j hj => ?_, fun t h => ⟨t', ?_, h1 t h⟩⟩
  · show (S.thr.set i t')[j]? = _
    rw [List.getElem?_set, if_neg (fun e => hj e.symm)]
  · have hi : i < S.thr.length := (List.getElem?_eq_some_iff.1 h).1
    show (S.thr.set i t')[i]? = _
    rw [List.getElem?_set, if_pos rfl, if_pos hi]
theorem sta_wait (S : TS) (s o c : Int) : Sta i S (waiting S i (thrI S i) s o c) := sta_set S _ (fun t h => by rw [thrI_of h]; exact ⟨rfl, rfl⟩)
theorem sta_ended (S : TS) : Sta i S (ended S i (thrI S i)) := sta_set S _ (fun t h => by rw [thrI_of h]; exact ⟨rfl, rfl⟩)
theorem sta_did (S : TS) (tv : Value) (t : Thr) (b a : Int) : Sta i S (didS S tv i t b a) := by
  unfold didS
  split
  · exact ⟨rfl, rfl, rfl, rfl, rfl, rfl, rfl, rfl, rfl, rfl, rfl, Nat.le_succ _, by simp [counted, noted], rfl, fun _ _ => rfl, fun t h => ⟨t, h, rfl, rfl⟩⟩
  · exact sta_noted _ _ _ _ _ _
theorem flow_sta (i nk : Nat) : ∀ (rest : List Cl) (ii : Nat) (sk : Bool) (ans : List (Int × Int)) (S : TS), Sta i S (flow i nk rest ii sk ans S).1
  | [], ii, sk, ans, S => by cases sk <;> exact sta_ended S
  | c :: rest, ii, true, ans, S => flow_sta i nk rest (ii + 1) true _ S
  | c :: rest, ii, false, ans, S => by
    rw [flow_cons]
    split
    · exact (sta_noted S _ _ _ _ _).trans (sta_wait (noted S undef i 9 (-1) ii 0) _ _ _)
    · exact ((sta_noted S _ _ _ _ _).trans (sta_noted _ _ _ _ _ _)).trans (flow_sta i nk rest (ii + 1) false _ _)
theorem back_sta (rest : List Cl) (ii : Nat) (ans : List (Int × Int)) (e x : Int) (K : List (Nat × Int)) (S : TS) : Sta i S (back i nk rest ii ans e x S K).1 :=
  (sta_noted S _ _ _ _ _).trans (flow_sta i nk rest (ii + 1) _ _ _)
theorem did_thrI (S : TS) (tv : Value) (t : Thr) (b a : Int) : thrI (didS S tv i t b a) i = thrI S i := by
  unfold didS
  split <;> rfl
theorem resume_sta (i nk : Nat) (l : Ph) (S : TS) (K : List (Nat × Int)) : Sta i S (resume i nk l S K).1 := by
  match l with
  | .turn [] ii ans => exact Sta.refl _ _
  | .wait [] ii ans => exact Sta.refl _ _
  | .done ans => exact Sta.refl _ _
  | .turn (c :: rest) ii ans =>
    rw [resume_turn]
    split
    · split
      · exact (sta_did S _ _ _ _).trans (back_sta _ _ _ _ _ _ _)
      · refine (sta_did S undef (thrI S i) c.cb c.cb).trans ?_
        have := sta_wait (i := i) (didS S undef i (thrI S i) c.cb c.cb) 2 6 (which c.ca nk)
        rw [did_thrI] at this
        exact this
    · exact (sta_did S _ _ _ _).trans (back_sta _ _ _ _ _ _ _)
  | .wait (c :: rest) ii ans =>
    rw [resume_wait]
    split
    · exact back_sta _ _ _ _ _ _ _
    · exact (sta_noted S _ _ _ _ _).trans (sta_wait (noted S undef i 6 (which c.ca nk) 0 0) _ _ _)
end

/-- A script's answers as a row. -/
def arow (ans : List (Int × Int)) : List Value := ans.flatMap fun a => [I a.1, I a.2]
theorem arow_len (ans : List (Int × Int)) : (arow ans).length = ans.length * 2 := by
  induction ans with
  | nil => rfl
  | cons a l ih => simp only [arow, List.flatMap_cons, List.length_append, List.length_cons, List.length_nil] at ih ⊢; omega
theorem arow_get : ∀ (ans : List (Int × Int)) (k : Nat) (a : Int × Int), ans[k]? = some a → (arow ans)[k * 2]? = some (I a.1) ∧ (arow ans)[k * 2 + 1]? = some (I a.2)
  | b :: l, 0, a, h => by obtain rfl : b = a := by simpa using h
                          exact ⟨rfl, rfl⟩
  | b :: l, k + 1, a, h => by
    have := arow_get l k a (by simpa using h)
    have e : arow (b :: l) = I b.1 :: I b.2 :: arow l := rfl
    rw [e, show (k + 1) * 2 = (k * 2 + 1) + 1 by omega, show (k * 2 + 1) + 1 + 1 = (k * 2 + 1 + 1) + 1 by omega]
    simpa using this
theorem arow_set : ∀ (ans : List (Int × Int)) (k : Nat) (e x : Int), k < ans.length → arow (ans.set k (e, x)) = ((arow ans).set (k * 2) (I e)).set (k * 2 + 1) (I x)
  | b :: l, 0, e, x, _ => rfl
  | b :: l, k + 1, e, x, h => by
    have := arow_set l k e x (by simpa using h)
    have e1 : ∀ (b : Int × Int) (l : List (Int × Int)), arow (b :: l) = I b.1 :: I b.2 :: arow l := fun _ _ => rfl
    rw [List.set_cons_succ, e1, this, e1, show (k + 1) * 2 = (k * 2 + 1) + 1 by omega, show (k * 2 + 1) + 1 + 1 = (k * 2 + 1 + 1) + 1 by omega]
    simp only [List.set_cons_succ]
end Go.Proofs.Ytfjjoohflcchnaa
