/- CellAdds returns true, whatever the schedule, the start and the numbers, and leaves what it was given as it was: of the law's statement as given, with no condition of our own. Part 10 of 34. (Joined, by program, of: Wait, Turn, Add, Load, Cas, Lift25, Notes.) -/
import Derived.Test.YtfjjoohflcchnaaCellAdds09
import Derived.Conc.TokenWords
set_option linter.unusedSimpArgs false
set_option linter.unusedVariables false
namespace Go.Proofs.Ytfjjoohflcchnaa
open Go Go.Lift Go.Conc Go.RowKit

/-- The functions of which wait's first statement calls: changed alone. -/
def LW (f : FuncId) : Prop := f = 114
theorem fineW : ∀ f, LW f → fineFn Try.prog true LW f := by
  rintro f rfl
  exact fineFn_of (fs := []) (fun _ h => by simp at h) Try.func114 (c := Try.f114.body.getD .skip) (by rfl) (by kernel_rfl)
theorem callW : ∀ f ∈ [114], Callable Try.prog LW f := fun f h => by
  rcases List.mem_singleton.1 h with rfl
  exact ⟨rfl, Try.f114, Try.func114, by decide, by rfl⟩

def seq1 : Code → Code
  | .seq a _ => a
  | c => c
def seq2 : Code → Code
  | .seq _ b => b
  | c => c
noncomputable def wait0 : Code := seq1 (Try.f88.body.getD .skip)

theorem fineWait0 : fineCode Try.prog true LW wait0 := fineCode_of (fs := [114]) callW (by kernel_rfl)

set_option maxHeartbeats 1000000 in
theorem wait0_wp (tb wb id gc : Nat) (s o c st0 ce0 op0 se0 : Int) (f : Nat × Nat) (hf : f = (2, 3)) (cv : Value) (l : List Int) (w : World) (ht : w.heap[tb]? = some (.cells (trow wb id gc st0 ce0 op0 se0) 97 f)) (h3 : w.cell? ⟨wb, 3, none⟩ = some cv) (hr : IntRow w cv l) :
    wait0.wp Try.prog (fun e a w' => e = .normal ∧ (∃ t12 t13 t14 t16 t17 t18 t19 t20 t21 t22 t23 t24 t25 t26 t27 t28, a = { tmps := #[Pt tb 0, I s, I o, I c, undef, undef, undef, undef, Pt tb 0, Pt tb 0, Pt tb 0, Pt tb 0, t12, t13, t14, Pt tb 0, t16, t17, t18, t19, t20, t21, t22, t23, t24, t25, t26, t27, t28, undef, undef, undef, undef, undef, undef, undef, undef, undef, undef, undef, undef, undef], defers := [] }) ∧ 
      w' = (((w.setCell ⟨tb, 3, none⟩ (I s)).setCell ⟨tb, 5, none⟩ (I o)).setCell ⟨tb, 4, none⟩ (I c)).setCell ⟨tb, 6, none⟩ (I (chgOf l c))) { tmps := #[Pt tb 0, I s, I o, I c] ++ Array.replicate 38 undef, defers := [] } w := by
  have hlt := (Array.getElem?_eq_some_iff.1 ht).1
  have c0 : w.cell? ⟨tb, 0, none⟩ = some (Pt wb 0) := by simp [World.cell?, ht]
  have c3 : w.cell? ⟨tb, 3, none⟩ = some (I st0) := by simp [World.cell?, ht]
  have c4 : w.cell? ⟨tb, 4, none⟩ = some (I ce0) := by simp [World.cell?, ht]
  have c5 : w.cell? ⟨tb, 5, none⟩ = some (I op0) := by simp [World.cell?, ht]
  have c6 : w.cell? ⟨tb, 6, none⟩ = some (I se0) := by simp [World.cell?, ht]
  subst hf
  have f3 : w.frozen? ⟨tb, 3, none⟩ = false := by simp [World.frozen?, ht]
  have f4 : w.frozen? ⟨tb, 4, none⟩ = false := by simp [World.frozen?, ht]
  have f5 : w.frozen? ⟨tb, 5, none⟩ = false := by simp [World.frozen?, ht]
  have f6 : w.frozen? ⟨tb, 6, none⟩ = false := by simp [World.frozen?, ht]
  have HR : Hid (IntRow w cv l) := ⟨hr⟩
  clear hr ht hlt
  show Code.wp Try.prog (seq1 (Try.f88.body.getD .skip)) _ _ _
  simp only [Array.replicate_succ, Array.replicate_zero, List.push_toArray, List.append_toArray, List.nil_append, List.cons_append]
  unfold Try.f88 seq1
  simp only [Option.getD_some]
  go_wp2_with (go_at_call 114; refine ((body51 wb c cv l _ h3 HR.out).calls Try.func114 rfl).mono ?_; rintro e w1 ⟨v, rfl, rfl, rfl⟩)

def opsOf : Code → Array Oper
  | .region _ ops _ => ops
  | _ => #[]
noncomputable def ops372 : Array Oper := opsOf (seq2 (seq2 (Try.f88.body.getD .skip)))
/-- A thread's seat: the receive in wait. -/
noncomputable def seatT (gc : Nat) (Hm : Goroutine → Prop) : Seat := Seat.one gc (.agg #[]) false Hm

theorem res37 (tmps : Array Value) : ∀ (w : World), (results Try.f88 tmps).run Try.prog w = .ok (.tuple #[]) w := fun _ => results_none rfl _ _ _
theorem ev37 (tmps : Array Value) : ∀ (w : World), (results Try.f88 tmps).events Try.prog w #[] = #[] := fun _ => by simp [results, go_sem]

/-- Served at wait's receive it comes back to its caller's operation. -/
theorem back37 {main : Bool} (tmps : Array Value) {bc : Frame} {ac : Act} {ops : Array Oper} {i : Nat} {rest : List Nat} {o : Oper} {k : List Item} {cs : List Frame} (ho : ops[i]? = some o) :
    Back Try.prog main (G ((base 88).at { tmps := tmps, defers := [] } [.inRegion ops372 [4]]) (bc.at ac (.inRegion ops (i :: rest) :: k) :: cs)) (G (bc.at (ac.put o.dst (.tuple #[])) (.inRegion ops rest :: k)) cs) := by
  intro D Stop x w hD h
  rw [served_fr, Frame.finish_at]
  refine goesI_regionEnd hD ?_
  refine goesI_end hD ?_
  refine goesI_leave (b := base 88) (fn := Try.f88) rfl ?_ Try.func88 (res37 _) (ev37 _) ho hD h
  show (Act.put _ _ _).defers = []
  unfold Act.put
  split <;> rfl

/-- The thread's row, behind wait's first statement. -/
def set4 (v : World) (tb : Nat) (s o c m : Int) : World := (((v.setCell ⟨tb, 3, none⟩ (I s)).setCell ⟨tb, 5, none⟩ (I o)).setCell ⟨tb, 4, none⟩ (I c)).setCell ⟨tb, 6, none⟩ (I m)

set_option maxHeartbeats 1000000 in
set_option maxRecDepth 100000 in
theorem wait_goes {z : Nat → Option Nat} {Ch : Nat → Prop} {Stop : Goroutine → World → Prop} {h : Nat} {cont : Addr → Value} (tb wb id gc bk : Nat) (s o c st0 ce0 op0 se0 : Int) (cv : Value) (l : List Int) (v w : World) (cs : List Frame) (Hm : Goroutine → Prop) {bc : Frame} {ac : Act} {ops : Array Oper} {i : Nat} {rest : List Nat} {oc : Oper} {k : List Item} (hoc : ops[i]? = some oc)
    (hH : ∀ g, Back Try.prog (h == 0) g (G (bc.at (ac.put oc.dst (.tuple #[])) (.inRegion ops rest :: k)) cs) → Hm g)
    (hvw : Rel z v w) (hn : NoRow Ch v) (hz : z tb = some 2) (ht : v.heap[tb]? = some (.cells (trow wb id gc st0 ce0 op0 se0) 97 (2, 3))) (h3 : v.cell? ⟨wb, 3, none⟩ = some cv) (hr : IntRow v cv l) (h8 : v.cell? ⟨wb, 8, none⟩ = some (.chan (some bk))) (hne : tb ≠ wb)
    (hcont : cont ⟨tb, 2, none⟩ = .chan (some gc))
    (hstop : ∀ g w', Lift.AtGive Try.prog (KC (ScZ z) cont) (StillC (ScZ z)) h bk (.agg #[]) (some (seatT gc Hm)) (fun w' => ∃ v', Rel z v' w' ∧ NoRow Ch v' ∧ v'.heap = (set4 v tb s o c (chgOf l c)).heap ∧ v'.os = v.os ∧ v'.output = v.output) g w' → Stop g w')
    (code : Code) (hc : Try.f88.body = some code) :
    GoesI Try.prog (h == 0) (DT (ScZ z) Ch) Stop (G ((base 88).at { tmps := #[Pt tb 0, I s, I o, I c] ++ Array.replicate 38 undef, defers := [] } [.code code]) (bc.at ac (.inRegion ops (i :: rest) :: k) :: cs)) w := by
  have hw0 : code = .seq wait0 (seq2 (Try.f88.body.getD .skip)) := by
    rw [hc]; obtain rfl := Option.some.inj hc; rfl
  subst hw0
  clear hc
  refine goesI_seq (dt_idle _ _) ?_
  refine goesI_plain (z := z) (wr := true) (L := LW) (I := NoRow Ch) hE fineW noRow_keeps (fun v v' w w' es hi hr ho he => dt_of_z v v' w w' es hi hr ho he) hvw fineWait0 rfl (by simp [base]) hn
    (Q := fun a w' => (∃ t12 t13 t14 t16 t17 t18 t19 t20 t21 t22 t23 t24 t25 t26 t27 t28, a = { tmps := #[Pt tb 0, I s, I o, I c, undef, undef, undef, undef, Pt tb 0, Pt tb 0, Pt tb 0, Pt tb 0, t12, t13, t14, Pt tb 0, t16, t17, t18, t19, t20, t21, t22, t23, t24, t25, t26, t27, t28, undef, undef, undef, undef, undef, undef, undef, undef, undef, undef, undef, undef, undef], defers := [] }) ∧
      w'.heap = (set4 v tb s o c (chgOf l c)).heap ∧ w'.os = v.os ∧ w'.output = v.output) (fun τ => ?_) ?_
  · exact wp_mono (wait0_wp tb wb id gc s o c st0 ce0 op0 se0 (2, 3) rfl cv l (onTape v τ 0) ht h3 hr) (fun e a w' hq => ⟨hq.1, hq.2.1, by rw [hq.2.2]; rfl, by rw [hq.2.2]; rfl, by rw [hq.2.2]; rfl⟩)
  rintro a' v' w' ⟨⟨t12, t13, t14, t16, t17, t18, t19, t20, t21, t22, t23, t24, t25, t26, t27, t28, rfl⟩, hv1, hv2, hv3⟩ hr' hn' -
  have e0 : w'.cell? ⟨tb, 0, none⟩ = some (Pt wb 0) := by
    rw [hr'.cell?]
    have : v.cell? ⟨tb, 0, none⟩ = some (Pt wb 0) := by simp [World.cell?, ht]
    rw [← this]
    show v'.cell? _ = _
    unfold World.cell?
    rw [hv1]
    exact (show (set4 v tb s o c (chgOf l c)).cell? ⟨tb, 0, none⟩ = v.cell? ⟨tb, 0, none⟩ from by
      unfold set4
      rw [World.cell?_setCell_other _ _ _ _ (by simp), World.cell?_setCell_other _ _ _ _ (by simp), World.cell?_setCell_other _ _ _ _ (by simp), World.cell?_setCell_other _ _ _ _ (by simp)])
  have e8 : w'.cell? ⟨wb, 8, none⟩ = some (.chan (some bk)) := by
    rw [hr'.cell?, ← h8]
    unfold World.cell?
    rw [hv1]
    exact (show (set4 v tb s o c (chgOf l c)).cell? ⟨wb, 8, none⟩ = v.cell? ⟨wb, 8, none⟩ from by
      unfold set4
      rw [World.cell?_setCell_far _ _ _ _ hne, World.cell?_setCell_far _ _ _ _ hne, World.cell?_setCell_far _ _ _ _ hne, World.cell?_setCell_far _ _ _ _ hne])
  have HF : Hid (∃ v', Rel z v' w' ∧ NoRow Ch v' ∧ v'.heap = (set4 v tb s o c (chgOf l c)).heap ∧ v'.os = v.os ∧ v'.output = v.output) := ⟨⟨v', hr', hn', hv1, hv2, hv3⟩⟩
  clear hv1 hv2 hv3 hr' hn' hvw hn ht h3 hr h8
  show GoesI Try.prog (h == 0) (DT (ScZ z) Ch) Stop (G ((base 88).at _ [.code (seq2 (Try.f88.body.getD .skip))]) (bc.at ac (.inRegion ops (i :: rest) :: k) :: cs)) w'
  unfold Try.f88 seq2
  simp only [Option.getD_some]
  refine goesI_seq (dt_idle _ _) ?_
  refine goesI_region (dt_idle _ _) ?_
  simp only [List.size_toArray, List.length_cons, List.length_nil, Nat.reduceAdd, Nat.zero_add, List.range, List.range.loop]
  iterate 8
    (refine goesI_oper rfl rfl (by decide) (fun d K hK => ?_)
     go_simp
     refine hK _ _ ⟨dt_reads (fun e he => ?_), GoesI.at ?_ d⟩
     · have hm := mem_listed he
       simp [go_sem, *] at hm
       try exact ⟨_, _, hm⟩
     clear hK K)
  refine GoesI.stop fun d => hstop _ _ (give_at (z' := .tuple #[]) 7 (tb + 1) rfl rfl (by decide) (fun w => by simp [execOp, scase, Act.eval]) (fun w => by simp [go_sem, execOp, Act.eval]) ?_ (Nat.succ_le_of_lt (World.block_lt_of_cell? _ _ e0)) (fun B hB T hT => ?_))
  · obtain ⟨v', k1, k2⟩ := HF.out
    exact ⟨v', k1.re rfl rfl rfl rfl rfl rfl, k2⟩
  · clear HF hstop e0 e8
    refine .inl ⟨6, w', rfl, ?_⟩
    rw [served_fr, Frame.finish_at]
    k_c stepG_region_end
    k_reg
    iterate 3
      (k_in
       refine goes_oper_k rfl rfl (by decide) (fun K hK => ?_)
       go_simp
       refine hK _ _ ⟨⟨rfl, fun e he => by (have hm := mem_listed he; simp [go_sem, *] at hm)⟩, ?_⟩
       clear hK K)
    k_in
    have q2 := h₁ ⟨tb, 2, none⟩ ⟨rfl, hz⟩
    rw [hcont] at q2
    refine goes_oper_k rfl rfl (by decide) (fun K hK => ?_)
    go_simp
    refine hK _ _ ⟨⟨rfl, fun e he => by (have hm := mem_listed he; simp [go_sem, *] at hm; subst hm; exact evC_read _ ⟨_, rfl, rfl, hz⟩ (by simp; omega))⟩, ?_⟩
    clear hK K
    refine Goes.stop fun w₂ h₂ => ⟨_, atIn_of (s := seatT gc Hm) rfl rfl (by decide) (fun w => ?_) (fun w => ?_) (hH _ (back37 _ hoc))⟩
    · simp [go_sem, execOp, rcase, Act.eval, seatT, Seat.one]
    · simp [go_sem, execOp, Act.eval]

theorem res26 (tmps : Array Value) : ∀ (w : World), (results Try.f60 tmps).run Try.prog w = .ok (.tuple #[]) w := fun _ => results_none rfl _ _ _
theorem ev26 (tmps : Array Value) : ∀ (w : World), (results Try.f60 tmps).events Try.prog w #[] = #[] := fun _ => by simp [results, go_sem]

/-- What the stops of a thread's stretch have in common: it stands at the send that gives the turn back. -/
def GiveT (z : Nat → Option Nat) (cont : Addr → Value) (h bk gc : Nat) (Hm : Goroutine → Prop) (F : World → Prop) : Goroutine → World → Prop := Lift.AtGive Try.prog (KC (ScZ z) cont) (StillC (ScZ z)) h bk (.agg #[]) (some (seatT gc Hm)) F

set_option maxHeartbeats 1000000 in
set_option maxRecDepth 100000 in
/-- A thread of a world waits for its turn (Turn). -/
theorem turn_goes {z : Nat → Option Nat} {Ch : Nat → Prop} {Stop : Goroutine → World → Prop} {h : Nat} {cont : Addr → Value} (tb wb id gc bk : Nat) (o c st0 ce0 op0 se0 : Int) (cv : Value) (l : List Int) (v w : World) (cs : List Frame) (Hm : Goroutine → Prop) {bc : Frame} {ac : Act} {ops : Array Oper} {i : Nat} {rest : List Nat} {oc : Oper} {k : List Item} (hoc : ops[i]? = some oc)
    (hH : ∀ g, Back Try.prog (h == 0) g (G (bc.at (ac.put oc.dst (.tuple #[])) (.inRegion ops rest :: k)) cs) → Hm g)
    (hvw : Rel z v w) (hn : NoRow Ch v) (hz : z tb = some 2) (ht : v.heap[tb]? = some (.cells (trow wb id gc st0 ce0 op0 se0) 97 (2, 3))) (h3 : v.cell? ⟨wb, 3, none⟩ = some cv) (hr : IntRow v cv l) (h8 : v.cell? ⟨wb, 8, none⟩ = some (.chan (some bk))) (hne : tb ≠ wb)
    (hcont : cont ⟨tb, 2, none⟩ = .chan (some gc))
    (hstop : ∀ g w', GiveT z cont h bk gc Hm (fun w' => ∃ v', Rel z v' w' ∧ NoRow Ch v' ∧ v'.heap = (set4 v tb 1 o c (chgOf l c)).heap ∧ v'.os = v.os ∧ v'.output = v.output) g w' → Stop g w')
    (code : Code) (hc : Try.f60.body = some code) :
    GoesI Try.prog (h == 0) (DT (ScZ z) Ch) Stop (G ((base 60).at { tmps := #[Pt tb 0, I c, I o] ++ Array.replicate 12 undef, defers := [] } [.code code]) (bc.at ac (.inRegion ops (i :: rest) :: k) :: cs)) w := by
  obtain rfl := Option.some.inj hc
  clear hc
  have e0 : v.cell? ⟨tb, 0, none⟩ = some (Pt wb 0) := by simp [World.cell?, ht]
  have HT : Hid (v.heap[tb]? = some (.cells (trow wb id gc st0 ce0 op0 se0) 97 (2, 3))) := ⟨ht⟩
  clear ht
  simp only [Array.replicate_succ, Array.replicate_zero, List.push_toArray, List.append_toArray, List.nil_append, List.cons_append]
  refine goesI_seq (dt_idle _ _) ?_
  refine goesI_look hE fineW hvw hn (fineCode_of (fs := []) (fun _ h => by simp at h) (by kernel_rfl)) rfl (by simp [base])
    (a' := { tmps := #[Pt tb 0, I c, I o, undef, undef, undef, Pt tb 0, Pt tb 0, Pt tb 0, Pt wb 0, .bool true, undef, undef, undef, undef], defers := [] }) (fun τ => ?_) (fun w' hvw' => ?_)
  · have e0' : (onTape v τ 0).cell? ⟨tb, 0, none⟩ = some (Pt wb 0) := e0
    go_wp2_with fail
    exact ⟨rfl, rfl, rfl⟩
  clear hvw
  refine goesI_cond (dt_idle _ _) (t := true) rfl ?_
  simp only [if_true]
  refine goesI_region (dt_idle _ _) ?_
  simp only [List.size_toArray, List.length_cons, List.length_nil, Nat.reduceAdd, Nat.zero_add, List.range, List.range.loop]
  iterate 3
    (refine goesI_oper rfl rfl (by decide) (fun d K hK => ?_)
     go_simp
     refine hK _ _ ⟨dt_reads (fun e he => ?_), GoesI.at ?_ d⟩
     · have hm := mem_listed he
       simp [go_sem, *] at hm
     clear hK K)
  refine goesI_into (f := 88) (fn := Try.f88) (args := #[Pt tb 0, I 1, I o, I c]) (dt_idle _ _) rfl rfl (by decide) rfl (by simp [Act.eval]) Try.func88 (by decide) rfl ?_
  refine wait_goes tb wb id gc bk 1 o c st0 ce0 op0 se0 cv l v w' _ Hm rfl (fun g hg => hH g (hg.then fun D' St u hD' hu => ?_)) hvw' hn hz HT.out h3 hr h8 hne hcont hstop _ rfl
  refine goesI_regionEnd hD' ?_
  refine goesI_end hD' ?_
  exact goesI_leave (b := base 60) (fn := Try.f60) rfl rfl Try.func60 (res26 _) (ev26 _) hoc hD' hu
end Go.Proofs.Ytfjjoohflcchnaa

namespace Go.Proofs.Ytfjjoohflcchnaa
open Go Go.Lift Go.Conc Go.RowKit

theorem give_mono {z : Nat → Option Nat} {cont : Addr → Value} {h bk gc : Nat} {Hm : Goroutine → Prop} {F F' : World → Prop} {g : Goroutine} {w : World} (hF : F w → F' w) (hg : GiveT z cont h bk gc Hm F g w) : GiveT z cont h bk gc Hm F' g w :=
  ⟨hg.1, hF hg.2.1, hg.2.2⟩

theorem int_row {w : World} {base : Nat} {v : Value} {l : List Int} (h : w.ownsRow base 3 1 v l.length (l.map I)) : IntRow w v l := by
  rcases h.2 with ⟨rfl, h0⟩ | ⟨g, cap, cur, rfl, hb, hh, hle, _, hsz, htake⟩
  · exact .inl ⟨List.length_eq_zero_iff.1 h0, rfl⟩
  · refine .inr ⟨g, cap, rfl, fun i x hx => ?_⟩
    have hc : i < l.length := (List.getElem?_eq_some_iff.1 hx).1
    have e : (l.map I)[i]? = some (I x) := by simp [hx]
    rw [← htake, Nat.mul_one, List.getElem?_take_of_lt hc] at e
    simp only [World.cell?, hh, Option.isSome_none, Bool.false_eq_true, if_false]
    simpa using e

/-- What is known of the world where a thread's stretch ends. -/
def Then (z : Nat → Option Nat) (Ch : Nat → Prop) (S : TS) (K : List (Nat × Int)) (v : World) (S' : TS) (K' : List (Nat × Int)) (w' : World) : Prop := ∃ v', Rel z v' w' ∧ NoRow Ch v' ∧ Evo z S K v S' K' v'

theorem turn_mem {z : Nat → Option Nat} {Ch : Nat → Prop} {Stop : Goroutine → World → Prop} {h : Nat} {cont : Addr → Value} {S : TS} {K : List (Nat × Int)} {v w : World} {i : Nat} {t : Thr} (o c : Int) (cs : List Frame) (Hm : Goroutine → Prop) {bc : Frame} {ac : Act} {ops : Array Oper} {j : Nat} {rest : List Nat} {oc : Oper} {k : List Item} (hoc : ops[j]? = some oc)
    (hH : ∀ g, Back Try.prog (h == 0) g (G (bc.at (ac.put oc.dst (.tuple #[])) (.inRegion ops rest :: k)) cs) → Hm g)
    (hvw : Rel z v w) (hn : NoRow Ch v) (hm : Mem z S K v) (ht : S.thr[i]? = some t) (hz : z t.tb = some 2) (hcont : cont ⟨t.tb, 2, none⟩ = .chan (some t.gc))
    (hstop : ∀ g w', GiveT z cont h S.bk t.gc Hm (Then z Ch S K v (waiting S i t 1 o c) K) g w' → Stop g w') (code : Code) (hc : Try.f60.body = some code) :
    GoesI Try.prog (h == 0) (DT (ScZ z) Ch) Stop (G ((base 60).at { tmps := #[Pt t.tb 0, I c, I o] ++ Array.replicate 12 undef, defers := [] } [.code code]) (bc.at ac (.inRegion ops (j :: rest) :: k) :: cs)) w := by
  have hrow := hm.rep.thr i t ht
  have hfz : fz z t.tb = (2, 3) := by unfold fz; rw [hz]
  rw [hfz] at hrow
  refine turn_goes t.tb S.wb i t.gc S.bk o c t.st t.ce t.op t.se S.cv S.chg v w cs Hm hoc hH hvw hn hz hrow hm.rep.wcell.2.2.2.1 (int_row hm.rep.chg) hm.rep.wcell.2.2.2.2.2.2.2.2 (fun e => by have := hm.rep.apart 0 (i + 5) S.wb rfl (by simp [blk, ht, e]); omega) hcont (fun g w' hg => hstop g w' (give_mono (fun hF => ?_) hg)) code hc
  obtain ⟨v', k1, k2, k3, k4, k5⟩ := hF
  refine ⟨v', k1, k2, Evo.of_ev hm ((wait_ev hm.rep ht 1 o c).same k3 ?_ ?_) rfl⟩
  · rw [k4]; rfl
  · rw [k5]; rfl
end Go.Proofs.Ytfjjoohflcchnaa

namespace Go.Proofs.Ytfjjoohflcchnaa
open Go Go.Lift Go.Conc Go.RowKit

/-- Served at its turn it does what it came for, and comes back to its caller: 'eff' tells, of what stands in the cell, what Did is told, what stands there then, and what is answered. -/
def OpBack (main : Bool) (i j cb tb : Nat) (opn : Int) (eff : Int → (Int × Int) × Int × Value) (cl : Value → Goroutine) (g : Goroutine) : Prop :=
  ∀ (z : Nat → Option Nat) (Ch : Nat → Prop) (Stop : Goroutine → World → Prop) (y : Value) (w v : World) (S : TS) (K : List (Nat × Int)) (t : Thr) (x : Int), Rel z v w → NoRow Ch v → Mem z S K v → S.thr[i]? = some t → t.tb = tb → t.op = opn → t.ce = (j : Int) → K[j]? = some (cb, x) → (S.n + 1) * 40 ≤ 140737488355328 →
    (∀ v' w' tv, Rel z v' w' → NoRow Ch v' → Evo z S K v (didS S tv i t (eff x).1.1 (eff x).1.2) (K.set j (cb, (eff x).2.1)) v' → GoesI Try.prog main (DT (ScZ z) Ch) Stop (cl (eff x).2.2) w') →
    GoesI Try.prog main (DT (ScZ z) Ch) Stop (Go.Conc.served g y) w

theorem Evo.did {z : Nat → Option Nat} {S : TS} {K K' : List (Nat × Int)} {v v1 v2 : World} {tv : Value} {i : Nat} {t : Thr} {b a : Int} (h : Evo z S K v S K' v1) (k : Ev z S v1 (didS S tv i t b a) v2) : Evo z S K v (didS S tv i t b a) K' v2 :=
  h.trans (Evo.of_ev h.mem k (didS_len _ _ _ _ _))

theorem bp_mono {fn : Func} {R R' : Value → World → Prop} (h : ∀ r w, R r w → R' r w) (e : Exit) (a : Act) (w : World) (hq : bodyPost Try.prog fn (fun e w' => ∃ r, e = .returned r ∧ R r w') e a w) : bodyPost Try.prog fn (fun e w' => ∃ r, e = .returned r ∧ R' r w') e a w := by
  cases e with
  | normal => obtain ⟨q1, x, q2, y, q3, q4⟩ := hq; exact ⟨q1, x, q2, y, q3, h _ _ q4⟩
  | ret => obtain ⟨q1, x, q2, y, q3, q4⟩ := hq; exact ⟨q1, x, q2, y, q3, h _ _ q4⟩
  | panic ch => obtain ⟨q1, y, q3, q4⟩ := hq; cases q3
  | outgrown => obtain ⟨y, q3, q4⟩ := hq; cases q3
  | _ => exact hq.elim

noncomputable def rest15 : Code := seq2 (seq2 (Try.f26.body.getD .skip))
theorem fine15 : fineCode Try.prog true LT rest15 := fineCode_ask callT extT (by kernel_rfl)
def effAdd (n x : Int) : (Int × Int) × Int × Value := ((wrap64 (wrap64 (x + n) - n), wrap64 (x + n)), wrap64 (x + n), I (wrap64 (x + n)))

set_option maxHeartbeats 1000000 in
set_option maxRecDepth 100000 in
theorem tail15 {z : Nat → Option Nat} {S : TS} {K : List (Nat × Int)} {v : World} {i j cb : Nat} {t : Thr} {x n : Int} (hm : Mem z S K v) (ht : S.thr[i]? = some t) (hK : K[j]? = some (cb, x)) (hn : (S.n + 1) * 40 ≤ 140737488355328) (a8 a9 a10 a11 a12 a13 : Value) :
    rest15.wp Try.prog (bodyPost Try.prog Try.f26 (fun e w' => ∃ r, e = .returned r ∧ (r = (effAdd n x).2.2 ∧ ∃ tv, Evo z S K v (didS S tv i t (effAdd n x).1.1 (effAdd n x).1.2) (K.set j (cb, (effAdd n x).2.1)) w')))
      { tmps := #[Pt cb 0, Pt t.tb 0, I n, undef, undef, undef, I 0, undef, a8, a9, a10, a11, a12, a13, undef, undef, undef, undef, undef, undef, undef, undef, undef, undef, undef, undef], defers := [] } v := by
  obtain ⟨_, c1, f1⟩ := hm.cells hK
  have HM : Hid (Mem z S K v) := ⟨hm⟩
  have HW : Hid (Evo z S K v S (K.set j (cb, wrap64 (x + n))) (v.setCell ⟨cb, 1, none⟩ (I (wrap64 (x + n))))) := ⟨Evo.write hm hK _⟩
  clear hm hK
  simp only at c1 f1
  show Code.wp Try.prog (seq2 (seq2 (Try.f26.body.getD .skip))) _ _ _
  unfold Try.f26 seq2
  simp only [Option.getD_some]
  go_wp2_with (first
    | (go_at_call 64; refine ((body30 cb x n _ c1 f1).calls Try.func64 rfl).mono ?_; rintro e w1 ⟨_, rfl, rfl, rfl⟩)
    | (go_at_call 61; refine ((body27 HW.out.mem.rep ht (wrap64 (wrap64 (x + n) - n)) (wrap64 (x + n)) hn).calls Try.func61 rfl).mono ?_; rintro e w2 ⟨_, rfl, rfl, tv, hev⟩))
  go_ret
  exact ⟨_, rfl, rfl, tv, HW.out.did hev⟩

theorem res15 (tmps : Array Value) : ∃ v, (∀ w, (results Try.f26 tmps).run Try.prog w = .ok v w) ∧ ∀ w, (results Try.f26 tmps).events Try.prog w #[] = #[] :=
  ⟨_, fun w => results_tmp rfl _ _ _, fun w => by simp [results, go_sem]⟩

set_option maxHeartbeats 1000000 in
set_option maxRecDepth 100000 in
theorem add_goes {z : Nat → Option Nat} {Ch : Nat → Prop} {Stop : Goroutine → World → Prop} {h : Nat} {cont : Addr → Value} {S : TS} {K : List (Nat × Int)} {v w : World} {i j cb : Nat} {t : Thr} (n x : Int) (cs : List Frame) (Hm : Goroutine → Prop) {bc : Frame} {ac : Act} {ops : Array Oper} {q : Nat} {rest : List Nat} {oc : Oper} {k : List Item} (hoc : ops[q]? = some oc)
    (hH : ∀ g, OpBack (h == 0) i j cb t.tb 5 (effAdd n) (fun r => G (bc.at (ac.put oc.dst r) (.inRegion ops rest :: k)) cs) g → Hm g)
    (hvw : Rel z v w) (hn : NoRow Ch v) (hm : Mem z S K v) (ht : S.thr[i]? = some t) (hK : K[j]? = some (cb, x)) (hz : z t.tb = some 2) (hcont : cont ⟨t.tb, 2, none⟩ = .chan (some t.gc))
    (hstop : ∀ g w', GiveT z cont h S.bk t.gc Hm (Then z Ch S K v (waiting S i t 1 5 j) K) g w' → Stop g w') (code : Code) (hc : Try.f26.body = some code) :
    GoesI Try.prog (h == 0) (DT (ScZ z) Ch) Stop (G ((base 26).at { tmps := #[Pt cb 0, Pt t.tb 0, I n] ++ Array.replicate 23 undef, defers := [] } [.code code]) (bc.at ac (.inRegion ops (q :: rest) :: k) :: cs)) w := by
  obtain rfl := Option.some.inj hc
  clear hc
  have e0 : w.cell? ⟨cb, 0, none⟩ = some (I j) := by rw [hvw.cell?]; exact (hm.cells hK).1
  simp only [Array.replicate_succ, Array.replicate_zero, List.push_toArray, List.append_toArray, List.nil_append, List.cons_append]
  have HM : Hid (Mem z S K v) := ⟨hm⟩
  clear hm
  refine goesI_seq (dt_idle _ _) ?_
  refine goesI_region (dt_idle _ _) ?_
  simp only [List.size_toArray, List.length_cons, List.length_nil, Nat.reduceAdd, Nat.zero_add, List.range, List.range.loop]
  (refine goesI_oper rfl rfl (by decide) (fun d K hK => ?_)
   go_simp
   refine hK _ _ ⟨dt_reads (fun e he => ?_), GoesI.at ?_ d⟩
   · have hm := mem_listed he
     simp [go_sem, *] at hm
   clear hK K)
  refine goesI_regionEnd (dt_idle _ _) ?_
  refine goesI_seq (dt_idle _ _) ?_
  refine goesI_region (dt_idle _ _) ?_
  simp only [List.size_toArray, List.length_cons, List.length_nil, Nat.reduceAdd, Nat.zero_add, List.range, List.range.loop]
  iterate 5
    (refine goesI_oper rfl rfl (by decide) (fun d K hK => ?_)
     go_simp
     refine hK _ _ ⟨dt_reads (fun e he => ?_), GoesI.at ?_ d⟩
     · have hm := mem_listed he
       simp [go_sem, *] at hm
       try exact ⟨_, _, hm⟩
     clear hK K)
  refine goesI_into (f := 60) (fn := Try.f60) (args := #[Pt t.tb 0, I j, I 5]) (dt_idle _ _) rfl rfl (by decide) rfl (by simp [Act.eval]) Try.func60 (by decide) rfl ?_
  refine turn_mem 5 j _ Hm rfl (fun g hg => hH g ?_) hvw hn HM.out ht hz hcont hstop _ rfl
  intro z1 Ch1 St y w1 v1 S1 K1 t1 x1 r1 n1 m1 h1 htb hop hce hK1 hn1 hk
  refine hg _ St y w1 (dt_idle _ _) ?_
  refine goesI_regionEnd (dt_idle _ _) ?_
  rw [← htb]
  refine goesI_rest (f := 26) (fn := Try.f26) (c := rest15) hE fineT r1 n1 Try.func26 fine15 rfl hoc res15 (fun τ => ?_) (fun r v' w' hR hr' hn' => ?_) (R := fun r w' => r = (effAdd n x1).2.2 ∧ ∃ tv, Evo z1 S1 K1 v1 (didS S1 tv i t1 (effAdd n x1).1.1 (effAdd n x1).1.2) (K1.set j (cb, (effAdd n x1).2.1)) w')
  · refine wp_mono (tail15 (m1.same (v' := onTape v1 τ 0) rfl) h1 hK1 hn1 _ _ _ _ _ _) (bp_mono fun r u hq => ⟨hq.1, hq.2.choose, hq.2.choose_spec.base rfl rfl rfl⟩)
  · obtain ⟨rfl, tv, he⟩ := hR
    exact hk v' w' tv hr' hn' he
end Go.Proofs.Ytfjjoohflcchnaa

namespace Go.Proofs.Ytfjjoohflcchnaa
open Go Go.Lift Go.Conc Go.RowKit

theorem set_same {α : Type} {l : List α} {j : Nat} {c : α} (h : l[j]? = some c) : l.set j c = l := by
  apply List.ext_getElem?
  intro i
  rw [List.getElem?_set]
  by_cases e : j = i
  · subst e; rw [if_pos rfl, if_pos (List.getElem?_eq_some_iff.1 h).1, h]
  · rw [if_neg e]
def effLoad (x : Int) : (Int × Int) × Int × Value := ((x, x), x, I x)
noncomputable def rest17 : Code := seq2 (seq2 (Try.f28.body.getD .skip))
theorem fine17 : fineCode Try.prog true LT rest17 := fineCode_ask callT extT (by kernel_rfl)

set_option maxHeartbeats 1000000 in
set_option maxRecDepth 100000 in
theorem tail17 {z : Nat → Option Nat} {S : TS} {K : List (Nat × Int)} {v : World} {i j cb : Nat} {t : Thr} {x : Int} (hm : Mem z S K v) (ht : S.thr[i]? = some t) (hK : K[j]? = some (cb, x)) (hn : (S.n + 1) * 40 ≤ 140737488355328) (a6 a7 a8 a9 a10 a11 : Value) :
    rest17.wp Try.prog (bodyPost Try.prog Try.f28 (fun e w' => ∃ r, e = .returned r ∧ (r = (effLoad x).2.2 ∧ ∃ tv, Evo z S K v (didS S tv i t (effLoad x).1.1 (effLoad x).1.2) (K.set j (cb, (effLoad x).2.1)) w')))
      { tmps := #[Pt cb 0, Pt t.tb 0, undef, undef, I 0, undef, a6, a7, a8, a9, a10, a11, undef, undef, undef, undef, undef, undef, undef, undef, undef], defers := [] } v := by
  obtain ⟨_, c1, f1⟩ := hm.cells hK
  have HM : Hid (Mem z S K v) := ⟨hm⟩
  have HW : Hid (Evo z S K v S (K.set j (cb, x)) v) := ⟨by rw [set_same hK]; exact Evo.refl hm⟩
  clear hm hK
  simp only at c1 f1
  show Code.wp Try.prog (seq2 (seq2 (Try.f28.body.getD .skip))) _ _ _
  unfold Try.f28 seq2
  simp only [Option.getD_some]
  go_wp2_with (first
    | (go_at_call 63; refine ((body29 cb x _ c1).calls Try.func63 rfl).mono ?_; rintro e w1 ⟨_, rfl, rfl, rfl⟩)
    | (go_at_call 61; refine ((body27 HW.out.mem.rep ht x x hn).calls Try.func61 rfl).mono ?_; rintro e w2 ⟨_, rfl, rfl, tv, hev⟩))
  go_ret
  exact ⟨_, rfl, rfl, tv, HW.out.did hev⟩

theorem res17 (tmps : Array Value) : ∃ v, (∀ w, (results Try.f28 tmps).run Try.prog w = .ok v w) ∧ ∀ w, (results Try.f28 tmps).events Try.prog w #[] = #[] :=
  ⟨_, fun _ => results_tmp rfl _ _ _, fun _ => by simp [results, go_sem]⟩

set_option maxHeartbeats 1000000 in
set_option maxRecDepth 100000 in
theorem load_goes {z : Nat → Option Nat} {Ch : Nat → Prop} {Stop : Goroutine → World → Prop} {h : Nat} {cont : Addr → Value} {S : TS} {K : List (Nat × Int)} {v w : World} {i j cb : Nat} {t : Thr} (x : Int) (cs : List Frame) (Hm : Goroutine → Prop) {bc : Frame} {ac : Act} {ops : Array Oper} {q : Nat} {rest : List Nat} {oc : Oper} {k : List Item} (hoc : ops[q]? = some oc)
    (hH : ∀ g, OpBack (h == 0) i j cb t.tb 1 effLoad (fun r => G (bc.at (ac.put oc.dst r) (.inRegion ops rest :: k)) cs) g → Hm g)
    (hvw : Rel z v w) (hn : NoRow Ch v) (hm : Mem z S K v) (ht : S.thr[i]? = some t) (hK : K[j]? = some (cb, x)) (hz : z t.tb = some 2) (hcont : cont ⟨t.tb, 2, none⟩ = .chan (some t.gc))
    (hstop : ∀ g w', GiveT z cont h S.bk t.gc Hm (Then z Ch S K v (waiting S i t 1 1 j) K) g w' → Stop g w') (code : Code) (hc : Try.f28.body = some code) :
    GoesI Try.prog (h == 0) (DT (ScZ z) Ch) Stop (G ((base 28).at { tmps := #[Pt cb 0, Pt t.tb 0] ++ Array.replicate 19 undef, defers := [] } [.code code]) (bc.at ac (.inRegion ops (q :: rest) :: k) :: cs)) w := by
  obtain rfl := Option.some.inj hc
  clear hc
  have e0 : w.cell? ⟨cb, 0, none⟩ = some (I j) := by rw [hvw.cell?]; exact (hm.cells hK).1
  simp only [Array.replicate_succ, Array.replicate_zero, List.push_toArray, List.append_toArray, List.nil_append, List.cons_append]
  have HM : Hid (Mem z S K v) := ⟨hm⟩
  clear hm
  refine goesI_seq (dt_idle _ _) ?_
  refine goesI_region (dt_idle _ _) ?_
  simp only [List.size_toArray, List.length_cons, List.length_nil, Nat.reduceAdd, Nat.zero_add, List.range, List.range.loop]
  (refine goesI_oper rfl rfl (by decide) (fun d K hK => ?_)
   go_simp
   refine hK _ _ ⟨dt_reads (fun e he => ?_), GoesI.at ?_ d⟩
   · have hm := mem_listed he
     simp [go_sem, *] at hm
   clear hK K)
  refine goesI_regionEnd (dt_idle _ _) ?_
  refine goesI_seq (dt_idle _ _) ?_
  refine goesI_region (dt_idle _ _) ?_
  simp only [List.size_toArray, List.length_cons, List.length_nil, Nat.reduceAdd, Nat.zero_add, List.range, List.range.loop]
  iterate 5
    (refine goesI_oper rfl rfl (by decide) (fun d K hK => ?_)
     go_simp
     refine hK _ _ ⟨dt_reads (fun e he => ?_), GoesI.at ?_ d⟩
     · have hm := mem_listed he
       simp [go_sem, *] at hm
       try exact ⟨_, _, hm⟩
     clear hK K)
  refine goesI_into (f := 60) (fn := Try.f60) (args := #[Pt t.tb 0, I j, I 1]) (dt_idle _ _) rfl rfl (by decide) rfl (by simp [Act.eval]) Try.func60 (by decide) rfl ?_
  refine turn_mem 1 j _ Hm rfl (fun g hg => hH g ?_) hvw hn HM.out ht hz hcont hstop _ rfl
  intro z1 Ch1 St yy w1 v1 S1 K1 t1 x1 r1 n1 m1 h1 htb hop hce hK1 hn1 hk
  refine hg _ St yy w1 (dt_idle _ _) ?_
  refine goesI_regionEnd (dt_idle _ _) ?_
  rw [← htb]
  refine goesI_rest (f := 28) (fn := Try.f28) (c := rest17) hE fineT r1 n1 Try.func28 fine17 rfl hoc res17 (fun τ => ?_) (fun r v' w' hR hr' hn' => ?_) (R := fun r w' => r = (effLoad x1).2.2 ∧ ∃ tv, Evo z1 S1 K1 v1 (didS S1 tv i t1 (effLoad x1).1.1 (effLoad x1).1.2) (K1.set j (cb, (effLoad x1).2.1)) w')
  · refine wp_mono (tail17 (m1.same (v' := onTape v1 τ 0) rfl) h1 hK1 hn1 _ _ _ _ _ _) (bp_mono fun r u hq => ⟨hq.1, hq.2.choose, hq.2.choose_spec.base rfl rfl rfl⟩)
  · obtain ⟨rfl, tv, he⟩ := hR
    exact hk v' w' tv hr' hn' he
end Go.Proofs.Ytfjjoohflcchnaa

namespace Go.Proofs.Ytfjjoohflcchnaa
open Go Go.Lift Go.Conc Go.RowKit

def effCas (a y x : Int) : (Int × Int) × Int × Value := if x = a then ((a, y), y, .bool true) else ((x, x), x, .bool false)
noncomputable def rest14 : Code := seq2 (seq2 (Try.f25.body.getD .skip))
theorem fine14 : fineCode Try.prog true LT rest14 := fineCode_ask callT extT (by kernel_rfl)

set_option maxHeartbeats 1000000 in
set_option maxRecDepth 100000 in
theorem tail14 {z : Nat → Option Nat} {S : TS} {K : List (Nat × Int)} {v : World} {i j cb : Nat} {t : Thr} {x : Int} {a y : Int} (hm : Mem z S K v) (ht : S.thr[i]? = some t) (hK : K[j]? = some (cb, x)) (hn : (S.n + 1) * 40 ≤ 140737488355328) (a10 a11 a12 a13 a14 a15 : Value) :
    rest14.wp Try.prog (bodyPost Try.prog Try.f25 (fun e w' => ∃ r, e = .returned r ∧ (r = (effCas a y x).2.2 ∧ ∃ tv, Evo z S K v (didS S tv i t (effCas a y x).1.1 (effCas a y x).1.2) (K.set j (cb, (effCas a y x).2.1)) w')))
      { tmps := #[Pt cb 0, Pt t.tb 0, I a, I y, undef, undef, undef, undef, .bool false, undef, a10, a11, a12, a13, a14, a15, undef, undef, undef, undef, undef, undef, undef, undef, undef, undef, undef, undef, undef, undef, undef, undef, undef, undef], defers := [] } v := by
  obtain ⟨_, c1, f1⟩ := hm.cells hK
  have HM : Hid (Mem z S K v) := ⟨hm⟩
  by_cases hx : x = a
  · subst hx
    have HW : Hid (Evo z S K v S (K.set j (cb, y)) (v.setCell ⟨cb, 1, none⟩ (I y))) := ⟨Evo.write hm hK _⟩
    have HQ : Hid (effCas x y x = ((x, y), y, .bool true)) := ⟨by simp [effCas]⟩
    rw [HQ.out]
    clear hm hK
    simp only at c1 f1
    show Code.wp Try.prog (seq2 (seq2 (Try.f25.body.getD .skip))) _ _ _
    unfold Try.f25 seq2
    simp only [Option.getD_some]
    go_wp2_with (first
      | (go_at_call 62; refine ((body28 cb x y _ c1 f1).calls Try.func62 rfl).mono ?_; rintro e w1 ⟨_, rfl, rfl, rfl⟩)
      | (go_at_call 61; refine ((body27 HW.out.mem.rep ht x y hn).calls Try.func61 rfl).mono ?_; rintro e w2 ⟨_, rfl, rfl, tv, hev⟩))
    go_ret
    exact ⟨_, rfl, rfl, tv, HW.out.did hev⟩
  have HW : Hid (Evo z S K v S (K.set j (cb, x)) v) := ⟨by rw [set_same hK]; exact Evo.refl hm⟩
  have HQ : Hid (effCas a y x = ((x, x), x, .bool false)) := ⟨by simp [effCas, hx]⟩
  rw [HQ.out]
  clear hm hK
  simp only at c1 f1
  show Code.wp Try.prog (seq2 (seq2 (Try.f25.body.getD .skip))) _ _ _
  unfold Try.f25 seq2
  simp only [Option.getD_some]
  go_wp2_with (first
    | (go_at_call 62; refine ((body28n cb x a y _ c1 f1 hx).calls Try.func62 rfl).mono ?_; rintro e w1 ⟨_, rfl, rfl, rfl⟩)
    | (go_at_call 63; refine ((body29 cb x _ c1).calls Try.func63 rfl).mono ?_; rintro e w1 ⟨_, rfl, rfl, rfl⟩)
    | (go_at_call 61; refine ((body27 HW.out.mem.rep ht x x hn).calls Try.func61 rfl).mono ?_; rintro e w2 ⟨_, rfl, rfl, tv, hev⟩))
  go_ret
  exact ⟨_, rfl, rfl, tv, HW.out.did hev⟩

theorem res14 (tmps : Array Value) : ∃ v, (∀ w, (results Try.f25 tmps).run Try.prog w = .ok v w) ∧ ∀ w, (results Try.f25 tmps).events Try.prog w #[] = #[] :=
  ⟨_, fun _ => results_tmp rfl _ _ _, fun _ => by simp [results, go_sem]⟩

set_option maxHeartbeats 1000000 in
set_option maxRecDepth 100000 in
theorem cas_goes {z : Nat → Option Nat} {Ch : Nat → Prop} {Stop : Goroutine → World → Prop} {h : Nat} {cont : Addr → Value} {S : TS} {K : List (Nat × Int)} {v w : World} {i j cb : Nat} {t : Thr} (a y : Int) (x : Int) (cs : List Frame) (Hm : Goroutine → Prop) {bc : Frame} {ac : Act} {ops : Array Oper} {q : Nat} {rest : List Nat} {oc : Oper} {k : List Item} (hoc : ops[q]? = some oc)
    (hH : ∀ g, OpBack (h == 0) i j cb t.tb 4 (effCas a y) (fun r => G (bc.at (ac.put oc.dst r) (.inRegion ops rest :: k)) cs) g → Hm g)
    (hvw : Rel z v w) (hn : NoRow Ch v) (hm : Mem z S K v) (ht : S.thr[i]? = some t) (hK : K[j]? = some (cb, x)) (hz : z t.tb = some 2) (hcont : cont ⟨t.tb, 2, none⟩ = .chan (some t.gc))
    (hstop : ∀ g w', GiveT z cont h S.bk t.gc Hm (Then z Ch S K v (waiting S i t 1 4 j) K) g w' → Stop g w') (code : Code) (hc : Try.f25.body = some code) :
    GoesI Try.prog (h == 0) (DT (ScZ z) Ch) Stop (G ((base 25).at { tmps := #[Pt cb 0, Pt t.tb 0, I a, I y] ++ Array.replicate 30 undef, defers := [] } [.code code]) (bc.at ac (.inRegion ops (q :: rest) :: k) :: cs)) w := by
  obtain rfl := Option.some.inj hc
  clear hc
  have e0 : w.cell? ⟨cb, 0, none⟩ = some (I j) := by rw [hvw.cell?]; exact (hm.cells hK).1
  simp only [Array.replicate_succ, Array.replicate_zero, List.push_toArray, List.append_toArray, List.nil_append, List.cons_append]
  have HM : Hid (Mem z S K v) := ⟨hm⟩
  clear hm
  refine goesI_seq (dt_idle _ _) ?_
  refine goesI_region (dt_idle _ _) ?_
  simp only [List.size_toArray, List.length_cons, List.length_nil, Nat.reduceAdd, Nat.zero_add, List.range, List.range.loop]
  (refine goesI_oper rfl rfl (by decide) (fun d K hK => ?_)
   go_simp
   refine hK _ _ ⟨dt_reads (fun e he => ?_), GoesI.at ?_ d⟩
   · have hm := mem_listed he
     simp [go_sem, *] at hm
   clear hK K)
  refine goesI_regionEnd (dt_idle _ _) ?_
  refine goesI_seq (dt_idle _ _) ?_
  refine goesI_region (dt_idle _ _) ?_
  simp only [List.size_toArray, List.length_cons, List.length_nil, Nat.reduceAdd, Nat.zero_add, List.range, List.range.loop]
  iterate 5
    (refine goesI_oper rfl rfl (by decide) (fun d K hK => ?_)
     go_simp
     refine hK _ _ ⟨dt_reads (fun e he => ?_), GoesI.at ?_ d⟩
     · have hm := mem_listed he
       simp [go_sem, *] at hm
       try exact ⟨_, _, hm⟩
     clear hK K)
  refine goesI_into (f := 60) (fn := Try.f60) (args := #[Pt t.tb 0, I j, I 4]) (dt_idle _ _) rfl rfl (by decide) rfl (by simp [Act.eval]) Try.func60 (by decide) rfl ?_
  refine turn_mem 4 j _ Hm rfl (fun g hg => hH g ?_) hvw hn HM.out ht hz hcont hstop _ rfl
  intro z1 Ch1 St yy w1 v1 S1 K1 t1 x1 r1 n1 m1 h1 htb hop hce hK1 hn1 hk
  refine hg _ St yy w1 (dt_idle _ _) ?_
  refine goesI_regionEnd (dt_idle _ _) ?_
  rw [← htb]
  refine goesI_rest (f := 25) (fn := Try.f25) (c := rest14) hE fineT r1 n1 Try.func25 fine14 rfl hoc res14 (fun τ => ?_) (fun r v' w' hR hr' hn' => ?_) (R := fun r w' => r = (effCas a y x1).2.2 ∧ ∃ tv, Evo z1 S1 K1 v1 (didS S1 tv i t1 (effCas a y x1).1.1 (effCas a y x1).1.2) (K1.set j (cb, (effCas a y x1).2.1)) w')
  · refine wp_mono (tail14 (m1.same (v' := onTape v1 τ 0) rfl) h1 hK1 hn1 _ _ _ _ _ _) (bp_mono fun r u hq => ⟨hq.1, hq.2.choose, hq.2.choose_spec.base rfl rfl rfl⟩)
  · obtain ⟨rfl, tv, he⟩ := hR
    exact hk v' w' tv hr' hn' he
end Go.Proofs.Ytfjjoohflcchnaa

namespace Go.Lift
open Go.Conc
section
variable {P : Program} {main : Bool} {Stop : Goroutine → World → Prop} {k : List Item} {cs : List Frame} {w : World} {ops : Array Oper} {i : Nat} {rest : List Nat} {o : Oper}

/-- A return: what the results read in the lone world is what they read in company. -/
theorem goesI_leaveZ {z : Nat → Option Nat} {Ch : Nat → Prop} {f : FuncId} {fn : Func} {a : Act} {todo : List Item} {bc : Frame} {ac : Act} {x : Value} {v : World} (hvw : Rel z v w) (hn : NoRow Ch v) (hf : P.funcs[f]? = some fn) (ha : a.defers = []) (ho : ops[i]? = some o)
    (hx : (results fn a.tmps).run P v = .ok x v)
    (h : ∀ w', Rel z v w' → GoesI P main (DT (ScZ z) Ch) Stop (G (bc.at (ac.put o.dst x) (.inRegion ops rest :: k)) cs) w') :
    GoesI P main (DT (ScZ z) Ch) Stop (G { (base f).at a todo with mode := .returning } (bc.at ac (.inRegion ops (i :: rest) :: k) :: cs)) w := by
  have hT : (results fn a.tmps).runT P v #[] = (.ok x v, (results fn a.tmps).events P v #[]) := by
    have := runT_fst (P := P) (results fn a.tmps) v #[]
    rw [hx] at this
    exact Prod.ext this rfl
  have hfin : (bc.at ac (.inRegion ops (i :: rest) :: k)).finish x = bc.at (ac.put o.dst x) (.inRegion ops rest :: k) := by rw [Frame.finish_at, ho]; rfl
  have one : ∀ d, ∃ w', Out z true v v (w.at d) w' ∧ (∀ e ∈ seen P f ((results fn a.tmps).events P (w.at d) #[]), Okay true e ∧ Spares z w' e) ∧
      stepG P main (G { (base f).at a todo with mode := .returning } (bc.at ac (.inRegion ops (i :: rest) :: k) :: cs)) (w.at d) = .go (G (bc.at (ac.put o.dst x) (.inRegion ops rest :: k)) cs) w' (seen P f ((results fn a.tmps).events P (w.at d) #[])) := fun d => by
    obtain ⟨w', h1, h2, h3⟩ := sim z _ (calm_results (P := P) (wr := true) fn a.tmps) v (w.at d) #[] x v _ (hvw.re rfl rfl rfl rfl rfl rfl) hT (fun i hi => absurd hi (by omega))
    have e1 : (results fn a.tmps).run P (w.at d) = .ok x w' := by rw [← runT_fst (P := P) _ (w.at d) #[], h1]
    have e2 : (results fn a.tmps).events P (w.at d) #[] = (results fn a.tmps).events P v #[] := by
      show ((results fn a.tmps).runT P (w.at d) #[]).2 = _
      rw [h1]
    refine ⟨w', h2, fun e he => ?_, ?_⟩
    · rw [e2] at he
      rcases h3 e (mem_seen he) with h | h
      · simp at h
      · exact h
    · have := stepG_back (P := P) (main := main) (b := base f) (cs := cs) (todo := todo) (c := bc.at ac (.inRegion ops (i :: rest) :: k)) rfl ha hf e1
      rw [hfin] at this
      exact this
  exact .step rfl _ (fun d => (one d).choose) _ (fun d => (one d).choose_spec.2.2) (fun d => dt_of_z v v (w.at d) _ _ hn (hvw.re rfl rfl rfl rfl rfl rfl) (one d).choose_spec.1 (one d).choose_spec.2.1) (fun d => h _ (one d).choose_spec.1.rel)

/-- A step that touches one block alone, by which nobody sits. -/
theorem dt_block {Sc : Addr → Prop} {Ch : Nat → Prop} {w' : World} {es : Array Event} {B : Nat} (hB : ∀ a, Sc a → a.block ≠ B) (hC : ∀ c, Ch c → c ≠ B) (hw : ∀ b, b ≠ B → w'.heap[b]? = w.heap[b]?) (he : ∀ e ∈ es, ∃ a, e.loc = .cell a ∧ a.block = B) : DTw Sc Ch w w' es := by
  refine ⟨fun a x ha hx => ?_, fun c o hc ho => by rw [hw c (hC c hc)]; exact ho, fun e h => ?_⟩
  · rw [World.cell?_of_block (hw a.block (hB a ha))]; exact hx
  · obtain ⟨a, h1, h2⟩ := he e h
    exact ⟨.inl ⟨a, h1, fun h => nomatch h⟩, fun a' h3 _ hs => by rw [h1] at h3; cases h3; exact hB a hs h2⟩
end
end Go.Lift

namespace Go.Proofs.Ytfjjoohflcchnaa
open Go Go.Lift Go.Conc Go.RowKit

set_option maxHeartbeats 1000000 in
set_option maxRecDepth 100000 in
theorem body43 {z : Nat → Option Nat} {S : TS} {v : World} (h : Rep z S v) {i : Nat} {t : Thr} (ht : S.thr[i]? = some t) (op a b : Int) (hn : (S.n + 1) * 40 ≤ 140737488355328) :
    Body Try.f106 #[Pt t.tb 0, I op, I a, I b] v (fun r v' => r = .tuple #[] ∧ ∃ tv, Ev z S v (noted S tv i op (-1) a b) v') := by
  intro code hb
  obtain rfl := Option.some.inj hb
  clear hb
  simp only [Try.ntmps106, List.size_toArray, List.length_cons, List.length_nil, Nat.reduceAdd, Nat.reduceSub, Array.replicate_succ, Array.replicate_zero, List.push_toArray, List.append_toArray, List.nil_append, List.cons_append]
  obtain ⟨c0, _, _, _, _, _, _⟩ := h.cell ht
  have HR : Hid (Rep z S v) := ⟨h⟩
  clear h
  go_wp2_with (go_at_call 89; refine ((note_rep HR.out ht op (-1) a b hn).calls Try.func89 rfl).mono ?_; rintro e w1 ⟨_, rfl, rfl, tv, hev⟩)
  exact ⟨rfl, _, results_none rfl _ _ _, _, rfl, rfl, tv, hev⟩

section
variable {z : Nat → Option Nat} {S : TS} {K : List (Nat × Int)} {v v' : World}
/-- All that was there is as it was. -/
structure Grows (v v' : World) : Prop where
  size : v.heap.size ≤ v'.heap.size
  old : ∀ b, b < v.heap.size → v'.heap[b]? = v.heap[b]?
  os : v'.os = v.os
  output : v'.output = v.output
theorem Grows.cell {a : Addr} {x : Value} (h : Grows v v') (hc : v.cell? a = some x) : v'.cell? a = some x := by
  rw [World.cell?_of_block (h.old a.block (World.block_lt_of_cell? _ _ hc))]; exact hc
theorem Mem.grows (h : Mem z S K v) (g : Grows v v') : Evo z S K v S K v' := by
  have hst : ∀ b, Own S K b → v'.heap[b]? = v.heap[b]? := fun b hb => g.old b (h.lt hb)
  have hits : ∀ k b, blk S k = some b → v'.heap[b]? = v.heap[b]? := fun k b hk => hst b (.inl ⟨k, hk⟩)
  refine ⟨⟨⟨by rw [hits 0 S.wb rfl]; exact h.rep.wor, fun i t ht => by rw [hits (i + 5) t.tb (by simp [blk, ht])]; exact h.rep.thr i t ht, own_stay (fun b hb => hits 3 b hb) h.rep.own, own_stay (fun b hb => hits 1 b hb) h.rep.chg, own_stay (fun b hb => hits 2 b hb) h.rep.ths, own_stay (fun b hb => hits 4 b hb) h.rep.sch,
      Nat.le_trans h.rep.bs g.size, h.rep.apart, h.rep.kept⟩, fun j c hc => by rw [hst c.1 (.inr ⟨j, c, hc, rfl⟩)]; exact h.cel j c hc, h.far, h.inj, h.len⟩, rfl, ⟨g.os, g.output, g.size, fun b hb _ => g.old b hb⟩, fun b hb => .inl hb⟩
end
end Go.Proofs.Ytfjjoohflcchnaa
