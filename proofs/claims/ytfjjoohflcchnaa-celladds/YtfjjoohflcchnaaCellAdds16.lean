/- CellAdds returns true, whatever the schedule, the start and the numbers, and leaves what it was given as it was: of the law's statement as given, with no condition of our own. Part 16 of 34. (Joined, by program, of: Call1, Call2, Call3.) -/
import Derived.Test.YtfjjoohflcchnaaCellAdds10
import Derived.Test.YtfjjoohflcchnaaCellAdds11
import Derived.Test.YtfjjoohflcchnaaCellAdds15
set_option linter.unusedSimpArgs false
set_option linter.unusedVariables false
namespace Go.Proofs.Ytfjjoohflcchnaa
open Go Go.Lift Go.Conc Go.RowKit

set_option maxHeartbeats 1000000 in
set_option maxRecDepth 100000 in
theorem call1_goes {z : Nat → Option Nat} {Ch : Nat → Prop} {Stop : Goroutine → World → Prop} {h : Nat} {cont : Addr → Value} {S : TS} {K : List (Nat × Int)} {v w : World} {i j cb : Nat} {t : Thr} (ca n cc x : Int) (cs : List Frame) (Hm : Nat → Goroutine → Prop) {bc : Frame} {ac : Act} {ops : Array Oper} {q : Nat} {rest : List Nat} {oc : Oper} {k : List Item} (hoc : ops[q]? = some oc)
    (hH : ∀ g, CallBack (h == 0) i j cb t.tb (v.heap.size + 1) 1 effLoad (fun r => #[I 0, r]) (fun r => G (bc.at (ac.put oc.dst r) (.inRegion ops rest :: k)) cs) g → Hm (v.heap.size + 1) g)
    (hvw : Rel z v w) (hn : NoRow Ch v) (hm : Mem z S K v) (ht : S.thr[i]? = some t) (hK : K[j]? = some (cb, x)) (hz : z t.tb = some 2) (hcont : cont ⟨t.tb, 2, none⟩ = .chan (some t.gc))
    (hstop : ∀ v1 g w', Grows v v1 → v1.heap[v.heap.size + 1]? = some (.cells #[I 0, I 0] 42 (0, 0)) → GiveT z cont h S.bk t.gc (Hm (v.heap.size + 1)) (Then z Ch S K v1 (waiting S i t 1 1 j) K) g w' → Stop g w') (code : Code) (hc : Try.f57.body = some code) :
    GoesI Try.prog (h == 0) (DT (ScZ z) Ch) Stop (G ((base 57).at { tmps := #[Pt cb 0, Pt t.tb 0, .agg #[I 1, I ca, I n, I cc]] ++ Array.replicate 57 undef, defers := [] } [.code code]) (bc.at ac (.inRegion ops (q :: rest) :: k) :: cs)) w := by
  have hw0 : code = .seq call0 (seq2 (Try.f57.body.getD .skip)) := by
    rw [hc]; obtain rfl := Option.some.inj hc; rfl
  subst hw0
  clear hc
  refine goesI_seq (dt_idle _ _) ?_
  refine goesI_plain (z := z) (wr := true) (L := LT) (I := NoRow Ch) hE fineT noRow_keeps (fun v v' w w' es hi hr ho he => dt_of_z v v' w w' es hi hr ho he) hvw fineCall0 rfl (by simp [base]) hn
    (Q := fun a w' => a = { tmps := #[Pt cb 0, Pt t.tb 0, .agg #[I 1, I ca, I n, I cc], undef, undef, Pt v.heap.size 0, Pt (v.heap.size + 1) 0] ++ Array.replicate 53 undef, defers := [] } ∧
      w'.heap = (v.heap.push (.cells #[I 1, I ca, I n, I cc] 39)).push (.cells #[I 0, I 0] 42) ∧ w'.os = v.os ∧ w'.output = v.output) (fun τ => ?_) ?_
  · show Code.wp Try.prog (seq1 (Try.f57.body.getD .skip)) _ _ _
    unfold Try.f57 seq1
    simp only [Option.getD_some, Array.replicate_succ, Array.replicate_zero, List.push_toArray, List.append_toArray, List.nil_append, List.cons_append]
    go_wp2_with fail
    exact ⟨rfl, rfl, rfl, rfl⟩
  rintro a' v' w' ⟨rfl, hv1, hv2, hv3⟩ hr' hn' -
  have hsz : v'.heap.size = v.heap.size + 2 := by rw [hv1]; simp
  have hg : Grows v v' := ⟨by omega, fun b hb => by rw [hv1, Array.getElem?_push, if_neg (by simp; omega), Array.getElem?_push, if_neg (by omega)], hv2, hv3⟩
  have hbox : v'.heap[v.heap.size]? = some (.cells #[I 1, I ca, I n, I cc] 39) := by rw [hv1, Array.getElem?_push, if_neg (by simp)]; exact Array.getElem?_push_size
  have hans : v'.heap[v.heap.size + 1]? = some (.cells #[I 0, I 0] 42) := by rw [hv1, Array.getElem?_push, if_pos (by simp)]
  have b0 : w'.cell? ⟨v.heap.size, 0, none⟩ = some (I 1) := by rw [hr'.cell?]; simp [World.cell?, hbox]
  have b2 : w'.cell? ⟨v.heap.size, 2, none⟩ = some (I n) := by rw [hr'.cell?]; simp [World.cell?, hbox]
  have HV : Hid (Grows v v' ∧ v'.heap[v.heap.size + 1]? = some (.cells #[I 0, I 0] 42) ∧ Evo z S K v S K v' ∧ NoRow Ch v' ∧ Rel z v' w') := ⟨⟨hg, hans, hm.grows hg, hn', hr'⟩⟩
  clear hv1 hv2 hv3 hsz hg hbox hans hn' hm hvw hn hr'
  generalize hN : v.heap.size = N at b0 b2 HV hH hstop ⊢
  simp only [Array.replicate_succ, Array.replicate_zero, List.push_toArray, List.append_toArray, List.nil_append, List.cons_append]
  show GoesI Try.prog (h == 0) (DT (ScZ z) Ch) Stop (G ((base 57).at _ [.code (seq2 (Try.f57.body.getD .skip))]) _) w'
  unfold Try.f57 seq2
  simp only [Option.getD_some]
  refine goesI_seq (dt_idle _ _) ?_
  refine goesI_seq (dt_idle _ _) ?_
  refine goesI_region (dt_idle _ _) ?_
  simp only [List.size_toArray, List.length_cons, List.length_nil, Nat.reduceAdd, Nat.zero_add, List.range, List.range.loop]
  iterate 2
    (refine goesI_oper rfl rfl (by decide) (fun d K hK => ?_)
     go_simp
     refine hK _ _ ⟨dt_reads (fun e he => ?_), GoesI.at ?_ d⟩
     · have hm := mem_listed he
       simp [go_sem, *] at hm
       try exact ⟨_, _, hm⟩
     clear hK K)
  refine goesI_regionEnd (dt_idle _ _) ?_
  refine goesI_block (dt_idle _ _) ?_
  refine goesI_seq (dt_idle _ _) ?_
  refine goesI_region (dt_idle _ _) ?_
  simp only [List.size_toArray, List.length_cons, List.length_nil, Nat.reduceAdd, Nat.zero_add, List.range, List.range.loop]
  iterate 2
    (refine goesI_oper rfl rfl (by decide) (fun d K hK => ?_)
     go_simp
     refine hK _ _ ⟨dt_reads (fun e he => ?_), GoesI.at ?_ d⟩
     · have hm := mem_listed he
       simp [go_sem, *] at hm
       try exact ⟨_, _, hm⟩
     clear hK K)
  refine goesI_regionEnd (dt_idle _ _) ?_
  refine goesI_cond (dt_idle _ _) (t := true) rfl ?_
  simp only [if_true, if_false, Bool.false_eq_true]
  refine goesI_seq (dt_idle _ _) ?_
  refine goesI_region (dt_idle _ _) ?_
  simp only [List.size_toArray, List.length_cons, List.length_nil, Nat.reduceAdd, Nat.zero_add, List.range, List.range.loop]
  iterate 2
    (refine goesI_oper rfl rfl (by decide) (fun d K hK => ?_)
     go_simp
     refine hK _ _ ⟨dt_reads (fun e he => ?_), GoesI.at ?_ d⟩
     · have hm := mem_listed he
       simp [go_sem, *] at hm
       try exact ⟨_, _, hm⟩
     clear hK K)
  refine goesI_into (f := 28) (fn := Try.f28) (args := #[Pt cb 0, Pt t.tb 0]) (dt_idle _ _) rfl rfl (by decide) rfl (by simp [Act.eval]) Try.func28 (by decide) rfl ?_
  refine load_goes x _ (Hm (N + 1)) rfl (fun g hg => hH g ?_) HV.out.2.2.2.2 HV.out.2.2.2.1 HV.out.2.2.1.mem ht hK hz hcont (fun g w'' hg => hstop v' g w'' HV.out.1 HV.out.2.1 hg) _ rfl
  intro z1 Ch1 St y w1 v1 S1 K1 t1 x1 r1 n1 m1 h1 htb hop hce hK1 hn1 hab hown hk
  refine hg z1 Ch1 St y w1 v1 S1 K1 t1 x1 r1 n1 m1 h1 htb hop hce hK1 hn1 (fun v2 w2 tv r2 n2 ev => ?_)
  have hlt : N + 1 < v1.heap.size := (Array.getElem?_eq_some_iff.1 hab).1
  have hab2 : v2.heap[N + 1]? = some (.cells #[I 0, I 0] 42 (0, 0)) := by rw [ev.fr.block _ hlt hown]; exact hab
  have hown2 : ¬ Own (didS S1 tv i t1 (effLoad x1).1.1 (effLoad x1).1.2) (K1.set j (cb, (effLoad x1).2.1)) (N + 1) := fun hO => (ev.new _ hO).elim hown (fun hle => by omega)
  have q0 : w2.cell? ⟨N + 1, 0, none⟩ = some (I 0) := by rw [r2.cell?]; simp [World.cell?, hab2]
  have q1 : w2.cell? ⟨N + 1, 1, none⟩ = some (I 0) := by rw [r2.cell?]; simp [World.cell?, hab2]
  have p0 : w2.frozen? ⟨N + 1, 0, none⟩ = false := r2.thawed (by simp [World.frozen?, hab2])
  have p1 : w2.frozen? ⟨N + 1, 1, none⟩ = false := r2.thawed (by simp [World.frozen?, hab2])
  have HK : Hid (∀ v' w' tv, Rel z1 v' w' → NoRow Ch1 v' → EvoP (· = N + 1) z1 S1 K1 v1 (didS S1 tv i t1 (effLoad x1).1.1 (effLoad x1).1.2) (K1.set j (cb, (effLoad x1).2.1)) v' → GoesI Try.prog (h == 0) (DT (ScZ z1) Ch1) St (G (bc.at (ac.put oc.dst (.agg #[I 0, (effLoad x1).2.2])) (.inRegion ops rest :: k)) cs) w') := ⟨hk⟩
  have HB : Hid (EvoP (· = N + 1) z1 S1 K1 v1 (didS S1 tv i t1 (effLoad x1).1.1 (effLoad x1).1.2) (K1.set j (cb, (effLoad x1).2.1)) v2 ∧ Rel z1 v2 w2 ∧ NoRow Ch1 v2 ∧ v2.heap[N + 1]? = some (.cells #[I 0, I 0] 42 (0, 0))) := ⟨⟨ev.toP, r2, n2, hab2⟩⟩
  have HD : Hid ((∀ a, ScZ z1 a → a.block ≠ N + 1) ∧ ∀ c, Ch1 c → c ≠ N + 1) := ⟨⟨ev.mem.noKept hown2, fun c hc e => by
    obtain ⟨o, o1, o2⟩ := n2 c hc
    rw [e, hab2] at o1
    cases o1
    exact o2 _ _ _ rfl⟩⟩
  have HO : Hid (¬ Own (didS S1 tv i t1 (effLoad x1).1.1 (effLoad x1).1.2) (K1.set j (cb, (effLoad x1).2.1)) (N + 1)) := ⟨hown2⟩
  show GoesI Try.prog (h == 0) (DT (ScZ z1) Ch1) St (G ((base 57).at (Act.put _ _ (I x1)) _) _) w2
  clear hk ev r2 n2 hab2 hown2 hab hown hlt hH hstop hg HV b0 b2 r1 n1 m1 h1 htb hop hce hK1 hn1
  walk_nrm
  (refine goesI_oper rfl rfl (by decide) (fun d K hK => ?_)
   go_simp
   refine hK _ _ ⟨dt_reads (fun e he => ?_), GoesI.at ?_ d⟩
   · have hm := mem_listed he
     simp [go_sem, *] at hm
   clear hK K)
  refine goesI_oper rfl rfl (by decide) (fun d K hK => ?_)
  go_simp
  refine hK _ _ ⟨dt_block (B := N + 1) HD.out.1 HD.out.2 (fun b hb => ?_) (fun e he => ?_), ?_⟩
  · rw [Below.heap_setCell _ _ _ _ hb, Below.heap_setCell _ _ _ _ hb]
  · have hm := mem_listed he
    simp [go_sem, storedEv, *] at hm
    rcases hm with rfl | rfl <;> exact ⟨_, rfl, rfl⟩
  clear hK
  obtain ⟨ev, r2, n2, hab2⟩ := HB.out
  have r3 : Rel z1 ((v2.setCell ⟨N + 1, 0, none⟩ (I 0)).setCell ⟨N + 1, 1, none⟩ (I x1)) (((w2.at d).setCell ⟨N + 1, 0, none⟩ (I 0)).setCell ⟨N + 1, 1, none⟩ (I x1)) :=
    ((r2.re (w' := w2.at d) rfl rfl rfl rfl rfl rfl).setCell _ _).setCell _ _
  have hrow : ((v2.setCell ⟨N + 1, 0, none⟩ (I 0)).setCell ⟨N + 1, 1, none⟩ (I x1)).heap[N + 1]? = some (.cells #[I 0, I x1] 42 (0, 0)) := by
    have := heap_setCell_same (o := 1) (heap_setCell_same (o := 0) hab2 (I 0)) (I x1)
    simpa using this
  have n3 : NoRow Ch1 ((v2.setCell ⟨N + 1, 0, none⟩ (I 0)).setCell ⟨N + 1, 1, none⟩ (I x1)) := fun c hc => by
    rw [Below.heap_setCell _ _ _ _ (HD.out.2 c hc), Below.heap_setCell _ _ _ _ (HD.out.2 c hc)]
    exact n2 c hc
  have e3 := ev.trans (ev.mem.other (v' := (v2.setCell ⟨N + 1, 0, none⟩ (I 0)).setCell ⟨N + 1, 1, none⟩ (I x1)) HO.out (fun b hb => by rw [Below.heap_setCell _ _ _ _ hb, Below.heap_setCell _ _ _ _ hb]) (by simp [World.setCell]) rfl rfl)
  refine goesI_regionEnd (dt_idle _ _) ?_
  refine GoesI.ctl rfl (fun _ => stepG_ret') (dt_idle _ _) ?_
  refine goesI_leaveZ (f := 57) (fn := Try.f57) (x := .agg #[I 0, I x1]) r3 n3 Try.func57 rfl hoc ?_ (fun w' r' => HK.out _ w' tv r' n3 e3)
  generalize ((v2.setCell ⟨N + 1, 0, none⟩ (I 0)).setCell ⟨N + 1, 1, none⟩ (I x1)) = V at hrow
  have k0 : V.cell? ⟨N + 1, 0, none⟩ = some (I 0) := by simp [World.cell?, hrow]
  have k1 : V.cell? ⟨N + 1, 1, none⟩ = some (I x1) := by simp [World.cell?, hrow]
  simp [results, go_sem, Try.f57, *]
end Go.Proofs.Ytfjjoohflcchnaa

namespace Go.Proofs.Ytfjjoohflcchnaa
open Go Go.Lift Go.Conc Go.RowKit

set_option maxHeartbeats 1000000 in
set_option maxRecDepth 100000 in
theorem call2_goes {z : Nat → Option Nat} {Ch : Nat → Prop} {Stop : Goroutine → World → Prop} {h : Nat} {cont : Addr → Value} {S : TS} {K : List (Nat × Int)} {v w : World} {i j cb : Nat} {t : Thr} (ca n cc x : Int) (cs : List Frame) (Hm : Nat → Goroutine → Prop) {bc : Frame} {ac : Act} {ops : Array Oper} {q : Nat} {rest : List Nat} {oc : Oper} {k : List Item} (hoc : ops[q]? = some oc)
    (hH : ∀ g, CallBack (h == 0) i j cb t.tb (v.heap.size + 1) 2 (effStore n) (fun _ => #[I 0, I 0]) (fun r => G (bc.at (ac.put oc.dst r) (.inRegion ops rest :: k)) cs) g → Hm (v.heap.size + 1) g)
    (hvw : Rel z v w) (hn : NoRow Ch v) (hm : Mem z S K v) (ht : S.thr[i]? = some t) (hK : K[j]? = some (cb, x)) (hz : z t.tb = some 2) (hcont : cont ⟨t.tb, 2, none⟩ = .chan (some t.gc))
    (hstop : ∀ v1 g w', Grows v v1 → v1.heap[v.heap.size + 1]? = some (.cells #[I 0, I 0] 42 (0, 0)) → GiveT z cont h S.bk t.gc (Hm (v.heap.size + 1)) (Then z Ch S K v1 (waiting S i t 1 2 j) K) g w' → Stop g w') (code : Code) (hc : Try.f57.body = some code) :
    GoesI Try.prog (h == 0) (DT (ScZ z) Ch) Stop (G ((base 57).at { tmps := #[Pt cb 0, Pt t.tb 0, .agg #[I 2, I ca, I n, I cc]] ++ Array.replicate 57 undef, defers := [] } [.code code]) (bc.at ac (.inRegion ops (q :: rest) :: k) :: cs)) w := by
  have hw0 : code = .seq call0 (seq2 (Try.f57.body.getD .skip)) := by
    rw [hc]; obtain rfl := Option.some.inj hc; rfl
  subst hw0
  clear hc
  refine goesI_seq (dt_idle _ _) ?_
  refine goesI_plain (z := z) (wr := true) (L := LT) (I := NoRow Ch) hE fineT noRow_keeps (fun v v' w w' es hi hr ho he => dt_of_z v v' w w' es hi hr ho he) hvw fineCall0 rfl (by simp [base]) hn
    (Q := fun a w' => a = { tmps := #[Pt cb 0, Pt t.tb 0, .agg #[I 2, I ca, I n, I cc], undef, undef, Pt v.heap.size 0, Pt (v.heap.size + 1) 0] ++ Array.replicate 53 undef, defers := [] } ∧
      w'.heap = (v.heap.push (.cells #[I 2, I ca, I n, I cc] 39)).push (.cells #[I 0, I 0] 42) ∧ w'.os = v.os ∧ w'.output = v.output) (fun τ => ?_) ?_
  · show Code.wp Try.prog (seq1 (Try.f57.body.getD .skip)) _ _ _
    unfold Try.f57 seq1
    simp only [Option.getD_some, Array.replicate_succ, Array.replicate_zero, List.push_toArray, List.append_toArray, List.nil_append, List.cons_append]
    go_wp2_with fail
    exact ⟨rfl, rfl, rfl, rfl⟩
  rintro a' v' w' ⟨rfl, hv1, hv2, hv3⟩ hr' hn' -
  have hsz : v'.heap.size = v.heap.size + 2 := by rw [hv1]; simp
  have hg : Grows v v' := ⟨by omega, fun b hb => by rw [hv1, Array.getElem?_push, if_neg (by simp; omega), Array.getElem?_push, if_neg (by omega)], hv2, hv3⟩
  have hbox : v'.heap[v.heap.size]? = some (.cells #[I 2, I ca, I n, I cc] 39) := by rw [hv1, Array.getElem?_push, if_neg (by simp)]; exact Array.getElem?_push_size
  have hans : v'.heap[v.heap.size + 1]? = some (.cells #[I 0, I 0] 42) := by rw [hv1, Array.getElem?_push, if_pos (by simp)]
  have b0 : w'.cell? ⟨v.heap.size, 0, none⟩ = some (I 2) := by rw [hr'.cell?]; simp [World.cell?, hbox]
  have b2 : w'.cell? ⟨v.heap.size, 2, none⟩ = some (I n) := by rw [hr'.cell?]; simp [World.cell?, hbox]
  have HV : Hid (Grows v v' ∧ v'.heap[v.heap.size + 1]? = some (.cells #[I 0, I 0] 42) ∧ Evo z S K v S K v' ∧ NoRow Ch v' ∧ Rel z v' w') := ⟨⟨hg, hans, hm.grows hg, hn', hr'⟩⟩
  clear hv1 hv2 hv3 hsz hg hbox hans hn' hm hvw hn hr'
  generalize hN : v.heap.size = N at b0 b2 HV hH hstop ⊢
  simp only [Array.replicate_succ, Array.replicate_zero, List.push_toArray, List.append_toArray, List.nil_append, List.cons_append]
  show GoesI Try.prog (h == 0) (DT (ScZ z) Ch) Stop (G ((base 57).at _ [.code (seq2 (Try.f57.body.getD .skip))]) _) w'
  unfold Try.f57 seq2
  simp only [Option.getD_some]
  refine goesI_seq (dt_idle _ _) ?_
  refine goesI_seq (dt_idle _ _) ?_
  refine goesI_region (dt_idle _ _) ?_
  simp only [List.size_toArray, List.length_cons, List.length_nil, Nat.reduceAdd, Nat.zero_add, List.range, List.range.loop]
  iterate 2
    (refine goesI_oper rfl rfl (by decide) (fun d K hK => ?_)
     go_simp
     refine hK _ _ ⟨dt_reads (fun e he => ?_), GoesI.at ?_ d⟩
     · have hm := mem_listed he
       simp [go_sem, *] at hm
       try exact ⟨_, _, hm⟩
     clear hK K)
  refine goesI_regionEnd (dt_idle _ _) ?_
  refine goesI_block (dt_idle _ _) ?_
  refine goesI_seq (dt_idle _ _) ?_
  refine goesI_region (dt_idle _ _) ?_
  simp only [List.size_toArray, List.length_cons, List.length_nil, Nat.reduceAdd, Nat.zero_add, List.range, List.range.loop]
  iterate 2
    (refine goesI_oper rfl rfl (by decide) (fun d K hK => ?_)
     go_simp
     refine hK _ _ ⟨dt_reads (fun e he => ?_), GoesI.at ?_ d⟩
     · have hm := mem_listed he
       simp [go_sem, *] at hm
       try exact ⟨_, _, hm⟩
     clear hK K)
  refine goesI_regionEnd (dt_idle _ _) ?_
  refine goesI_cond (dt_idle _ _) (t := false) rfl ?_
  simp only [if_true, if_false, Bool.false_eq_true]
  refine goesI_seq (dt_idle _ _) ?_
  refine goesI_region (dt_idle _ _) ?_
  simp only [List.size_toArray, List.length_cons, List.length_nil, Nat.reduceAdd, Nat.zero_add, List.range, List.range.loop]
  iterate 2
    (refine goesI_oper rfl rfl (by decide) (fun d K hK => ?_)
     go_simp
     refine hK _ _ ⟨dt_reads (fun e he => ?_), GoesI.at ?_ d⟩
     · have hm := mem_listed he
       simp [go_sem, *] at hm
       try exact ⟨_, _, hm⟩
     clear hK K)
  refine goesI_regionEnd (dt_idle _ _) ?_
  refine goesI_cond (dt_idle _ _) (t := true) rfl ?_
  simp only [if_true, if_false, Bool.false_eq_true]
  refine goesI_seq (dt_idle _ _) ?_
  refine goesI_region (dt_idle _ _) ?_
  simp only [List.size_toArray, List.length_cons, List.length_nil, Nat.reduceAdd, Nat.zero_add, List.range, List.range.loop]
  iterate 4
    (refine goesI_oper rfl rfl (by decide) (fun d K hK => ?_)
     go_simp
     refine hK _ _ ⟨dt_reads (fun e he => ?_), GoesI.at ?_ d⟩
     · have hm := mem_listed he
       simp [go_sem, *] at hm
       try exact ⟨_, _, hm⟩
     clear hK K)
  refine goesI_into (f := 23) (fn := Try.f23) (args := #[Pt cb 0, Pt t.tb 0, I n]) (dt_idle _ _) rfl rfl (by decide) rfl (by simp [Act.eval]) Try.func23 (by decide) rfl ?_
  refine store_goes n x _ (Hm (N + 1)) rfl (fun g hg => hH g ?_) HV.out.2.2.2.2 HV.out.2.2.2.1 HV.out.2.2.1.mem ht hK hz hcont (fun g w'' hg => hstop v' g w'' HV.out.1 HV.out.2.1 hg) _ rfl
  intro z1 Ch1 St y w1 v1 S1 K1 t1 x1 r1 n1 m1 h1 htb hop hce hK1 hn1 hab hown hk
  refine hg z1 Ch1 St y w1 v1 S1 K1 t1 x1 r1 n1 m1 h1 htb hop hce hK1 hn1 (fun v2 w2 tv r2 n2 ev => ?_)
  have hlt : N + 1 < v1.heap.size := (Array.getElem?_eq_some_iff.1 hab).1
  have hab2 : v2.heap[N + 1]? = some (.cells #[I 0, I 0] 42 (0, 0)) := by rw [ev.fr.block _ hlt hown]; exact hab
  have hown2 : ¬ Own (didS S1 tv i t1 (effStore n x1).1.1 (effStore n x1).1.2) (K1.set j (cb, (effStore n x1).2.1)) (N + 1) := fun hO => (ev.new _ hO).elim hown (fun hle => by omega)
  have q0 : w2.cell? ⟨N + 1, 0, none⟩ = some (I 0) := by rw [r2.cell?]; simp [World.cell?, hab2]
  have q1 : w2.cell? ⟨N + 1, 1, none⟩ = some (I 0) := by rw [r2.cell?]; simp [World.cell?, hab2]
  have p0 : w2.frozen? ⟨N + 1, 0, none⟩ = false := r2.thawed (by simp [World.frozen?, hab2])
  have p1 : w2.frozen? ⟨N + 1, 1, none⟩ = false := r2.thawed (by simp [World.frozen?, hab2])
  have HK : Hid (∀ v' w' tv, Rel z1 v' w' → NoRow Ch1 v' → EvoP (· = N + 1) z1 S1 K1 v1 (didS S1 tv i t1 (effStore n x1).1.1 (effStore n x1).1.2) (K1.set j (cb, (effStore n x1).2.1)) v' → GoesI Try.prog (h == 0) (DT (ScZ z1) Ch1) St (G (bc.at (ac.put oc.dst (.agg #[I 0, I 0])) (.inRegion ops rest :: k)) cs) w') := ⟨hk⟩
  have HB : Hid (EvoP (· = N + 1) z1 S1 K1 v1 (didS S1 tv i t1 (effStore n x1).1.1 (effStore n x1).1.2) (K1.set j (cb, (effStore n x1).2.1)) v2 ∧ Rel z1 v2 w2 ∧ NoRow Ch1 v2 ∧ v2.heap[N + 1]? = some (.cells #[I 0, I 0] 42 (0, 0))) := ⟨⟨ev.toP, r2, n2, hab2⟩⟩
  have HD : Hid ((∀ a, ScZ z1 a → a.block ≠ N + 1) ∧ ∀ c, Ch1 c → c ≠ N + 1) := ⟨⟨ev.mem.noKept hown2, fun c hc e => by
    obtain ⟨o, o1, o2⟩ := n2 c hc
    rw [e, hab2] at o1
    cases o1
    exact o2 _ _ _ rfl⟩⟩
  have HO : Hid (¬ Own (didS S1 tv i t1 (effStore n x1).1.1 (effStore n x1).1.2) (K1.set j (cb, (effStore n x1).2.1)) (N + 1)) := ⟨hown2⟩
  show GoesI Try.prog (h == 0) (DT (ScZ z1) Ch1) St (G ((base 57).at (Act.put _ _ (.tuple #[])) _) _) w2
  clear hk ev r2 n2 hab2 hown2 hab hown hlt hH hstop hg HV b0 b2 r1 n1 m1 h1 htb hop hce hK1 hn1
  walk_nrm
  refine goesI_regionEnd (dt_idle _ _) ?_
  refine goesI_seq (dt_idle _ _) ?_
  refine goesI_region (dt_idle _ _) ?_
  simp only [List.size_toArray, List.length_cons, List.length_nil, Nat.reduceAdd, Nat.zero_add, List.range, List.range.loop]
  (refine goesI_oper rfl rfl (by decide) (fun d K hK => ?_)
   go_simp
   refine hK _ _ ⟨dt_reads (fun e he => ?_), GoesI.at ?_ d⟩
   · have hm := mem_listed he
     simp [go_sem, *] at hm
   clear hK K)
  refine goesI_oper rfl rfl (by decide) (fun d K hK => ?_)
  go_simp
  refine hK _ _ ⟨dt_block (B := N + 1) HD.out.1 HD.out.2 (fun b hb => ?_) (fun e he => ?_), ?_⟩
  · rw [Below.heap_setCell _ _ _ _ hb, Below.heap_setCell _ _ _ _ hb]
  · have hm := mem_listed he
    simp [go_sem, storedEv, *] at hm
    rcases hm with rfl | rfl <;> exact ⟨_, rfl, rfl⟩
  clear hK
  obtain ⟨ev, r2, n2, hab2⟩ := HB.out
  have r3 : Rel z1 ((v2.setCell ⟨N + 1, 0, none⟩ (I 0)).setCell ⟨N + 1, 1, none⟩ (I 0)) (((w2.at d).setCell ⟨N + 1, 0, none⟩ (I 0)).setCell ⟨N + 1, 1, none⟩ (I 0)) :=
    ((r2.re (w' := w2.at d) rfl rfl rfl rfl rfl rfl).setCell _ _).setCell _ _
  have hrow : ((v2.setCell ⟨N + 1, 0, none⟩ (I 0)).setCell ⟨N + 1, 1, none⟩ (I 0)).heap[N + 1]? = some (.cells #[I 0, I 0] 42 (0, 0)) := by
    have := heap_setCell_same (o := 1) (heap_setCell_same (o := 0) hab2 (I 0)) (I 0)
    simpa using this
  have n3 : NoRow Ch1 ((v2.setCell ⟨N + 1, 0, none⟩ (I 0)).setCell ⟨N + 1, 1, none⟩ (I 0)) := fun c hc => by
    rw [Below.heap_setCell _ _ _ _ (HD.out.2 c hc), Below.heap_setCell _ _ _ _ (HD.out.2 c hc)]
    exact n2 c hc
  have e3 := ev.trans (ev.mem.other (v' := (v2.setCell ⟨N + 1, 0, none⟩ (I 0)).setCell ⟨N + 1, 1, none⟩ (I 0)) HO.out (fun b hb => by rw [Below.heap_setCell _ _ _ _ hb, Below.heap_setCell _ _ _ _ hb]) (by simp [World.setCell]) rfl rfl)
  refine goesI_regionEnd (dt_idle _ _) ?_
  refine GoesI.ctl rfl (fun _ => stepG_ret') (dt_idle _ _) ?_
  refine goesI_leaveZ (f := 57) (fn := Try.f57) (x := .agg #[I 0, I 0]) r3 n3 Try.func57 rfl hoc ?_ (fun w' r' => HK.out _ w' tv r' n3 e3)
  generalize ((v2.setCell ⟨N + 1, 0, none⟩ (I 0)).setCell ⟨N + 1, 1, none⟩ (I 0)) = V at hrow
  have k0 : V.cell? ⟨N + 1, 0, none⟩ = some (I 0) := by simp [World.cell?, hrow]
  have k1 : V.cell? ⟨N + 1, 1, none⟩ = some (I 0) := by simp [World.cell?, hrow]
  simp [results, go_sem, Try.f57, *]
end Go.Proofs.Ytfjjoohflcchnaa

namespace Go.Proofs.Ytfjjoohflcchnaa
open Go Go.Lift Go.Conc Go.RowKit

set_option maxHeartbeats 1000000 in
set_option maxRecDepth 100000 in
theorem call3_goes {z : Nat → Option Nat} {Ch : Nat → Prop} {Stop : Goroutine → World → Prop} {h : Nat} {cont : Addr → Value} {S : TS} {K : List (Nat × Int)} {v w : World} {i j cb : Nat} {t : Thr} (ca n cc x : Int) (cs : List Frame) (Hm : Nat → Goroutine → Prop) {bc : Frame} {ac : Act} {ops : Array Oper} {q : Nat} {rest : List Nat} {oc : Oper} {k : List Item} (hoc : ops[q]? = some oc)
    (hH : ∀ g, CallBack (h == 0) i j cb t.tb (v.heap.size + 1) 3 (effSwap n) (fun r => #[I 0, r]) (fun r => G (bc.at (ac.put oc.dst r) (.inRegion ops rest :: k)) cs) g → Hm (v.heap.size + 1) g)
    (hvw : Rel z v w) (hn : NoRow Ch v) (hm : Mem z S K v) (ht : S.thr[i]? = some t) (hK : K[j]? = some (cb, x)) (hz : z t.tb = some 2) (hcont : cont ⟨t.tb, 2, none⟩ = .chan (some t.gc))
    (hstop : ∀ v1 g w', Grows v v1 → v1.heap[v.heap.size + 1]? = some (.cells #[I 0, I 0] 42 (0, 0)) → GiveT z cont h S.bk t.gc (Hm (v.heap.size + 1)) (Then z Ch S K v1 (waiting S i t 1 3 j) K) g w' → Stop g w') (code : Code) (hc : Try.f57.body = some code) :
    GoesI Try.prog (h == 0) (DT (ScZ z) Ch) Stop (G ((base 57).at { tmps := #[Pt cb 0, Pt t.tb 0, .agg #[I 3, I ca, I n, I cc]] ++ Array.replicate 57 undef, defers := [] } [.code code]) (bc.at ac (.inRegion ops (q :: rest) :: k) :: cs)) w := by
  have hw0 : code = .seq call0 (seq2 (Try.f57.body.getD .skip)) := by
    rw [hc]; obtain rfl := Option.some.inj hc; rfl
  subst hw0
  clear hc
  refine goesI_seq (dt_idle _ _) ?_
  refine goesI_plain (z := z) (wr := true) (L := LT) (I := NoRow Ch) hE fineT noRow_keeps (fun v v' w w' es hi hr ho he => dt_of_z v v' w w' es hi hr ho he) hvw fineCall0 rfl (by simp [base]) hn
    (Q := fun a w' => a = { tmps := #[Pt cb 0, Pt t.tb 0, .agg #[I 3, I ca, I n, I cc], undef, undef, Pt v.heap.size 0, Pt (v.heap.size + 1) 0] ++ Array.replicate 53 undef, defers := [] } ∧
      w'.heap = (v.heap.push (.cells #[I 3, I ca, I n, I cc] 39)).push (.cells #[I 0, I 0] 42) ∧ w'.os = v.os ∧ w'.output = v.output) (fun τ => ?_) ?_
  · show Code.wp Try.prog (seq1 (Try.f57.body.getD .skip)) _ _ _
    unfold Try.f57 seq1
    simp only [Option.getD_some, Array.replicate_succ, Array.replicate_zero, List.push_toArray, List.append_toArray, List.nil_append, List.cons_append]
    go_wp2_with fail
    exact ⟨rfl, rfl, rfl, rfl⟩
  rintro a' v' w' ⟨rfl, hv1, hv2, hv3⟩ hr' hn' -
  have hsz : v'.heap.size = v.heap.size + 2 := by rw [hv1]; simp
  have hg : Grows v v' := ⟨by omega, fun b hb => by rw [hv1, Array.getElem?_push, if_neg (by simp; omega), Array.getElem?_push, if_neg (by omega)], hv2, hv3⟩
  have hbox : v'.heap[v.heap.size]? = some (.cells #[I 3, I ca, I n, I cc] 39) := by rw [hv1, Array.getElem?_push, if_neg (by simp)]; exact Array.getElem?_push_size
  have hans : v'.heap[v.heap.size + 1]? = some (.cells #[I 0, I 0] 42) := by rw [hv1, Array.getElem?_push, if_pos (by simp)]
  have b0 : w'.cell? ⟨v.heap.size, 0, none⟩ = some (I 3) := by rw [hr'.cell?]; simp [World.cell?, hbox]
  have b2 : w'.cell? ⟨v.heap.size, 2, none⟩ = some (I n) := by rw [hr'.cell?]; simp [World.cell?, hbox]
  have HV : Hid (Grows v v' ∧ v'.heap[v.heap.size + 1]? = some (.cells #[I 0, I 0] 42) ∧ Evo z S K v S K v' ∧ NoRow Ch v' ∧ Rel z v' w') := ⟨⟨hg, hans, hm.grows hg, hn', hr'⟩⟩
  clear hv1 hv2 hv3 hsz hg hbox hans hn' hm hvw hn hr'
  generalize hN : v.heap.size = N at b0 b2 HV hH hstop ⊢
  simp only [Array.replicate_succ, Array.replicate_zero, List.push_toArray, List.append_toArray, List.nil_append, List.cons_append]
  show GoesI Try.prog (h == 0) (DT (ScZ z) Ch) Stop (G ((base 57).at _ [.code (seq2 (Try.f57.body.getD .skip))]) _) w'
  unfold Try.f57 seq2
  simp only [Option.getD_some]
  refine goesI_seq (dt_idle _ _) ?_
  refine goesI_seq (dt_idle _ _) ?_
  refine goesI_region (dt_idle _ _) ?_
  simp only [List.size_toArray, List.length_cons, List.length_nil, Nat.reduceAdd, Nat.zero_add, List.range, List.range.loop]
  iterate 2
    (refine goesI_oper rfl rfl (by decide) (fun d K hK => ?_)
     go_simp
     refine hK _ _ ⟨dt_reads (fun e he => ?_), GoesI.at ?_ d⟩
     · have hm := mem_listed he
       simp [go_sem, *] at hm
       try exact ⟨_, _, hm⟩
     clear hK K)
  refine goesI_regionEnd (dt_idle _ _) ?_
  refine goesI_block (dt_idle _ _) ?_
  refine goesI_seq (dt_idle _ _) ?_
  refine goesI_region (dt_idle _ _) ?_
  simp only [List.size_toArray, List.length_cons, List.length_nil, Nat.reduceAdd, Nat.zero_add, List.range, List.range.loop]
  iterate 2
    (refine goesI_oper rfl rfl (by decide) (fun d K hK => ?_)
     go_simp
     refine hK _ _ ⟨dt_reads (fun e he => ?_), GoesI.at ?_ d⟩
     · have hm := mem_listed he
       simp [go_sem, *] at hm
       try exact ⟨_, _, hm⟩
     clear hK K)
  refine goesI_regionEnd (dt_idle _ _) ?_
  refine goesI_cond (dt_idle _ _) (t := false) rfl ?_
  simp only [if_true, if_false, Bool.false_eq_true]
  refine goesI_seq (dt_idle _ _) ?_
  refine goesI_region (dt_idle _ _) ?_
  simp only [List.size_toArray, List.length_cons, List.length_nil, Nat.reduceAdd, Nat.zero_add, List.range, List.range.loop]
  iterate 2
    (refine goesI_oper rfl rfl (by decide) (fun d K hK => ?_)
     go_simp
     refine hK _ _ ⟨dt_reads (fun e he => ?_), GoesI.at ?_ d⟩
     · have hm := mem_listed he
       simp [go_sem, *] at hm
       try exact ⟨_, _, hm⟩
     clear hK K)
  refine goesI_regionEnd (dt_idle _ _) ?_
  refine goesI_cond (dt_idle _ _) (t := false) rfl ?_
  simp only [if_true, if_false, Bool.false_eq_true]
  refine goesI_seq (dt_idle _ _) ?_
  refine goesI_region (dt_idle _ _) ?_
  simp only [List.size_toArray, List.length_cons, List.length_nil, Nat.reduceAdd, Nat.zero_add, List.range, List.range.loop]
  iterate 2
    (refine goesI_oper rfl rfl (by decide) (fun d K hK => ?_)
     go_simp
     refine hK _ _ ⟨dt_reads (fun e he => ?_), GoesI.at ?_ d⟩
     · have hm := mem_listed he
       simp [go_sem, *] at hm
       try exact ⟨_, _, hm⟩
     clear hK K)
  refine goesI_regionEnd (dt_idle _ _) ?_
  refine goesI_cond (dt_idle _ _) (t := true) rfl ?_
  simp only [if_true, if_false, Bool.false_eq_true]
  refine goesI_seq (dt_idle _ _) ?_
  refine goesI_region (dt_idle _ _) ?_
  simp only [List.size_toArray, List.length_cons, List.length_nil, Nat.reduceAdd, Nat.zero_add, List.range, List.range.loop]
  iterate 4
    (refine goesI_oper rfl rfl (by decide) (fun d K hK => ?_)
     go_simp
     refine hK _ _ ⟨dt_reads (fun e he => ?_), GoesI.at ?_ d⟩
     · have hm := mem_listed he
       simp [go_sem, *] at hm
       try exact ⟨_, _, hm⟩
     clear hK K)
  refine goesI_into (f := 24) (fn := Try.f24) (args := #[Pt cb 0, Pt t.tb 0, I n]) (dt_idle _ _) rfl rfl (by decide) rfl (by simp [Act.eval]) Try.func24 (by decide) rfl ?_
  refine swap_goes n x _ (Hm (N + 1)) rfl (fun g hg => hH g ?_) HV.out.2.2.2.2 HV.out.2.2.2.1 HV.out.2.2.1.mem ht hK hz hcont (fun g w'' hg => hstop v' g w'' HV.out.1 HV.out.2.1 hg) _ rfl
  intro z1 Ch1 St y w1 v1 S1 K1 t1 x1 r1 n1 m1 h1 htb hop hce hK1 hn1 hab hown hk
  refine hg z1 Ch1 St y w1 v1 S1 K1 t1 x1 r1 n1 m1 h1 htb hop hce hK1 hn1 (fun v2 w2 tv r2 n2 ev => ?_)
  have hlt : N + 1 < v1.heap.size := (Array.getElem?_eq_some_iff.1 hab).1
  have hab2 : v2.heap[N + 1]? = some (.cells #[I 0, I 0] 42 (0, 0)) := by rw [ev.fr.block _ hlt hown]; exact hab
  have hown2 : ¬ Own (didS S1 tv i t1 (effSwap n x1).1.1 (effSwap n x1).1.2) (K1.set j (cb, (effSwap n x1).2.1)) (N + 1) := fun hO => (ev.new _ hO).elim hown (fun hle => by omega)
  have q0 : w2.cell? ⟨N + 1, 0, none⟩ = some (I 0) := by rw [r2.cell?]; simp [World.cell?, hab2]
  have q1 : w2.cell? ⟨N + 1, 1, none⟩ = some (I 0) := by rw [r2.cell?]; simp [World.cell?, hab2]
  have p0 : w2.frozen? ⟨N + 1, 0, none⟩ = false := r2.thawed (by simp [World.frozen?, hab2])
  have p1 : w2.frozen? ⟨N + 1, 1, none⟩ = false := r2.thawed (by simp [World.frozen?, hab2])
  have HK : Hid (∀ v' w' tv, Rel z1 v' w' → NoRow Ch1 v' → EvoP (· = N + 1) z1 S1 K1 v1 (didS S1 tv i t1 (effSwap n x1).1.1 (effSwap n x1).1.2) (K1.set j (cb, (effSwap n x1).2.1)) v' → GoesI Try.prog (h == 0) (DT (ScZ z1) Ch1) St (G (bc.at (ac.put oc.dst (.agg #[I 0, (effSwap n x1).2.2])) (.inRegion ops rest :: k)) cs) w') := ⟨hk⟩
  have HB : Hid (EvoP (· = N + 1) z1 S1 K1 v1 (didS S1 tv i t1 (effSwap n x1).1.1 (effSwap n x1).1.2) (K1.set j (cb, (effSwap n x1).2.1)) v2 ∧ Rel z1 v2 w2 ∧ NoRow Ch1 v2 ∧ v2.heap[N + 1]? = some (.cells #[I 0, I 0] 42 (0, 0))) := ⟨⟨ev.toP, r2, n2, hab2⟩⟩
  have HD : Hid ((∀ a, ScZ z1 a → a.block ≠ N + 1) ∧ ∀ c, Ch1 c → c ≠ N + 1) := ⟨⟨ev.mem.noKept hown2, fun c hc e => by
    obtain ⟨o, o1, o2⟩ := n2 c hc
    rw [e, hab2] at o1
    cases o1
    exact o2 _ _ _ rfl⟩⟩
  have HO : Hid (¬ Own (didS S1 tv i t1 (effSwap n x1).1.1 (effSwap n x1).1.2) (K1.set j (cb, (effSwap n x1).2.1)) (N + 1)) := ⟨hown2⟩
  show GoesI Try.prog (h == 0) (DT (ScZ z1) Ch1) St (G ((base 57).at (Act.put _ _ (I x1)) _) _) w2
  clear hk ev r2 n2 hab2 hown2 hab hown hlt hH hstop hg HV b0 b2 r1 n1 m1 h1 htb hop hce hK1 hn1
  walk_nrm
  (refine goesI_oper rfl rfl (by decide) (fun d K hK => ?_)
   go_simp
   refine hK _ _ ⟨dt_reads (fun e he => ?_), GoesI.at ?_ d⟩
   · have hm := mem_listed he
     simp [go_sem, *] at hm
   clear hK K)
  refine goesI_oper rfl rfl (by decide) (fun d K hK => ?_)
  go_simp
  refine hK _ _ ⟨dt_block (B := N + 1) HD.out.1 HD.out.2 (fun b hb => ?_) (fun e he => ?_), ?_⟩
  · rw [Below.heap_setCell _ _ _ _ hb, Below.heap_setCell _ _ _ _ hb]
  · have hm := mem_listed he
    simp [go_sem, storedEv, *] at hm
    rcases hm with rfl | rfl <;> exact ⟨_, rfl, rfl⟩
  clear hK
  obtain ⟨ev, r2, n2, hab2⟩ := HB.out
  have r3 : Rel z1 ((v2.setCell ⟨N + 1, 0, none⟩ (I 0)).setCell ⟨N + 1, 1, none⟩ (I x1)) (((w2.at d).setCell ⟨N + 1, 0, none⟩ (I 0)).setCell ⟨N + 1, 1, none⟩ (I x1)) :=
    ((r2.re (w' := w2.at d) rfl rfl rfl rfl rfl rfl).setCell _ _).setCell _ _
  have hrow : ((v2.setCell ⟨N + 1, 0, none⟩ (I 0)).setCell ⟨N + 1, 1, none⟩ (I x1)).heap[N + 1]? = some (.cells #[I 0, I x1] 42 (0, 0)) := by
    have := heap_setCell_same (o := 1) (heap_setCell_same (o := 0) hab2 (I 0)) (I x1)
    simpa using this
  have n3 : NoRow Ch1 ((v2.setCell ⟨N + 1, 0, none⟩ (I 0)).setCell ⟨N + 1, 1, none⟩ (I x1)) := fun c hc => by
    rw [Below.heap_setCell _ _ _ _ (HD.out.2 c hc), Below.heap_setCell _ _ _ _ (HD.out.2 c hc)]
    exact n2 c hc
  have e3 := ev.trans (ev.mem.other (v' := (v2.setCell ⟨N + 1, 0, none⟩ (I 0)).setCell ⟨N + 1, 1, none⟩ (I x1)) HO.out (fun b hb => by rw [Below.heap_setCell _ _ _ _ hb, Below.heap_setCell _ _ _ _ hb]) (by simp [World.setCell]) rfl rfl)
  refine goesI_regionEnd (dt_idle _ _) ?_
  refine GoesI.ctl rfl (fun _ => stepG_ret') (dt_idle _ _) ?_
  refine goesI_leaveZ (f := 57) (fn := Try.f57) (x := .agg #[I 0, I x1]) r3 n3 Try.func57 rfl hoc ?_ (fun w' r' => HK.out _ w' tv r' n3 e3)
  generalize ((v2.setCell ⟨N + 1, 0, none⟩ (I 0)).setCell ⟨N + 1, 1, none⟩ (I x1)) = V at hrow
  have k0 : V.cell? ⟨N + 1, 0, none⟩ = some (I 0) := by simp [World.cell?, hrow]
  have k1 : V.cell? ⟨N + 1, 1, none⟩ = some (I x1) := by simp [World.cell?, hrow]
  simp [results, go_sem, Try.f57, *]
end Go.Proofs.Ytfjjoohflcchnaa
