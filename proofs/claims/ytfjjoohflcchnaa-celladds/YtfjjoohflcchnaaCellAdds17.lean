/- CellAdds returns true, whatever the schedule, the start and the numbers, and leaves what it was given as it was: of the law's statement as given, with no condition of our own. Part 17 of 34. (Joined, by program, of: Call4, Call6.) -/
import Derived.Test.YtfjjoohflcchnaaCellAdds10
import Derived.Test.YtfjjoohflcchnaaCellAdds11
import Derived.Test.YtfjjoohflcchnaaCellAdds12
set_option linter.unusedSimpArgs false
set_option linter.unusedVariables false
namespace Go.Proofs.Ytfjjoohflcchnaa
open Go Go.Lift Go.Conc Go.RowKit

/-- What a Cas answers. -/
def ansCas : Value → Array Value
  | .bool true => #[I 0, I 1]
  | _ => #[I 0, I 0]

set_option maxHeartbeats 1000000 in
set_option maxRecDepth 100000 in
theorem call4_goes {z : Nat → Option Nat} {Ch : Nat → Prop} {Stop : Goroutine → World → Prop} {h : Nat} {cont : Addr → Value} {S : TS} {K : List (Nat × Int)} {v w : World} {i j cb : Nat} {t : Thr} (ca n cc x : Int) (cs : List Frame) (Hm : Nat → Goroutine → Prop) {bc : Frame} {ac : Act} {ops : Array Oper} {q : Nat} {rest : List Nat} {oc : Oper} {k : List Item} (hoc : ops[q]? = some oc)
    (hH : ∀ g, CallBack (h == 0) i j cb t.tb (v.heap.size + 1) 4 (effCas n cc) ansCas (fun r => G (bc.at (ac.put oc.dst r) (.inRegion ops rest :: k)) cs) g → Hm (v.heap.size + 1) g)
    (hvw : Rel z v w) (hn : NoRow Ch v) (hm : Mem z S K v) (ht : S.thr[i]? = some t) (hK : K[j]? = some (cb, x)) (hz : z t.tb = some 2) (hcont : cont ⟨t.tb, 2, none⟩ = .chan (some t.gc))
    (hstop : ∀ v1 g w', Grows v v1 → v1.heap[v.heap.size + 1]? = some (.cells #[I 0, I 0] 42 (0, 0)) → GiveT z cont h S.bk t.gc (Hm (v.heap.size + 1)) (Then z Ch S K v1 (waiting S i t 1 4 j) K) g w' → Stop g w') (code : Code) (hc : Try.f57.body = some code) :
    GoesI Try.prog (h == 0) (DT (ScZ z) Ch) Stop (G ((base 57).at { tmps := #[Pt cb 0, Pt t.tb 0, .agg #[I 4, I ca, I n, I cc]] ++ Array.replicate 57 undef, defers := [] } [.code code]) (bc.at ac (.inRegion ops (q :: rest) :: k) :: cs)) w := by
  have hw0 : code = .seq call0 (seq2 (Try.f57.body.getD .skip)) := by
    rw [hc]; obtain rfl := Option.some.inj hc; rfl
  subst hw0
  clear hc
  refine goesI_seq (dt_idle _ _) ?_
  refine goesI_plain (z := z) (wr := true) (L := LT) (I := NoRow Ch) hE fineT noRow_keeps (fun v v' w w' es hi hr ho he => dt_of_z v v' w w' es hi hr ho he) hvw fineCall0 rfl (by simp [base]) hn
    (Q := fun a w' => a = { tmps := #[Pt cb 0, Pt t.tb 0, .agg #[I 4, I ca, I n, I cc], undef, undef, Pt v.heap.size 0, Pt (v.heap.size + 1) 0] ++ Array.replicate 53 undef, defers := [] } ∧
      w'.heap = (v.heap.push (.cells #[I 4, I ca, I n, I cc] 39)).push (.cells #[I 0, I 0] 42) ∧ w'.os = v.os ∧ w'.output = v.output) (fun τ => ?_) ?_
  · show Code.wp Try.prog (seq1 (Try.f57.body.getD .skip)) _ _ _
    unfold Try.f57 seq1
    simp only [Option.getD_some, Array.replicate_succ, Array.replicate_zero, List.push_toArray, List.append_toArray, List.nil_append, List.cons_append]
    go_wp2_with fail
    exact ⟨rfl, rfl, rfl, rfl⟩
  rintro a' v' w' ⟨rfl, hv1, hv2, hv3⟩ hr' hn' -
  have hsz : v'.heap.size = v.heap.size + 2 := by rw [hv1]; simp
  have hg : Grows v v' := ⟨by omega, fun b hb => by rw [hv1, Array.getElem?_push, if_neg (by simp; omega), Array.getElem?_push, if_neg (by omega)], hv2, hv3⟩
  have hbox : v'.heap[v.heap.size]? = some (.cells #[I 4, I ca, I n, I cc] 39) := by rw [hv1, Array.getElem?_push, if_neg (by simp)]; exact Array.getElem?_push_size
  have hans : v'.heap[v.heap.size + 1]? = some (.cells #[I 0, I 0] 42) := by rw [hv1, Array.getElem?_push, if_pos (by simp)]
  have b0 : w'.cell? ⟨v.heap.size, 0, none⟩ = some (I 4) := by rw [hr'.cell?]; simp [World.cell?, hbox]
  have b3 : w'.cell? ⟨v.heap.size, 3, none⟩ = some (I cc) := by rw [hr'.cell?]; simp [World.cell?, hbox]
  have b2 : w'.cell? ⟨v.heap.size, 2, none⟩ = some (I n) := by rw [hr'.cell?]; simp [World.cell?, hbox]
  have HV : Hid (Grows v v' ∧ v'.heap[v.heap.size + 1]? = some (.cells #[I 0, I 0] 42) ∧ Evo z S K v S K v' ∧ NoRow Ch v' ∧ Rel z v' w') := ⟨⟨hg, hans, hm.grows hg, hn', hr'⟩⟩
  clear hv1 hv2 hv3 hsz hg hbox hans hn' hm hvw hn hr'
  generalize hN : v.heap.size = N at b0 b2 b3 HV hH hstop ⊢
  simp only [Array.replicate_succ, Array.replicate_zero, List.push_toArray, List.append_toArray, List.nil_append, List.cons_append]
  show GoesI Try.prog (h == 0) (DT (ScZ z) Ch) Stop (G ((base 57).at _ [.code (seq2 (Try.f57.body.getD .skip))]) _) w'
  unfold Try.f57 seq2
  simp only [Option.getD_some]
  refine goesI_seq (dt_idle _ _) ?_
  refine goesI_seq (dt_idle _ _) ?_
  refine goesI_region (dt_idle _ _) ?_
  simp only [List.size_toArray, List.length_cons, List.length_nil, Nat.reduceAdd, Nat.zero_add, List.range, List.range.loop]
  iterate 2
    (refine goesI_oper rfl rfl (by decide) (fun d K hK => ?_)
     go_simp
     refine hK _ _ ⟨dt_reads (fun e he => ?_), GoesI.at ?_ d⟩
     · have hm := mem_listed he
       simp [go_sem, *] at hm
       try exact ⟨_, _, hm⟩
     clear hK K)
  refine goesI_regionEnd (dt_idle _ _) ?_
  refine goesI_block (dt_idle _ _) ?_
  refine goesI_seq (dt_idle _ _) ?_
  refine goesI_region (dt_idle _ _) ?_
  simp only [List.size_toArray, List.length_cons, List.length_nil, Nat.reduceAdd, Nat.zero_add, List.range, List.range.loop]
  iterate 2
    (refine goesI_oper rfl rfl (by decide) (fun d K hK => ?_)
     go_simp
     refine hK _ _ ⟨dt_reads (fun e he => ?_), GoesI.at ?_ d⟩
     · have hm := mem_listed he
       simp [go_sem, *] at hm
       try exact ⟨_, _, hm⟩
     clear hK K)
  refine goesI_regionEnd (dt_idle _ _) ?_
  refine goesI_cond (dt_idle _ _) (t := false) rfl ?_
  simp only [if_true, if_false, Bool.false_eq_true]
  refine goesI_seq (dt_idle _ _) ?_
  refine goesI_region (dt_idle _ _) ?_
  simp only [List.size_toArray, List.length_cons, List.length_nil, Nat.reduceAdd, Nat.zero_add, List.range, List.range.loop]
  iterate 2
    (refine goesI_oper rfl rfl (by decide) (fun d K hK => ?_)
     go_simp
     refine hK _ _ ⟨dt_reads (fun e he => ?_), GoesI.at ?_ d⟩
     · have hm := mem_listed he
       simp [go_sem, *] at hm
       try exact ⟨_, _, hm⟩
     clear hK K)
  refine goesI_regionEnd (dt_idle _ _) ?_
  refine goesI_cond (dt_idle _ _) (t := false) rfl ?_
  simp only [if_true, if_false, Bool.false_eq_true]
  refine goesI_seq (dt_idle _ _) ?_
  refine goesI_region (dt_idle _ _) ?_
  simp only [List.size_toArray, List.length_cons, List.length_nil, Nat.reduceAdd, Nat.zero_add, List.range, List.range.loop]
  iterate 2
    (refine goesI_oper rfl rfl (by decide) (fun d K hK => ?_)
     go_simp
     refine hK _ _ ⟨dt_reads (fun e he => ?_), GoesI.at ?_ d⟩
     · have hm := mem_listed he
       simp [go_sem, *] at hm
       try exact ⟨_, _, hm⟩
     clear hK K)
  refine goesI_regionEnd (dt_idle _ _) ?_
  refine goesI_cond (dt_idle _ _) (t := false) rfl ?_
  simp only [if_true, if_false, Bool.false_eq_true]
  refine goesI_seq (dt_idle _ _) ?_
  refine goesI_region (dt_idle _ _) ?_
  simp only [List.size_toArray, List.length_cons, List.length_nil, Nat.reduceAdd, Nat.zero_add, List.range, List.range.loop]
  iterate 2
    (refine goesI_oper rfl rfl (by decide) (fun d K hK => ?_)
     go_simp
     refine hK _ _ ⟨dt_reads (fun e he => ?_), GoesI.at ?_ d⟩
     · have hm := mem_listed he
       simp [go_sem, *] at hm
       try exact ⟨_, _, hm⟩
     clear hK K)
  refine goesI_regionEnd (dt_idle _ _) ?_
  refine goesI_cond (dt_idle _ _) (t := true) rfl ?_
  simp only [if_true, if_false, Bool.false_eq_true]
  refine goesI_seq (dt_idle _ _) ?_
  refine goesI_seq (dt_idle _ _) ?_
  refine goesI_region (dt_idle _ _) ?_
  simp only [List.size_toArray, List.length_cons, List.length_nil, Nat.reduceAdd, Nat.zero_add, List.range, List.range.loop]
  iterate 6
    (refine goesI_oper rfl rfl (by decide) (fun d K hK => ?_)
     go_simp
     refine hK _ _ ⟨dt_reads (fun e he => ?_), GoesI.at ?_ d⟩
     · have hm := mem_listed he
       simp [go_sem, *] at hm
       try exact ⟨_, _, hm⟩
     clear hK K)
  refine goesI_into (f := 25) (fn := Try.f25) (args := #[Pt cb 0, Pt t.tb 0, I n, I cc]) (dt_idle _ _) rfl rfl (by decide) rfl (by simp [Act.eval]) Try.func25 (by decide) rfl ?_
  refine cas_goes n cc x _ (Hm (N + 1)) rfl (fun g hg => hH g ?_) HV.out.2.2.2.2 HV.out.2.2.2.1 HV.out.2.2.1.mem ht hK hz hcont (fun g w'' hg => hstop v' g w'' HV.out.1 HV.out.2.1 hg) _ rfl
  intro z1 Ch1 St y w1 v1 S1 K1 t1 x1 r1 n1 m1 h1 htb hop hce hK1 hn1 hab hown hk
  refine hg z1 Ch1 St y w1 v1 S1 K1 t1 x1 r1 n1 m1 h1 htb hop hce hK1 hn1 (fun v2 w2 tv r2 n2 ev => ?_)
  by_cases hx : x1 = n
  · simp only [effCas, hx, if_true, ansCas] at hk ev ⊢
    have hlt : N + 1 < v1.heap.size := (Array.getElem?_eq_some_iff.1 hab).1
    have hab2 : v2.heap[N + 1]? = some (.cells #[I 0, I 0] 42 (0, 0)) := by rw [ev.fr.block _ hlt hown]; exact hab
    have hown2 : ¬ Own (didS S1 tv i t1 n cc) (K1.set j (cb, cc)) (N + 1) := fun hO => (ev.new _ hO).elim hown (fun hle => by omega)
    have q0 : w2.cell? ⟨N + 1, 0, none⟩ = some (I 0) := by rw [r2.cell?]; simp [World.cell?, hab2]
    have q1 : w2.cell? ⟨N + 1, 1, none⟩ = some (I 0) := by rw [r2.cell?]; simp [World.cell?, hab2]
    have p0 : w2.frozen? ⟨N + 1, 0, none⟩ = false := r2.thawed (by simp [World.frozen?, hab2])
    have p1 : w2.frozen? ⟨N + 1, 1, none⟩ = false := r2.thawed (by simp [World.frozen?, hab2])
    have HK : Hid (∀ v' w' tv, Rel z1 v' w' → NoRow Ch1 v' → EvoP (· = N + 1) z1 S1 K1 v1 (didS S1 tv i t1 n cc) (K1.set j (cb, cc)) v' → GoesI Try.prog (h == 0) (DT (ScZ z1) Ch1) St (G (bc.at (ac.put oc.dst (.agg #[I 0, I 1])) (.inRegion ops rest :: k)) cs) w') := ⟨hk⟩
    have HB : Hid (EvoP (· = N + 1) z1 S1 K1 v1 (didS S1 tv i t1 n cc) (K1.set j (cb, cc)) v2 ∧ Rel z1 v2 w2 ∧ NoRow Ch1 v2 ∧ v2.heap[N + 1]? = some (.cells #[I 0, I 0] 42 (0, 0))) := ⟨⟨ev.toP, r2, n2, hab2⟩⟩
    have HD : Hid ((∀ a, ScZ z1 a → a.block ≠ N + 1) ∧ ∀ c, Ch1 c → c ≠ N + 1) := ⟨⟨ev.mem.noKept hown2, fun c hc e => by
      obtain ⟨o, o1, o2⟩ := n2 c hc
      rw [e, hab2] at o1
      cases o1
      exact o2 _ _ _ rfl⟩⟩
    have HO : Hid (¬ Own (didS S1 tv i t1 n cc) (K1.set j (cb, cc)) (N + 1)) := ⟨hown2⟩
    show GoesI Try.prog (h == 0) (DT (ScZ z1) Ch1) St (G ((base 57).at (Act.put _ _ (.bool true)) _) _) w2
    clear hk ev r2 n2 hab2 hown2 hab hown hlt hH hstop hg HV b0 b2 b3 r1 n1 m1 h1 htb hop hce hK1 hn1
    walk_nrm
    refine goesI_regionEnd (dt_idle _ _) ?_
    refine goesI_cond (dt_idle _ _) (t := true) rfl ?_
    simp only [if_true, if_false, Bool.false_eq_true]
    refine goesI_seq (dt_idle _ _) ?_
    refine goesI_region (dt_idle _ _) ?_
    simp only [List.size_toArray, List.length_cons, List.length_nil, Nat.reduceAdd, Nat.zero_add, List.range, List.range.loop]
    (refine goesI_oper rfl rfl (by decide) (fun d K hK => ?_)
     go_simp
     refine hK _ _ ⟨dt_reads (fun e he => ?_), GoesI.at ?_ d⟩
     · have hm := mem_listed he
       simp [go_sem, *] at hm
     clear hK K)
    refine goesI_oper rfl rfl (by decide) (fun d K hK => ?_)
    go_simp
    refine hK _ _ ⟨dt_block (B := N + 1) HD.out.1 HD.out.2 (fun b hb => ?_) (fun e he => ?_), ?_⟩
    · rw [Below.heap_setCell _ _ _ _ hb, Below.heap_setCell _ _ _ _ hb]
    · have hm := mem_listed he
      simp [go_sem, storedEv, *] at hm
      rcases hm with rfl | rfl <;> exact ⟨_, rfl, rfl⟩
    clear hK
    obtain ⟨ev, r2, n2, hab2⟩ := HB.out
    have r3 : Rel z1 ((v2.setCell ⟨N + 1, 0, none⟩ (I 0)).setCell ⟨N + 1, 1, none⟩ (I 1)) (((w2.at d).setCell ⟨N + 1, 0, none⟩ (I 0)).setCell ⟨N + 1, 1, none⟩ (I 1)) :=
      ((r2.re (w' := w2.at d) rfl rfl rfl rfl rfl rfl).setCell _ _).setCell _ _
    have hrow : ((v2.setCell ⟨N + 1, 0, none⟩ (I 0)).setCell ⟨N + 1, 1, none⟩ (I 1)).heap[N + 1]? = some (.cells #[I 0, I 1] 42 (0, 0)) := by
      have := heap_setCell_same (o := 1) (heap_setCell_same (o := 0) hab2 (I 0)) (I 1)
      simpa using this
    have n3 : NoRow Ch1 ((v2.setCell ⟨N + 1, 0, none⟩ (I 0)).setCell ⟨N + 1, 1, none⟩ (I 1)) := fun c hc => by
      rw [Below.heap_setCell _ _ _ _ (HD.out.2 c hc), Below.heap_setCell _ _ _ _ (HD.out.2 c hc)]
      exact n2 c hc
    have e3 := ev.trans (ev.mem.other (v' := (v2.setCell ⟨N + 1, 0, none⟩ (I 0)).setCell ⟨N + 1, 1, none⟩ (I 1)) HO.out (fun b hb => by rw [Below.heap_setCell _ _ _ _ hb, Below.heap_setCell _ _ _ _ hb]) (by simp [World.setCell]) rfl rfl)
    refine goesI_regionEnd (dt_idle _ _) ?_
    refine GoesI.ctl rfl (fun _ => stepG_ret') (dt_idle _ _) ?_
    refine goesI_leaveZ (f := 57) (fn := Try.f57) (x := .agg #[I 0, I 1]) r3 n3 Try.func57 rfl hoc ?_ (fun w' r' => HK.out _ w' tv r' n3 e3)
    generalize ((v2.setCell ⟨N + 1, 0, none⟩ (I 0)).setCell ⟨N + 1, 1, none⟩ (I 1)) = V at hrow
    have k0 : V.cell? ⟨N + 1, 0, none⟩ = some (I 0) := by simp [World.cell?, hrow]
    have k1 : V.cell? ⟨N + 1, 1, none⟩ = some (I 1) := by simp [World.cell?, hrow]
    simp [results, go_sem, Try.f57, *]
  · simp only [effCas, hx, if_false, ansCas] at hk ev ⊢
    have hlt : N + 1 < v1.heap.size := (Array.getElem?_eq_some_iff.1 hab).1
    have hab2 : v2.heap[N + 1]? = some (.cells #[I 0, I 0] 42 (0, 0)) := by rw [ev.fr.block _ hlt hown]; exact hab
    have hown2 : ¬ Own (didS S1 tv i t1 x1 x1) (K1.set j (cb, x1)) (N + 1) := fun hO => (ev.new _ hO).elim hown (fun hle => by omega)
    have q0 : w2.cell? ⟨N + 1, 0, none⟩ = some (I 0) := by rw [r2.cell?]; simp [World.cell?, hab2]
    have q1 : w2.cell? ⟨N + 1, 1, none⟩ = some (I 0) := by rw [r2.cell?]; simp [World.cell?, hab2]
    have p0 : w2.frozen? ⟨N + 1, 0, none⟩ = false := r2.thawed (by simp [World.frozen?, hab2])
    have p1 : w2.frozen? ⟨N + 1, 1, none⟩ = false := r2.thawed (by simp [World.frozen?, hab2])
    have HK : Hid (∀ v' w' tv, Rel z1 v' w' → NoRow Ch1 v' → EvoP (· = N + 1) z1 S1 K1 v1 (didS S1 tv i t1 x1 x1) (K1.set j (cb, x1)) v' → GoesI Try.prog (h == 0) (DT (ScZ z1) Ch1) St (G (bc.at (ac.put oc.dst (.agg #[I 0, I 0])) (.inRegion ops rest :: k)) cs) w') := ⟨hk⟩
    have HB : Hid (EvoP (· = N + 1) z1 S1 K1 v1 (didS S1 tv i t1 x1 x1) (K1.set j (cb, x1)) v2 ∧ Rel z1 v2 w2 ∧ NoRow Ch1 v2 ∧ v2.heap[N + 1]? = some (.cells #[I 0, I 0] 42 (0, 0))) := ⟨⟨ev.toP, r2, n2, hab2⟩⟩
    have HD : Hid ((∀ a, ScZ z1 a → a.block ≠ N + 1) ∧ ∀ c, Ch1 c → c ≠ N + 1) := ⟨⟨ev.mem.noKept hown2, fun c hc e => by
      obtain ⟨o, o1, o2⟩ := n2 c hc
      rw [e, hab2] at o1
      cases o1
      exact o2 _ _ _ rfl⟩⟩
    have HO : Hid (¬ Own (didS S1 tv i t1 x1 x1) (K1.set j (cb, x1)) (N + 1)) := ⟨hown2⟩
    show GoesI Try.prog (h == 0) (DT (ScZ z1) Ch1) St (G ((base 57).at (Act.put _ _ (.bool false)) _) _) w2
    clear hk ev r2 n2 hab2 hown2 hab hown hlt hH hstop hg HV b0 b2 b3 r1 n1 m1 h1 htb hop hce hK1 hn1
    walk_nrm
    refine goesI_regionEnd (dt_idle _ _) ?_
    refine goesI_cond (dt_idle _ _) (t := false) rfl ?_
    simp only [if_true, if_false, Bool.false_eq_true]
    refine goesI_skip (dt_idle _ _) ?_
    refine goesI_seq (dt_idle _ _) ?_
    refine goesI_region (dt_idle _ _) ?_
    simp only [List.size_toArray, List.length_cons, List.length_nil, Nat.reduceAdd, Nat.zero_add, List.range, List.range.loop]
    (refine goesI_oper rfl rfl (by decide) (fun d K hK => ?_)
     go_simp
     refine hK _ _ ⟨dt_reads (fun e he => ?_), GoesI.at ?_ d⟩
     · have hm := mem_listed he
       simp [go_sem, *] at hm
     clear hK K)
    refine goesI_oper rfl rfl (by decide) (fun d K hK => ?_)
    go_simp
    refine hK _ _ ⟨dt_block (B := N + 1) HD.out.1 HD.out.2 (fun b hb => ?_) (fun e he => ?_), ?_⟩
    · rw [Below.heap_setCell _ _ _ _ hb, Below.heap_setCell _ _ _ _ hb]
    · have hm := mem_listed he
      simp [go_sem, storedEv, *] at hm
      rcases hm with rfl | rfl <;> exact ⟨_, rfl, rfl⟩
    clear hK
    obtain ⟨ev, r2, n2, hab2⟩ := HB.out
    have r3 : Rel z1 ((v2.setCell ⟨N + 1, 0, none⟩ (I 0)).setCell ⟨N + 1, 1, none⟩ (I 0)) (((w2.at d).setCell ⟨N + 1, 0, none⟩ (I 0)).setCell ⟨N + 1, 1, none⟩ (I 0)) :=
      ((r2.re (w' := w2.at d) rfl rfl rfl rfl rfl rfl).setCell _ _).setCell _ _
    have hrow : ((v2.setCell ⟨N + 1, 0, none⟩ (I 0)).setCell ⟨N + 1, 1, none⟩ (I 0)).heap[N + 1]? = some (.cells #[I 0, I 0] 42 (0, 0)) := by
      have := heap_setCell_same (o := 1) (heap_setCell_same (o := 0) hab2 (I 0)) (I 0)
      simpa using this
    have n3 : NoRow Ch1 ((v2.setCell ⟨N + 1, 0, none⟩ (I 0)).setCell ⟨N + 1, 1, none⟩ (I 0)) := fun c hc => by
      rw [Below.heap_setCell _ _ _ _ (HD.out.2 c hc), Below.heap_setCell _ _ _ _ (HD.out.2 c hc)]
      exact n2 c hc
    have e3 := ev.trans (ev.mem.other (v' := (v2.setCell ⟨N + 1, 0, none⟩ (I 0)).setCell ⟨N + 1, 1, none⟩ (I 0)) HO.out (fun b hb => by rw [Below.heap_setCell _ _ _ _ hb, Below.heap_setCell _ _ _ _ hb]) (by simp [World.setCell]) rfl rfl)
    refine goesI_regionEnd (dt_idle _ _) ?_
    refine GoesI.ctl rfl (fun _ => stepG_ret') (dt_idle _ _) ?_
    refine goesI_leaveZ (f := 57) (fn := Try.f57) (x := .agg #[I 0, I 0]) r3 n3 Try.func57 rfl hoc ?_ (fun w' r' => HK.out _ w' tv r' n3 e3)
    generalize ((v2.setCell ⟨N + 1, 0, none⟩ (I 0)).setCell ⟨N + 1, 1, none⟩ (I 0)) = V at hrow
    have k0 : V.cell? ⟨N + 1, 0, none⟩ = some (I 0) := by simp [World.cell?, hrow]
    have k1 : V.cell? ⟨N + 1, 1, none⟩ = some (I 0) := by simp [World.cell?, hrow]
    simp [results, go_sem, Try.f57, *]
end Go.Proofs.Ytfjjoohflcchnaa

namespace Go.Proofs.Ytfjjoohflcchnaa
open Go Go.Lift Go.Conc Go.RowKit

/-- Until has answered: the call lays its answer in memory of its own (ab), and comes back with it. -/
def C6Back (main : Bool) (ab : Nat) (cu : Bool → Goroutine) (cl : Value → Goroutine) : Prop :=
  ∀ (z : Nat → Option Nat) (Ch : Nat → Prop) (Stop : Goroutine → World → Prop) (w v : World) (S : TS) (K : List (Nat × Int)) (b : Bool), Rel z v w → NoRow Ch v → Mem z S K v → v.heap[ab]? = some (.cells #[I 0, I 0] 42 (0, 0)) → ¬ Own S K ab →
    (∀ v' w', Rel z v' w' → NoRow Ch v' → EvoP (· = ab) z S K v S K v' → GoesI Try.prog main (DT (ScZ z) Ch) Stop (cl (.agg #[I (if b then 0 else 4), I 0])) w') →
    GoesI Try.prog main (DT (ScZ z) Ch) Stop (cu b) w

set_option maxHeartbeats 1000000 in
set_option maxRecDepth 100000 in
theorem call6_goes {z : Nat → Option Nat} {Ch : Nat → Prop} {Stop : Goroutine → World → Prop} {main : Bool} {S : TS} {K : List (Nat × Int)} {v w : World} {cb : Nat} {t : Thr} (ca n cc : Int) (cs : List Frame) {bc : Frame} {ac : Act} {ops : Array Oper} {q : Nat} {rest : List Nat} {oc : Oper} {k : List Item} (hoc : ops[q]? = some oc)
    (hvw : Rel z v w) (hn : NoRow Ch v) (hm : Mem z S K v)
    (hstop : ∀ v' w' u (bd : Frame) (ad : Act) (od : Array Oper) (qd : Nat) (rd : List Nat) (oe : Oper) (kd : List Item), Rel z v' w' → NoRow Ch v' → Grows v v' → v'.heap[v.heap.size + 1]? = some (.cells #[I 0, I 0] 42 (0, 0)) → od[qd]? = some oe →
      C6Back main (v.heap.size + 1) (fun b => G (bd.at (ad.put oe.dst (.bool b)) (.inRegion od rd :: kd)) (bc.at ac (.inRegion ops (q :: rest) :: k) :: cs)) (fun r => G (bc.at (ac.put oc.dst r) (.inRegion ops rest :: k)) cs) →
      GoesI Try.prog main (DT (ScZ z) Ch) Stop (G (uFr cb t.tb n u) (bd.at ad (.inRegion od (qd :: rd) :: kd) :: bc.at ac (.inRegion ops (q :: rest) :: k) :: cs)) w') (code : Code) (hc : Try.f57.body = some code) :
    GoesI Try.prog main (DT (ScZ z) Ch) Stop (G ((base 57).at { tmps := #[Pt cb 0, Pt t.tb 0, .agg #[I 6, I ca, I n, I cc]] ++ Array.replicate 57 undef, defers := [] } [.code code]) (bc.at ac (.inRegion ops (q :: rest) :: k) :: cs)) w := by
  have hw0 : code = .seq call0 (seq2 (Try.f57.body.getD .skip)) := by
    rw [hc]; obtain rfl := Option.some.inj hc; rfl
  subst hw0
  clear hc
  refine goesI_seq (dt_idle _ _) ?_
  refine goesI_plain (z := z) (wr := true) (L := LT) (I := NoRow Ch) hE fineT noRow_keeps (fun v v' w w' es hi hr ho he => dt_of_z v v' w w' es hi hr ho he) hvw fineCall0 rfl (by simp [base]) hn
    (Q := fun a w' => a = { tmps := #[Pt cb 0, Pt t.tb 0, .agg #[I 6, I ca, I n, I cc], undef, undef, Pt v.heap.size 0, Pt (v.heap.size + 1) 0] ++ Array.replicate 53 undef, defers := [] } ∧
      w'.heap = (v.heap.push (.cells #[I 6, I ca, I n, I cc] 39)).push (.cells #[I 0, I 0] 42) ∧ w'.os = v.os ∧ w'.output = v.output) (fun τ => ?_) ?_
  · show Code.wp Try.prog (seq1 (Try.f57.body.getD .skip)) _ _ _
    unfold Try.f57 seq1
    simp only [Option.getD_some, Array.replicate_succ, Array.replicate_zero, List.push_toArray, List.append_toArray, List.nil_append, List.cons_append]
    go_wp2_with fail
    exact ⟨rfl, rfl, rfl, rfl⟩
  rintro a' v' w' ⟨rfl, hv1, hv2, hv3⟩ hr' hn' -
  have hsz : v'.heap.size = v.heap.size + 2 := by rw [hv1]; simp
  have hg : Grows v v' := ⟨by omega, fun b hb => by rw [hv1, Array.getElem?_push, if_neg (by simp; omega), Array.getElem?_push, if_neg (by omega)], hv2, hv3⟩
  have hbox : v'.heap[v.heap.size]? = some (.cells #[I 6, I ca, I n, I cc] 39) := by rw [hv1, Array.getElem?_push, if_neg (by simp)]; exact Array.getElem?_push_size
  have hans : v'.heap[v.heap.size + 1]? = some (.cells #[I 0, I 0] 42) := by rw [hv1, Array.getElem?_push, if_pos (by simp)]
  have b0 : w'.cell? ⟨v.heap.size, 0, none⟩ = some (I 6) := by rw [hr'.cell?]; simp [World.cell?, hbox]
  have b2 : w'.cell? ⟨v.heap.size, 2, none⟩ = some (I n) := by rw [hr'.cell?]; simp [World.cell?, hbox]
  have HV : Hid (Grows v v' ∧ v'.heap[v.heap.size + 1]? = some (.cells #[I 0, I 0] 42) ∧ Evo z S K v S K v' ∧ NoRow Ch v' ∧ Rel z v' w') := ⟨⟨hg, hans, hm.grows hg, hn', hr'⟩⟩
  clear hv1 hv2 hv3 hsz hg hbox hans hn' hm hvw hn hr'
  generalize hN : v.heap.size = N at b0 b2 HV hstop ⊢
  simp only [Array.replicate_succ, Array.replicate_zero, List.push_toArray, List.append_toArray, List.nil_append, List.cons_append]
  show GoesI Try.prog main (DT (ScZ z) Ch) Stop (G ((base 57).at _ [.code (seq2 (Try.f57.body.getD .skip))]) _) w'
  unfold Try.f57 seq2
  simp only [Option.getD_some]
  refine goesI_seq (dt_idle _ _) ?_
  refine goesI_seq (dt_idle _ _) ?_
  refine goesI_region (dt_idle _ _) ?_
  simp only [List.size_toArray, List.length_cons, List.length_nil, Nat.reduceAdd, Nat.zero_add, List.range, List.range.loop]
  iterate 2
    (refine goesI_oper rfl rfl (by decide) (fun d K hK => ?_)
     go_simp
     refine hK _ _ ⟨dt_reads (fun e he => ?_), GoesI.at ?_ d⟩
     · have hm := mem_listed he
       simp [go_sem, *] at hm
       try exact ⟨_, _, hm⟩
     clear hK K)
  refine goesI_regionEnd (dt_idle _ _) ?_
  refine goesI_block (dt_idle _ _) ?_
  refine goesI_seq (dt_idle _ _) ?_
  refine goesI_region (dt_idle _ _) ?_
  simp only [List.size_toArray, List.length_cons, List.length_nil, Nat.reduceAdd, Nat.zero_add, List.range, List.range.loop]
  iterate 2
    (refine goesI_oper rfl rfl (by decide) (fun d K hK => ?_)
     go_simp
     refine hK _ _ ⟨dt_reads (fun e he => ?_), GoesI.at ?_ d⟩
     · have hm := mem_listed he
       simp [go_sem, *] at hm
       try exact ⟨_, _, hm⟩
     clear hK K)
  refine goesI_regionEnd (dt_idle _ _) ?_
  refine goesI_cond (dt_idle _ _) (t := false) rfl ?_
  simp only [if_true, if_false, Bool.false_eq_true]
  refine goesI_seq (dt_idle _ _) ?_
  refine goesI_region (dt_idle _ _) ?_
  simp only [List.size_toArray, List.length_cons, List.length_nil, Nat.reduceAdd, Nat.zero_add, List.range, List.range.loop]
  iterate 2
    (refine goesI_oper rfl rfl (by decide) (fun d K hK => ?_)
     go_simp
     refine hK _ _ ⟨dt_reads (fun e he => ?_), GoesI.at ?_ d⟩
     · have hm := mem_listed he
       simp [go_sem, *] at hm
       try exact ⟨_, _, hm⟩
     clear hK K)
  refine goesI_regionEnd (dt_idle _ _) ?_
  refine goesI_cond (dt_idle _ _) (t := false) rfl ?_
  simp only [if_true, if_false, Bool.false_eq_true]
  refine goesI_seq (dt_idle _ _) ?_
  refine goesI_region (dt_idle _ _) ?_
  simp only [List.size_toArray, List.length_cons, List.length_nil, Nat.reduceAdd, Nat.zero_add, List.range, List.range.loop]
  iterate 2
    (refine goesI_oper rfl rfl (by decide) (fun d K hK => ?_)
     go_simp
     refine hK _ _ ⟨dt_reads (fun e he => ?_), GoesI.at ?_ d⟩
     · have hm := mem_listed he
       simp [go_sem, *] at hm
       try exact ⟨_, _, hm⟩
     clear hK K)
  refine goesI_regionEnd (dt_idle _ _) ?_
  refine goesI_cond (dt_idle _ _) (t := false) rfl ?_
  simp only [if_true, if_false, Bool.false_eq_true]
  refine goesI_seq (dt_idle _ _) ?_
  refine goesI_region (dt_idle _ _) ?_
  simp only [List.size_toArray, List.length_cons, List.length_nil, Nat.reduceAdd, Nat.zero_add, List.range, List.range.loop]
  iterate 2
    (refine goesI_oper rfl rfl (by decide) (fun d K hK => ?_)
     go_simp
     refine hK _ _ ⟨dt_reads (fun e he => ?_), GoesI.at ?_ d⟩
     · have hm := mem_listed he
       simp [go_sem, *] at hm
       try exact ⟨_, _, hm⟩
     clear hK K)
  refine goesI_regionEnd (dt_idle _ _) ?_
  refine goesI_cond (dt_idle _ _) (t := false) rfl ?_
  simp only [if_true, if_false, Bool.false_eq_true]
  refine goesI_seq (dt_idle _ _) ?_
  refine goesI_region (dt_idle _ _) ?_
  simp only [List.size_toArray, List.length_cons, List.length_nil, Nat.reduceAdd, Nat.zero_add, List.range, List.range.loop]
  iterate 2
    (refine goesI_oper rfl rfl (by decide) (fun d K hK => ?_)
     go_simp
     refine hK _ _ ⟨dt_reads (fun e he => ?_), GoesI.at ?_ d⟩
     · have hm := mem_listed he
       simp [go_sem, *] at hm
       try exact ⟨_, _, hm⟩
     clear hK K)
  refine goesI_regionEnd (dt_idle _ _) ?_
  refine goesI_cond (dt_idle _ _) (t := false) rfl ?_
  simp only [if_true, if_false, Bool.false_eq_true]
  refine goesI_seq (dt_idle _ _) ?_
  refine goesI_region (dt_idle _ _) ?_
  simp only [List.size_toArray, List.length_cons, List.length_nil, Nat.reduceAdd, Nat.zero_add, List.range, List.range.loop]
  iterate 2
    (refine goesI_oper rfl rfl (by decide) (fun d K hK => ?_)
     go_simp
     refine hK _ _ ⟨dt_reads (fun e he => ?_), GoesI.at ?_ d⟩
     · have hm := mem_listed he
       simp [go_sem, *] at hm
       try exact ⟨_, _, hm⟩
     clear hK K)
  refine goesI_regionEnd (dt_idle _ _) ?_
  refine goesI_cond (dt_idle _ _) (t := true) rfl ?_
  simp only [if_true, if_false, Bool.false_eq_true]
  refine goesI_seq (dt_idle _ _) ?_
  refine goesI_seq (dt_idle _ _) ?_
  refine goesI_region (dt_idle _ _) ?_
  simp only [List.size_toArray, List.length_cons, List.length_nil, Nat.reduceAdd, Nat.zero_add, List.range, List.range.loop]
  iterate 4
    (refine goesI_oper rfl rfl (by decide) (fun d K hK => ?_)
     go_simp
     refine hK _ _ ⟨dt_reads (fun e he => ?_), GoesI.at ?_ d⟩
     · have hm := mem_listed he
       simp [go_sem, *] at hm
       try exact ⟨_, _, hm⟩
     clear hK K)
  refine goesI_into (f := 27) (fn := Try.f27) (args := #[Pt cb 0, Pt t.tb 0, I n]) (dt_idle _ _) rfl rfl (by decide) rfl (by simp [Act.eval]) Try.func27 (by decide) rfl ?_
  refine until_in n _ (fun u => hstop v' w' u _ _ _ _ _ _ _ HV.out.2.2.2.2 HV.out.2.2.2.1 HV.out.1 HV.out.2.1 rfl ?_) _ rfl
  clear hstop b0 b2 HV
  intro z1 Ch1 St w2 v2 S1 K1 b r2 n2 m2 hab2 hown2 hk
  cases b with
  | true =>
    have q0 : w2.cell? ⟨N + 1, 0, none⟩ = some (I 0) := by rw [r2.cell?]; simp [World.cell?, hab2]
    have q1 : w2.cell? ⟨N + 1, 1, none⟩ = some (I 0) := by rw [r2.cell?]; simp [World.cell?, hab2]
    have p0 : w2.frozen? ⟨N + 1, 0, none⟩ = false := r2.thawed (by simp [World.frozen?, hab2])
    have p1 : w2.frozen? ⟨N + 1, 1, none⟩ = false := r2.thawed (by simp [World.frozen?, hab2])
    have HK : Hid (∀ v' w', Rel z1 v' w' → NoRow Ch1 v' → EvoP (· = N + 1) z1 S1 K1 v2 S1 K1 v' → GoesI Try.prog main (DT (ScZ z1) Ch1) St (G (bc.at (ac.put oc.dst (.agg #[I 0, I 0])) (.inRegion ops rest :: k)) cs) w') := ⟨fun v' w' h1 h2 h3 => hk v' w' h1 h2 h3⟩
    have HB : Hid (EvoP (· = N + 1) z1 S1 K1 v2 S1 K1 v2 ∧ Rel z1 v2 w2 ∧ NoRow Ch1 v2 ∧ v2.heap[N + 1]? = some (.cells #[I 0, I 0] 42 (0, 0))) := ⟨⟨(Evo.refl m2).toP, r2, n2, hab2⟩⟩
    have HD : Hid ((∀ a, ScZ z1 a → a.block ≠ N + 1) ∧ ∀ c, Ch1 c → c ≠ N + 1) := ⟨⟨m2.noKept hown2, fun c hc e => by
      obtain ⟨o, o1, o2⟩ := n2 c hc
      rw [e, hab2] at o1
      cases o1
      exact o2 _ _ _ rfl⟩⟩
    have HO : Hid (¬ Own S1 K1 (N + 1)) := ⟨hown2⟩
    show GoesI Try.prog main (DT (ScZ z1) Ch1) St (G ((base 57).at (Act.put _ _ (.bool true)) _) _) w2
    clear hk r2 n2 hab2 hown2 m2
    walk_nrm
    refine goesI_regionEnd (dt_idle _ _) ?_
    refine goesI_cond (dt_idle _ _) (t := true) rfl ?_
    simp only [if_true, if_false, Bool.false_eq_true]
    refine goesI_seq (dt_idle _ _) ?_
    refine goesI_region (dt_idle _ _) ?_
    simp only [List.size_toArray, List.length_cons, List.length_nil, Nat.reduceAdd, Nat.zero_add, List.range, List.range.loop]
    (refine goesI_oper rfl rfl (by decide) (fun d K hK => ?_)
     go_simp
     refine hK _ _ ⟨dt_reads (fun e he => ?_), GoesI.at ?_ d⟩
     · have hm := mem_listed he
       simp [go_sem, *] at hm
     clear hK K)
    refine goesI_oper rfl rfl (by decide) (fun d K hK => ?_)
    go_simp
    refine hK _ _ ⟨dt_block (B := N + 1) HD.out.1 HD.out.2 (fun b hb => ?_) (fun e he => ?_), ?_⟩
    · rw [Below.heap_setCell _ _ _ _ hb, Below.heap_setCell _ _ _ _ hb]
    · have hm := mem_listed he
      simp [go_sem, storedEv, *] at hm
      rcases hm with rfl | rfl <;> exact ⟨_, rfl, rfl⟩
    clear hK
    obtain ⟨ev, r2, n2, hab2⟩ := HB.out
    have r3 : Rel z1 ((v2.setCell ⟨N + 1, 0, none⟩ (I 0)).setCell ⟨N + 1, 1, none⟩ (I 0)) (((w2.at d).setCell ⟨N + 1, 0, none⟩ (I 0)).setCell ⟨N + 1, 1, none⟩ (I 0)) :=
      ((r2.re (w' := w2.at d) rfl rfl rfl rfl rfl rfl).setCell _ _).setCell _ _
    have hrow : ((v2.setCell ⟨N + 1, 0, none⟩ (I 0)).setCell ⟨N + 1, 1, none⟩ (I 0)).heap[N + 1]? = some (.cells #[I 0, I 0] 42 (0, 0)) := by
      have := heap_setCell_same (o := 1) (heap_setCell_same (o := 0) hab2 (I 0)) (I 0)
      simpa using this
    have n3 : NoRow Ch1 ((v2.setCell ⟨N + 1, 0, none⟩ (I 0)).setCell ⟨N + 1, 1, none⟩ (I 0)) := fun c hc => by
      rw [Below.heap_setCell _ _ _ _ (HD.out.2 c hc), Below.heap_setCell _ _ _ _ (HD.out.2 c hc)]
      exact n2 c hc
    have e3 := ev.trans (ev.mem.other (v' := (v2.setCell ⟨N + 1, 0, none⟩ (I 0)).setCell ⟨N + 1, 1, none⟩ (I 0)) HO.out (fun b hb => by rw [Below.heap_setCell _ _ _ _ hb, Below.heap_setCell _ _ _ _ hb]) (by simp [World.setCell]) rfl rfl)
    refine goesI_regionEnd (dt_idle _ _) ?_
    refine GoesI.ctl rfl (fun _ => stepG_ret') (dt_idle _ _) ?_
    refine goesI_leaveZ (f := 57) (fn := Try.f57) (x := .agg #[I 0, I 0]) r3 n3 Try.func57 rfl hoc ?_ (fun w' r' => HK.out _ w' r' n3 e3)
    generalize ((v2.setCell ⟨N + 1, 0, none⟩ (I 0)).setCell ⟨N + 1, 1, none⟩ (I 0)) = V at hrow
    have k0 : V.cell? ⟨N + 1, 0, none⟩ = some (I 0) := by simp [World.cell?, hrow]
    have k1 : V.cell? ⟨N + 1, 1, none⟩ = some (I 0) := by simp [World.cell?, hrow]
    simp [results, go_sem, Try.f57, *]
  | false =>
    have q0 : w2.cell? ⟨N + 1, 0, none⟩ = some (I 0) := by rw [r2.cell?]; simp [World.cell?, hab2]
    have q1 : w2.cell? ⟨N + 1, 1, none⟩ = some (I 0) := by rw [r2.cell?]; simp [World.cell?, hab2]
    have p0 : w2.frozen? ⟨N + 1, 0, none⟩ = false := r2.thawed (by simp [World.frozen?, hab2])
    have p1 : w2.frozen? ⟨N + 1, 1, none⟩ = false := r2.thawed (by simp [World.frozen?, hab2])
    have HK : Hid (∀ v' w', Rel z1 v' w' → NoRow Ch1 v' → EvoP (· = N + 1) z1 S1 K1 v2 S1 K1 v' → GoesI Try.prog main (DT (ScZ z1) Ch1) St (G (bc.at (ac.put oc.dst (.agg #[I 4, I 0])) (.inRegion ops rest :: k)) cs) w') := ⟨fun v' w' h1 h2 h3 => hk v' w' h1 h2 h3⟩
    have HB : Hid (EvoP (· = N + 1) z1 S1 K1 v2 S1 K1 v2 ∧ Rel z1 v2 w2 ∧ NoRow Ch1 v2 ∧ v2.heap[N + 1]? = some (.cells #[I 0, I 0] 42 (0, 0))) := ⟨⟨(Evo.refl m2).toP, r2, n2, hab2⟩⟩
    have HD : Hid ((∀ a, ScZ z1 a → a.block ≠ N + 1) ∧ ∀ c, Ch1 c → c ≠ N + 1) := ⟨⟨m2.noKept hown2, fun c hc e => by
      obtain ⟨o, o1, o2⟩ := n2 c hc
      rw [e, hab2] at o1
      cases o1
      exact o2 _ _ _ rfl⟩⟩
    have HO : Hid (¬ Own S1 K1 (N + 1)) := ⟨hown2⟩
    show GoesI Try.prog main (DT (ScZ z1) Ch1) St (G ((base 57).at (Act.put _ _ (.bool false)) _) _) w2
    clear hk r2 n2 hab2 hown2 m2
    walk_nrm
    refine goesI_regionEnd (dt_idle _ _) ?_
    refine goesI_cond (dt_idle _ _) (t := false) rfl ?_
    simp only [if_true, if_false, Bool.false_eq_true]
    refine goesI_skip (dt_idle _ _) ?_
    refine goesI_seq (dt_idle _ _) ?_
    refine goesI_region (dt_idle _ _) ?_
    simp only [List.size_toArray, List.length_cons, List.length_nil, Nat.reduceAdd, Nat.zero_add, List.range, List.range.loop]
    (refine goesI_oper rfl rfl (by decide) (fun d K hK => ?_)
     go_simp
     refine hK _ _ ⟨dt_reads (fun e he => ?_), GoesI.at ?_ d⟩
     · have hm := mem_listed he
       simp [go_sem, *] at hm
     clear hK K)
    refine goesI_oper rfl rfl (by decide) (fun d K hK => ?_)
    go_simp
    refine hK _ _ ⟨dt_block (B := N + 1) HD.out.1 HD.out.2 (fun b hb => ?_) (fun e he => ?_), ?_⟩
    · rw [Below.heap_setCell _ _ _ _ hb, Below.heap_setCell _ _ _ _ hb]
    · have hm := mem_listed he
      simp [go_sem, storedEv, *] at hm
      rcases hm with rfl | rfl <;> exact ⟨_, rfl, rfl⟩
    clear hK
    obtain ⟨ev, r2, n2, hab2⟩ := HB.out
    have r3 : Rel z1 ((v2.setCell ⟨N + 1, 0, none⟩ (I 4)).setCell ⟨N + 1, 1, none⟩ (I 0)) (((w2.at d).setCell ⟨N + 1, 0, none⟩ (I 4)).setCell ⟨N + 1, 1, none⟩ (I 0)) :=
      ((r2.re (w' := w2.at d) rfl rfl rfl rfl rfl rfl).setCell _ _).setCell _ _
    have hrow : ((v2.setCell ⟨N + 1, 0, none⟩ (I 4)).setCell ⟨N + 1, 1, none⟩ (I 0)).heap[N + 1]? = some (.cells #[I 4, I 0] 42 (0, 0)) := by
      have := heap_setCell_same (o := 1) (heap_setCell_same (o := 0) hab2 (I 4)) (I 0)
      simpa using this
    have n3 : NoRow Ch1 ((v2.setCell ⟨N + 1, 0, none⟩ (I 4)).setCell ⟨N + 1, 1, none⟩ (I 0)) := fun c hc => by
      rw [Below.heap_setCell _ _ _ _ (HD.out.2 c hc), Below.heap_setCell _ _ _ _ (HD.out.2 c hc)]
      exact n2 c hc
    have e3 := ev.trans (ev.mem.other (v' := (v2.setCell ⟨N + 1, 0, none⟩ (I 4)).setCell ⟨N + 1, 1, none⟩ (I 0)) HO.out (fun b hb => by rw [Below.heap_setCell _ _ _ _ hb, Below.heap_setCell _ _ _ _ hb]) (by simp [World.setCell]) rfl rfl)
    refine goesI_regionEnd (dt_idle _ _) ?_
    refine GoesI.ctl rfl (fun _ => stepG_ret') (dt_idle _ _) ?_
    refine goesI_leaveZ (f := 57) (fn := Try.f57) (x := .agg #[I 4, I 0]) r3 n3 Try.func57 rfl hoc ?_ (fun w' r' => HK.out _ w' r' n3 e3)
    generalize ((v2.setCell ⟨N + 1, 0, none⟩ (I 4)).setCell ⟨N + 1, 1, none⟩ (I 0)) = V at hrow
    have k0 : V.cell? ⟨N + 1, 0, none⟩ = some (I 4) := by simp [World.cell?, hrow]
    have k1 : V.cell? ⟨N + 1, 1, none⟩ = some (I 0) := by simp [World.cell?, hrow]
    simp [results, go_sem, Try.f57, *]
end Go.Proofs.Ytfjjoohflcchnaa
