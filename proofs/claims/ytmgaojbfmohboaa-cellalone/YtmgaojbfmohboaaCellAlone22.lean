/- CellAlone returns true, whatever the number and the calls, and leaves what it was given as it was: of the law's statement as given, with no condition of our own. Part 22 of 22. (Joined, by program, of: Loop5, Pre5, Law5, Run5, AloneRow.) -/
import Derived.Test.YtmgaojbfmohboaaCellAlone21
import Derived.Test.YtmgaojbfmohboaaRows
import Derived.Conc.LeavingOf
import Derived.ProofKit
import Derived.OpenShut
import Derived.ChangeOld
import Derived.Lib.SmallJoins
import Derived.Deep.SlicePairs

/- The law CellAlone (5): its loop, main alone. -/
set_option linter.unusedSimpArgs false
set_option linter.unusedVariables false
namespace Go.Proofs.Ytmgaojbfmohboaa
open Go Go.Lift Go.Conc Go.RowKit

/-- The calls lie there. -/
def InL (v : World) (lb lo : Nat) (calls : List Cl) : Prop := ∀ (k : Nat) (c : Cl), calls[k]? = some c → v.cell? ⟨lb, lo + k * 4, none⟩ = some (I c.po) ∧ v.cell? ⟨lb, lo + k * 4 + 1, none⟩ = some (I c.ca) ∧ v.cell? ⟨lb, lo + k * 4 + 2, none⟩ = some (I c.cb) ∧ v.cell? ⟨lb, lo + k * 4 + 3, none⟩ = some (I c.cc)
theorem InL.go {v v' : World} {lb lo : Nat} {calls : List Cl} (h : InL v lb lo calls) (e : v'.heap[lb]? = v.heap[lb]?) : InL v' lb lo calls := fun k c hc => by
  have := h k c hc
  exact ⟨by rw [World.cell?_of_block (w := v) (w' := v') e]; exact this.1, by rw [World.cell?_of_block (w := v) (w' := v') e]; exact this.2.1, by rw [World.cell?_of_block (w := v) (w' := v') e]; exact this.2.2.1, by rw [World.cell?_of_block (w := v) (w' := v') e]; exact this.2.2.2⟩

theorem loop5 {Ch : Nat → Prop} {Stop : Goroutine → World → Prop} {main : Bool} {x0 : Int} {p : Option Addr} {lb lo n cap cb tb : Nat} (hp : 0 < n → p = some ⟨lb, lo, none⟩) (calls : List Cl) (hl : calls.length = n) (hn9 : (n : Int) < 9223372036854775808) (cs : List Frame) (kk : List Item) : ∀ (m k : Nat) (a : Act) (v w : World) (now : Int), k + m = n → Rel zn v w → NoRow Ch v → A5 x0 (.slice p n cap) cb tb now k a → Fm tb cb now v → InL v lb lo calls → (0 < n → lb ≠ cb) →
    (∀ a' v' w' now', Rel zn v' w' → NoRow Ch v' → Fgo tb cb now' v v' → A5 x0 (.slice p n cap) cb tb now' n a' → GoesI Try.prog main (DT (ScZ zn) Ch) Stop (G ((base 5).at a' kk) cs) w') →
    GoesI Try.prog main (DT (ScZ zn) Ch) Stop (G ((base 5).at a (.code L5 :: .inLoop L5 :: .inBlock 0 :: kk)) cs) w
  | 0, k, a, v, w, now, hkm, hr, hn, hA, hm, hI, hne, hK => by
    have hkn : k = n := by omega
    rw [eL5]
    refine goesI_seq (dt_idle _ _) ?_
    refine goesI_seq (dt_idle _ _) ?_
    refine headN (v := v) (lb := lb) (lo := lo) cs _ (K' := kk) (by omega) hn9 hA (by simp [exitTo]) (fun a' hA' => ?_)
    rw [hkn] at hA'
    exact hK a' v w now hr hn (Fto.refl hm).go hA'
  | m + 1, k, a, v, w, now, hkm, hr, hn, hA, hm, hI, hne, hK => by
    have hkn : k < n := by omega
    obtain rfl := hp (by omega)
    obtain ⟨c, hc⟩ : ∃ c, calls[k]? = some c := ⟨_, List.getElem?_eq_getElem (by omega)⟩
    have h4 := hI k c hc
    have hlb : lb < v.heap.size := World.block_lt_of_cell? _ _ h4.1
    rw [eL5]
    refine goesI_seq (dt_idle _ _) ?_
    refine goesI_seq (dt_idle _ _) ?_
    refine head5 (v := v) (lb := lb) (lo := lo) cs _ hkn hn9 hA (fun a1 hA1 => ?_)
    refine goesI_seq (dt_idle _ _) ?_
    refine goesI_block (dt_idle _ _) ?_
    rw [eI5]
    refine goesI_seq (dt_idle _ _) ?_
    refine get5 (p := none) c cs _ t5 hkn hr hn hA1 h4.1 h4.2.1 h4.2.2.1 h4.2.2.2 (fun a2 v2 w2 r2 n2 hA2 h10 h11 h38 eh eo eu => ?_)
    rw [← eI5, ← eL5]
    have hold : ∀ b, b < v.heap.size → v2.heap[b]? = v.heap[b]? := fun b hb => by rw [eh, Array.getElem?_push, if_neg (by omega)]
    have hs2 : v2.heap.size = v.heap.size + 1 := by rw [eh]; simp
    have htl : tb < v.heap.size := (Array.getElem?_eq_some_iff.1 hm.thr).1
    have hcl : cb < v.heap.size := (Array.getElem?_eq_some_iff.1 hm.cel).1
    have hm2 : Fm tb cb now v2 := ⟨by rw [hold tb htl]; exact hm.thr, by rw [hold cb hcl]; exact hm.cel⟩
    have g2 : Fgo tb cb now v v2 := ⟨hm2, fun b hb _ => hold b hb, by omega, eo, eu⟩
    refine sw_all c cs _ r2 n2 hm2 (by rw [eh]; exact Array.getElem?_push_size) hA2 h10 h11 h38 (fun a3 v3 w3 r3 n3 h3 hA3 h311 => ?_)
    refine tail5 (lb := lb) (lo := lo) cs _ (by omega) r3 n3 h3.fm hA3 h311 (fun a4 v4 w4 r4 n4 h4' hA4 => ?_)
    refine goesI_inLoop (dt_idle _ _) ?_
    have g4 : Fgo tb cb (nextC c now) v v4 := (g2.trans h3.go).trans h4'.go
    exact loop5 hp calls hl hn9 cs kk m (k + 1) a4 v4 w4 (nextC c now) (by omega) r4 n4 hA4 g4.fm (hI.go (g4.old lb hlb (hne (by omega)))) hne (fun a' v' w' now' q1 q2 q3 q4 => hK a' v' w' now' q1 q2 (g4.trans q3) q4)
end Go.Proofs.Ytmgaojbfmohboaa

/- The law CellAlone (5): what stands around its loop, main alone. -/
set_option linter.unusedSimpArgs false
set_option linter.unusedVariables false
namespace Go.Proofs.Ytmgaojbfmohboaa
open Go Go.Lift Go.Conc Go.RowKit

noncomputable def q52 : Code := seq1 (seq2 (seq2 B5))
noncomputable def q53 : Code := seq1 (seq2 (seq2 (seq2 B5)))
noncomputable def q55 : Code := seq1 (seq2 (seq2 (seq2 (seq2 B5))))
noncomputable def q56 : Code := seq1 (seq2 (seq2 (seq2 (seq2 (seq2 B5)))))
noncomputable def q57 : Code := seq1 C57
noncomputable def q535 : Code := seq1 (seq2 (seq2 (seq2 (seq2 (seq2 (seq2 (seq2 B5)))))))
theorem fineQ2 : fineCode Try.prog true LO q52 := fineCode_ask callO extT (by kernel_rfl)
theorem fineQ3 : fineCode Try.prog true LO q53 := fineCode_ask callO extT (by kernel_rfl)
theorem fineQ5 : fineCode Try.prog true LO q55 := fineCode_ask callO extT (by kernel_rfl)
theorem fineQ6 : fineCode Try.prog true LO q56 := fineCode_ask callO extT (by kernel_rfl)
theorem fineQ7 : fineCode Try.prog true LO q57 := fineCode_ask callO extT (by kernel_rfl)
theorem fineQ35 : fineCode Try.prog true LO q535 := fineCode_ask callO extT (by kernel_rfl)
theorem eB5 : B5 = .seq (seq1 B5) (.seq (seq1 (seq2 B5)) (.seq q52 (.seq q53 (.seq q55 (.seq q56 (.seq (.seq q57 (.block 0 (.loop L5))) (.seq q535 .ret))))))) := by kernel_rfl

/-- Ahead of the loop. -/
structure A0 (x0 : Int) (lst : Value) (a : Act) : Prop where
  size : a.tmps.size = 119
  defers : a.defers = []
  t0 : a.tmps.getD 0 undef = I x0
  t1 : a.tmps.getD 1 undef = lst
  t5 : a.tmps.getD 5 undef = .bool true
section
variable {v : World} {a : Act} {x0 : Int} {lst : Value} {cb tb : Nat}
set_option maxHeartbeats 4000000 in
set_option maxRecDepth 100000 in
theorem q52_wp (hA : A0 x0 lst a) : q52.wp Try.prog (fun e a w' => e = .normal ∧ A0 x0 lst a ∧ a.tmps.getD 6 undef = Pt v.heap.size 0 ∧ w'.heap = v.heap.push (.cells #[I 0, I x0] 70) ∧ w'.os = v.os ∧ w'.output = v.output) a v := by
  obtain ⟨u, rfl, hg⟩ := lit119 hA.size hA.defers
  have u0 := (hg 0).symm.trans hA.t0
  have u1 := (hg 1).symm.trans hA.t1
  have u5 := (hg 5).symm.trans hA.t5
  clear hg hA
  show Code.wp Try.prog (seq1 (seq2 (seq2 B5))) _ _ _
  unfold B5 Try.f5 seq2 seq1
  simp only [Option.getD_some, lits, Nat.reduceAdd, u0, u1, u5]
  clear u0 u1 u5
  go_wp2_with (first
    | (go_at_call 10; refine ((body10n v x0).calls Try.func10 rfl).mono ?_; rintro e w1 ⟨_, rfl, rfl, hh, ho, hu⟩))
  exact ⟨rfl, rfl, rfl, rfl, rfl⟩
set_option maxHeartbeats 4000000 in
set_option maxRecDepth 100000 in
theorem q53_wp (hA : A0 x0 lst a) (h6 : a.tmps.getD 6 undef = Pt cb 0) : q53.wp Try.prog (fun e a w' => e = .normal ∧ A0 x0 lst a ∧ a.tmps.getD 6 undef = Pt cb 0 ∧ w'.heap = v.heap ∧ w'.os = v.os ∧ w'.output = v.output) a v := by
  obtain ⟨u, rfl, hg⟩ := lit119 hA.size hA.defers
  have u0 := (hg 0).symm.trans hA.t0
  have u1 := (hg 1).symm.trans hA.t1
  have u5 := (hg 5).symm.trans hA.t5
  have u6 := (hg 6).symm.trans h6
  clear hg hA h6
  show Code.wp Try.prog (seq1 (seq2 (seq2 (seq2 B5)))) _ _ _
  unfold B5 Try.f5 seq2 seq1
  simp only [Option.getD_some, lits, Nat.reduceAdd, u0, u1, u5, u6]
  clear u0 u1 u5 u6
  go_wp2_with fail
  exact ⟨rfl, rfl, rfl, rfl, rfl⟩
set_option maxHeartbeats 4000000 in
set_option maxRecDepth 100000 in
theorem q55_wp (hA : A0 x0 lst a) (h6 : a.tmps.getD 6 undef = Pt cb 0) : q55.wp Try.prog (fun e a w' => e = .normal ∧ A0 x0 lst a ∧ a.tmps.getD 6 undef = Pt cb 0 ∧ a.tmps.getD 7 undef = Pt v.heap.size 0 ∧ w'.heap = v.heap.push (.cells #[.pointer none, I 3, .chan none, I 0, I 0, I 0, I 0] 73) ∧ w'.os = v.os ∧ w'.output = v.output) a v := by
  obtain ⟨u, rfl, hg⟩ := lit119 hA.size hA.defers
  have u0 := (hg 0).symm.trans hA.t0
  have u1 := (hg 1).symm.trans hA.t1
  have u5 := (hg 5).symm.trans hA.t5
  have u6 := (hg 6).symm.trans h6
  clear hg hA h6
  show Code.wp Try.prog (seq1 (seq2 (seq2 (seq2 (seq2 B5))))) _ _ _
  unfold B5 Try.f5 seq2 seq1
  simp only [Option.getD_some, lits, Nat.reduceAdd, u0, u1, u5, u6]
  clear u0 u1 u5 u6
  go_wp2_with (first
    | (go_at_call 11; refine ((body11 v).calls Try.func11 rfl).mono ?_; rintro e w1 ⟨_, rfl, rfl, hh, ho, hu⟩))
  exact ⟨rfl, rfl, rfl, rfl, rfl⟩
set_option maxHeartbeats 4000000 in
set_option maxRecDepth 100000 in
theorem q56_wp (hA : A0 x0 lst a) (h6 : a.tmps.getD 6 undef = Pt cb 0) (h7 : a.tmps.getD 7 undef = Pt tb 0) : q56.wp Try.prog (fun e a w' => e = .normal ∧ A0 x0 lst a ∧ a.tmps.getD 6 undef = Pt cb 0 ∧ a.tmps.getD 7 undef = Pt tb 0 ∧ a.tmps.getD 8 undef = I x0 ∧ w'.heap = v.heap ∧ w'.os = v.os ∧ w'.output = v.output) a v := by
  obtain ⟨u, rfl, hg⟩ := lit119 hA.size hA.defers
  have u0 := (hg 0).symm.trans hA.t0
  have u1 := (hg 1).symm.trans hA.t1
  have u5 := (hg 5).symm.trans hA.t5
  have u6 := (hg 6).symm.trans h6
  have u7 := (hg 7).symm.trans h7
  clear hg hA h6 h7
  show Code.wp Try.prog (seq1 (seq2 (seq2 (seq2 (seq2 (seq2 B5)))))) _ _ _
  unfold B5 Try.f5 seq2 seq1
  simp only [Option.getD_some, lits, Nat.reduceAdd, u0, u1, u5, u6, u7]
  clear u0 u1 u5 u6 u7
  go_wp2_with fail
  exact ⟨rfl, rfl, rfl, rfl, rfl⟩
set_option maxHeartbeats 4000000 in
set_option maxRecDepth 100000 in
theorem q57_wp (hA : A0 x0 lst a) (h6 : a.tmps.getD 6 undef = Pt cb 0) (h7 : a.tmps.getD 7 undef = Pt tb 0) (h8 : a.tmps.getD 8 undef = I x0) : q57.wp Try.prog (fun e a w' => e = .normal ∧ A5 x0 lst cb tb x0 ((0 : Nat) : Int) a ∧ w'.heap = v.heap ∧ w'.os = v.os ∧ w'.output = v.output) a v := by
  obtain ⟨u, rfl, hg⟩ := lit119 hA.size hA.defers
  have u0 := (hg 0).symm.trans hA.t0
  have u1 := (hg 1).symm.trans hA.t1
  have u5 := (hg 5).symm.trans hA.t5
  have u6 := (hg 6).symm.trans h6
  have u7 := (hg 7).symm.trans h7
  have u8 := (hg 8).symm.trans h8
  clear hg hA h6 h7 h8
  show Code.wp Try.prog (seq1 C57) _ _ _
  unfold C57 B5 Try.f5 seq2 seq1
  simp only [Option.getD_some, lits, Nat.reduceAdd, u0, u1, u5, u6, u7, u8]
  clear u0 u1 u5 u6 u7 u8
  go_wp2_with fail
  exact ⟨rfl, rfl, rfl, rfl, rfl, rfl, rfl, rfl⟩
set_option maxHeartbeats 4000000 in
set_option maxRecDepth 100000 in
theorem q535_wp {now i : Int} (hA : A5 x0 lst cb tb now i a) (hc : v.cell? ⟨cb, 0, none⟩ = some (I 0)) : q535.wp Try.prog (fun e a w' => e = .normal ∧ a.tmps.getD 4 undef = .bool true ∧ w'.heap = v.heap ∧ w'.os = v.os ∧ w'.output = v.output) a v := by
  obtain ⟨u, rfl, hg⟩ := lit119 hA.size hA.defers
  have u6 := (hg 6).symm.trans hA.t6
  clear hg hA
  show Code.wp Try.prog (seq1 (seq2 (seq2 (seq2 (seq2 (seq2 (seq2 (seq2 B5)))))))) _ _ _
  unfold B5 Try.f5 seq2 seq1
  simp only [Option.getD_some, lits, Nat.reduceAdd, u6]
  clear u6
  go_wp2_with (first
    | (go_at_call 18; refine ((body18 v cb hc).calls Try.func18 rfl).mono ?_; rintro e w1 ⟨_, rfl, rfl, rfl⟩))
  try exact ⟨rfl, rfl, rfl, rfl⟩
end
end Go.Proofs.Ytmgaojbfmohboaa

/- The law CellAlone (5), main alone: from its entry to its call of awake, and behind it to its end. -/
set_option linter.unusedSimpArgs false
set_option linter.unusedVariables false
namespace Go.Proofs.Ytmgaojbfmohboaa
open Go Go.Lift Go.Conc Go.RowKit

theorem InL.grows {v v' : World} {lb lo : Nat} {calls : List Cl} (h : InL v lb lo calls) (g : ∀ b, b < v.heap.size → v'.heap[b]? = v.heap[b]?) : InL v' lb lo calls := fun k c hc => by
  have h4 := h k c hc
  have hl : lb < v.heap.size := World.block_lt_of_cell? _ _ h4.1
  exact h.go (g lb hl) k c hc

set_option maxHeartbeats 4000000 in
set_option maxRecDepth 100000 in
theorem law5_in {Ch : Nat → Prop} {Stop : Goroutine → World → Prop} {main : Bool} {v w : World} (x0 : Int) (p : Option Addr) (n cap lb lo : Nat) (calls : List Cl) (hp : 0 < n → p = some ⟨lb, lo, none⟩) (hl : calls.length = n) (hn9 : (n : Int) < 9223372036854775808)
    (hk : ∀ (w' : World) (bd : Frame) (ad : Act) (od : Array Oper) (qd : Nat) (rd : List Nat) (oe : Oper) (kd : List Item), (∃ d, w' = w.at d) → od[qd]? = some oe →
      (∀ (Ch : Nat → Prop) (Stop : Goroutine → World → Prop) (v1 w1 : World), Rel zn v1 w1 → NoRow Ch v1 → InL v1 lb lo calls → (∀ a' v' w' todo, Rel zn v' w' → Grows v1 v' → a'.defers = [] → a'.tmps.getD 4 undef = .bool true → GoesI Try.prog main (DT (ScZ zn) Ch) Stop (G { (base 5).at a' todo with mode := .returning } []) w') → GoesI Try.prog main (DT (ScZ zn) Ch) Stop (G (bd.at (ad.put oe.dst (.bool true)) (.inRegion od rd :: kd)) []) w1) →
      GoesI Try.prog main (DT (ScZ zn) Ch) Stop (G ((base 6).at { tmps := Array.replicate 72 undef, defers := [] } [.code B6]) [bd.at ad (.inRegion od (qd :: rd) :: kd)]) w') :
    GoesI Try.prog main (DT (ScZ zn) Ch) Stop (G ((base 5).at { tmps := #[I x0, .slice p n cap] ++ Array.replicate 117 undef, defers := [] } [.code B5]) []) w := by
  rw [eB5]
  simp only [Array.replicate_succ, Array.replicate_zero, List.push_toArray, List.append_toArray, List.nil_append, List.cons_append]
  refine goesI_seq (dt_idle _ _) ?_
  generalize hR : (Code.seq q52 (.seq q53 (.seq q55 (.seq q56 (.seq (.seq q57 (.block 0 (.loop L5))) (.seq q535 .ret)))))) = R5
  unfold B5 Try.f5 seq1 seq2
  simp only [Option.getD_some]
  refine goesI_region (dt_idle _ _) ?_
  simp only [List.size_toArray, List.length_cons, List.length_nil, Nat.reduceAdd, Nat.zero_add, List.range, List.range.loop]
  (refine goesI_oper rfl rfl (by decide) (fun d K hK => ?_)
   go_simp
   refine hK _ _ ⟨dt_reads (fun e he => ?_), GoesI.at ?_ d⟩
   · have hm := mem_listed he
     simp [go_sem, *] at hm
   clear hK K)
  refine goesI_regionEnd (dt_idle _ _) ?_
  refine goesI_seq (dt_idle _ _) ?_
  refine goesI_region (dt_idle _ _) ?_
  simp only [List.size_toArray, List.length_cons, List.length_nil, Nat.reduceAdd, Nat.zero_add, List.range, List.range.loop]
  refine goesI_into (f := 6) (fn := Try.f6) (args := #[]) (dt_idle _ _) rfl rfl (by decide) rfl (by simp [Act.eval]) Try.func6 (by decide) rfl ?_
  refine hk w _ _ _ _ _ _ _ ⟨w.drawn, rfl⟩ rfl (fun Ch Stop v1 w1 hvw hn hI hend => ?_)
  clear hk
  (refine goesI_oper rfl rfl (by decide) (fun d K hK => ?_)
   go_simp
   refine hK _ _ ⟨dt_reads (fun e he => ?_), GoesI.at ?_ d⟩
   · have hm := mem_listed he
     simp [go_sem, *] at hm
   clear hK K)
  refine goesI_regionEnd (dt_idle _ _) ?_
  subst hR
  refine (show ∀ a : Act, A0 x0 (.slice p n cap) a → GoesI Try.prog main (DT (ScZ zn) Ch) Stop (G ((base 5).at a [.code (Code.seq q52 (.seq q53 (.seq q55 (.seq q56 (.seq (.seq q57 (.block 0 (.loop L5))) (.seq q535 .ret))))))]) []) w1 from fun a hA => ?_) _ ⟨rfl, rfl, rfl, rfl, rfl⟩
  refine goesI_seq (dt_idle _ _) ?_
  refine goesI_plain (z := zn) (wr := true) (L := LO) (I := NoRow Ch) hE fineO noRow_keeps (fun v v' w w' es hi hr ho he => dt_of_z v v' w w' es hi hr ho he) hvw fineQ2 hA.defers (by simp [base]) hn
    (Q := fun a w' => A0 x0 (.slice p n cap) a ∧ a.tmps.getD 6 undef = Pt v1.heap.size 0 ∧ w'.heap = v1.heap.push (.cells #[I 0, I x0] 70) ∧ w'.os = v1.os ∧ w'.output = v1.output) (fun τ => q52_wp (v := onTape v1 τ 0) hA) ?_
  rintro a2 v2 w2 ⟨hA2, h62, e2, o2, u2⟩ hr2 hn2 -
  refine goesI_seq (dt_idle _ _) ?_
  refine goesI_plain (z := zn) (wr := true) (L := LO) (I := NoRow Ch) hE fineO noRow_keeps (fun v v' w w' es hi hr ho he => dt_of_z v v' w w' es hi hr ho he) hr2 fineQ3 hA2.defers (by simp [base]) hn2
    (Q := fun a w' => A0 x0 (.slice p n cap) a ∧ a.tmps.getD 6 undef = Pt v1.heap.size 0 ∧ w'.heap = v2.heap ∧ w'.os = v2.os ∧ w'.output = v2.output) (fun τ => q53_wp (v := onTape v2 τ 0) hA2 h62) ?_
  rintro a3 v3 w3 ⟨hA3, h63, e3, o3, u3⟩ hr3 hn3 -
  refine goesI_seq (dt_idle _ _) ?_
  refine goesI_plain (z := zn) (wr := true) (L := LO) (I := NoRow Ch) hE fineO noRow_keeps (fun v v' w w' es hi hr ho he => dt_of_z v v' w w' es hi hr ho he) hr3 fineQ5 hA3.defers (by simp [base]) hn3
    (Q := fun a w' => A0 x0 (.slice p n cap) a ∧ a.tmps.getD 6 undef = Pt v1.heap.size 0 ∧ a.tmps.getD 7 undef = Pt v3.heap.size 0 ∧ w'.heap = v3.heap.push (.cells #[.pointer none, I 3, .chan none, I 0, I 0, I 0, I 0] 73) ∧ w'.os = v3.os ∧ w'.output = v3.output) (fun τ => q55_wp (v := onTape v3 τ 0) hA3 h63) ?_
  rintro a4 v4 w4 ⟨hA4, h64, h74, e4, o4, u4⟩ hr4 hn4 -
  refine goesI_seq (dt_idle _ _) ?_
  refine goesI_plain (z := zn) (wr := true) (L := LO) (I := NoRow Ch) hE fineO noRow_keeps (fun v v' w w' es hi hr ho he => dt_of_z v v' w w' es hi hr ho he) hr4 fineQ6 hA4.defers (by simp [base]) hn4
    (Q := fun a w' => A0 x0 (.slice p n cap) a ∧ a.tmps.getD 6 undef = Pt v1.heap.size 0 ∧ a.tmps.getD 7 undef = Pt v3.heap.size 0 ∧ a.tmps.getD 8 undef = I x0 ∧ w'.heap = v4.heap ∧ w'.os = v4.os ∧ w'.output = v4.output) (fun τ => q56_wp (v := onTape v4 τ 0) hA4 h64 h74) ?_
  rintro a5 v5 w5 ⟨hA5, h65, h75, h85, e5, o5, u5⟩ hr5 hn5 -
  refine goesI_seq (dt_idle _ _) ?_
  refine goesI_seq (dt_idle _ _) ?_
  refine goesI_plain (z := zn) (wr := true) (L := LO) (I := NoRow Ch) hE fineO noRow_keeps (fun v v' w w' es hi hr ho he => dt_of_z v v' w w' es hi hr ho he) hr5 fineQ7 hA5.defers (by simp [base]) hn5
    (Q := fun a w' => A5 x0 (.slice p n cap) v1.heap.size v3.heap.size x0 ((0 : Nat) : Int) a ∧ w'.heap = v5.heap ∧ w'.os = v5.os ∧ w'.output = v5.output) (fun τ => q57_wp (v := onTape v5 τ 0) hA5 h65 h75 h85) ?_
  rintro a6 v6 w6 ⟨hA6, e6, o6, u6⟩ hr6 hn6 -
  have hh : v6.heap = (v1.heap.push (.cells #[I 0, I x0] 70)).push (.cells #[.pointer none, I 3, .chan none, I 0, I 0, I 0, I 0] 73) := by rw [e6, e5, e4, e3, e2]
  have s3 : v3.heap.size = v1.heap.size + 1 := by rw [e3, e2]; simp
  have gr : Grows v1 v6 := ⟨by rw [hh]; simp; omega, fun b hb => by rw [hh, Array.getElem?_push, if_neg (by simp; omega), Array.getElem?_push, if_neg (by omega)], by rw [o6, o5, o4, o3, o2], by rw [u6, u5, u4, u3, u2]⟩
  have hm : Fm v3.heap.size v1.heap.size x0 v6 := ⟨by rw [hh, s3, Array.getElem?_push, if_pos (by simp)], by rw [hh, Array.getElem?_push, if_neg (by simp), Array.getElem?_push, if_pos rfl]⟩
  refine goesI_block (dt_idle _ _) ?_
  refine goesI_loop (dt_idle _ _) ?_
  refine loop5 hp calls hl hn9 [] _ n 0 a6 v6 w6 x0 (by omega) hr6 hn6 hA6 hm (hI.grows gr.old) (fun h0 => ?_) (fun a7 v7 w7 now7 hr7 hn7 h7 hA7 => ?_)
  · obtain ⟨c, hc⟩ : ∃ c, calls[0]? = some c := ⟨_, List.getElem?_eq_getElem (by omega)⟩
    have := World.block_lt_of_cell? _ _ (hI 0 c hc).1
    simp only at this
    omega
  refine goesI_seq (dt_idle _ _) ?_
  refine goesI_plain (z := zn) (wr := true) (L := LO) (I := NoRow Ch) hE fineO noRow_keeps (fun v v' w w' es hi hr ho he => dt_of_z v v' w w' es hi hr ho he) hr7 fineQ35 hA7.defers (by simp [base]) hn7
    (Q := fun a w' => a.tmps.getD 4 undef = .bool true ∧ w'.heap = v7.heap ∧ w'.os = v7.os ∧ w'.output = v7.output) (fun τ => q535_wp (v := onTape v7 τ 0) hA7 h7.fm.cells.2.1) ?_
  rintro a8 v8 w8 ⟨h48, e8, o8, u8⟩ hr8 hn8 hd8
  refine GoesI.ctl rfl (fun _ => stepG_ret') (dt_idle _ _) ?_
  refine hend a8 v8 w8 _ hr8 ⟨?_, fun b hb => ?_, by rw [o8, h7.os]; exact gr.os, by rw [u8, h7.out]; exact gr.output⟩ hd8 h48
  · rw [e8]
    exact Nat.le_trans gr.size h7.size
  · rw [e8, h7.old b (by have := gr.size; omega) (by omega), gr.old b hb]
end Go.Proofs.Ytmgaojbfmohboaa

/- The law CellAlone (5), whole, by the machine. -/
set_option linter.unusedSimpArgs false
set_option linter.unusedVariables false
namespace Go.Proofs.Ytmgaojbfmohboaa
open Go Go.Lift Go.Conc Go.RowKit

def Post5 (W : World) (r : Value) (w' : World) : Prop := r = .bool true ∧ Grows W w'
theorem end5 {a : Act} {todo : List Item} {w : World} (hd : a.defers = []) (h4 : a.tmps.getD 4 undef = .bool true) : stepG Try.prog true (G { (base 5).at a todo with mode := .returning } []) w = .ended (.done (.bool true)) w #[] := by
  have hr : (results Try.f5 a.tmps).run Try.prog w = .ok (.bool true) w := by rw [results_tmp (t := 4) rfl, h4]
  have he : (results Try.f5 a.tmps).events Try.prog w #[] = #[] := by simp [results, go_sem, Try.f5]
  simp [G, stepG, unwind, Frame.at, hd, Try.func5, base, hr, he, doReturn, GStep.after, seen]

set_option maxHeartbeats 1000000 in
theorem run5 (x0 : Int) (p : Option Addr) (n cap lb lo : Nat) (calls : List Cl) (hp : 0 < n → p = some ⟨lb, lo, none⟩) (hl : calls.length = n) (hn9 : (n : Int) < 9223372036854775808) (W : World) (hI : InL W lb lo calls) :
    ∃ M last o w' t', runNT Try.prog (M + 1) (solo (G (Frame.enter Try.prog 5 #[I x0, .slice p n cap] .normal) []) W) #[] = (.ended o w', t') ∧
      runN Try.prog M (solo (G (Frame.enter Try.prog 5 #[I x0, .slice p n cap] .normal) []) W) = .next last ∧ step Try.prog last = .ended o w' ∧ Go.Conc.Good Try.prog (Post5 W) last o w' t' := by
  have e : Frame.enter Try.prog 5 #[I x0, .slice p n cap] .normal = (base 5).at { tmps := #[I x0, .slice p n cap] ++ Array.replicate 117 undef, defers := [] } [.code B5] := enter_at (fn := Try.f5) (c := B5) _ Try.func5 (by rfl)
  rw [e, solo_eq_crowd]
  have A : Alone #[G ((base 5).at { tmps := #[I x0, .slice p n cap] ++ Array.replicate 117 undef, defers := [] } [.code B5]) []] W #[] (fun _ => 0) := ⟨leavers_one _ _, 0, Nat.zero_le _, past_nil⟩
  have hG : GoesI Try.prog true (DT (ScZ zn) (fun _ => False)) (fun g w' => ∃ (bd : Frame) (ad : Act) (od : Array Oper) (qd : Nat) (rd : List Nat) (oe : Oper) (kd : List Item), (∃ d, w' = W.at d) ∧ od[qd]? = some oe ∧
      (∀ (Ch : Nat → Prop) (Stop : Goroutine → World → Prop) (v1 w1 : World), Rel zn v1 w1 → NoRow Ch v1 → InL v1 lb lo calls → (∀ a' v' w' todo, Rel zn v' w' → Grows v1 v' → a'.defers = [] → a'.tmps.getD 4 undef = .bool true → GoesI Try.prog true (DT (ScZ zn) Ch) Stop (G { (base 5).at a' todo with mode := .returning } []) w') → GoesI Try.prog true (DT (ScZ zn) Ch) Stop (G (bd.at (ad.put oe.dst (.bool true)) (.inRegion od rd :: kd)) []) w1) ∧
      g = G ((base 6).at { tmps := Array.replicate 72 undef, defers := [] } [.code B6]) [bd.at ad (.inRegion od (qd :: rd) :: kd)]) (G ((base 5).at { tmps := #[I x0, .slice p n cap] ++ Array.replicate 117 undef, defers := [] } [.code B5]) []) W :=
    law5_in (v := W) x0 p n cap lb lo calls hp hl hn9 (fun w' bd ad od qd rd oe kd hw ho hback => GoesI.stop fun d => ⟨bd, ad, od, qd, rd, oe, kd, by obtain ⟨d0, rfl⟩ := hw; exact ⟨d, rfl⟩, ho, hback, rfl⟩)
  obtain ⟨N1, gs1, a1, w1, sl1, T1, q1, r1, z1, h1, ⟨bd, ad, od, qd, rd, oe, kd, ⟨d1, rfl⟩, hoe, hback, rfl⟩, A1⟩ := alone_goes A rfl none hG
  obtain ⟨N2, gs2, w2, sl2, T2, q2, r2, h2, A2, g2⟩ := awake_all hoe sl1 A1 h1
  have g2' : Grows W w2 := ⟨g2.size, g2.old, g2.os, g2.output⟩
  obtain ⟨N3, gs3, a3, w3, sl3, T3, q3, r3, z3, h3, ⟨a', todo, hd, h4, g3, rfl⟩, A3⟩ := alone_goes A2 h2 sl2 (hback (fun _ => False) (fun g w' => ∃ a' todo, a'.defers = [] ∧ a'.tmps.getD 4 undef = .bool true ∧ Grows w2 w' ∧ g = G { (base 5).at a' todo with mode := .returning } []) w2 w2 (Rel.refl w2) (fun c hc => hc.elim) (hI.grows g2'.old) (fun a' v' w' todo hr hgr hd h4 => GoesI.stop fun d => ⟨a', todo, hd, h4, by
    have e : (w'.at d).heap = v'.heap := hr.eq
    exact ⟨by rw [e]; exact hgr.size, fun b hb => by rw [e]; exact hgr.old b hb, hr.os.trans hgr.os, hr.output.trans hgr.output⟩, rfl⟩))
  have hfin : Grows W w3 := ⟨Nat.le_trans g2'.size g3.size, fun b hb => by rw [g3.old b (by have := g2'.size; omega), g2'.old b hb], g3.os.trans g2'.os, g3.output.trans g2'.output⟩
  obtain ⟨M4, last, o, w', t', e1, e2, e3, e4⟩ := alone_ends A3 h3 sl3 (Post := Post5 W) (fun B d => ⟨rfl, .bool true, #[], end5 hd h4, fun e he => by simp at he, rfl, ⟨hfin.size, hfin.old, hfin.os, hfin.output⟩⟩)
  have hrun := runNT_then (runNT_then r1 r2) r3
  refine ⟨N1 + N2 + N3 + M4, last, o, w', t', ?_, ?_, e3, e4⟩
  · rw [Nat.add_assoc, runNT_add, hrun]; exact e1
  · rw [runN_add, ← runNT_fst Try.prog _ _ #[], hrun]; exact e2
end Go.Proofs.Ytmgaojbfmohboaa

/- THE ROW: CellAlone. -/
set_option linter.unusedSimpArgs false
set_option linter.unusedVariables false
namespace Go.Proofs.Ytmgaojbfmohboaa
open Go Go.Lift Go.Conc
open Go.ChangeShapes Go.WideShapes Go.ChangeAt Go.RowKit Go.Joins Go.Deep

theorem wr_knob : ownKnob Try.prog.godebug = none := by kernel_rfl
theorem wr_cells3 : Try.prog.cellsOf 3 = 1 := by kernel_rfl
theorem wr_cells39 : Try.prog.cellsOf 39 = 4 := by kernel_rfl
def clL (c : Cl) : List Value := [I c.po, I c.ca, I c.cb, I c.cc]

section
variable {H : Type} {enc : TypeId × Value → H} {w : World} {held : Bool}
set_option maxRecDepth 100000 in
theorem cl_open : ∀ fuel cs (y : DataW H × List MemPlace), cs.length = 4 → DataW.trod enc Try.prog w 0 (fun _ => true) held fuel 39 cs = some y → ∃ a, cs = clL a := by
  intro fuel cs y hl h
  obtain ⟨xs, k, hk, hxy, _, hxl, hf⟩ := DataW.trod_struct Try.underlying39 h
  match xs, hxl, cs, hl with
  | [y0, y1, y2, y3], _, [c0, c1, c2, c3], _ =>
    have g0 := hf 0 _ rfl
    have g1 := hf 1 _ rfl
    have g2 := hf 2 _ rfl
    have g3 := hf 3 _ rfl
    simp [wr_cells3] at g0 g1 g2 g3
    obtain ⟨a0, e0, _, f0⟩ := DataW.trod_int Try.underlying3 g0
    obtain ⟨a1, e1, _, f1⟩ := DataW.trod_int Try.underlying3 g1
    obtain ⟨a2, e2, _, f2⟩ := DataW.trod_int Try.underlying3 g2
    obtain ⟨a3, e3, _, f3⟩ := DataW.trod_int Try.underlying3 g3
    simp at e0 e1 e2 e3
    subst e0 e1 e2 e3
    exact ⟨⟨a0, a1, a2, a3⟩, rfl⟩
set_option maxRecDepth 100000 in
/-- A list of calls that came in. -/
theorem cls_open {r : Reach} {b0 : Nat} {v : Value} {d : DataW H} {ps : List MemPlace} (hv : Value.okWide Try.prog w r b0 37 v) (h : DataW.Trod enc Try.prog w 0 (fun _ => true) held 37 v d ps) :
    ∃ (p : Option Addr) (n cap lb lo : Nat) (l : List Cl), v = .slice p n cap ∧ (0 < n → p = some ⟨lb, lo, none⟩) ∧ l.length = n ∧ n ≤ maxLen ∧ InL w lb lo l := by
  obtain ⟨a0, len0, cap0, rfl⟩ := okWide_slice Try.underlying37 hv
  obtain ⟨fuel, hf⟩ := h
  rcases open_slice Try.underlying37 hf with ⟨hcs, hx⟩ | ⟨ad, len, cap, m, k, D, Pl, hcs, _, hl, hm, hmm, hxe, hx⟩
  · simp [Value.cells] at hcs
    obtain ⟨rfl, rfl, rfl⟩ := hcs
    exact ⟨none, 0, 0, 0, 0, [], rfl, fun h => by omega, rfl, Nat.zero_le _, fun k c h => by simp at h⟩
  · simp [Value.cells] at hcs
    obtain ⟨rfl, rfl, rfl⟩ := hcs
    simp only [if_true] at hmm
    subst hmm
    have each : ∀ i, i < len0 → ∃ a : Cl, ∀ j, j < 4 → w.cell? ((ad.add (i * 4)).add j) = (clL a)[j]? := by
      intro i hi
      obtain ⟨cs', h1, h2⟩ := hx i (by omega)
      rw [wr_cells39] at h1
      obtain ⟨_, hlen, hc⟩ := World.cells?_some h1
      obtain ⟨a, rfl⟩ := cl_open _ _ _ hlen h2
      exact ⟨a, hc⟩
    have ie : Inhabited Cl := ⟨⟨0, 0, 0, 0⟩⟩
    obtain ⟨q, hq⟩ := choose_lt each
    obtain ⟨b, off, spot⟩ := ad
    by_cases h0 : len0 = 0
    · subst h0
      exact ⟨_, 0, _, 0, 0, [], rfl, fun h => by omega, rfl, Nat.zero_le _, fun k c h => by simp at h⟩
    · have c00 := (hq 0 (by omega) 0 (by omega))
      have c01 : w.cell? (((⟨b, off, spot⟩ : Addr).add (0 * 4)).add 0) = some (I (q 0).po) := c00
      have hspot : spot = none := by
        have := World.cell?_spot c01
        simpa [Addr.add] using this
      subst hspot
      have hadd : ∀ (o j : Nat), (⟨b, o, none⟩ : Addr).add j = ⟨b, o + j, none⟩ := by intro o j; unfold Addr.add; split <;> simp_all
      refine ⟨_, len0, _, b, off, (List.range len0).map q, rfl, fun _ => rfl, by simp, Nat.le_trans hl hm, fun i a hi => ?_⟩
      have hil : i < len0 := by simpa using (List.getElem?_eq_some_iff.1 hi).1
      have ha : a = q i := by simp [hil] at hi; exact hi.symm
      subst ha
      have k0 := hq i hil 0 (by omega)
      have k1 := hq i hil 1 (by omega)
      have k2 := hq i hil 2 (by omega)
      have k3 := hq i hil 3 (by omega)
      rw [hadd, hadd] at k0 k1 k2 k3
      exact ⟨k0, k1, k2, k3⟩
end

theorem Grows.frame {W w' : World} (h : Grows W w') (may : MemPlace → Prop) : W.keptBut w' may := by
  refine ⟨h.os, h.output, fun i hi => ?_⟩
  rw [h.old i hi]
  split <;> simp_all
theorem Grows.sameP {W w' : World} (h : Grows W w') {p : MemPlace} (hp : p.block < W.heap.size) : W.sameAt w' p := by
  cases p with
  | cell b o => exact World.cell?_of_block (w := W) (h.old b hp)
  | map b => exact h.old b hp
theorem laidOut5 : laidOutB Try.prog = true := by kernel_rfl
theorem Grows.trod {H : Type} {enc : TypeId × Value → H} {t : TypeId} (hr : Try.prog.readableRec t = true) (hrow : t < Try.prog.types.size) {W W' : World} {v : Value} {d : DataW H} {ps : List MemPlace}
    (h : DataW.Trod enc Try.prog W 0 (fun _ => true) true t v d ps) (hb : Grows W W') (hlt : ∀ x ∈ ps, x.block < W.heap.size) :
    DataW.Trod enc Try.prog W' 0 (fun b => decide (b < W.heap.size)) true t v d ps :=
  WideElems.Trod_stays laidOut5 hr hrow h (fun x hx => hb.sameP (hlt x hx)) (fun x hx => by simpa using hlt x hx)

set_option maxRecDepth 100000 in
theorem alone_lifted (os : Os) (started : os.Started) (H : Type) (enc : TypeId × Value → H) :
    ReturnsInLeavingWide {} Try.checked os 5 .any (Rows.cellAloneSpec.pre6 enc Try.prog Try.f5 Rows.cellAloneRow.domain false) (Rows.cellAloneSpec.post enc Try.prog Try.f5 false true false false) := by
  refine returnsInLeavingWide_of_change_sized (C := Try.checked) wr_knob started Try.func5
    (ChangeSpec.witness6 (enc := enc) (C := Try.checked) false ⟨#[], #[.int .i64 0, .slice none 0 0], []⟩ 8 (by kernel_rfl) (by kernel_rfl) (by kernel_rfl) (by kernel_rfl)) ?_
  intro W base args ds gs before hval0 hW _ _ _
  have hval : ∀ (j : Nat) t v, Try.f5.params[j]? = some t → args[j]? = some v → Value.okWide Try.prog W .any base t v := hval0
  have hW' := hW
  obtain ⟨p, q, hA0, hV, rfl, _, _⟩ := hW
  have hA : DataW.TrodAll enc Try.prog W 0 (fun _ => true) true Try.f5.params.toList args.toList ds p := hA0
  rw [Try.params5] at hA hval
  obtain ⟨v0, vs0, d0, ds0, p0, q0, hargs, rfl, rfl, h0, r0⟩ := trodAll_cons hA
  obtain ⟨v1, vs1, d1, ds1, p1, q1, rfl, rfl, rfl, h1, r1⟩ := trodAll_cons r0
  obtain ⟨rfl, rfl, rfl⟩ := trodAll_nil r1
  obtain rfl : args = #[v0, v1] := by cases args; simp_all
  obtain ⟨rfl, rfl⟩ := trodVars_none hV
  have k0 := h0
  have k1 := h1
  have lt0 : ∀ x ∈ p0, x.block < W.heap.size := by obtain ⟨m, hm⟩ := k0; exact DataW.trod_lt m _ _ _ hm
  have lt1 : ∀ x ∈ p1, x.block < W.heap.size := by obtain ⟨m, hm⟩ := k1; exact DataW.trod_lt m _ _ _ hm
  obtain ⟨x0, hx0, _, _, _⟩ := open_int Try.underlying3 (hval 0 3 v0 rfl rfl) h0
  obtain ⟨pp, n, cap, lb, lo, l, hx1, hp, hl, hn, hI⟩ := cls_open (hval 1 37 v1 rfl rfl) h1
  clear hA0 hval0
  subst hx0 hx1
  simp only [List.append_nil] at hW'
  obtain ⟨M, last, o, w', t', e1, e2, e3, e4⟩ := run5 x0 pp n cap lb lo l hp hl (by unfold maxLen at hn; omega) W hI
  refine ⟨M, last, o, w', t', e1, e2, e3, e4.mono fun v hF => ?_⟩
  obtain ⟨rfl, bel⟩ : Post5 W v w' := hF
  exact ⟨_, _, _, [], _, [], hW', trodAll_mk1 (shut_bool Try.underlying4 _),
    (trodAll_cons_mk (Grows.trod (by kernel_rfl) (of_decide_eq_true (by kernel_rfl)) k0 bel lt0)
    (trodAll_cons_mk (Grows.trod (by kernel_rfl) (of_decide_eq_true (by kernel_rfl)) k1 bel lt1) trodAll_mk0)), rfl, bel.frame _, fun h => by cases h⟩

theorem cellAlone_holds : Rows.CellAloneSaid :=
  OpenClaim.holds_of_wide_leaving 5 Try.f5 rfl rfl rfl rfl rfl rfl rfl ⟨rfl, rfl, rfl, rfl, rfl⟩ rfl rfl rfl rfl rfl (by kernel_rfl) Try.func5 (by kernel_rfl)
    (of_decide_eq_true (by kernel_rfl)) (by unfold Func.isWrapper; first | (rw [if_pos (by decide +kernel)]; kernel_rfl) | (rw [if_neg (by decide +kernel)]; exact ⟨rfl, rfl⟩))
    (fun os started H enc _ => alone_lifted os started H enc)

#print axioms cellAlone_holds
end Go.Proofs.Ytmgaojbfmohboaa
