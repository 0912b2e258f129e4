/- LockFree is true of the program at this commit: by one free thread alone, of two locks of no world, Lock, Try and Unlock answer as two numbers each say, whatever the calls; no conditions. Part 31 of 37. (Joined, by program, of: LokA, LokA2, GNow, LatW2, LatD.) -/
import Derived.Test.YtehingmdmijedaaLockFree10
import Derived.Test.YtehingmdmijedaaLockFree11
import Derived.Test.YtehingmdmijedaaLockFree12
import Derived.Test.YtehingmdmijedaaLockFree22
import Derived.Test.YtehingmdmijedaaLockFree27
import Derived.Test.YtehingmdmijedaaLockFree30

/- lock's addTo (85), in company, in pieces: it puts off its Unlock, looks at what is guarded, writes; then Unlock (38), and back. -/
set_option linter.unusedSimpArgs false
set_option linter.unusedVariables false
namespace Go.Proofs.Ytehingmdmijedaa.Gen
open Go Go.Lift Go.Conc Go.RowKit

section
variable {P : Program} {main : Bool} {D : World → World → Array Event → Prop} {Stop : Goroutine → World → Prop} {b : Frame} {a : Act} {todo : List Item} {cs : List Frame} {w : World} {f : FuncId} {fn : Func} {ds : List Deferred}
/-- A function that was put off, with its arguments. -/
def dfun (f : FuncId) (args : Array Value) : Deferred := { target := .fn (.func f) #[], args := args }
theorem goesI_unwind_fun {c : Code} {args : Array Value} (hD : ∀ w, D w w #[]) (hd : a.defers = dfun f args :: ds) (hf : P.funcs[f]? = some fn) (hname : (fn.name == "runtime.NumGoroutine") = false) (hb : fn.body = some c)
    (h : GoesI P main D Stop (G ((baseD f).at { tmps := args ++ Array.replicate (fn.ntmps - args.size) undef, defers := [] } [.code c]) ({ b.at ⟨a.tmps, ds⟩ todo with mode := .returning } :: cs)) w) : GoesI P main D Stop (G { b.at a todo with mode := .returning } cs) w := by
  refine .ctl rfl (fun w => ?_) hD h
  have h1 : ¬ fn.name = "runtime.NumGoroutine" := by simpa using hname
  rw [← enter_atD args hf hb]
  simp [G, stepG, unwind, callDeferred, Frame.at, hd, dfun, invoke, callFunc, hf, h1, hb, GStep.after, seen_none]
/-- It comes back. -/
theorem goesI_leaveD {T : Array Value} {todo' : List Item} (hD : ∀ w, D w w #[]) (hf : P.funcs[f]? = some fn) (hr : fn.results = #[])
    (h : GoesI P main D Stop (G { b.at a todo with mode := .returning } cs) w) : GoesI P main D Stop (G { (baseD f).at ⟨T, []⟩ todo' with mode := .returning } ({ b.at a todo with mode := .returning } :: cs)) w := by
  refine .ctl rfl (fun w => ?_) hD h
  simp [G, stepG, unwind, doReturn, results, Frame.at, baseD, hf, hr, seen, GStep.after]
end

noncomputable def R852 : Code := seq2 (seq2 (Try.f85.body.getD .skip))
noncomputable def R853 : Code := seq2 R852
noncomputable def ops852 : Array Oper := opsOf (seq1 R852)
noncomputable def ops853 : Array Oper := opsOf (seq1 R853)
noncomputable def ops38 : Array Oper := opsOf (Try.f38.body.getD .skip)

/-- The frame where it has seen what is guarded. -/
noncomputable def aSeen (lb gb tb : Nat) (n : Int) (u : Nat → Value) (r : Value) : Frame :=
  (base 85).at ((⟨#[Pt lb 0, Pt tb 0, Pt gb 0, I n, undef, undef, undef, undef, I 0, u 9, u 10, u 11, u 12, u 13, u 14, u 15, u 16, u 17, u 18, u 19, u 20, u 21], [dfun 38 #[Pt lb 0, Pt tb 0]]⟩ : Act).put (some 14) r) [.inRegion ops852 [3], .code R853]
/-- The frame where it has written. -/
noncomputable def aPut (lb gb tb : Nat) (n x : Int) (u : Nat → Value) (r : Value) : Frame :=
  (base 85).at ((⟨#[Pt lb 0, Pt tb 0, Pt gb 0, I n, undef, undef, undef, undef, I 0, I x, u 10, u 11, u 12, u 13, u 14, u 15, u 16, u 17, u 18, u 19, u 20, u 21], [dfun 38 #[Pt lb 0, Pt tb 0]]⟩ : Act).put (some 20) r) [.inRegion ops853 [], .code (seq2 R853)]
/-- The frames where Unlock has called the next ticket. -/
noncomputable def aFree (lb nb tb : Nat) (r : Value) : Frame :=
  (baseD 38).at ((⟨#[Pt lb 0, Pt tb 0, undef, undef, Pt lb 0, Pt lb 0, Pt lb 1, Pt nb 0, Pt tb 0, undef], []⟩ : Act).put (some 9) r) [.inRegion ops38 []]
noncomputable def aEnd (lb gb tb : Nat) (n x : Int) (u : Nat → Value) : Frame :=
  { (base 85).at ⟨#[Pt lb 0, Pt tb 0, Pt gb 0, I n, undef, undef, undef, undef, I x, I x, u 10, u 11, u 12, u 13, u 14, u 15, u 16, u 17, u 18, u 19, u 20, u 21], []⟩ [.code .ret] with mode := .returning }

set_option maxHeartbeats 1000000 in
set_option maxRecDepth 100000 in
/-- It has been entered. -/
theorem addTo_in {z : Nat → Option Nat} {Ch : Nat → Prop} {Stop : Goroutine → World → Prop} {h : Nat} {cont : Addr → Value} {S : TS} {K : List (Nat × Int)} {v w : World} {i j cb lb : Nat} {t : Thr} (n x : Int) (cs : List Frame) (Hm : Goroutine → Prop)
    (hH : ∀ g u, OpBack (h == 0) i j cb t.tb 1 effLoad (fun r => G (aSeen lb cb t.tb n u r) cs) g → Hm g)
    (hvw : Rel z v w) (hn : NoRow Ch v) (hm : Mem z S K v) (ht : S.thr[i]? = some t) (hK : K[j]? = some (cb, x)) (hz : z t.tb = some 2) (hcont : cont ⟨t.tb, 2, none⟩ = .chan (some t.gc))
    (hstop : ∀ g w', GiveT z cont h S.bk t.gc Hm (Then z Ch S K v (waiting S i t 1 1 j) K) g w' → Stop g w') (code : Code) (hc : Try.f85.body = some code) :
    GoesI Try.prog (h == 0) (DT (ScZ z) Ch) Stop (G ((base 85).at { tmps := #[Pt lb 0, Pt t.tb 0, Pt cb 0, I n] ++ Array.replicate 18 undef, defers := [] } [.code code]) cs) w := by
  have HM : Hid (Mem z S K v) := ⟨hm⟩
  clear hm
  obtain rfl := Option.some.inj hc
  clear hc
  simp only [Array.replicate_succ, Array.replicate_zero, List.push_toArray, List.append_toArray, List.nil_append, List.cons_append]
  refine goesI_seq (dt_idle _ _) ?_
  refine goesI_region (dt_idle _ _) ?_
  simp only [List.size_toArray, List.length_cons, List.length_nil, Nat.reduceAdd, Nat.zero_add, List.range, List.range.loop]
  iterate 1
    (refine goesI_oper rfl rfl (by decide) (fun d K hK => ?_)
     go_simp
     refine hK _ _ ⟨dt_reads (fun e he => ?_), GoesI.at ?_ d⟩
     · have hm := mem_listed he
       simp [go_sem, *] at hm
       try exact ⟨_, _, hm⟩
     clear hK K)
  refine goesI_regionEnd (dt_idle _ _) ?_
  refine goesI_seq (dt_idle _ _) ?_
  refine goesI_region (dt_idle _ _) ?_
  simp only [List.size_toArray, List.length_cons, List.length_nil, Nat.reduceAdd, Nat.zero_add, List.range, List.range.loop]
  iterate 2
    (refine goesI_oper rfl rfl (by decide) (fun d K hK => ?_)
     go_simp
     refine hK _ _ ⟨dt_reads (fun e he => ?_), GoesI.at ?_ d⟩
     · have hm := mem_listed he
       simp [go_sem, *] at hm
       try exact ⟨_, _, hm⟩
     clear hK K)
  refine goesI_deferV (d := dfun 38 #[Pt lb 0, Pt t.tb 0]) (dt_idle _ _) rfl rfl (by decide) (fun w => by simp [go_sem, execOp, Act.eval, dfun]) (fun w => by simp [go_sem, execOp, Act.eval]) ?_
  walk_nrm
  refine goesI_regionEnd (dt_idle _ _) ?_
  refine goesI_seq (dt_idle _ _) ?_
  refine goesI_region (dt_idle _ _) ?_
  simp only [List.size_toArray, List.length_cons, List.length_nil, Nat.reduceAdd, Nat.zero_add, List.range, List.range.loop]
  iterate 2
    (refine goesI_oper rfl rfl (by decide) (fun d K hK => ?_)
     go_simp
     refine hK _ _ ⟨dt_reads (fun e he => ?_), GoesI.at ?_ d⟩
     · have hm := mem_listed he
       simp [go_sem, *] at hm
       try exact ⟨_, _, hm⟩
     clear hK K)
  refine goesI_into (f := 26) (fn := Try.f26) (args := #[Pt cb 0, Pt t.tb 0]) (dt_idle _ _) rfl rfl (by decide) rfl (by simp [Act.eval]) Try.func26 (by decide) rfl ?_
  exact load_goes x _ Hm rfl (fun g hg => hH g (fun m => match m with | 10 => Pt lb 0 | 11 => Pt t.tb 0 | 12 => Pt cb 0 | 13 => Pt t.tb 0 | _ => undef) hg) hvw hn HM.out ht hK hz hcont hstop _ rfl
end Go.Proofs.Ytehingmdmijedaa.Gen

/- lock's addTo (85), in company, further pieces. -/
set_option linter.unusedSimpArgs false
set_option linter.unusedVariables false
namespace Go.Proofs.Ytehingmdmijedaa.Gen
open Go Go.Lift Go.Conc Go.RowKit

set_option maxHeartbeats 1000000 in
set_option maxRecDepth 100000 in
/-- It has seen y: it writes y + n. -/
theorem addTo_put {z : Nat → Option Nat} {Ch : Nat → Prop} {Stop : Goroutine → World → Prop} {h : Nat} {cont : Addr → Value} {S : TS} {K : List (Nat × Int)} {v w : World} {i j cb lb : Nat} {t : Thr} (n y x : Int) (u : Nat → Value) (cs : List Frame) (Hm : Goroutine → Prop)
    (hH : ∀ g u, OpBack (h == 0) i j cb t.tb 2 (effStore (wrap64 (y + n))) (fun r => G (aPut lb cb t.tb n y u r) cs) g → Hm g)
    (hvw : Rel z v w) (hn : NoRow Ch v) (hm : Mem z S K v) (ht : S.thr[i]? = some t) (hK : K[j]? = some (cb, x)) (hz : z t.tb = some 2) (hcont : cont ⟨t.tb, 2, none⟩ = .chan (some t.gc))
    (hstop : ∀ g w', GiveT z cont h S.bk t.gc Hm (Then z Ch S K v (waiting S i t 1 2 j) K) g w' → Stop g w') :
    GoesI Try.prog (h == 0) (DT (ScZ z) Ch) Stop (G (aSeen lb cb t.tb n u (I y)) cs) w := by
  have HM : Hid (Mem z S K v) := ⟨hm⟩
  clear hm
  unfold aSeen ops852 R853 R852 Try.f85 seq2 seq1 opsOf
  simp only [Option.getD_some]
  walk_nrm
  iterate 1
    (refine goesI_oper rfl rfl (by decide) (fun d K hK => ?_)
     go_simp
     refine hK _ _ ⟨dt_reads (fun e he => ?_), GoesI.at ?_ d⟩
     · have hm := mem_listed he
       simp [go_sem, *] at hm
       try exact ⟨_, _, hm⟩
     clear hK K)
  refine goesI_regionEnd (dt_idle _ _) ?_
  refine goesI_seq (dt_idle _ _) ?_
  refine goesI_region (dt_idle _ _) ?_
  simp only [List.size_toArray, List.length_cons, List.length_nil, Nat.reduceAdd, Nat.zero_add, List.range, List.range.loop]
  iterate 5
    (refine goesI_oper rfl rfl (by decide) (fun d K hK => ?_)
     go_simp
     refine hK _ _ ⟨dt_reads (fun e he => ?_), GoesI.at ?_ d⟩
     · have hm := mem_listed he
       simp [go_sem, *] at hm
       try exact ⟨_, _, hm⟩
     clear hK K)
  rw [show IntKind.wrap .i64 (y + n) = wrap64 (y + n) from Go.IntWalk.i64_left _]
  refine goesI_into (f := 21) (fn := Try.f21) (args := #[Pt cb 0, Pt t.tb 0, I (wrap64 (y + n))]) (dt_idle _ _) rfl rfl (by decide) rfl (by simp [Act.eval]) Try.func21 (by decide) rfl ?_
  exact store_goes (wrap64 (y + n)) x _ Hm rfl (fun g hg => hH g (fun m => match m with | 14 => I y | 15 => Pt cb 0 | 16 => Pt t.tb 0 | 17 => I y | 18 => I n | 19 => I (wrap64 (y + n)) | m => u m) hg) hvw hn HM.out ht hK hz hcont hstop _ rfl

set_option maxHeartbeats 1000000 in
set_option maxRecDepth 100000 in
/-- It has written: Unlock calls the next ticket. -/
theorem addTo_free {z : Nat → Option Nat} {Ch : Nat → Prop} {Stop : Goroutine → World → Prop} {h : Nat} {cont : Addr → Value} {S : TS} {K : List (Nat × Int)} {v w : World} {i j cb gb lb : Nat} {t : Thr} (n y x : Int) (u : Nat → Value) (r : Value) (cs : List Frame) (Hm : Goroutine → Prop)
    (hH : ∀ g u, OpBack (h == 0) i j cb t.tb 5 (effAdd 1) (fun r => G (aFree lb cb t.tb r) (aEnd lb gb t.tb n y u :: cs)) g → Hm g) (hlb : v.cell? ⟨lb, 1, none⟩ = some (Pt cb 0))
    (hvw : Rel z v w) (hn : NoRow Ch v) (hm : Mem z S K v) (ht : S.thr[i]? = some t) (hK : K[j]? = some (cb, x)) (hz : z t.tb = some 2) (hcont : cont ⟨t.tb, 2, none⟩ = .chan (some t.gc))
    (hstop : ∀ g w', GiveT z cont h S.bk t.gc Hm (Then z Ch S K v (waiting S i t 1 5 j) K) g w' → Stop g w') :
    GoesI Try.prog (h == 0) (DT (ScZ z) Ch) Stop (G (aPut lb gb t.tb n y u r) cs) w := by
  have e0 : w.cell? ⟨lb, 1, none⟩ = some (Pt cb 0) := by rw [hvw.cell?]; exact hlb
  have HM : Hid (Mem z S K v) := ⟨hm⟩
  clear hm
  unfold aPut ops853 R853 R852 Try.f85 seq2 seq1 opsOf
  simp only [Option.getD_some]
  walk_nrm
  refine goesI_regionEnd (dt_idle _ _) ?_
  refine goesI_seq (dt_idle _ _) ?_
  refine goesI_region (dt_idle _ _) ?_
  simp only [List.size_toArray, List.length_cons, List.length_nil, Nat.reduceAdd, Nat.zero_add, List.range, List.range.loop]
  iterate 2
    (refine goesI_oper rfl rfl (by decide) (fun d K hK => ?_)
     go_simp
     refine hK _ _ ⟨dt_reads (fun e he => ?_), GoesI.at ?_ d⟩
     · have hm := mem_listed he
       simp [go_sem, *] at hm
       try exact ⟨_, _, hm⟩
     clear hK K)
  refine goesI_regionEnd (dt_idle _ _) ?_
  refine GoesI.ctl rfl (fun _ => stepG_ret') (dt_idle _ _) ?_
  refine goesI_unwind_fun (f := 38) (fn := Try.f38) (args := #[Pt lb 0, Pt t.tb 0]) (ds := []) (dt_idle _ _) rfl Try.func38 (by kernel_rfl) (c := Try.f38.body.getD .skip) rfl ?_
  show GoesI Try.prog (h == 0) (DT (ScZ z) Ch) Stop (G ((baseD 38).at { tmps := #[Pt lb 0, Pt t.tb 0] ++ Array.replicate 8 undef, defers := [] } [.code (Try.f38.body.getD .skip)]) _) w
  simp only [Array.replicate_succ, Array.replicate_zero, List.push_toArray, List.append_toArray, List.nil_append, List.cons_append]
  unfold Try.f38
  simp only [Option.getD_some]
  refine goesI_region (dt_idle _ _) ?_
  simp only [List.size_toArray, List.length_cons, List.length_nil, Nat.reduceAdd, Nat.zero_add, List.range, List.range.loop]
  iterate 5
    (refine goesI_oper rfl rfl (by decide) (fun d K hK => ?_)
     go_simp
     refine hK _ _ ⟨dt_reads (fun e he => ?_), GoesI.at ?_ d⟩
     · have hm := mem_listed he
       simp [go_sem, *] at hm
       try exact ⟨_, _, hm⟩
     clear hK K)
  refine goesI_into (f := 24) (fn := Try.f24) (args := #[Pt cb 0, Pt t.tb 0, I 1]) (dt_idle _ _) rfl rfl (by decide) rfl (by simp [Act.eval]) Try.func24 (by decide) rfl ?_
  exact add_goes 1 x _ Hm rfl (fun g hg => hH g (fun m => match m with | 20 => r | 21 => I y | m => u m) hg) hvw hn HM.out ht hK hz hcont hstop _ rfl

set_option maxHeartbeats 1000000 in
set_option maxRecDepth 100000 in
/-- It comes back with what stood there. -/
theorem addTo_out {z : Nat → Option Nat} {Ch : Nat → Prop} {Stop : Goroutine → World → Prop} {main : Bool} {v w : World} {lb nb gb tb : Nat} (n y : Int) (u : Nat → Value) (r : Value) (cs : List Frame) {bc : Frame} {ac : Act} {ops : Array Oper} {q : Nat} {rest : List Nat} {oc : Oper} {k : List Item} (hoc : ops[q]? = some oc)
    (hvw : Rel z v w) (hn : NoRow Ch v)
    (hk : ∀ w', Rel z v w' → GoesI Try.prog main (DT (ScZ z) Ch) Stop (G (bc.at (ac.put oc.dst (I y)) (.inRegion ops rest :: k)) cs) w') :
    GoesI Try.prog main (DT (ScZ z) Ch) Stop (G (aFree lb nb tb r) (aEnd lb gb tb n y u :: bc.at ac (.inRegion ops (q :: rest) :: k) :: cs)) w := by
  unfold aFree ops38 Try.f38 opsOf
  simp only [Option.getD_some]
  walk_nrm
  refine goesI_regionEnd (dt_idle _ _) ?_
  refine goesI_end (dt_idle _ _) ?_
  unfold aEnd
  refine goesI_leaveD (dt_idle _ _) Try.func38 rfl ?_
  exact goesI_leaveZ (f := 85) (fn := Try.f85) (x := I y) hvw hn Try.func85 rfl hoc (by simp [results, go_sem, Try.f85]) (fun w' r' => hk w' r')
end Go.Proofs.Ytehingmdmijedaa.Gen

/- A thread in the middle of a call: where it is (Now), and that a seat which it comes to is what Ob asks. -/
set_option linter.unusedSimpArgs false
set_option linter.unusedVariables false
namespace Go.Proofs.Ytehingmdmijedaa.Gen
open Go Go.Lift Go.Conc Go.RowKit
variable {mc : Mc}

/-- It goes on from a world v0 (state S0, cells K0), and is in a world v: state S (σ, but for the trace's place), cells κ; Mo is its own. -/
structure Now (X : Fix mc) (z : Nat → Option Nat) (cont : Addr → Value) (Ch : Nat → Prop) (S0 : TS) (K0 : List (Nat × Int)) (v0 : World) (Mo0 Mo : Nat → Option Obj) (σ : TS) (κ : List (Nat × Int)) (S : TS) (v w : World) (t : Thr) : Prop where
  at_ : At X z cont Ch S κ v w t
  evo : EvoP (fun b => Mo0 b ≠ none) z S0 K0 v0 S κ v
  nv : nv S = σ
  bk : S.bk = S0.bk
  mo : Has Mo v
  far : ∀ b, Mo b ≠ none → ¬ Own S κ b
  new : ∀ b, Mo b ≠ none → Mo0 b ≠ none ∨ v0.heap.size ≤ b
  row : ∀ b o, Mo b = some o → ∃ c e f, o = .cells c e f

section
variable {X : Fix mc} {z : Nat → Option Nat} {cont : Addr → Value} {Ch : Nat → Prop} {Stop : Goroutine → World → Prop} {cu : Value → Goroutine} {S0 : TS} {K0 : List (Nat × Int)} {v0 : World} {Mo0 Mo : Nat → Option Obj} {σ : TS} {κ : List (Nat × Int)} {S : TS} {v w : World} {t : Thr} {H : Nx → (Nat → Option Obj) → Goroutine → Prop}

theorem Now.good (N : Now X z cont Ch S0 K0 v0 Mo0 Mo σ κ S v w t) {x : Nx} (hx : ∀ e y, x ≠ .ans e y) : Good v0 Mo0 x Mo := ⟨hx, N.new, N.row⟩

/-- It goes on. -/
theorem Now.on (N : Now X z cont Ch S0 K0 v0 Mo0 Mo σ κ S v w t) {S' σ' : TS} {κ' : List (Nat × Int)} {v' w' : World} {t' : Thr} (e : Evo z S κ v S' κ' v') (r : Rel z v' w') (n : NoRow Ch v') (hS : Gen.nv S' = σ') (ht : S'.thr[X.i]? = some t') (htb : t'.tb = X.tb) (hgc : t'.gc = X.gc) (hbk : S'.bk = S.bk) : Now X z cont Ch S0 K0 v0 Mo0 Mo σ' κ' S' v' w' t' := by
  have kp : ∀ b, b < v.heap.size → ¬ Own S κ b → v'.heap[b]? = v.heap[b]? ∧ ¬ Own S' κ' b := fun b hb ho => (Evo.toP (Pr := fun _ => False) e).keeps hb ho (fun h => h)
  have km : ∀ (M : Nat → Option Obj), Has M v → (∀ b, M b ≠ none → ¬ Own S κ b) → Has M v' ∧ ∀ b, M b ≠ none → ¬ Own S' κ' b := fun M hM hf => by
    have h1 : ∀ b o, M b = some o → v'.heap[b]? = v.heap[b]? ∧ ¬ Own S' κ' b := fun b o hb => kp b (Array.getElem?_eq_some_iff.1 (hM b o hb)).1 (hf b (by rw [hb]; simp))
    refine ⟨fun b o hb => by rw [(h1 b o hb).1]; exact hM b o hb, fun b hb => ?_⟩
    obtain ⟨o, ho⟩ := Option.ne_none_iff_exists'.1 hb
    exact (h1 b o ho).2
  have k1 := km X.pk N.at_.pk N.at_.far
  have k2 := km Mo N.mo N.far
  exact ⟨⟨r, n, e.mem, ht, htb, hgc, e.blks.trans N.at_.kb, N.at_.z, N.at_.cont, k1.1, k1.2⟩, N.evo.trans (Evo.toP e), hS, hbk.trans N.bk, k2.1, k2.2, N.new, N.row⟩
/-- .. with nothing changed. -/
theorem Now.same (N : Now X z cont Ch S0 K0 v0 Mo0 Mo σ κ S v w t) {v' w' : World} (r : Rel z v' w') (n : NoRow Ch v') (e1 : v'.heap = v.heap) (e2 : v'.os = v.os) (e3 : v'.output = v.output) : Now X z cont Ch S0 K0 v0 Mo0 Mo σ κ S v' w' t :=
  N.on (N.at_.mem.grows ⟨by rw [e1]; exact Nat.le_refl _, fun b _ => by rw [e1], e2, e3⟩) r n N.nv N.at_.thr N.at_.tb N.at_.gc rfl
/-- A call goes on from its seat. -/
theorem Now.here (A : At X z cont Ch S κ v w t) (hm : Has Mo v) (hf : ∀ b, Mo b ≠ none → ¬ Own S κ b) (hr : ∀ b o, Mo b = some o → ∃ c e f, o = .cells c e f) : Now X z cont Ch S κ v Mo Mo (Gen.nv S) κ S v w t :=
  ⟨A, Evo.toP (A.mem.grows ⟨Nat.le_refl _, fun _ _ => rfl, rfl, rfl⟩), rfl, rfl, hm, hf, fun b hb => .inl hb, hr⟩
theorem Now.cell (N : Now X z cont Ch S0 K0 v0 Mo0 Mo σ κ S v w t) {j cb : Nat} (h : X.kb[j]? = some cb) : κ[j]? = some (cb, (cellAt κ j).2) ∧ cellAt κ j = (cb, (cellAt κ j).2) := by
  rw [← N.at_.kb, List.getElem?_map, Option.map_eq_some_iff] at h
  obtain ⟨p, h1, rfl⟩ := h
  have : cellAt κ j = p := by unfold cellAt; rw [h1]; rfl
  rw [this]
  exact ⟨h1, rfl⟩

/-- A turn. -/
theorem ob_turn {op : Int} {j : Nat} {q : Q} (hob : Ob X H z cont Ch Stop cu S0 K0 v0 Mo0 σ κ (.turn op j q)) (N : Now X z cont Ch S0 K0 v0 Mo0 Mo σ κ S v w t) (g : Goroutine) (w' : World) (hg : GiveT z cont X.h S.bk t.gc (H (.turn op j q) Mo) (Then z Ch S κ v (waiting S X.i t 1 op j) κ) g w') : Stop g w' := by
  refine hob.seat 1 op j (.inl ⟨⟨q, rfl⟩, rfl⟩) g w' Mo (N.good (fun _ _ h => by cases h)) ?_
  rw [N.at_.gc, N.bk] at hg
  refine atGive_mono (fun hF => ?_) hg
  obtain ⟨v', r, n, e⟩ := hF
  have N' := N.on e r n rfl (t' := { t with st := 1, op := op, ce := j, se := _ }) (List.getElem?_set_self (List.getElem?_eq_some_iff.1 N.at_.thr).1) N.at_.tb N.at_.gc rfl
  refine ⟨v', _, r, n, ?_, N'.evo, N'.mo, N'.far⟩
  rw [← N.nv, show thrI (Gen.nv S) X.i = t from thrI_of N.at_.thr]
  rfl
/-- An Await. -/
theorem ob_wait {j : Nat} {q : Q} (hob : Ob X H z cont Ch Stop cu S0 K0 v0 Mo0 σ κ (.wait j q)) (hs : S.stk = false) (N : Now X z cont Ch S0 K0 v0 Mo0 Mo σ κ S v w t) (g : Goroutine) (w' : World) (hg : GiveT z cont X.h S.bk t.gc (H (.wait j q) Mo) (Then z Ch S κ v (waiting S X.i t 2 6 j) κ) g w') : Stop g w' := by
  refine hob.seat 2 6 j (.inr ⟨⟨q, rfl⟩, by rw [← N.nv]; exact hs, rfl, rfl⟩) g w' Mo (N.good (fun _ _ h => by cases h)) ?_
  rw [N.at_.gc, N.bk] at hg
  refine atGive_mono (fun hF => ?_) hg
  obtain ⟨v', r, n, e⟩ := hF
  have N' := N.on e r n rfl (t' := { t with st := 2, op := 6, ce := j, se := _ }) (List.getElem?_set_self (List.getElem?_eq_some_iff.1 N.at_.thr).1) N.at_.tb N.at_.gc rfl
  refine ⟨v', _, r, n, ?_, N'.evo, N'.mo, N'.far⟩
  rw [← N.nv, show thrI (Gen.nv S) X.i = t from thrI_of N.at_.thr]
  rfl
end
end Go.Proofs.Ytehingmdmijedaa.Gen

/- latch's Wait (43), in company, further pieces. -/
set_option linter.unusedSimpArgs false
set_option linter.unusedVariables false
namespace Go.Proofs.Ytehingmdmijedaa.Gen
open Go Go.Lift Go.Conc Go.RowKit

theorem res43 (tmps : Array Value) : ∃ v, (∀ w, (results Try.f43 tmps).run Try.prog w = .ok v w) ∧ ∀ w, (results Try.f43 tmps).events Try.prog w #[] = #[] :=
  ⟨_, fun w => results_tmp rfl _ _ _, fun w => by simp [results, go_sem]⟩

set_option maxHeartbeats 1000000 in
set_option maxRecDepth 100000 in
/-- It stands at nothing: it answers true. -/
theorem wait_done {z : Nat → Option Nat} {Ch : Nat → Prop} {Stop : Goroutine → World → Prop} {main : Bool} {v w : World} {lb cb tb : Nat} (u : Nat → Value) (cs : List Frame) {bc : Frame} {ac : Act} {ops : Array Oper} {q : Nat} {rest : List Nat} {oc : Oper} {k : List Item} (hoc : ops[q]? = some oc)
    (hvw : Rel z v w) (hn : NoRow Ch v)
    (hk : ∀ v' w', Rel z v' w' → NoRow Ch v' → v'.heap = v.heap → v'.os = v.os → v'.output = v.output → GoesI Try.prog main (DT (ScZ z) Ch) Stop (G (bc.at (ac.put oc.dst (.bool true)) (.inRegion ops rest :: k)) cs) w') :
    GoesI Try.prog main (DT (ScZ z) Ch) Stop (G (wSeen lb cb tb u (I 0)) (bc.at ac (.inRegion ops (q :: rest) :: k) :: cs)) w := by
  unfold wSeen ops431 L43 T43 Try.f43 seq2 seq1 blockC loopC opsOf
  simp only [Option.getD_some]
  walk_nrm
  (refine goesI_oper rfl rfl (by decide) (fun d K hK => ?_)
   go_simp
   refine hK _ _ ⟨dt_reads (fun e he => ?_), GoesI.at ?_ d⟩
   · have hm := mem_listed he
     simp [go_sem, *] at hm
   clear hK K)
  refine goesI_regionEnd (dt_idle _ _) ?_
  refine goesI_cond (dt_idle _ _) (t := false) (by simp [Act.eval]) ?_
  simp only [if_true, if_false, Bool.false_eq_true]
  refine goesI_exit (dt_idle _ _) rfl ?_
  refine goesI_rest (f := 43) (fn := Try.f43) (c := T43) hE fineT hvw hn Try.func43 fineT43 rfl hoc res43 (fun τ => ?_) (fun r v' w' hR hr' hn' => ?_) (R := fun r w' => r = .bool true ∧ w'.heap = v.heap ∧ w'.os = v.os ∧ w'.output = v.output)
  · show Code.wp Try.prog (seq2 (seq2 (Try.f43.body.getD .skip))) _ _ _
    unfold Try.f43 seq2
    simp only [Option.getD_some]
    go_wp2_with fail
    go_ret
    exact ⟨_, rfl, rfl, rfl, rfl, rfl⟩
  · obtain ⟨rfl, h1, h2, h3⟩ := hR
    exact hk v' w' hr' hn' h1 h2 h3

/-- What it holds there. -/
def wVal (lb cb tb : Nat) (x : Int) (j : Nat) (u : Nat → Value) : Nat → Value
  | 5 => Pt lb 0
  | 6 => Pt lb 0
  | 7 => Pt lb 0
  | 8 => Pt cb 0
  | 9 => Pt tb 0
  | 10 => I x
  | 11 => .bool (x != 0)
  | 12 => Pt tb 0
  | 13 => Pt lb 0
  | 14 => Pt lb 0
  | 15 => Pt lb 0
  | 16 => Pt cb 0
  | 17 => I j
  | k => u k

set_option maxHeartbeats 1000000 in
set_option maxRecDepth 100000 in
/-- Something stands there: it comes to its Await. -/
theorem wait_more {z : Nat → Option Nat} {Ch : Nat → Prop} {Stop : Goroutine → World → Prop} {main : Bool} {S : TS} {K : List (Nat × Int)} {v w : World} {j cb lb tb : Nat} (x : Int) (hx : x ≠ 0) (y : Int) (u : Nat → Value) (cs : List Frame) (hlb : v.cell? ⟨lb, 0, none⟩ = some (Pt cb 0))
    (hvw : Rel z v w) (hn : NoRow Ch v) (hm : Mem z S K v) (hK : K[j]? = some (cb, y))
    (hk : ∀ v' w' (bd : Frame) (ad : Act) (od : Array Oper) (qd : Nat) (rd : List Nat) (oe : Oper) (kd : List Item), Rel z v' w' → NoRow Ch v' → Evo z S K v S K v' → od[qd]? = some oe → (∀ r, bd.at (ad.put oe.dst r) (.inRegion od rd :: kd) = wWoke lb tb (wVal lb cb tb x j u) r) → ∀ code, Try.f60.body = some code →
      GoesI Try.prog main (DT (ScZ z) Ch) Stop (G ((base 60).at { tmps := #[Pt tb 0, I j] ++ Array.replicate (Try.f60.ntmps - 2) undef, defers := [] } [.code code]) (bd.at ad (.inRegion od (qd :: rd) :: kd) :: cs)) w') :
    GoesI Try.prog main (DT (ScZ z) Ch) Stop (G (wSeen lb cb tb u (I x)) cs) w := by
  have e0 : w.cell? ⟨lb, 0, none⟩ = some (Pt cb 0) := by rw [hvw.cell?]; exact hlb
  have e1 : v.cell? ⟨cb, 0, none⟩ = some (I j) := (hm.cells hK).1
  have HM : Hid (Mem z S K v) := ⟨hm⟩
  clear hm
  unfold wWoke ops432 L43 T43 Try.f43 seq2 seq1 blockC loopC opsOf wVal at hk
  simp only [Option.getD_some] at hk
  unfold wSeen ops431 L43 T43 Try.f43 seq2 seq1 blockC loopC opsOf
  simp only [Option.getD_some]
  walk_nrm
  (refine goesI_oper rfl rfl (by decide) (fun d K hK => ?_)
   go_simp
   refine hK _ _ ⟨dt_reads (fun e he => ?_), GoesI.at ?_ d⟩
   · have hm := mem_listed he
     simp [go_sem, *] at hm
   clear hK K)
  refine goesI_regionEnd (dt_idle _ _) ?_
  refine goesI_cond (dt_idle _ _) (t := true) (by simp [Act.eval, hx]) ?_
  simp only [if_true, if_false, Bool.false_eq_true]
  refine goesI_skip (dt_idle _ _) ?_
  refine goesI_block (dt_idle _ _) ?_
  refine goesI_seq (dt_idle _ _) ?_
  refine goesI_region (dt_idle _ _) ?_
  simp only [List.size_toArray, List.length_cons, List.length_nil, Nat.reduceAdd, Nat.zero_add, List.range, List.range.loop]
  iterate 5
    (refine goesI_oper rfl rfl (by decide) (fun d K hK => ?_)
     go_simp
     refine hK _ _ ⟨dt_reads (fun e he => ?_), GoesI.at ?_ d⟩
     · have hm := mem_listed he
       simp [go_sem, *] at hm
       try exact ⟨_, _, hm⟩
     clear hK K)
  refine goesI_call (f := 27) (fn := Try.f27) (args := #[Pt cb 0]) hE fineG rfl rfl (by decide) rfl (by simp [Act.eval]) Try.func27 (by kernel_rfl) rfl (fineFn_body fineG (by simp [LG, plainG]) Try.func27 rfl) (fun tmps => ⟨_, fun w => results_tmp rfl _ _ _, fun w => by simp [results, go_sem]⟩) hvw hn
    (R := fun r v4 => r = I j ∧ v4.heap = v.heap ∧ v4.os = v.os ∧ v4.output = v.output) (fun τ => ?_) (fun r v4 w4 hR hvw4 hn4 => ?_)
  · have e2 : (onTape v τ 0).cell? ⟨cb, 0, none⟩ = some (I j) := e1
    show Code.wp Try.prog (Try.f27.body.getD .skip) _ _ _
    unfold Try.f27
    simp only [Option.getD_some]
    go_wp2_with fail
    go_ret
    exact ⟨_, rfl, rfl, rfl, rfl, rfl⟩
  obtain ⟨rfl, h1, h2, h3⟩ := hR
  have hg : Grows v v4 := ⟨by rw [h1]; exact Nat.le_refl _, fun b _ => by rw [h1], h2, h3⟩
  walk_nrm
  refine goesI_into (f := 60) (fn := Try.f60) (args := #[Pt tb 0, I j]) (dt_idle _ _) rfl rfl (by decide) rfl (by simp [Act.eval]) Try.func60 (by decide) rfl ?_
  exact hk v4 w4 _ _ _ _ _ _ _ hvw4 hn4 (HM.out.grows hg) rfl (fun r => rfl) _ rfl

set_option maxHeartbeats 1000000 in
set_option maxRecDepth 100000 in
/-- Woken, it looks again. -/
theorem wait_again {z : Nat → Option Nat} {Ch : Nat → Prop} {Stop : Goroutine → World → Prop} {main : Bool} {w : World} {lb tb : Nat} (u : Nat → Value) (cs : List Frame)
    (hk : ∀ u, GoesI Try.prog main (DT (ScZ z) Ch) Stop (G (wFr lb tb u) cs) w) :
    GoesI Try.prog main (DT (ScZ z) Ch) Stop (G (wWoke lb tb u (.bool true)) cs) w := by
  unfold wFr L43 T43 Try.f43 seq2 seq1 blockC loopC at hk
  simp only [Option.getD_some] at hk
  unfold wWoke ops432 L43 T43 Try.f43 seq2 seq1 blockC loopC opsOf
  simp only [Option.getD_some]
  walk_nrm
  (refine goesI_oper rfl rfl (by decide) (fun d K hK => ?_)
   go_simp
   refine hK _ _ ⟨dt_reads (fun e he => ?_), GoesI.at ?_ d⟩
   · have hm := mem_listed he
     simp [go_sem, *] at hm
   clear hK K)
  refine goesI_regionEnd (dt_idle _ _) ?_
  refine goesI_cond (dt_idle _ _) (t := false) rfl ?_
  simp only [if_true, if_false, Bool.false_eq_true]
  refine goesI_skip (dt_idle _ _) ?_
  refine goesI_inBlock (dt_idle _ _) ?_
  refine goesI_inLoop (dt_idle _ _) ?_
  exact hk (fun m => match m with | 18 => .bool true | 19 => .bool false | m => u m)

noncomputable def no43 : Code := condA (seq2 (blockC (seq2 L43)))
theorem fineNo43 : fineCode Try.prog true LT no43 := fineCode_ask callT extT (by kernel_rfl)
set_option maxHeartbeats 1000000 in
set_option maxRecDepth 100000 in
/-- Stuck, it answers false. -/
theorem wait_no {z : Nat → Option Nat} {Ch : Nat → Prop} {Stop : Goroutine → World → Prop} {main : Bool} {v w : World} {lb tb : Nat} (u : Nat → Value) (cs : List Frame) {bc : Frame} {ac : Act} {ops : Array Oper} {q : Nat} {rest : List Nat} {oc : Oper} {k : List Item} (hoc : ops[q]? = some oc)
    (hvw : Rel z v w) (hn : NoRow Ch v)
    (hk : ∀ v' w', Rel z v' w' → NoRow Ch v' → v'.heap = v.heap → v'.os = v.os → v'.output = v.output → GoesI Try.prog main (DT (ScZ z) Ch) Stop (G (bc.at (ac.put oc.dst (.bool false)) (.inRegion ops rest :: k)) cs) w') :
    GoesI Try.prog main (DT (ScZ z) Ch) Stop (G (wWoke lb tb u (.bool false)) (bc.at ac (.inRegion ops (q :: rest) :: k) :: cs)) w := by
  unfold wWoke ops432 L43 T43 Try.f43 seq2 seq1 blockC loopC opsOf
  simp only [Option.getD_some]
  walk_nrm
  (refine goesI_oper rfl rfl (by decide) (fun d K hK => ?_)
   go_simp
   refine hK _ _ ⟨dt_reads (fun e he => ?_), GoesI.at ?_ d⟩
   · have hm := mem_listed he
     simp [go_sem, *] at hm
   clear hK K)
  refine goesI_regionEnd (dt_idle _ _) ?_
  refine goesI_cond (dt_idle _ _) (t := true) rfl ?_
  simp only [if_true, if_false, Bool.false_eq_true]
  refine goesI_outZ (c := no43) (f := 43) (fn := Try.f43) (L := LT) hE fineT hvw hn Try.func43 fineNo43 rfl hoc (R := fun r w' => r = .bool false ∧ w'.heap = v.heap ∧ w'.os = v.os ∧ w'.output = v.output) (fun τ => ?_) (fun r v' w' hR hr' hn' => ?_)
  · show Code.wp Try.prog (condA (seq2 (blockC (seq2 (loopC (blockC (seq1 (seq2 (Try.f43.body.getD .skip))))))))) _ _ _
    unfold Try.f43 condA seq2 seq1 blockC loopC
    simp only [Option.getD_some]
    go_wp2_with fail
    exact ⟨_, results_tmp rfl _ _ _, rfl, rfl, rfl, rfl⟩
  · obtain ⟨rfl, h1, h2, h3⟩ := hR
    exact hk v' w' hr' hn' h1 h2 h3
end Go.Proofs.Ytehingmdmijedaa.Gen

/- latch's Down (44), in company, in pieces: it looks at the cell; it has seen what stands there; it tries to count down; it did, or another was ahead of it. -/
set_option linter.unusedSimpArgs false
set_option linter.unusedVariables false
namespace Go.Proofs.Ytehingmdmijedaa.Gen
open Go Go.Lift Go.Conc Go.RowKit

noncomputable def L44 : Code := loopC (blockC (seq2 (Try.f44.body.getD .skip)))
noncomputable def B44 : Code := blockC L44
noncomputable def ops441 : Array Oper := opsOf (seq1 B44)
noncomputable def ops444 : Array Oper := opsOf (seq1 (seq2 (seq2 B44)))

/-- The frame where it looks. -/
noncomputable def dFr (lb tb : Nat) (u : Nat → Value) : Frame :=
  (base 44).at ⟨#[Pt lb 0, Pt tb 0, undef, undef, I 0, u 5, u 6, u 7, u 8, u 9, u 10, u 11, u 12, u 13, u 14, u 15, u 16, u 17, u 18, u 19, u 20, u 21, u 22], []⟩ [.code L44, .inLoop L44, .inBlock 0]
/-- The frame where it has seen what stands there. -/
noncomputable def dSeen (lb cb tb : Nat) (u : Nat → Value) (r : Value) : Frame :=
  (base 44).at ((⟨#[Pt lb 0, Pt tb 0, undef, undef, I 0, u 5, Pt lb 0, Pt lb 0, Pt lb 0, Pt cb 0, Pt tb 0, u 11, u 12, u 13, u 14, u 15, u 16, u 17, u 18, u 19, u 20, u 21, u 22], []⟩ : Act).put (some 11) r) [.inRegion ops441 [6], .code (seq2 B44), .inBlock 1, .inLoop L44, .inBlock 0]
/-- The frame where it has tried. -/
noncomputable def dTried (lb tb : Nat) (u : Nat → Value) (r : Value) : Frame :=
  (base 44).at ((⟨#[Pt lb 0, Pt tb 0, undef, undef, I 0, u 5, u 6, u 7, u 8, u 9, u 10, u 11, u 12, u 13, u 14, u 15, u 16, u 17, u 18, u 19, u 20, u 21, u 22], []⟩ : Act).put (some 22) r) [.inRegion ops444 [], .code (seq2 (seq2 (seq2 B44))), .inBlock 1, .inLoop L44, .inBlock 0]

set_option maxHeartbeats 1000000 in
set_option maxRecDepth 100000 in
theorem down_loop {z : Nat → Option Nat} {Ch : Nat → Prop} {Stop : Goroutine → World → Prop} {h : Nat} {cont : Addr → Value} {S : TS} {K : List (Nat × Int)} {v w : World} {i j cb lb : Nat} {t : Thr} (x : Int) (u : Nat → Value) (cs : List Frame) (Hm : Goroutine → Prop)
    (hH : ∀ g, OpBack (h == 0) i j cb t.tb 1 effLoad (fun r => G (dSeen lb cb t.tb u r) cs) g → Hm g) (hlb : v.cell? ⟨lb, 0, none⟩ = some (Pt cb 0))
    (hvw : Rel z v w) (hn : NoRow Ch v) (hm : Mem z S K v) (ht : S.thr[i]? = some t) (hK : K[j]? = some (cb, x)) (hz : z t.tb = some 2) (hcont : cont ⟨t.tb, 2, none⟩ = .chan (some t.gc))
    (hstop : ∀ g w', GiveT z cont h S.bk t.gc Hm (Then z Ch S K v (waiting S i t 1 1 j) K) g w' → Stop g w') :
    GoesI Try.prog (h == 0) (DT (ScZ z) Ch) Stop (G (dFr lb t.tb u) cs) w := by
  have e0 : w.cell? ⟨lb, 0, none⟩ = some (Pt cb 0) := by rw [hvw.cell?]; exact hlb
  have HM : Hid (Mem z S K v) := ⟨hm⟩
  clear hm
  unfold dFr L44 Try.f44 seq2 blockC loopC
  simp only [Option.getD_some]
  refine goesI_block (dt_idle _ _) ?_
  refine goesI_seq (dt_idle _ _) ?_
  refine goesI_region (dt_idle _ _) ?_
  simp only [List.size_toArray, List.length_cons, List.length_nil, Nat.reduceAdd, Nat.zero_add, List.range, List.range.loop]
  iterate 5
    (refine goesI_oper rfl rfl (by decide) (fun d K hK => ?_)
     go_simp
     refine hK _ _ ⟨dt_reads (fun e he => ?_), GoesI.at ?_ d⟩
     · have hm := mem_listed he
       simp [go_sem, *] at hm
       try exact ⟨_, _, hm⟩
     clear hK K)
  refine goesI_into (f := 26) (fn := Try.f26) (args := #[Pt cb 0, Pt t.tb 0]) (dt_idle _ _) rfl rfl (by decide) rfl (by simp [Act.eval]) Try.func26 (by decide) rfl ?_
  exact load_goes x _ Hm rfl (fun g hg => hH g hg) hvw hn HM.out ht hK hz hcont hstop _ rfl

/-- It has been entered. -/
theorem down_in {z : Nat → Option Nat} {Ch : Nat → Prop} {Stop : Goroutine → World → Prop} {main : Bool} {w : World} {lb tb : Nat} (cs : List Frame)
    (hk : ∀ u, GoesI Try.prog main (DT (ScZ z) Ch) Stop (G (dFr lb tb u) cs) w) (code : Code) (hc : Try.f44.body = some code) :
    GoesI Try.prog main (DT (ScZ z) Ch) Stop (G ((base 44).at { tmps := #[Pt lb 0, Pt tb 0] ++ Array.replicate 21 undef, defers := [] } [.code code]) cs) w := by
  obtain rfl := Option.some.inj hc
  clear hc
  simp only [Array.replicate_succ, Array.replicate_zero, List.push_toArray, List.append_toArray, List.nil_append, List.cons_append]
  refine goesI_seq (dt_idle _ _) ?_
  refine goesI_region (dt_idle _ _) ?_
  simp only [List.size_toArray, List.length_cons, List.length_nil, Nat.reduceAdd, Nat.zero_add, List.range, List.range.loop]
  (refine goesI_oper rfl rfl (by decide) (fun d K hK => ?_)
   go_simp
   refine hK _ _ ⟨dt_reads (fun e he => ?_), GoesI.at ?_ d⟩
   · have hm := mem_listed he
     simp [go_sem, *] at hm
   clear hK K)
  refine goesI_regionEnd (dt_idle _ _) ?_
  refine goesI_block (dt_idle _ _) ?_
  refine goesI_loop (dt_idle _ _) ?_
  exact hk (fun _ => undef)

noncomputable def low44 : Code := condA (seq2 (seq1 (seq2 B44)))
theorem fineLow44 : fineCode Try.prog true LT low44 := fineCode_ask callT extT (by kernel_rfl)
set_option maxHeartbeats 1000000 in
set_option maxRecDepth 100000 in
/-- It stands at nothing: ErrLatchLow. -/
theorem down_low {z : Nat → Option Nat} {Ch : Nat → Prop} {Stop : Goroutine → World → Prop} {main : Bool} {v w : World} {lb cb tb : Nat} (u : Nat → Value) (cs : List Frame) {bc : Frame} {ac : Act} {ops : Array Oper} {q : Nat} {rest : List Nat} {oc : Oper} {k : List Item} (hoc : ops[q]? = some oc)
    (hvw : Rel z v w) (hn : NoRow Ch v)
    (hk : ∀ v' w', Rel z v' w' → NoRow Ch v' → v'.heap = v.heap → v'.os = v.os → v'.output = v.output → GoesI Try.prog main (DT (ScZ z) Ch) Stop (G (bc.at (ac.put oc.dst (I 50)) (.inRegion ops rest :: k)) cs) w') :
    GoesI Try.prog main (DT (ScZ z) Ch) Stop (G (dSeen lb cb tb u (I 0)) (bc.at ac (.inRegion ops (q :: rest) :: k) :: cs)) w := by
  unfold dSeen ops441 B44 L44 Try.f44 seq2 seq1 blockC loopC opsOf
  simp only [Option.getD_some]
  walk_nrm
  (refine goesI_oper rfl rfl (by decide) (fun d K hK => ?_)
   go_simp
   refine hK _ _ ⟨dt_reads (fun e he => ?_), GoesI.at ?_ d⟩
   · have hm := mem_listed he
     simp [go_sem, *] at hm
   clear hK K)
  refine goesI_regionEnd (dt_idle _ _) ?_
  refine goesI_seq (dt_idle _ _) ?_
  refine goesI_seq (dt_idle _ _) ?_
  refine goesI_region (dt_idle _ _) ?_
  simp only [List.size_toArray, List.length_cons, List.length_nil, Nat.reduceAdd, Nat.zero_add, List.range, List.range.loop]
  iterate 2
    (refine goesI_oper rfl rfl (by decide) (fun d K hK => ?_)
     go_simp
     refine hK _ _ ⟨dt_reads (fun e he => ?_), GoesI.at ?_ d⟩
     · have hm := mem_listed he
       simp [go_sem, *] at hm
     clear hK K)
  refine goesI_regionEnd (dt_idle _ _) ?_
  refine goesI_cond (dt_idle _ _) (t := true) (by simp [Act.eval]) ?_
  simp only [if_true, if_false, Bool.false_eq_true]
  refine goesI_outZ (c := low44) (f := 44) (fn := Try.f44) (L := LT) hE fineT hvw hn Try.func44 fineLow44 rfl hoc (R := fun r w' => r = I 50 ∧ w'.heap = v.heap ∧ w'.os = v.os ∧ w'.output = v.output) (fun τ => ?_) (fun r v' w' hR hr' hn' => ?_)
  · show Code.wp Try.prog (condA (seq2 (seq1 (seq2 (blockC (loopC (blockC (seq2 (Try.f44.body.getD .skip))))))))) _ _ _
    unfold Try.f44 condA seq2 seq1 blockC loopC
    simp only [Option.getD_some]
    go_wp2_with fail
    exact ⟨_, results_tmp rfl _ _ _, rfl, rfl, rfl, rfl⟩
  · obtain ⟨rfl, h1, h2, h3⟩ := hR
    exact hk v' w' hr' hn' h1 h2 h3

/-- What it holds where it tries. -/
def dVal (lb cb tb : Nat) (x : Int) (u : Nat → Value) : Nat → Value
  | 5 => I x
  | 6 => Pt lb 0
  | 7 => Pt lb 0
  | 8 => Pt lb 0
  | 9 => Pt cb 0
  | 10 => Pt tb 0
  | 11 => I x
  | 12 => I x
  | 13 => .bool (x == 0)
  | 14 => Pt lb 0
  | 15 => Pt lb 0
  | 16 => Pt lb 0
  | 17 => Pt cb 0
  | 18 => Pt tb 0
  | 19 => I x
  | 20 => I x
  | 21 => I (wrap64 (x - 1))
  | k => u k

set_option maxHeartbeats 1000000 in
set_option maxRecDepth 100000 in
/-- Something stands there: it tries to count it down. -/
theorem down_try {z : Nat → Option Nat} {Ch : Nat → Prop} {Stop : Goroutine → World → Prop} {h : Nat} {cont : Addr → Value} {S : TS} {K : List (Nat × Int)} {v w : World} {i j cb lb : Nat} {t : Thr} (x : Int) (hx : x ≠ 0) (y : Int) (u : Nat → Value) (cs : List Frame) (Hm : Goroutine → Prop)
    (hH : ∀ g, OpBack (h == 0) i j cb t.tb 4 (effCas x (wrap64 (x - 1))) (fun r => G (dTried lb t.tb (dVal lb cb t.tb x u) r) cs) g → Hm g) (hlb : v.cell? ⟨lb, 0, none⟩ = some (Pt cb 0))
    (hvw : Rel z v w) (hn : NoRow Ch v) (hm : Mem z S K v) (ht : S.thr[i]? = some t) (hK : K[j]? = some (cb, y)) (hz : z t.tb = some 2) (hcont : cont ⟨t.tb, 2, none⟩ = .chan (some t.gc))
    (hstop : ∀ g w', GiveT z cont h S.bk t.gc Hm (Then z Ch S K v (waiting S i t 1 4 j) K) g w' → Stop g w') :
    GoesI Try.prog (h == 0) (DT (ScZ z) Ch) Stop (G (dSeen lb cb t.tb u (I x)) cs) w := by
  have e0 : w.cell? ⟨lb, 0, none⟩ = some (Pt cb 0) := by rw [hvw.cell?]; exact hlb
  have HM : Hid (Mem z S K v) := ⟨hm⟩
  clear hm
  unfold dSeen ops441 B44 L44 Try.f44 seq2 seq1 blockC loopC opsOf
  simp only [Option.getD_some]
  walk_nrm
  (refine goesI_oper rfl rfl (by decide) (fun d K hK => ?_)
   go_simp
   refine hK _ _ ⟨dt_reads (fun e he => ?_), GoesI.at ?_ d⟩
   · have hm := mem_listed he
     simp [go_sem, *] at hm
   clear hK K)
  refine goesI_regionEnd (dt_idle _ _) ?_
  refine goesI_seq (dt_idle _ _) ?_
  refine goesI_seq (dt_idle _ _) ?_
  refine goesI_region (dt_idle _ _) ?_
  simp only [List.size_toArray, List.length_cons, List.length_nil, Nat.reduceAdd, Nat.zero_add, List.range, List.range.loop]
  iterate 2
    (refine goesI_oper rfl rfl (by decide) (fun d K hK => ?_)
     go_simp
     refine hK _ _ ⟨dt_reads (fun e he => ?_), GoesI.at ?_ d⟩
     · have hm := mem_listed he
       simp [go_sem, *] at hm
     clear hK K)
  refine goesI_regionEnd (dt_idle _ _) ?_
  refine goesI_cond (dt_idle _ _) (t := false) (by simp [Act.eval, hx]) ?_
  simp only [if_true, if_false, Bool.false_eq_true]
  refine goesI_skip (dt_idle _ _) ?_
  refine goesI_seq (dt_idle _ _) ?_
  refine goesI_region (dt_idle _ _) ?_
  simp only [List.size_toArray, List.length_cons, List.length_nil, Nat.reduceAdd, Nat.zero_add, List.range, List.range.loop]
  iterate 8
    (refine goesI_oper rfl rfl (by decide) (fun d K hK => ?_)
     go_simp
     refine hK _ _ ⟨dt_reads (fun e he => ?_), GoesI.at ?_ d⟩
     · have hm := mem_listed he
       simp [go_sem, *] at hm
       try exact ⟨_, _, hm⟩
     clear hK K)
  rw [show IntKind.wrap .i64 (x - 1) = wrap64 (x - 1) from Go.IntWalk.i64_left _]
  refine goesI_into (f := 23) (fn := Try.f23) (args := #[Pt cb 0, Pt t.tb 0, I x, I (wrap64 (x - 1))]) (dt_idle _ _) rfl rfl (by decide) rfl (by simp [Act.eval]) Try.func23 (by decide) rfl ?_
  exact cas_goes x (wrap64 (x - 1)) y _ Hm rfl (fun g hg => hH g hg) hvw hn HM.out ht hK hz hcont hstop _ rfl

noncomputable def won44 : Code := condA (seq2 (seq2 (seq2 B44)))
theorem fineWon44 : fineCode Try.prog true LT won44 := fineCode_ask callT extT (by kernel_rfl)
set_option maxHeartbeats 1000000 in
set_option maxRecDepth 100000 in
/-- It did. -/
theorem down_won {z : Nat → Option Nat} {Ch : Nat → Prop} {Stop : Goroutine → World → Prop} {main : Bool} {v w : World} {lb tb : Nat} (u : Nat → Value) (cs : List Frame) {bc : Frame} {ac : Act} {ops : Array Oper} {q : Nat} {rest : List Nat} {oc : Oper} {k : List Item} (hoc : ops[q]? = some oc)
    (hvw : Rel z v w) (hn : NoRow Ch v)
    (hk : ∀ v' w', Rel z v' w' → NoRow Ch v' → v'.heap = v.heap → v'.os = v.os → v'.output = v.output → GoesI Try.prog main (DT (ScZ z) Ch) Stop (G (bc.at (ac.put oc.dst (I 0)) (.inRegion ops rest :: k)) cs) w') :
    GoesI Try.prog main (DT (ScZ z) Ch) Stop (G (dTried lb tb u (.bool true)) (bc.at ac (.inRegion ops (q :: rest) :: k) :: cs)) w := by
  unfold dTried ops444 B44 L44 Try.f44 seq2 seq1 blockC loopC opsOf
  simp only [Option.getD_some]
  walk_nrm
  refine goesI_regionEnd (dt_idle _ _) ?_
  refine goesI_cond (dt_idle _ _) (t := true) rfl ?_
  simp only [if_true, if_false, Bool.false_eq_true]
  refine goesI_outZ (c := won44) (f := 44) (fn := Try.f44) (L := LT) hE fineT hvw hn Try.func44 fineWon44 rfl hoc (R := fun r w' => r = I 0 ∧ w'.heap = v.heap ∧ w'.os = v.os ∧ w'.output = v.output) (fun τ => ?_) (fun r v' w' hR hr' hn' => ?_)
  · show Code.wp Try.prog (condA (seq2 (seq2 (seq2 (blockC (loopC (blockC (seq2 (Try.f44.body.getD .skip))))))))) _ _ _
    unfold Try.f44 condA seq2 blockC loopC
    simp only [Option.getD_some]
    go_wp2_with fail
    exact ⟨_, results_tmp rfl _ _ _, rfl, rfl, rfl, rfl⟩
  · obtain ⟨rfl, h1, h2, h3⟩ := hR
    exact hk v' w' hr' hn' h1 h2 h3

set_option maxHeartbeats 1000000 in
set_option maxRecDepth 100000 in
/-- Another was ahead of it: it looks again. -/
theorem down_again {z : Nat → Option Nat} {Ch : Nat → Prop} {Stop : Goroutine → World → Prop} {main : Bool} {w : World} {lb tb : Nat} (u : Nat → Value) (cs : List Frame)
    (hk : ∀ u, GoesI Try.prog main (DT (ScZ z) Ch) Stop (G (dFr lb tb u) cs) w) :
    GoesI Try.prog main (DT (ScZ z) Ch) Stop (G (dTried lb tb u (.bool false)) cs) w := by
  unfold dFr L44 Try.f44 seq2 blockC loopC at hk
  simp only [Option.getD_some] at hk
  unfold dTried ops444 B44 L44 Try.f44 seq2 seq1 blockC loopC opsOf
  simp only [Option.getD_some]
  walk_nrm
  refine goesI_regionEnd (dt_idle _ _) ?_
  refine goesI_cond (dt_idle _ _) (t := false) rfl ?_
  simp only [if_true, if_false, Bool.false_eq_true]
  refine goesI_skip (dt_idle _ _) ?_
  refine goesI_inBlock (dt_idle _ _) ?_
  refine goesI_inLoop (dt_idle _ _) ?_
  exact hk (fun m => match m with | 22 => .bool false | m => u m)
end Go.Proofs.Ytehingmdmijedaa.Gen
