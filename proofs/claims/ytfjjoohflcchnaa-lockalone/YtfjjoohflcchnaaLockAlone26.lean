/- LockAlone: for every schedule and all scripts, what threads are told together under the lock is what one thread would be told that makes the calls in the order of the tickets; no conditions. Part 26 of 34. (Joined, by program, of: LokA2, GNow, LatW2, LatD, LatC, LatP, LatPk.) -/
import Derived.Test.YtfjjoohflcchnaaLockAlone08
import Derived.Test.YtfjjoohflcchnaaLockAlone09
import Derived.Test.YtfjjoohflcchnaaLockAlone18
import Derived.Test.YtfjjoohflcchnaaLockAlone24
import Derived.Test.YtfjjoohflcchnaaLockAlone25
set_option linter.unusedSimpArgs false
set_option linter.unusedVariables false
namespace Go.Proofs.Ytfjjoohflcchnaa.Gen
open Go Go.Lift Go.Conc Go.RowKit

set_option maxHeartbeats 1000000 in
set_option maxRecDepth 100000 in
/-- It has seen y: it writes y + n. -/
theorem addTo_put {z : Nat → Option Nat} {Ch : Nat → Prop} {Stop : Goroutine → World → Prop} {h : Nat} {cont : Addr → Value} {S : TS} {K : List (Nat × Int)} {v w : World} {i j cb lb : Nat} {t : Thr} (n y x : Int) (u : Nat → Value) (cs : List Frame) (Hm : Goroutine → Prop)
    (hH : ∀ g u, OpBack (h == 0) i j cb t.tb 2 (effStore (wrap64 (y + n))) (fun r => G (aPut lb cb t.tb n y u r) cs) g → Hm g)
    (hvw : Rel z v w) (hn : NoRow Ch v) (hm : Mem z S K v) (ht : S.thr[i]? = some t) (hK : K[j]? = some (cb, x)) (hz : z t.tb = some 2) (hcont : cont ⟨t.tb, 2, none⟩ = .chan (some t.gc))
    (hstop : ∀ g w', GiveT z cont h S.bk t.gc Hm (Then z Ch S K v (waiting S i t 1 2 j) K) g w' → Stop g w') :
    GoesI Try.prog (h == 0) (DT (ScZ z) Ch) Stop (G (aSeen lb cb t.tb n u (I y)) cs) w := by
  have HM : Hid (Mem z S K v) := ⟨hm⟩
  clear hm
  unfold aSeen ops852 R853 R852 Try.f94 seq2 seq1 opsOf
  simp only [Option.getD_some]
  walk_nrm
  iterate 1
    (refine goesI_oper rfl rfl (by decide) (fun d K hK => ?_)
     go_simp
     refine hK _ _ ⟨dt_reads (fun e he => ?_), GoesI.at ?_ d⟩
     · have hm := mem_listed he
       simp [go_sem, *] at hm
       try exact ⟨_, _, hm⟩
     clear hK K)
  refine goesI_regionEnd (dt_idle _ _) ?_
  refine goesI_seq (dt_idle _ _) ?_
  refine goesI_region (dt_idle _ _) ?_
  simp only [List.size_toArray, List.length_cons, List.length_nil, Nat.reduceAdd, Nat.zero_add, List.range, List.range.loop]
  iterate 5
    (refine goesI_oper rfl rfl (by decide) (fun d K hK => ?_)
     go_simp
     refine hK _ _ ⟨dt_reads (fun e he => ?_), GoesI.at ?_ d⟩
     · have hm := mem_listed he
       simp [go_sem, *] at hm
       try exact ⟨_, _, hm⟩
     clear hK K)
  rw [show IntKind.wrap .i64 (y + n) = wrap64 (y + n) from Go.IntWalk.i64_left _]
  refine goesI_into (f := 23) (fn := Try.f23) (args := #[Pt cb 0, Pt t.tb 0, I (wrap64 (y + n))]) (dt_idle _ _) rfl rfl (by decide) rfl (by simp [Act.eval]) Try.func23 (by decide) rfl ?_
  exact store_goes (wrap64 (y + n)) x _ Hm rfl (fun g hg => hH g (fun m => match m with | 14 => I y | 15 => Pt cb 0 | 16 => Pt t.tb 0 | 17 => I y | 18 => I n | 19 => I (wrap64 (y + n)) | m => u m) hg) hvw hn HM.out ht hK hz hcont hstop _ rfl

set_option maxHeartbeats 1000000 in
set_option maxRecDepth 100000 in
/-- It has written: Unlock calls the next ticket. -/
theorem addTo_free {z : Nat → Option Nat} {Ch : Nat → Prop} {Stop : Goroutine → World → Prop} {h : Nat} {cont : Addr → Value} {S : TS} {K : List (Nat × Int)} {v w : World} {i j cb gb lb : Nat} {t : Thr} (n y x : Int) (u : Nat → Value) (r : Value) (cs : List Frame) (Hm : Goroutine → Prop)
    (hH : ∀ g u, OpBack (h == 0) i j cb t.tb 5 (effAdd 1) (fun r => G (aFree lb cb t.tb r) (aEnd lb gb t.tb n y u :: cs)) g → Hm g) (hlb : v.cell? ⟨lb, 1, none⟩ = some (Pt cb 0))
    (hvw : Rel z v w) (hn : NoRow Ch v) (hm : Mem z S K v) (ht : S.thr[i]? = some t) (hK : K[j]? = some (cb, x)) (hz : z t.tb = some 2) (hcont : cont ⟨t.tb, 2, none⟩ = .chan (some t.gc))
    (hstop : ∀ g w', GiveT z cont h S.bk t.gc Hm (Then z Ch S K v (waiting S i t 1 5 j) K) g w' → Stop g w') :
    GoesI Try.prog (h == 0) (DT (ScZ z) Ch) Stop (G (aPut lb gb t.tb n y u r) cs) w := by
  have e0 : w.cell? ⟨lb, 1, none⟩ = some (Pt cb 0) := by rw [hvw.cell?]; exact hlb
  have HM : Hid (Mem z S K v) := ⟨hm⟩
  clear hm
  unfold aPut ops853 R853 R852 Try.f94 seq2 seq1 opsOf
  simp only [Option.getD_some]
  walk_nrm
  refine goesI_regionEnd (dt_idle _ _) ?_
  refine goesI_seq (dt_idle _ _) ?_
  refine goesI_region (dt_idle _ _) ?_
  simp only [List.size_toArray, List.length_cons, List.length_nil, Nat.reduceAdd, Nat.zero_add, List.range, List.range.loop]
  iterate 2
    (refine goesI_oper rfl rfl (by decide) (fun d K hK => ?_)
     go_simp
     refine hK _ _ ⟨dt_reads (fun e he => ?_), GoesI.at ?_ d⟩
     · have hm := mem_listed he
       simp [go_sem, *] at hm
       try exact ⟨_, _, hm⟩
     clear hK K)
  refine goesI_regionEnd (dt_idle _ _) ?_
  refine GoesI.ctl rfl (fun _ => stepG_ret') (dt_idle _ _) ?_
  refine goesI_unwind_fun (f := 40) (fn := Try.f40) (args := #[Pt lb 0, Pt t.tb 0]) (ds := []) (dt_idle _ _) rfl Try.func40 (by kernel_rfl) (c := Try.f40.body.getD .skip) rfl ?_
  show GoesI Try.prog (h == 0) (DT (ScZ z) Ch) Stop (G ((baseD 40).at { tmps := #[Pt lb 0, Pt t.tb 0] ++ Array.replicate 8 undef, defers := [] } [.code (Try.f40.body.getD .skip)]) _) w
  simp only [Array.replicate_succ, Array.replicate_zero, List.push_toArray, List.append_toArray, List.nil_append, List.cons_append]
  unfold Try.f40
  simp only [Option.getD_some]
  refine goesI_region (dt_idle _ _) ?_
  simp only [List.size_toArray, List.length_cons, List.length_nil, Nat.reduceAdd, Nat.zero_add, List.range, List.range.loop]
  iterate 5
    (refine goesI_oper rfl rfl (by decide) (fun d K hK => ?_)
     go_simp
     refine hK _ _ ⟨dt_reads (fun e he => ?_), GoesI.at ?_ d⟩
     · have hm := mem_listed he
       simp [go_sem, *] at hm
       try exact ⟨_, _, hm⟩
     clear hK K)
  refine goesI_into (f := 26) (fn := Try.f26) (args := #[Pt cb 0, Pt t.tb 0, I 1]) (dt_idle _ _) rfl rfl (by decide) rfl (by simp [Act.eval]) Try.func26 (by decide) rfl ?_
  exact add_goes 1 x _ Hm rfl (fun g hg => hH g (fun m => match m with | 20 => r | 21 => I y | m => u m) hg) hvw hn HM.out ht hK hz hcont hstop _ rfl

set_option maxHeartbeats 1000000 in
set_option maxRecDepth 100000 in
/-- It comes back with what stood there. -/
theorem addTo_out {z : Nat → Option Nat} {Ch : Nat → Prop} {Stop : Goroutine → World → Prop} {main : Bool} {v w : World} {lb nb gb tb : Nat} (n y : Int) (u : Nat → Value) (r : Value) (cs : List Frame) {bc : Frame} {ac : Act} {ops : Array Oper} {q : Nat} {rest : List Nat} {oc : Oper} {k : List Item} (hoc : ops[q]? = some oc)
    (hvw : Rel z v w) (hn : NoRow Ch v)
    (hk : ∀ w', Rel z v w' → GoesI Try.prog main (DT (ScZ z) Ch) Stop (G (bc.at (ac.put oc.dst (I y)) (.inRegion ops rest :: k)) cs) w') :
    GoesI Try.prog main (DT (ScZ z) Ch) Stop (G (aFree lb nb tb r) (aEnd lb gb tb n y u :: bc.at ac (.inRegion ops (q :: rest) :: k) :: cs)) w := by
  unfold aFree ops38 Try.f40 opsOf
  simp only [Option.getD_some]
  walk_nrm
  refine goesI_regionEnd (dt_idle _ _) ?_
  refine goesI_end (dt_idle _ _) ?_
  unfold aEnd
  refine goesI_leaveD (dt_idle _ _) Try.func40 rfl ?_
  exact goesI_leaveZ (f := 94) (fn := Try.f94) (x := I y) hvw hn Try.func94 rfl hoc (by simp [results, go_sem, Try.f94]) (fun w' r' => hk w' r')
end Go.Proofs.Ytfjjoohflcchnaa.Gen

namespace Go.Proofs.Ytfjjoohflcchnaa.Gen
open Go Go.Lift Go.Conc Go.RowKit
variable {mc : Mc}

/-- It goes on from a world v0 (state S0, cells K0), and is in a world v: state S (σ, but for the trace's place), cells κ; Mo is its own. -/
structure Now (X : Fix mc) (z : Nat → Option Nat) (cont : Addr → Value) (Ch : Nat → Prop) (S0 : TS) (K0 : List (Nat × Int)) (v0 : World) (Mo0 Mo : Nat → Option Obj) (σ : TS) (κ : List (Nat × Int)) (S : TS) (v w : World) (t : Thr) : Prop where
  at_ : At X z cont Ch S κ v w t
  evo : EvoP (fun b => Mo0 b ≠ none) z S0 K0 v0 S κ v
  nv : nv S = σ
  bk : S.bk = S0.bk
  mo : Has Mo v
  far : ∀ b, Mo b ≠ none → ¬ Own S κ b
  new : ∀ b, Mo b ≠ none → Mo0 b ≠ none ∨ v0.heap.size ≤ b
  row : ∀ b o, Mo b = some o → ∃ c e f, o = .cells c e f

section
variable {X : Fix mc} {z : Nat → Option Nat} {cont : Addr → Value} {Ch : Nat → Prop} {Stop : Goroutine → World → Prop} {cu : Value → Goroutine} {S0 : TS} {K0 : List (Nat × Int)} {v0 : World} {Mo0 Mo : Nat → Option Obj} {σ : TS} {κ : List (Nat × Int)} {S : TS} {v w : World} {t : Thr} {H : Nx → (Nat → Option Obj) → Goroutine → Prop}

theorem Now.good (N : Now X z cont Ch S0 K0 v0 Mo0 Mo σ κ S v w t) {x : Nx} (hx : ∀ e y, x ≠ .ans e y) : Good v0 Mo0 x Mo := ⟨hx, N.new, N.row⟩

/-- It goes on. -/
theorem Now.on (N : Now X z cont Ch S0 K0 v0 Mo0 Mo σ κ S v w t) {S' σ' : TS} {κ' : List (Nat × Int)} {v' w' : World} {t' : Thr} (e : Evo z S κ v S' κ' v') (r : Rel z v' w') (n : NoRow Ch v') (hS : Gen.nv S' = σ') (ht : S'.thr[X.i]? = some t') (htb : t'.tb = X.tb) (hgc : t'.gc = X.gc) (hbk : S'.bk = S.bk) : Now X z cont Ch S0 K0 v0 Mo0 Mo σ' κ' S' v' w' t' := by
  have kp : ∀ b, b < v.heap.size → ¬ Own S κ b → v'.heap[b]? = v.heap[b]? ∧ ¬ Own S' κ' b := fun b hb ho => (Evo.toP (Pr := fun _ => False) e).keeps hb ho (fun h => h)
  have km : ∀ (M : Nat → Option Obj), Has M v → (∀ b, M b ≠ none → ¬ Own S κ b) → Has M v' ∧ ∀ b, M b ≠ none → ¬ Own S' κ' b := fun M hM hf => by
    have h1 : ∀ b o, M b = some o → v'.heap[b]? = v.heap[b]? ∧ ¬ Own S' κ' b := fun b o hb => kp b (Array.getElem?_eq_some_iff.1 (hM b o hb)).1 (hf b (by rw [hb]; simp))
    refine ⟨fun b o hb => by rw [(h1 b o hb).1]; exact hM b o hb, fun b hb => ?_⟩
    obtain ⟨o, ho⟩ := Option.ne_none_iff_exists'.1 hb
    exact (h1 b o ho).2
  have k1 := km X.pk N.at_.pk N.at_.far
  have k2 := km Mo N.mo N.far
  exact ⟨⟨r, n, e.mem, ht, htb, hgc, e.blks.trans N.at_.kb, N.at_.z, N.at_.cont, k1.1, k1.2⟩, N.evo.trans (Evo.toP e), hS, hbk.trans N.bk, k2.1, k2.2, N.new, N.row⟩
/-- .. with nothing changed. -/
theorem Now.same (N : Now X z cont Ch S0 K0 v0 Mo0 Mo σ κ S v w t) {v' w' : World} (r : Rel z v' w') (n : NoRow Ch v') (e1 : v'.heap = v.heap) (e2 : v'.os = v.os) (e3 : v'.output = v.output) : Now X z cont Ch S0 K0 v0 Mo0 Mo σ κ S v' w' t :=
  N.on (N.at_.mem.grows ⟨by rw [e1]; exact Nat.le_refl _, fun b _ => by rw [e1], e2, e3⟩) r n N.nv N.at_.thr N.at_.tb N.at_.gc rfl
/-- A call goes on from its seat. -/
theorem Now.here (A : At X z cont Ch S κ v w t) (hm : Has Mo v) (hf : ∀ b, Mo b ≠ none → ¬ Own S κ b) (hr : ∀ b o, Mo b = some o → ∃ c e f, o = .cells c e f) : Now X z cont Ch S κ v Mo Mo (Gen.nv S) κ S v w t :=
  ⟨A, Evo.toP (A.mem.grows ⟨Nat.le_refl _, fun _ _ => rfl, rfl, rfl⟩), rfl, rfl, hm, hf, fun b hb => .inl hb, hr⟩
theorem Now.cell (N : Now X z cont Ch S0 K0 v0 Mo0 Mo σ κ S v w t) {j cb : Nat} (h : X.kb[j]? = some cb) : κ[j]? = some (cb, (cellAt κ j).2) ∧ cellAt κ j = (cb, (cellAt κ j).2) := by
  rw [← N.at_.kb, List.getElem?_map, Option.map_eq_some_iff] at h
  obtain ⟨p, h1, rfl⟩ := h
  have : cellAt κ j = p := by unfold cellAt; rw [h1]; rfl
  rw [this]
  exact ⟨h1, rfl⟩

/-- A turn. -/
theorem ob_turn {op : Int} {j : Nat} {q : Q} (hob : Ob X H z cont Ch Stop cu S0 K0 v0 Mo0 σ κ (.turn op j q)) (N : Now X z cont Ch S0 K0 v0 Mo0 Mo σ κ S v w t) (g : Goroutine) (w' : World) (hg : GiveT z cont X.h S.bk t.gc (H (.turn op j q) Mo) (Then z Ch S κ v (waiting S X.i t 1 op j) κ) g w') : Stop g w' := by
  refine hob.seat 1 op j (.inl ⟨⟨q, rfl⟩, rfl⟩) g w' Mo (N.good (fun _ _ h => by cases h)) ?_
  rw [N.at_.gc, N.bk] at hg
  refine atGive_mono (fun hF => ?_) hg
  obtain ⟨v', r, n, e⟩ := hF
  have N' := N.on e r n rfl (t' := { t with st := 1, op := op, ce := j, se := _ }) (List.getElem?_set_self (List.getElem?_eq_some_iff.1 N.at_.thr).1) N.at_.tb N.at_.gc rfl
  refine ⟨v', _, r, n, ?_, N'.evo, N'.mo, N'.far⟩
  rw [← N.nv, show thrI (Gen.nv S) X.i = t from thrI_of N.at_.thr]
  rfl
/-- An Await. -/
theorem ob_wait {j : Nat} {q : Q} (hob : Ob X H z cont Ch Stop cu S0 K0 v0 Mo0 σ κ (.wait j q)) (hs : S.stk = false) (N : Now X z cont Ch S0 K0 v0 Mo0 Mo σ κ S v w t) (g : Goroutine) (w' : World) (hg : GiveT z cont X.h S.bk t.gc (H (.wait j q) Mo) (Then z Ch S κ v (waiting S X.i t 2 6 j) κ) g w') : Stop g w' := by
  refine hob.seat 2 6 j (.inr ⟨⟨q, rfl⟩, by rw [← N.nv]; exact hs, rfl, rfl⟩) g w' Mo (N.good (fun _ _ h => by cases h)) ?_
  rw [N.at_.gc, N.bk] at hg
  refine atGive_mono (fun hF => ?_) hg
  obtain ⟨v', r, n, e⟩ := hF
  have N' := N.on e r n rfl (t' := { t with st := 2, op := 6, ce := j, se := _ }) (List.getElem?_set_self (List.getElem?_eq_some_iff.1 N.at_.thr).1) N.at_.tb N.at_.gc rfl
  refine ⟨v', _, r, n, ?_, N'.evo, N'.mo, N'.far⟩
  rw [← N.nv, show thrI (Gen.nv S) X.i = t from thrI_of N.at_.thr]
  rfl
end
end Go.Proofs.Ytfjjoohflcchnaa.Gen

namespace Go.Proofs.Ytfjjoohflcchnaa.Gen
open Go Go.Lift Go.Conc Go.RowKit

end Go.Proofs.Ytfjjoohflcchnaa.Gen

namespace Go.Proofs.Ytfjjoohflcchnaa.Gen
open Go Go.Lift Go.Conc Go.RowKit

end Go.Proofs.Ytfjjoohflcchnaa.Gen

namespace Go.Proofs.Ytfjjoohflcchnaa.Gen
open Go Go.Lift Go.Conc Go.RowKit

/-- What was called has answered r: the call answers y. -/
def ABack (main : Bool) (cu : Goroutine) (cl : Goroutine) : Prop :=
  ∀ (z : Nat → Option Nat) (Ch : Nat → Prop) (Stop : Goroutine → World → Prop) (w v : World), Rel z v w → NoRow Ch v →
    (∀ v' w', Rel z v' w' → NoRow Ch v' → v'.heap = v.heap → v'.os = v.os → v'.output = v.output → GoesI Try.prog main (DT (ScZ z) Ch) Stop cl w') →
    GoesI Try.prog main (DT (ScZ z) Ch) Stop cu w

end Go.Proofs.Ytfjjoohflcchnaa.Gen

namespace Go.Proofs.Ytfjjoohflcchnaa.Gen
open Go Go.Lift Go.Conc Go.RowKit

end Go.Proofs.Ytfjjoohflcchnaa.Gen

namespace Go.Proofs.Ytfjjoohflcchnaa.Gen
open Go Go.Lift Go.Conc Go.RowKit

/-- Down: 0 it looks, 1 it tries; Wait: 2 it looks, 3 it awaits. -/
def mcLatch : Mc where
  start c := if c.po = 1 then .turn 1 0 (0, []) else if c.po = 2 then .turn 1 0 (2, []) else .ans 1 0
  turn q x :=
    if q.1 = 0 then ((x, x), x, if x = 0 then .ans 50 0 else .turn 4 0 (1, [x]))
    else if q.1 = 1 then ((effCas (q.2.headD 0) (wrap64 (q.2.headD 0 - 1)) x).1, (effCas (q.2.headD 0) (wrap64 (q.2.headD 0 - 1)) x).2.1, if x = q.2.headD 0 then .ans 0 0 else .turn 1 0 (0, []))
    else ((x, x), x, if x = 0 then .ans 0 0 else .wait 0 (3, []))
  woke _ := .turn 1 0 (2, [])
  stuck _ := (4, 0)

abbrev box0 : Obj := .cells #[I 0, I 0] 42 (0, 0)
/-- The frames below what a call calls. -/
structure Frs where
  bd : Frame
  ad : Act
  od : Array Oper
  qd : Nat
  rd : List Nat
  oe : Oper
  kd : List Item
  fs : List Frame
namespace Frs
def cu (f : Frs) (r : Value) : Goroutine := G (f.bd.at (f.ad.put f.oe.dst r) (.inRegion f.od f.rd :: f.kd)) f.fs
def top (f : Frs) : Frame := f.bd.at f.ad (.inRegion f.od (f.qd :: f.rd) :: f.kd)
end Frs

structure LMine (X : Fix mcLatch) (xb lb cb : Nat) : Prop where
  caps : X.caps = #[Pt xb 0]
  mem : ∀ v, Has X.pk v → v.cell? ⟨xb, 0, none⟩ = some (Pt lb 0) ∧ v.cell? ⟨lb, 0, none⟩ = some (Pt cb 0)
  kb : X.kb[0]? = some cb
/-- Below Down, below Wait. -/
structure DF (main : Bool) (f : Frs) (c64 : Value → Goroutine) : Prop where
  oe : f.od[f.qd]? = some f.oe
  back : ∀ e : Int, ABack main (f.cu (I e)) (c64 (I e))
structure WF (main : Bool) (f : Frs) (c64 : Value → Goroutine) : Prop where
  oe : f.od[f.qd]? = some f.oe
  back : ∀ b : Bool, ABack main (f.cu (.bool b)) (c64 (I (if b then 0 else 4)))

section
variable {X : Fix mcLatch} {z : Nat → Option Nat} {cont : Addr → Value} {Ch : Nat → Prop} {Stop : Goroutine → World → Prop} {cu : Value → Goroutine} {S0 : TS} {K0 : List (Nat × Int)} {v0 : World} {Mo0 : Nat → Option Obj} {σ : TS} {κ : List (Nat × Int)} {S : TS} {v w : World} {t : Thr} {H : Nx → (Nat → Option Obj) → Goroutine → Prop} {xb lb cb pb : Nat} {c64 : Value → Goroutine} {f : Frs} {x : Nx}

end
end Go.Proofs.Ytfjjoohflcchnaa.Gen
