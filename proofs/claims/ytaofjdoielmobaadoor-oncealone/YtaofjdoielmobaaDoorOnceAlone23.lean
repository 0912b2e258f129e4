/- OnceAlone holds, as a card tied to the program's text: a once of no world, asked by one free thread with any list of acts, carries out the first one alone and tells all of them what it came to; no condition besides the sizes that the statement itself names. Part 23 of 35. (Joined, by program, of: GNow, GLit, KpB.) -/
import Derived.Test.YtaofjdoielmobaaDoorOnceAlone08
import Derived.Test.YtaofjdoielmobaaDoorOnceAlone16
import Derived.Test.YtaofjdoielmobaaDoorOnceAlone19
import Derived.Test.YtaofjdoielmobaaDoorOnceAlone20
import Derived.Test.YtaofjdoielmobaaDoorOnceAlone22

/- A thread in the middle of a call: where it is (Now), and that a seat which it comes to is what Ob asks. -/
set_option linter.unusedSimpArgs false
set_option linter.unusedVariables false
namespace Go.Proofs.YtaofjdoielmobaaDoor.Gen
open Go Go.Lift Go.Conc Go.RowKit
variable {mc : Mc}

/-- It goes on from a world v0 (state S0, cells K0), and is in a world v: state S (σ, but for the trace's place), cells κ; Mo is its own. -/
structure Now (X : Fix mc) (z : Nat → Option Nat) (cont : Addr → Value) (Ch : Nat → Prop) (S0 : TS) (K0 : List (Nat × Int)) (v0 : World) (Mo0 Mo : Nat → Option Obj) (σ : TS) (κ : List (Nat × Int)) (S : TS) (v w : World) (t : Thr) : Prop where
  at_ : At X z cont Ch S κ v w t
  evo : EvoP (fun b => Mo0 b ≠ none) z S0 K0 v0 S κ v
  nv : nv S = σ
  bk : S.bk = S0.bk
  mo : Has Mo v
  far : ∀ b, Mo b ≠ none → ¬ Own S κ b
  new : ∀ b, Mo b ≠ none → Mo0 b ≠ none ∨ v0.heap.size ≤ b
  row : ∀ b o, Mo b = some o → ∃ c e f, o = .cells c e f

section
variable {X : Fix mc} {z : Nat → Option Nat} {cont : Addr → Value} {Ch : Nat → Prop} {Stop : Goroutine → World → Prop} {cu : Value → Goroutine} {S0 : TS} {K0 : List (Nat × Int)} {v0 : World} {Mo0 Mo : Nat → Option Obj} {σ : TS} {κ : List (Nat × Int)} {S : TS} {v w : World} {t : Thr} {H : Nx → (Nat → Option Obj) → Goroutine → Prop}

theorem Now.good (N : Now X z cont Ch S0 K0 v0 Mo0 Mo σ κ S v w t) {x : Nx} (hx : ∀ e y, x ≠ .ans e y) : Good v0 Mo0 x Mo := ⟨hx, N.new, N.row⟩

/-- It goes on. -/
theorem Now.on (N : Now X z cont Ch S0 K0 v0 Mo0 Mo σ κ S v w t) {S' σ' : TS} {κ' : List (Nat × Int)} {v' w' : World} {t' : Thr} (e : Evo z S κ v S' κ' v') (r : Rel z v' w') (n : NoRow Ch v') (hS : Gen.nv S' = σ') (ht : S'.thr[X.i]? = some t') (htb : t'.tb = X.tb) (hgc : t'.gc = X.gc) (hbk : S'.bk = S.bk) (hok : KOk mc κ') : Now X z cont Ch S0 K0 v0 Mo0 Mo σ' κ' S' v' w' t' := by
  have kp : ∀ b, b < v.heap.size → ¬ Own S κ b → v'.heap[b]? = v.heap[b]? ∧ ¬ Own S' κ' b := fun b hb ho => (Evo.toP (Pr := fun _ => False) e).keeps hb ho (fun h => h)
  have km : ∀ (M : Nat → Option Obj), Has M v → (∀ b, M b ≠ none → ¬ Own S κ b) → Has M v' ∧ ∀ b, M b ≠ none → ¬ Own S' κ' b := fun M hM hf => by
    have h1 : ∀ b o, M b = some o → v'.heap[b]? = v.heap[b]? ∧ ¬ Own S' κ' b := fun b o hb => kp b (Array.getElem?_eq_some_iff.1 (hM b o hb)).1 (hf b (by rw [hb]; simp))
    refine ⟨fun b o hb => by rw [(h1 b o hb).1]; exact hM b o hb, fun b hb => ?_⟩
    obtain ⟨o, ho⟩ := Option.ne_none_iff_exists'.1 hb
    exact (h1 b o ho).2
  have k1 := km X.pk N.at_.pk N.at_.far
  have k2 := km Mo N.mo N.far
  exact ⟨⟨r, n, e.mem, ht, htb, hgc, ⟨e.blks.trans N.at_.kb.1, hok⟩, N.at_.z, N.at_.cont, k1.1, k1.2⟩, N.evo.trans (Evo.toP e), hS, hbk.trans N.bk, k2.1, k2.2, N.new, N.row⟩
/-- .. with nothing changed. -/
theorem Now.same (N : Now X z cont Ch S0 K0 v0 Mo0 Mo σ κ S v w t) {v' w' : World} (r : Rel z v' w') (n : NoRow Ch v') (e1 : v'.heap = v.heap) (e2 : v'.os = v.os) (e3 : v'.output = v.output) : Now X z cont Ch S0 K0 v0 Mo0 Mo σ κ S v' w' t :=
  N.on (N.at_.mem.grows ⟨by rw [e1]; exact Nat.le_refl _, fun b _ => by rw [e1], e2, e3⟩) r n N.nv N.at_.thr N.at_.tb N.at_.gc rfl N.at_.kb.2
/-- A call goes on from its seat. -/
theorem Now.here (A : At X z cont Ch S κ v w t) (hm : Has Mo v) (hf : ∀ b, Mo b ≠ none → ¬ Own S κ b) (hr : ∀ b o, Mo b = some o → ∃ c e f, o = .cells c e f) : Now X z cont Ch S κ v Mo Mo (Gen.nv S) κ S v w t :=
  ⟨A, Evo.toP (A.mem.grows ⟨Nat.le_refl _, fun _ _ => rfl, rfl, rfl⟩), rfl, rfl, hm, hf, fun b hb => .inl hb, hr⟩
theorem Now.cell (N : Now X z cont Ch S0 K0 v0 Mo0 Mo σ κ S v w t) {j cb : Nat} (h : X.kb[j]? = some cb) : κ[j]? = some (cb, (cellAt κ j).2) ∧ cellAt κ j = (cb, (cellAt κ j).2) := by
  rw [← N.at_.kb.1, List.getElem?_map, Option.map_eq_some_iff] at h
  obtain ⟨p, h1, rfl⟩ := h
  have : cellAt κ j = p := by unfold cellAt; rw [h1]; rfl
  rw [this]
  exact ⟨h1, rfl⟩

/-- A turn. -/
theorem ob_turn {op : Int} {j : Nat} {q : Q} (hob : Ob X H z cont Ch Stop cu S0 K0 v0 Mo0 σ κ (.turn op j q)) (N : Now X z cont Ch S0 K0 v0 Mo0 Mo σ κ S v w t) (g : Goroutine) (w' : World) (hg : GiveT z cont X.h S.bk t.gc (H (.turn op j q) Mo) (Then z Ch S κ v (waiting S X.i t 1 op j) κ) g w') : Stop g w' := by
  refine hob.seat 1 op j (.inl ⟨⟨q, rfl⟩, rfl⟩) g w' Mo (N.good (fun _ _ h => by cases h)) ?_
  rw [N.at_.gc, N.bk] at hg
  refine atGive_mono (fun hF => ?_) hg
  obtain ⟨v', r, n, e⟩ := hF
  have N' := N.on e r n rfl (t' := { t with st := 1, op := op, ce := j, se := _ }) (List.getElem?_set_self (List.getElem?_eq_some_iff.1 N.at_.thr).1) N.at_.tb N.at_.gc rfl N.at_.kb.2
  refine ⟨v', _, r, n, ?_, N'.evo, N'.mo, N'.far⟩
  rw [← N.nv, show thrI (Gen.nv S) X.i = t from thrI_of N.at_.thr]
  rfl
/-- An Await. -/
theorem ob_wait {j : Nat} {q : Q} (hob : Ob X H z cont Ch Stop cu S0 K0 v0 Mo0 σ κ (.wait j q)) (N : Now X z cont Ch S0 K0 v0 Mo0 Mo σ κ S v w t) (g : Goroutine) (w' : World) (hg : GiveT z cont X.h S.bk t.gc (H (.wait j q) Mo) (Then z Ch S κ v (waiting S X.i t 2 6 j) κ) g w') : Stop g w' := by
  refine hob.seat 2 6 j (.inr ⟨⟨q, rfl⟩, rfl, rfl⟩) g w' Mo (N.good (fun _ _ h => by cases h)) ?_
  rw [N.at_.gc, N.bk] at hg
  refine atGive_mono (fun hF => ?_) hg
  obtain ⟨v', r, n, e⟩ := hF
  have N' := N.on e r n rfl (t' := { t with st := 2, op := 6, ce := j, se := _ }) (List.getElem?_set_self (List.getElem?_eq_some_iff.1 N.at_.thr).1) N.at_.tb N.at_.gc rfl N.at_.kb.2
  refine ⟨v', _, r, n, ?_, N'.evo, N'.mo, N'.far⟩
  rw [← N.nv, show thrI (Gen.nv S) X.i = t from thrI_of N.at_.thr]
  rfl
end
end Go.Proofs.YtaofjdoielmobaaDoor.Gen

/- A frame of so many slots as a list of letters. -/
set_option linter.unusedSimpArgs false
set_option linter.unusedVariables false
namespace Go.Proofs.YtaofjdoielmobaaDoor.Gen
open Go Go.Lift Go.Conc Go.RowKit
def lits (u : Nat → Value) : Nat → Nat → List Value
  | _, 0 => []
  | s, n + 1 => u s :: lits u (s + 1) n
theorem lits_get (u : Nat → Value) : ∀ (n s i : Nat), (lits u s n)[i]? = if i < n then some (u (s + i)) else none
  | 0, s, i => by simp [lits]
  | n + 1, s, 0 => by simp [lits]
  | n + 1, s, i + 1 => by
    have := lits_get u n (s + 1) i
    simp only [lits, List.getElem?_cons_succ, this, Nat.add_lt_add_iff_right]
    rw [show s + 1 + i = s + (i + 1) by omega]
theorem litN {n : Nat} {a : Act} (h : a.tmps.size = n) (hd : a.defers = []) : ∃ u : Nat → Value, a = { tmps := (lits u 0 n).toArray, defers := [] } ∧ ∀ i, a.tmps.getD i undef = u i := by
  obtain ⟨⟨l⟩, ds⟩ := a
  simp only at hd h
  subst hd
  refine ⟨fun i => (Array.mk l).getD i undef, ?_, fun i => rfl⟩
  have e : l = lits (fun i => (Array.mk l).getD i undef) 0 n := by
    apply List.ext_getElem?
    intro i
    rw [lits_get]
    have hl : l.length = n := h
    by_cases hi : i < n
    · rw [if_pos hi, List.getElem?_eq_getElem (by omega)]
      simp [Array.getD, hl, hi]
    · rw [if_neg hi, List.getElem?_eq_none (by omega)]
  exact congrArg (fun x => ({ tmps := x.toArray, defers := [] } : Act)) e
/-- Slots of a frame of n slots. -/
def Fl (n : Nat) (l : List (Nat × Value)) (a : Act) : Prop := a.tmps.size = n ∧ a.defers = [] ∧ ∀ p ∈ l, a.tmps.getD p.1 undef = p.2
theorem Fl.sub {n : Nat} {l l' : List (Nat × Value)} {a : Act} (h : Fl n l a) (hs : ∀ p ∈ l', p ∈ l) : Fl n l' a := ⟨h.1, h.2.1, fun p hp => h.2.2 p (hs p hp)⟩
theorem Fl.at {n : Nat} {l : List (Nat × Value)} {a : Act} (h : Fl n l a) (k : Nat) (v : Value) (hs : (k, v) ∈ l) : a.eval (.tmp k) = v := h.2.2 (k, v) hs
end Go.Proofs.YtaofjdoielmobaaDoor.Gen

/- An answer laid in its block; a frame below another; how a call's answer goes back through frames that lay it in memory of their own. -/
set_option linter.unusedSimpArgs false
set_option linter.unusedVariables false
namespace Go.Proofs.YtaofjdoielmobaaDoor.Gen
open Go Go.Lift Go.Conc Go.RowKit

def condB : Code → Code
  | .cond _ _ b => b
  | c => c
/-- An answer is laid in its block. -/
def ansW (v : World) (rb : Nat) (e x : Int) : World := (v.setCell ⟨rb, 0, none⟩ (I e)).setCell ⟨rb, 1, none⟩ (I x)
theorem ans_row {v : World} {rb : Nat} {a b : Value} (h : v.heap[rb]? = some (.cells #[a, b] 38 (0, 0))) (e x : Int) : (ansW v rb e x).heap[rb]? = some (.cells #[I e, I x] 38 (0, 0)) := by
  have := heap_setCell_same (o := 1) (heap_setCell_same (o := 0) h (I e)) (I x)
  unfold ansW
  simpa using this
theorem ans_far (v : World) (rb : Nat) (e x : Int) (b : Nat) (hb : b ≠ rb) : (ansW v rb e x).heap[b]? = v.heap[b]? := by
  unfold ansW
  rw [Below.heap_setCell _ _ _ _ hb, Below.heap_setCell _ _ _ _ hb]
theorem ans_size (v : World) (rb : Nat) (e x : Int) : (ansW v rb e x).heap.size = v.heap.size := by simp [ansW, World.setCell]
theorem ans_evo {z : Nat → Option Nat} {S : TS} {K : List (Nat × Int)} {v : World} {rb : Nat} (h : Mem z S K v) (hB : ¬ Own S K rb) (e x : Int) : EvoP (· = rb) z S K v S K (ansW v rb e x) :=
  h.other hB (fun b hb => ans_far v rb e x b hb) (ans_size v rb e x) rfl rfl

/-- A slot is written. -/
theorem fl_put {n : Nat} {l : List (Nat × Value)} {a : Act} {d : Nat} {x : Value} (h : Fl n l a) (hd : d < n) (hl : (l.all fun p => p.1 != d) = true) : Fl n (l ++ [(d, x)]) (a.put (some d) x) := by
  refine ⟨by show (a.tmps.setIfInBounds d x).size = n; rw [Array.size_setIfInBounds]; exact h.1, h.2.1, fun p hp => ?_⟩
  show (a.tmps.setIfInBounds d x).getD p.1 undef = p.2
  rw [Array.getD_eq_getD_getElem?, Array.getElem?_setIfInBounds]
  rcases List.mem_append.1 hp with hp | hp
  · have := (List.all_eq_true.1 hl) p hp
    have hne : ¬ d = p.1 := by intro e; rw [e] at this; simp at this
    rw [if_neg hne, ← Array.getD_eq_getD_getElem?]
    exact h.2.2 p hp
  · simp only [List.mem_cons, List.not_mem_nil, or_false] at hp
    subst hp
    rw [if_pos rfl, if_pos (by rw [h.1]; exact hd)]
    rfl
/-- Memory of one's own, joined. -/
def uni (M1 M2 : Nat → Option Obj) (b : Nat) : Option Obj := (M1 b).orElse fun _ => M2 b
theorem uni_ne {M1 M2 : Nat → Option Obj} {b : Nat} : uni M1 M2 b ≠ none ↔ M1 b ≠ none ∨ M2 b ≠ none := by
  unfold uni
  cases M1 b <;> simp
theorem uni_left {M1 M2 : Nat → Option Obj} {b : Nat} {o : Obj} (h : M1 b = some o) : uni M1 M2 b = some o := by unfold uni; rw [h]; rfl
theorem uni_right {M1 M2 : Nat → Option Obj} {b : Nat} {o : Obj} (h0 : M1 b = none) (h : M2 b = some o) : uni M1 M2 b = some o := by unfold uni; rw [h0]; exact h
def apartM (M1 M2 : Nat → Option Obj) : Prop := ∀ b, M1 b ≠ none → M2 b = none
theorem has_uni {M1 M2 : Nat → Option Obj} {v : World} (h : Has (uni M1 M2) v) (ha : apartM M1 M2) : Has M1 v ∧ Has M2 v := by
  refine ⟨fun b o hb => h b o (uni_left hb), fun b o hb => h b o ?_⟩
  cases h1 : M1 b with
  | none => exact uni_right h1 hb
  | some o' => rw [ha b (by rw [h1]; simp)] at hb; cases hb
theorem uni_has {M1 M2 : Nat → Option Obj} {v : World} (h1 : Has M1 v) (h2 : Has M2 v) : Has (uni M1 M2) v := fun b o hb => by
  unfold uni at hb
  cases h : M1 b with
  | some o' => rw [h] at hb; cases hb; exact h1 b _ h
  | none => rw [h] at hb; exact h2 b o hb
theorem uni_rows {M1 M2 : Nat → Option Obj} (h1 : ∀ b o, M1 b = some o → ∃ c e f, o = .cells c e f) (h2 : ∀ b o, M2 b = some o → ∃ c e f, o = .cells c e f) : ∀ b o, uni M1 M2 b = some o → ∃ c e f, o = .cells c e f := fun b o hb => by
  unfold uni at hb
  cases h : M1 b with
  | some o' => rw [h] at hb; cases hb; exact h1 b _ h
  | none => rw [h] at hb; exact h2 b o hb
/-- One block. -/
def oneM (b0 : Nat) (o : Obj) (b : Nat) : Option Obj := if b = b0 then some o else none
theorem oneM_at (b0 : Nat) (o : Obj) : oneM b0 o b0 = some o := if_pos rfl
theorem oneM_ne {b0 : Nat} {o : Obj} {b : Nat} (h : oneM b0 o b ≠ none) : b = b0 := by
  unfold oneM at h
  split at h
  · assumption
  · exact absurd rfl h
theorem oneM_none {b0 : Nat} {o : Obj} {b : Nat} (h : b ≠ b0) : oneM b0 o b = none := if_neg h
theorem oneM_eq {b0 : Nat} {o o' : Obj} {b : Nat} (h : oneM b0 o b = some o') : b = b0 ∧ o' = o := by
  have e := oneM_ne (b0 := b0) (o := o) (b := b) (by rw [h]; simp)
  subst e
  rw [oneM_at] at h
  exact ⟨rfl, (Option.some.inj h).symm⟩
theorem has_one {b0 : Nat} {o : Obj} {v : World} : Has (oneM b0 o) v ↔ v.heap[b0]? = some o := by
  refine ⟨fun h => h b0 o (oneM_at b0 o), fun h b o' hb => ?_⟩
  obtain ⟨rfl, rfl⟩ := oneM_eq hb
  exact h

/-- A function value that takes nothing is called. -/
theorem goesI_clo {main : Bool} {Stop : Goroutine → World → Prop} {k : List Item} {cs : List Frame} {w : World} {ops : Array Oper} {i : Nat} {rest : List Nat} {o : Oper} {D : World → World → Array Event → Prop} (hD : ∀ w, D w w #[]) {f : FuncId} {fn : Func} {c : Code} {p : Operand} {cap : Array Value} {b : Frame} {a : Act}
    (ho : ops[i]? = some o) (hw : Region.wanted o (yielded ops a.tmps) = true) (hk : b.kind ≠ .early) (hop : o.op = .call { callee := .value p, args := #[], argTypes := #[] }) (hp : a.eval p = .func (.func f) #[] cap)
    (hf : Tryd.prog.funcs[f]? = some fn) (hname : (fn.name == "runtime.NumGoroutine") = false) (hb : fn.body = some c)
    (h : GoesI Tryd.prog main D Stop (G ((base f).at { tmps := cap ++ Array.replicate (fn.ntmps - cap.size) undef, defers := [] } [.code c]) (b.at a (.inRegion ops (i :: rest) :: k) :: cs)) w) :
    GoesI Tryd.prog main D Stop (G (b.at a (.inRegion ops (i :: rest) :: k)) cs) w := by
  have e : execOp a.eval o = callFunc f cap := by
    unfold execOp
    simp [hop, resolve, Deferred.ofValue, invoke, hp]
  refine goesI_enter (f := f) (args := cap) (fn := fn) (c := c) ho hw hk (fun w => ?_) (fun w => ?_) hD hf hb h
  · rw [e]
    have h1 : fn.name ≠ "runtime.NumGoroutine" := by simpa using hname
    simp [callFunc, run_program, hf, h1, hb]
  · unfold listed
    rw [e, events_callFunc_body hf hname hb]
    simp [seen_def]

/-- A frame that waits for a call, and the frames below it. -/
structure Frs where
  bd : Frame
  ad : Act
  od : Array Oper
  qd : Nat
  rd : List Nat
  oe : Oper
  kd : List Item
  fs : List Frame
def Frs.stack (f : Frs) : List Frame := f.bd.at f.ad (.inRegion f.od (f.qd :: f.rd) :: f.kd) :: f.fs
def Frs.ret (f : Frs) (r : Value) : Goroutine := G (f.bd.at (f.ad.put f.oe.dst r) (.inRegion f.od f.rd :: f.kd)) f.fs
def Frs.Ok (f : Frs) : Prop := f.od[f.qd]? = some f.oe

/-- What was called has answered: through frames that lay it in memory of their own (Mo) it goes back, as f says. -/
def KBack (main : Bool) (Mo : Nat → Option Obj) (f : Int × Int → Int × Int) (c cu : Value → Goroutine) : Prop :=
  ∀ (z : Nat → Option Nat) (Ch : Nat → Prop) (Stop : Goroutine → World → Prop) (w v : World) (S : TS) (K : List (Nat × Int)) (a : Int × Int), Rel z v w → NoRow Ch v → Mem z S K v → Has Mo v → (∀ b, Mo b ≠ none → ¬ Own S K b) →
    (∀ v' w', Rel z v' w' → NoRow Ch v' → EvoP (fun b => Mo b ≠ none) z S K v S K v' → GoesI Tryd.prog main (DT (ScZ z) Ch) Stop (cu (.agg #[I (f a).1, I (f a).2])) w') →
    GoesI Tryd.prog main (DT (ScZ z) Ch) Stop (c (.agg #[I a.1, I a.2])) w
/-- Two behind one another. -/
theorem KBack.trans {main : Bool} {M1 M2 : Nat → Option Obj} {f1 f2 : Int × Int → Int × Int} {c1 c2 cu : Value → Goroutine} (h1 : KBack main M1 f1 c1 c2) (h2 : KBack main M2 f2 c2 cu) (ha : apartM M1 M2) : KBack main (uni M1 M2) (fun a => f2 (f1 a)) c1 cu := by
  intro z Ch Stop w v S K a hvw hn hm hM hf hk
  obtain ⟨k1, k2⟩ := has_uni hM ha
  refine h1 z Ch Stop w v S K a hvw hn hm k1 (fun b hb => hf b (uni_ne.2 (.inl hb))) (fun v' w' r' n' e' => ?_)
  have kp : ∀ b o, M2 b = some o → v'.heap[b]? = some o ∧ ¬ Own S K b := fun b o hb => by
    have hv := k2 b o hb
    have := e'.keeps (Array.getElem?_eq_some_iff.1 hv).1 (hf b (uni_ne.2 (.inr (by rw [hb]; simp)))) (fun hp => by
      have hp : M1 b ≠ none := hp
      rw [ha b hp] at hb; cases hb)
    exact ⟨by rw [this.1]; exact hv, this.2⟩
  refine h2 z Ch Stop w' v' S K (f1 a) r' n' e'.mem (fun b o hb => (kp b o hb).1) (fun b hb => ?_) (fun v2 w2 r2 n2 e2 => hk v2 w2 r2 n2 ?_)
  · obtain ⟨o, ho⟩ := Option.ne_none_iff_exists'.1 hb
    exact (kp b o ho).2
  · exact (e'.wider (Pr' := fun b => uni M1 M2 b ≠ none) (fun b _ hb => uni_ne.2 (.inl hb))).trans (e2.wider (Pr' := fun b => uni M1 M2 b ≠ none) (fun b _ hb => uni_ne.2 (.inr hb)))
/-- Memory that it does not need is no matter. -/
theorem KBack.more {main : Bool} {M1 M2 : Nat → Option Obj} {f : Int × Int → Int × Int} {c cu : Value → Goroutine} (h : KBack main M1 f c cu) (hs : ∀ b o, M1 b = some o → M2 b = some o) : KBack main M2 f c cu := by
  intro z Ch Stop w v S K a hvw hn hm hM hf hk
  refine h z Ch Stop w v S K a hvw hn hm (fun b o hb => hM b o (hs b o hb)) (fun b hb => ?_) (fun v' w' r' n' e' => hk v' w' r' n' (e'.wider (fun b _ hb => ?_)))
  · obtain ⟨o, ho⟩ := Option.ne_none_iff_exists'.1 hb
    exact hf b (by rw [hs b o ho]; simp)
  · obtain ⟨o, ho⟩ := Option.ne_none_iff_exists'.1 hb
    rw [hs b o ho]; simp
end Go.Proofs.YtaofjdoielmobaaDoor.Gen
