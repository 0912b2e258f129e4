/- CellAdds returns true, whatever the schedule, the start and the numbers, and leaves what it was given as it was: of the law's statement as given, with no condition of our own. Part 3 of 34. (Joined, by program, of: Lift4, Lift5.) -/
import Derived.Test.YtfjjoohflcchnaaCellAdds02
set_option linter.unusedSimpArgs false
set_option linter.unusedVariables false
namespace Go.Lift
open Go.Conc

/-- A goroutine is on its way to a stop; ahead of each step the others may have drawn. No number of steps is told. -/
def GoesI (P : Program) (main : Bool) (D : World → World → Array Event → Prop) (Stop : Goroutine → World → Prop) (g : Goroutine) (w : World) : Prop :=
  ∀ Q : Goroutine → World → Prop, (∀ g w, (∀ d, Stop g (w.at d)) → Q g w) →
    (∀ g w, g.status = .running → ∀ (g' : Nat → Goroutine) (w' : Nat → World) (es : Nat → Array Event), (∀ d, stepG P main g (w.at d) = .go (g' d) (w' d) (es d)) → (∀ d, D (w.at d) (w' d) (es d)) → (∀ d, Q (g' d) (w' d)) → Q g w) → Q g w

theorem GoesI.stop {P : Program} {main : Bool} {D : World → World → Array Event → Prop} {Stop : Goroutine → World → Prop} {g : Goroutine} {w : World} (h : ∀ d, Stop g (w.at d)) : GoesI P main D Stop g w := fun _ h1 _ => h1 g w h
theorem GoesI.step {P : Program} {main : Bool} {D : World → World → Array Event → Prop} {Stop : Goroutine → World → Prop} {g : Goroutine} {w : World} (hs : g.status = .running) (g' : Nat → Goroutine) (w' : Nat → World) (es : Nat → Array Event) (h : ∀ d, stepG P main g (w.at d) = .go (g' d) (w' d) (es d))
    (hD : ∀ d, D (w.at d) (w' d) (es d)) (hn : ∀ d, GoesI P main D Stop (g' d) (w' d)) : GoesI P main D Stop g w := fun Q h1 h2 => h2 g w hs g' w' es h hD fun d => hn d Q h1 h2
/-- The induction along the walk. -/
theorem GoesI.induct {P : Program} {main : Bool} {D : World → World → Array Event → Prop} {Stop : Goroutine → World → Prop} {M : Goroutine → World → Prop} {g : Goroutine} {w : World} (hg : GoesI P main D Stop g w)
    (stop : ∀ g w, (∀ d, Stop g (w.at d)) → M g w)
    (step : ∀ g w, g.status = .running → ∀ (g' : Nat → Goroutine) (w' : Nat → World) (es : Nat → Array Event), (∀ d, stepG P main g (w.at d) = .go (g' d) (w' d) (es d)) → (∀ d, D (w.at d) (w' d) (es d)) → (∀ d, GoesI P main D Stop (g' d) (w' d)) → (∀ d, M (g' d) (w' d)) → M g w) : M g w :=
  (hg (fun g w => GoesI P main D Stop g w ∧ M g w) (fun g w h => ⟨.stop h, stop g w h⟩) (fun g w hs g' w' es h hD hn => ⟨.step hs g' w' es h hD fun d => (hn d).1, step g w hs g' w' es h hD (fun d => (hn d).1) fun d => (hn d).2⟩)).2

def onTape (w : World) (τ : Nat → Question → Nat) (d : Nat) : World := { w with tape := τ, drawn := d }

theorem lone_inj {fr fr' : Frame} {cs cs' : List Frame} {w w' : World} (h : lone fr cs w = lone fr' cs' w') : fr = fr' ∧ cs = cs' ∧ w = w' := by
  simp only [lone, Machine.mk.injEq, Array.mk.injEq, List.cons.injEq, Goroutine.mk.injEq, and_true] at h
  exact ⟨h.2.1, h.2.2, h.1⟩

/-- Alone, it has come to its end: it is behind the code, or returns. -/
def Arr (b : Frame) (Q : Exit → Act → World → Prop) (m : Machine) : Prop :=
  (∃ a v, m = lone (b.at a tail) [last] v ∧ Q .normal a v) ∨ ∃ (fr : Frame) (v : World), m = lone fr [last] v ∧ fr.mode = .returning ∧ Q .ret ⟨fr.tmps, fr.defers⟩ v

def exitOf (s : St) : Exit := if s.base.ret then .ret else .normal

section
variable {P : Program} {wr : Bool} {L : FuncId → Prop} {b : Frame} {Q : Exit → Act → World → Prop}

theorem emb_ne {u : F} {us : List F} {bs : F} {fr : Frame} {v w : World} (h : aloneM (St.emb ⟨u :: us, bs⟩ tail [last]) v = lone fr [last] w) : False := by
  have := (lone_inj h).2.1
  have hl := congrArg List.length this
  simp [St.emb, G] at hl

theorem arr_done {s : St} {v : World} (hf : fineSt P wr L b s) (h : Arr b Q (aloneM (s.emb tail [last]) v)) : Done s ∧ Q (exitOf s) s.base.a v := by
  obtain ⟨ups, bs⟩ := s
  cases ups with
  | cons u us =>
    rcases h with ⟨a, v', e, _⟩ | ⟨fr, v', e, _⟩
    · exact (emb_ne e).elim
    · exact (emb_ne e).elim
  | nil =>
    obtain ⟨bb, ba, bt, br⟩ := bs
    rcases h with ⟨a, v', e, hq⟩ | ⟨fr, v', e, hm, hq⟩
    · obtain ⟨e1, _, rfl⟩ := lone_inj e
      cases br with
      | true =>
        have := congrArg Frame.mode e1
        cases this
      | false =>
        have h1 : bt ++ tail = tail := congrArg Frame.todo e1
        have h2 : ba.tmps = a.tmps := congrArg Frame.tmps e1
        have h3 : ba.defers = a.defers := congrArg Frame.defers e1
        have h4 : bt = [] := by
          have := congrArg List.length h1
          simp at this
          exact this
        have h5 : ba = a := by cases ba; cases a; simp only at h2 h3; subst h2 h3; rfl
        subst h4 h5
        exact ⟨⟨rfl, .inr rfl⟩, hq⟩
    · obtain ⟨e1, _, rfl⟩ := lone_inj e
      cases br with
      | false =>
        have := congrArg Frame.mode e1
        rw [hm] at this
        cases this
      | true =>
        have h2 : ba.tmps = fr.tmps := congrArg Frame.tmps e1
        have h3 : ba.defers = fr.defers := congrArg Frame.defers e1
        have h5 : ba = ⟨fr.tmps, fr.defers⟩ := by cases ba; simp only at h2 h3; subst h2 h3; rfl
        subst h5
        exact ⟨⟨rfl, .inl rfl⟩, hq⟩

theorem last_ended (P : Program) (w : World) : ∃ o, step P (lone last [] w) = .ended o w := ⟨_, alone_ended (es := #[]) (by simp [G, stepG, stepG.exec, last]; rfl)⟩

theorem ret_step {a : Act} {todo : List Item} {v : World} (hd : a.defers = []) : (∃ o w, step P (lone { b.at a todo with mode := .returning } [last] v) = .ended o w) ∨ ∃ w, step P (lone { b.at a todo with mode := .returning } [last] v) = .next (lone last [] w) := by
  have back : ∀ (x : Value) (w : World), ∃ es, doReturn P true { b.at a todo with mode := .returning } [last] none x w = .go (G last []) w es := fun x w => by
    refine ⟨#[], ?_⟩
    cases hk : b.kind <;> simp [doReturn, Frame.at, hk, G, last, Frame.finish]
  cases hf : P.funcs[b.fn]? with
  | none =>
    obtain ⟨es, e⟩ := back (a.tmps.getD 0 undef) v
    refine .inr ⟨v, alone_go (es := es) ?_⟩
    rw [← e]
    simp [G, stepG, unwind, Frame.at, hd, hf]
  | some fn =>
    cases hr : (results fn a.tmps).run P v with
    | ok x w =>
      obtain ⟨es, e⟩ := back x w
      refine .inr ⟨w, alone_go (es := seen P b.fn ((results fn a.tmps).events P v #[]) ++ es) ?_⟩
      have : stepG P true (G { b.at a todo with mode := .returning } [last]) v = GStep.after (seen P b.fn ((results fn a.tmps).events P v #[])) (doReturn P true { b.at a todo with mode := .returning } [last] none x w) := by
        simp [G, stepG, unwind, Frame.at, hd, hf, hr]
      rw [this, e]
      rfl
    | halt h w =>
      have : ∃ o w' es, stepG P true (G { b.at a todo with mode := .returning } [last]) v = .ended o w' es := by
        cases h <;> simp [G, stepG, unwind, Frame.at, hd, hf, hr, GStep.after]
      obtain ⟨o, w', es, e⟩ := this
      exact .inl ⟨o, w', alone_ended e⟩

theorem not_arr_last {w : World} : ¬ Arr b Q (lone last [] w) := by
  rintro (⟨a, v', e, _⟩ | ⟨fr, v', e, _⟩) <;> have := (lone_inj e).2.1 <;> cases this

theorem done_run {s : St} {v : World} {n : Nat} {m : Machine} (hf : fineSt P wr L b s) (hd : Done s) (hr : runN P n (aloneM (s.emb tail [last]) v) = .next m) (ha : Arr b Q m) : Arr b Q (aloneM (s.emb tail [last]) v) := by
  cases n with
  | zero => simp only [runN, Stepped.next.injEq] at hr; rw [hr]; exact ha
  | succ n =>
    exfalso
    obtain ⟨ups, bs⟩ := s
    obtain ⟨h1, h2⟩ := hd
    simp only at h1
    subst h1
    obtain ⟨bb, ba, bt, br⟩ := bs
    have hdf : ba.defers = [] := hf.base.defers
    simp only [runN] at hr
    cases br with
    | true =>
      rcases ret_step (P := P) (b := bb) (a := ba) (todo := bt ++ tail) (v := v) hdf with ⟨o, w, e⟩ | ⟨w, e⟩
      · have e' : step P (aloneM (St.emb ⟨[], ⟨bb, ba, bt, true⟩⟩ tail [last]) v) = .ended o w := e
        rw [e'] at hr; cases hr
      · have e' : step P (aloneM (St.emb ⟨[], ⟨bb, ba, bt, true⟩⟩ tail [last]) v) = .next (lone last [] w) := e
        rw [e'] at hr
        simp only at hr
        cases n with
        | zero => simp only [runN, Stepped.next.injEq] at hr; subst hr; exact not_arr_last ha
        | succ n =>
          simp only [runN] at hr
          obtain ⟨o, e2⟩ := last_ended P w
          rw [e2] at hr; cases hr
    | false =>
      simp only [Bool.false_eq_true, false_or] at h2
      subst h2
      have e' : ∃ o, step P (aloneM (St.emb ⟨[], ⟨bb, ba, [], false⟩⟩ tail [last]) v) = .ended o v := ⟨_, alone_ended (es := #[]) (by simp [G, stepG, stepG.exec, tail]; rfl)⟩
      obtain ⟨o, e'⟩ := e'
      rw [e'] at hr; cases hr

theorem lost_run {g : Goroutine} {v : World} {n : Nat} {m : Machine} (hl : Lost P g v) (hr : runN P (n + 1) (aloneM g v) = .next m) (ha : Arr b Q m) : False := by
  simp only [runN] at hr
  rcases hl with ⟨o, w, e⟩ | ⟨us, fr, chain, w, e, hd, hu⟩
  · rw [e] at hr; cases hr
  · rw [e] at hr
    obtain ⟨fr', cs', w', chain', rfl, hm⟩ := dead_run us fr chain w n m hd hu hr
    rcases ha with ⟨a, v', e', _⟩ | ⟨fr'', v', e', hm', _⟩
    · rw [(lone_inj e').1] at hm; cases hm
    · rw [(lone_inj e').1, hm'] at hm; cases hm

theorem rel_at {z : Nat → Option Nat} {v w : World} (h : Rel z v w) (τ : Nat → Question → Nat) (d d' : Nat) : Rel z (onTape v τ d) (w.at d') := h.re rfl rfl rfl rfl rfl rfl
theorem rel_self (v : World) (τ τ' : Nat → Question → Nat) (d d' : Nat) : Rel zn (onTape v τ d) (onTape v τ' d') := rel_none rfl rfl rfl
end

section
variable {P : Program} {z : Nat → Option Nat} {wr : Bool} {L : FuncId → Prop} {b : Frame} {Q : Exit → Act → World → Prop} {D : World → World → Array Event → Prop} {I : World → Prop} {main : Bool} {k : List Item} {cs : List Frame}

/-- Alone it comes to its end, on every tape that begins so. -/
def Phi (P : Program) (b : Frame) (Q : Exit → Act → World → Prop) (s : St) (v : World) (c : Nat) (π : Nat → Question → Nat) : Prop :=
  ∀ τ, (∀ j, j < c → τ j = π j) → ∃ n m, runN P n (aloneM (s.emb tail [last]) (onTape v τ c)) = .next m ∧ Arr b Q m

/-- In company, it has come to its end. -/
def Came (z : Nat → Option Nat) (b : Frame) (Q : Exit → Act → World → Prop) (I : World → Prop) (k : List Item) (cs : List Frame) (g : Goroutine) (w : World) : Prop :=
  ∃ s v, g = St.emb s k cs ∧ Done s ∧ s.base.b = b ∧ s.base.a.defers = [] ∧ Rel z v w ∧ I v ∧ Q (exitOf s) s.base.a v

structure Pt where
  s : St
  v : World
  w : World
  c : Nat
  π : Nat → Question → Nat

structure Good (P : Program) (z : Nat → Option Nat) (wr : Bool) (L : FuncId → Prop) (b : Frame) (Q : Exit → Act → World → Prop) (D : World → World → Array Event → Prop) (I : World → Prop) (main : Bool) (k : List Item) (cs : List Frame) (x : Pt) : Prop where
  fine : fineSt P wr L b x.s
  rel : Rel z x.v x.w
  inv : I x.v
  phi : Phi P b Q x.s x.v x.c x.π
  not : ¬ GoesI P main D (Came z b Q I k cs) (x.s.emb k cs) x.w

structure Link (P : Program) (x y : Pt) : Prop where
  le : x.c ≤ y.c
  pre : ∀ j, j < x.c → y.π j = x.π j
  step : ∀ τ, (∀ j, j < y.c → τ j = y.π j) → step P (aloneM (x.s.emb tail [last]) (onTape x.v τ x.c)) = .next (aloneM (y.s.emb tail [last]) (onTape y.v τ y.c))

theorem emb_G (s : St) (k : List Item) (cs : List Frame) : s.emb k cs = G (s.emb k cs).frame (s.emb k cs).callers := by
  obtain ⟨ups, bs⟩ := s
  cases ups <;> rfl

theorem inv_on (hI : ∀ v v', Keeps wr v v' → I v → I v') {v : World} (h : I v) (τ : Nat → Question → Nat) (d : Nat) : I (onTape v τ d) := hI v _ (Keeps.of_rel ⟨rfl, rfl, rfl⟩) h

theorem good_not_done (hI : ∀ v v', Keeps wr v v' → I v → I v') {x : Pt} (h : Good P z wr L b Q D I main k cs x) : ¬ Done x.s := fun hd => by
  refine h.not (.stop fun d => ?_)
  obtain ⟨n, m, hr, ha⟩ := h.phi x.π (fun _ _ => rfl)
  obtain ⟨_, hq⟩ := arr_done h.fine (done_run h.fine hd hr ha)
  exact ⟨x.s, onTape x.v x.π x.c, rfl, hd, h.fine.eb, h.fine.base.defers, rel_at h.rel _ _ _, inv_on hI h.inv _ _, hq⟩

theorem good_next (hE : ∀ fr cs dy g w, ∃ o w', early P fr cs dy g w = .ended o w') (hL : ∀ g, L g → fineFn P wr L g) (hI : ∀ v v', Keeps wr v v' → I v → I v')
    (hD : ∀ v v' w w' es, I v → Rel z v w → Out z wr v v' w w' → (∀ e ∈ es, Okay wr e ∧ Spares z w' e) → D w w' es) {x : Pt} (h : Good P z wr L b Q D I main k cs x) : ∃ y, Good P z wr L b Q D I main k cs y ∧ Link P x y := by
  have hnd := good_not_done hI h
  -- ahead of the step the others have drawn up to d
  have one : ∀ d, ∃ q : St × World × World × Array Event, fineSt P wr L b q.1 ∧ StepS P wr x.s q.1 (onTape x.v (fun j => if j < x.c then x.π j else x.w.tape (d + (j - x.c))) x.c) q.2.1 q.2.2.2 ∧
      Out z wr (onTape x.v (fun j => if j < x.c then x.π j else x.w.tape (d + (j - x.c))) x.c) q.2.1 (x.w.at d) q.2.2.1 ∧ (∀ e ∈ q.2.2.2, Spares z q.2.2.1 e) ∧ stepG P main (x.s.emb k cs) (x.w.at d) = .go (q.1.emb k cs) q.2.2.1 q.2.2.2 := fun d => by
    rcases stack_step (v := onTape x.v (fun j => if j < x.c then x.π j else x.w.tape (d + (j - x.c))) x.c) h.fine hnd hE hL with ⟨s', v', es, hf', hs⟩ | hl
    · obtain ⟨w', ho, hsp, hg⟩ := hs.like z (x.w.at d) (rel_at h.rel _ _ _) (fun i _ => by
        show (if x.c + i < x.c then x.π (x.c + i) else x.w.tape (d + (x.c + i - x.c))) = x.w.tape (d + i)
        rw [if_neg (by omega), show x.c + i - x.c = i by omega])
      exact ⟨(s', v', w', es), hf', hs, ho, hsp, hg k cs main⟩
    · exfalso
      obtain ⟨n, m, hr, ha⟩ := h.phi (fun j => if j < x.c then x.π j else x.w.tape (d + (j - x.c))) (fun j hj => by simp only [hj, if_true])
      cases n with
      | zero => simp only [runN, Stepped.next.injEq] at hr; subst hr; exact hnd (arr_done h.fine ha).1
      | succ n => exact lost_run hl hr ha
  obtain ⟨f, hf⟩ := Classical.axiomOfChoice one
  by_cases hall : ∀ d, GoesI P main D (Came z b Q I k cs) ((f d).1.emb k cs) (f d).2.2.1
  · exfalso
    refine h.not (.step ?_ (fun d => (f d).1.emb k cs) (fun d => (f d).2.2.1) (fun d => (f d).2.2.2) (fun d => (hf d).2.2.2.2) (fun d => ?_) hall)
    · obtain ⟨⟨ups, bs⟩, _⟩ := x; cases ups <;> rfl
    · have ho := (hf d).2.2.1
      exact hD (onTape x.v (fun j => if j < x.c then x.π j else x.w.tape (d + (j - x.c))) x.c) _ _ _ _ (inv_on hI h.inv _ _) (rel_at h.rel _ _ _) ho (fun e he => ⟨(hf d).2.1.okay e he, (hf d).2.2.2.1 e he⟩)
  · have ⟨d, hd⟩ : ∃ d, ¬ GoesI P main D (Came z b Q I k cs) ((f d).1.emb k cs) (f d).2.2.1 := Classical.not_forall.1 hall
    obtain ⟨hfine, hs, ho, _, hg⟩ := hf d
    have hle : x.c ≤ (f d).2.1.drawn := hs.le
    have link : ∀ τ, (∀ j, j < (f d).2.1.drawn → τ j = if j < x.c then x.π j else x.w.tape (d + (j - x.c))) → step P (aloneM (x.s.emb tail [last]) (onTape x.v τ x.c)) = .next (aloneM ((f d).1.emb tail [last]) (onTape (f d).2.1 τ (f d).2.1.drawn)) := fun τ hτ => by
      obtain ⟨w'', h1, _, h2⟩ := hs.like zn (onTape x.v τ x.c) (rel_self _ _ _ _ _) (fun i hi => (hτ _ hi).symm)
      have e : w'' = onTape (f d).2.1 τ (f d).2.1.drawn := by
        have a1 := h1.rel.eq
        have a2 : w''.tape = τ := h1.tape'
        have a3 : w''.drawn = x.c + ((f d).2.1.drawn - x.c) := h1.drawn
        have a4 := h1.rel.os
        have a5 := h1.rel.output
        obtain ⟨wh, wt, wd, wo, wp⟩ := w''
        simp only at a1 a2 a3 a4 a5
        subst a1 a2 a4 a5
        simp only [onTape, World.mk.injEq, true_and, and_true]
        exact a3.trans (by omega)
      rw [e] at h2
      have h3 := h2 tail [last] true
      rw [emb_G x.s, emb_G (f d).1] at h3
      exact alone_go h3
    refine ⟨⟨(f d).1, (f d).2.1, (f d).2.2.1, (f d).2.1.drawn, fun j => if j < x.c then x.π j else x.w.tape (d + (j - x.c))⟩, ⟨hfine, ho.rel, hI _ _ ho.keeps (inv_on hI h.inv _ _), fun τ hτ => ?_, hd⟩, hle, fun j hj => by simp only [hj, if_true], link⟩
    obtain ⟨n, m, hr, ha⟩ := h.phi τ (fun j hj => by rw [hτ j (Nat.lt_of_lt_of_le hj hle)]; simp only [hj, if_true])
    cases n with
    | zero => simp only [runN, Stepped.next.injEq] at hr; subst hr; exact absurd (arr_done h.fine ha).1 hnd
    | succ n =>
      simp only [runN, link τ hτ] at hr
      exact ⟨n, m, hr, ha⟩

theorem lift_goes (hE : ∀ fr cs dy g w, ∃ o w', early P fr cs dy g w = .ended o w') (hL : ∀ g, L g → fineFn P wr L g) (hI : ∀ v v', Keeps wr v v' → I v → I v')
    (hD : ∀ v v' w w' es, I v → Rel z v w → Out z wr v v' w w' → (∀ e ∈ es, Okay wr e ∧ Spares z w' e) → D w w' es)
    {s : St} {v w : World} (hf : fineSt P wr L b s) (hr : Rel z v w) (hi : I v) (hphi : ∀ τ, ∃ n m, runN P n (aloneM (s.emb tail [last]) (onTape v τ 0)) = .next m ∧ Arr b Q m) :
    GoesI P main D (Came z b Q I k cs) (s.emb k cs) w := by
  refine Classical.byContradiction fun hnot => ?_
  let x0 : Pt := ⟨s, v, w, 0, fun _ _ => 0⟩
  have g0 : Good P z wr L b Q D I main k cs x0 := ⟨hf, hr, hi, fun τ _ => hphi τ, hnot⟩
  let nx : {x : Pt // Good P z wr L b Q D I main k cs x} → {x : Pt // Good P z wr L b Q D I main k cs x} := fun x => ⟨Classical.choose (good_next hE hL hI hD x.2), (Classical.choose_spec (good_next hE hL hI hD x.2)).1⟩
  let sq : Nat → {x : Pt // Good P z wr L b Q D I main k cs x} := fun n => Nat.rec ⟨x0, g0⟩ (fun _ x => nx x) n
  have hlink : ∀ n, Link P (sq n).1 (sq (n + 1)).1 := fun n => (Classical.choose_spec (good_next hE hL hI hD (sq n).2)).2
  have mono : ∀ n m, (sq n).1.c ≤ (sq (n + m)).1.c := fun n m => by
    induction m with
    | zero => exact Nat.le_refl _
    | succ m ih => exact Nat.le_trans ih (hlink (n + m)).le
  have agree : ∀ n m j, j < (sq n).1.c → (sq (n + m)).1.π j = (sq n).1.π j := fun n m j hj => by
    induction m with
    | zero => rfl
    | succ m ih => exact ((hlink (n + m)).pre j (Nat.lt_of_lt_of_le hj (mono n m))).trans ih
  have agree2 : ∀ n m j, j < (sq n).1.c → j < (sq m).1.c → (sq m).1.π j = (sq n).1.π j := fun n m j h1 h2 => by
    rcases Nat.le_total n m with hle | hle
    · obtain ⟨t, rfl⟩ := Nat.exists_eq_add_of_le hle; exact agree n t j h1
    · obtain ⟨t, rfl⟩ := Nat.exists_eq_add_of_le hle; exact (agree m t j h2).symm
  -- the tape that all begin
  let τ : Nat → Question → Nat := fun j => open Classical in if h : ∃ n, j < (sq n).1.c then (sq (Classical.choose h)).1.π j else fun _ => 0
  have hτ : ∀ n j, j < (sq n).1.c → τ j = (sq n).1.π j := fun n j hj => by
    have hex : ∃ n, j < (sq n).1.c := ⟨n, hj⟩
    have e : τ j = (sq (Classical.choose hex)).1.π j := dif_pos hex
    rw [e]
    exact agree2 n _ j hj (Classical.choose_spec hex)
  have hrun : ∀ n, runN P n (aloneM (s.emb tail [last]) (onTape v τ 0)) = .next (aloneM ((sq n).1.s.emb tail [last]) (onTape (sq n).1.v τ (sq n).1.c)) := fun n => by
    induction n with
    | zero => rfl
    | succ n ih =>
      rw [runN_add P n 1, ih]
      simp only [runN, (hlink n).step τ (hτ (n + 1))]
  obtain ⟨n, m, hr', ha⟩ := hphi τ
  rw [hrun n] at hr'
  cases hr'
  exact good_not_done hI (sq n).2 (arr_done (sq n).2.fine ha).1
end

end Go.Lift

namespace Go.Lift
open Go.Conc

section
variable {P : Program} {wr : Bool} {α β : Type}

theorem dead_sbind : ∀ {s : Sem α} {f : α → Sem β}, dead P s → dead P (s.bind f) := by
  intro s
  induction s with
  | pure a => intro f h; exact h.elim
  | load m a k ih => intro f h v; exact ih v (h v)
  | store m a v k ih => intro f h; exact ih h
  | new o k ih => intro f h r; exact ih r (h r)
  | shape r k ih => intro f h s; exact ih s (h s)
  | freeze a n k ih => intro f h; exact ih h
  | frozen a k ih => intro f h b; exact ih b (h b)
  | getObj r k ih => intro f h o; exact ih o (h o)
  | setObj r o k ih => intro f h; exact ih h
  | choose q k ih => intro f h n; exact ih n (h n)
  | sys c k ih => intro f h; exact h.elim
  | program k ih => intro f h; exact ih P h
  | mark m k ih => intro f h; exact ih h
  | halt x => intro f h; trivial
theorem calm_sbind : ∀ {s : Sem α} {f : α → Sem β}, calm P wr s → (∀ a, calm P wr (f a)) → calm P wr (s.bind f) := by
  intro s
  induction s with
  | pure a => intro f _ hf; exact hf a
  | load m a k ih => intro f h hf v; exact ih v (h v) hf
  | store m a v k ih => intro f h hf; exact ⟨h.1, ih h.2 hf⟩
  | new o k ih => intro f h hf r; exact ih r (h r) hf
  | shape r k ih => intro f h hf s; exact ih s (h s) hf
  | freeze a n k ih => intro f h hf; exact h.elim
  | frozen a k ih => intro f h hf; exact ⟨fun b => ih b (h.1 b) hf, dead_sbind h.2⟩
  | getObj r k ih => intro f h hf o; exact ih o (h o) hf
  | setObj r o k ih => intro f h hf; exact h.elim
  | choose q k ih => intro f h hf n; exact ih n (h n) hf
  | sys c k ih => intro f h hf; exact h.elim
  | program k ih => intro f h hf; exact ih P h hf
  | mark m k ih => intro f h hf; exact ⟨h.1, ih h.2 hf⟩
  | halt x => intro f h hf; exact h
theorem calm_bind {s : Sem α} {f : α → Sem β} (h : calm P wr s) (hf : ∀ a, calm P wr (f a)) : calm P wr (s >>= f) := calm_sbind h hf
theorem calm_map {s : Sem α} {f : α → β} (h : calm P wr s) : calm P wr (Functor.map f s) := calm_sbind h fun _ => trivial
theorem calm_pure (a : α) : calm P wr (pure a : Sem α) := trivial
theorem calm_stuck (s : String) : calm P wr (stuck s : Sem α) := .inr (.inl ⟨_, rfl⟩)
theorem calm_unsupported (u : Unsupported) : calm P wr (unsupported u : Sem α) := .inr (.inr ⟨_, rfl⟩)
theorem calm_goPanic (x : Value) : calm P wr (goPanic x : Sem α) := .inl ⟨_, rfl⟩
theorem calm_program : calm P wr (program) := trivial
theorem calm_shape (r : Nat) : calm P wr (shape r) := fun _ => trivial
theorem calm_getObj (r : Nat) : calm P wr (getObj r) := fun _ => trivial
theorem calm_newObj (o : Obj) : calm P wr (newObj o) := fun _ => trivial
theorem calm_choose (q : Question) : calm P wr (choose q) := fun _ => trivial
theorem calm_load (a : Addr) (m : Mode) : calm P wr (load a m) := fun _ => trivial
theorem calm_store (h : wr = true) (a : Addr) (v : Value) (m : Mode) : calm P wr (store a v m) := ⟨h, trivial⟩
theorem calm_askRoom (n : Nat) : calm P wr (askRoom n) := by unfold askRoom; split; exact ⟨.inl rfl, trivial⟩; trivial
theorem calm_markExtern (f : FuncId) : calm P wr (mark (.extern f)) := ⟨.inr ⟨f, rfl⟩, trivial⟩
theorem calm_markRoom : calm P wr (mark .noRoom) := ⟨.inl rfl, trivial⟩

theorem calm_typeInfo (t : TypeId) : calm P wr (typeInfo t) := by
  unfold typeInfo
  exact calm_bind calm_program fun p => by split; trivial; exact calm_stuck _
theorem calm_underlying (t : TypeId) : calm P wr (underlying t) := by
  unfold underlying
  exact calm_bind calm_program fun p => by split; trivial; exact calm_stuck _
theorem calm_zeroValue (t : TypeId) : calm P wr (zeroValue t) := by
  unfold zeroValue
  exact calm_bind (calm_typeInfo t) fun p => by split; trivial; exact calm_unsupported _
theorem calm_sizeOf (t : TypeId) : calm P wr (sizeOf t) := calm_bind (calm_typeInfo t) fun _ => trivial
theorem calm_isAgg (t : TypeId) : calm P wr (isAgg t) := by
  unfold isAgg
  exact calm_bind (calm_underlying t) fun p => by split <;> trivial
theorem calm_elemOf (t : TypeId) : calm P wr (elemOf t) := by
  unfold elemOf
  exact calm_bind (calm_underlying t) fun p => by split; trivial; exact calm_stuck _
theorem calm_newRow (e : TypeId) (c : Array Value) : calm P wr (newRow e c) := calm_bind (calm_newObj _) fun _ => trivial
theorem calm_newVar (t : TypeId) (v : Value) : calm P wr (newVar t v) := calm_newRow _ _
theorem calm_runtimePanic (e : RuntimeError) : calm P wr (runtimePanic e : Sem α) := by
  unfold runtimePanic
  refine calm_bind calm_program fun p => ?_
  simp only
  split <;> first | exact calm_goPanic _ | exact calm_bind (calm_bind (calm_elemOf _) fun _ => calm_newVar _ _) fun _ => calm_goPanic _ | exact calm_bind (calm_elemOf _) fun _ => calm_bind (calm_newVar _ _) fun _ => calm_goPanic _
theorem calm_boundsPanic (k : IntKind) (x y : Int) (c : BoundsCode) : calm P wr (boundsPanic k x y c : Sem α) := by
  unfold boundsPanic
  dsimp only
  split
  · exact calm_bind (calm_map (calm_choose _)) fun _ => calm_runtimePanic _
  · exact calm_bind (calm_pure _) fun _ => calm_runtimePanic _
theorem calm_asIntOf (v : Value) : calm P wr (asIntOf v) := by
  unfold asIntOf
  split <;> first | trivial | exact calm_unsupported _ | exact calm_stuck _
theorem calm_asInt (v : Value) : calm P wr (asInt v) := calm_bind (calm_asIntOf v) fun _ => trivial
theorem calm_asBool (v : Value) : calm P wr (asBool v) := by unfold asBool; split; trivial; exact calm_stuck _
theorem calm_asAgg (v : Value) : calm P wr (asAgg v) := by unfold asAgg; split; trivial; exact calm_stuck _
theorem calm_asAddr (v : Value) : calm P wr (asAddr v) := by
  unfold asAddr
  split <;> first | trivial | exact calm_runtimePanic _ | exact calm_stuck _
theorem calm_sureAddr (v : Value) : calm P wr (Instr.sureAddr v) := by unfold Instr.sureAddr; split; trivial; exact calm_stuck _
theorem calm_loadCellsFrom (a : Addr) : ∀ (n i : Nat) (acc : Array Value), calm P wr (loadCellsFrom a i n acc)
  | 0, _, _ => trivial
  | n + 1, i, acc => by unfold loadCellsFrom; exact calm_bind (calm_load _ _) fun v => calm_loadCellsFrom a n (i + 1) _
theorem calm_loadCells (a : Addr) (n : Nat) : calm P wr (loadCells a n) := calm_loadCellsFrom a n 0 _
theorem calm_storeCells (h : wr = true) (a : Addr) : ∀ (vs : List Value) (i : Nat), calm P wr (storeCells a vs i)
  | [], _ => trivial
  | v :: r, i => by unfold storeCells; exact calm_bind (calm_store h _ _ _) fun _ => calm_storeCells h a r (i + 1)
theorem calm_loadVar (t : TypeId) (a : Addr) : calm P wr (loadVar t a) := by
  unfold loadVar
  refine calm_bind (calm_isAgg t) fun b => ?_
  split
  · exact calm_bind (calm_sizeOf _) fun _ => calm_bind (calm_loadCells _ _) fun _ => trivial
  · exact calm_load _ _
theorem calm_storeVar (h : wr = true) (t : TypeId) (a : Addr) (v : Value) : calm P wr (storeVar t a v) := by
  unfold storeVar
  refine calm_bind (calm_sizeOf t) fun n => ?_
  dsimp only
  split
  · exact calm_bind (calm_stuck _) fun _ => calm_storeCells h _ _ _
  · exact calm_storeCells h _ _ _
theorem calm_part (t : TypeId) (cs : Array Value) (o : Nat) : calm P wr (part t cs o) := by
  unfold part
  refine calm_bind (calm_isAgg t) fun b => ?_
  split
  · exact calm_bind (calm_sizeOf _) fun _ => trivial
  · split; trivial; exact calm_stuck _

theorem calm_mapLoop {f : α → Sem β} (h : ∀ a, calm P wr (f a)) : ∀ (l : List α) (acc : List β), calm P wr (List.mapM.loop f l acc)
  | [], _ => trivial
  | a :: l, _ => calm_bind (h a) fun _ => calm_mapLoop h l _
theorem calm_listMapM {f : α → Sem β} (h : ∀ a, calm P wr (f a)) (l : List α) : calm P wr (l.mapM f) := calm_mapLoop h l []
theorem calm_listForIn {σ : Type} {f : α → σ → Sem (ForInStep σ)} (h : ∀ a s, calm P wr (f a s)) : ∀ (l : List α) (s : σ), calm P wr (forIn l s f)
  | [], _ => trivial
  | a :: l, s => by
    rw [List.forIn_cons]
    exact calm_bind (h a s) fun r => by cases r with
      | done b => trivial
      | yield b => exact calm_listForIn h l b
theorem calm_arrayForIn {σ : Type} {f : α → σ → Sem (ForInStep σ)} (h : ∀ a s, calm P wr (f a s)) (l : Array α) (s : σ) : calm P wr (forIn l s f) := by
  rw [← Array.forIn_toList]
  exact calm_listForIn h _ _
theorem calm_arrayMapM {f : α → Sem β} (h : ∀ a, calm P wr (f a)) (l : Array α) : calm P wr (l.mapM f) := by
  rw [Array.mapM_eq_mapM_toList]
  exact calm_map (calm_listMapM h _)
end
end Go.Lift
