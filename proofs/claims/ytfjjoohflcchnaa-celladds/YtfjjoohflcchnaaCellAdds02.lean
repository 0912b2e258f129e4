/- CellAdds returns true, whatever the schedule, the start and the numbers, and leaves what it was given as it was: of the law's statement as given, with no condition of our own. Part 2 of 34. (Joined, by program, of: Lift2, Lift3.) -/
import Derived.Test.YtfjjoohflcchnaaCellAdds01
import Derived.Conc.Own3
import Derived.Conc.CompanyDraw
set_option linter.unusedSimpArgs false
set_option linter.unusedVariables false
namespace Go.Lift
open Go.Conc

theorem farLoad_soft {P : Program} {v : World} {a : Addr} {b : Bool} {h : Halt} (e : v.farLoad P a b = .error h) : Soft h := by
  unfold World.farLoad World.noCell at e
  repeat' split at e
  all_goals first | (cases e; exact .inr (.inr ⟨_, rfl⟩)) | (cases e; exact .inr (.inl ⟨_, rfl⟩)) | cases e
theorem farStore_soft {P : Program} {v : World} {a : Addr} {x : Value} {b : Bool} {h : Halt} (e : v.farStore P a x b = .error h) : Soft h := by
  unfold World.farStore World.noCell at e
  repeat' split at e
  all_goals first | (cases e; exact .inr (.inr ⟨_, rfl⟩)) | (cases e; exact .inr (.inl ⟨_, rfl⟩)) | cases e

theorem calm_halt {P : Program} {wr : Bool} {α : Type} : ∀ (s : Sem α), calm P wr s → ∀ (v : World) (h : Halt) (v' : World), s.run P v = .halt h v' → Soft h := by
  intro s
  induction s with
  | pure a => intro _ v h v' e; cases e
  | load m a k ih =>
    intro hn v h v' e
    simp only [Sem.run] at e
    cases hc : v.cell? a with
    | some y => rw [hc] at e; exact ih y (hn y) v h v' e
    | none =>
      rw [hc] at e
      cases hf : v.farLoad P a (m == .atomic) with
      | ok r => simp only [hf] at e; exact ih _ (hn _) v h v' e
      | error x => simp only [hf] at e; cases e; exact farLoad_soft hf
  | store m a y k ih =>
    intro hn v h v' e
    cases y
    case agg => cases e; exact .inr (.inl ⟨_, rfl⟩)
    case tuple => cases e; exact .inr (.inl ⟨_, rfl⟩)
    all_goals
      simp only [Sem.run] at e
      cases hc : v.cell? a with
      | none =>
        rw [hc] at e
        simp only [] at e
        split at e
        · exact ih hn.2 _ h v' e
        · rename_i e'; cases e; exact farStore_soft e'
      | some z =>
        rw [hc] at e
        simp only [] at e
        split at e
        · cases e; exact .inr (.inr ⟨_, rfl⟩)
        · exact ih hn.2 _ h v' e
  | new o k ih => intro hn v h v' e; exact ih _ (hn _) _ h v' e
  | shape r k ih => intro hn v h v' e; exact ih _ (hn _) v h v' e
  | freeze a n k ih => intro hn; exact hn.elim
  | frozen a k ih => intro hn v h v' e; exact ih _ (hn.1 _) v h v' e
  | getObj r k ih =>
    intro hn v h v' e
    simp only [Sem.run] at e
    split at e
    · cases e; exact .inr (.inl ⟨_, rfl⟩)
    · exact ih _ (hn _) v h v' e
    · cases e; exact .inr (.inl ⟨_, rfl⟩)
  | setObj r o k ih => intro hn; exact hn.elim
  | choose q k ih =>
    intro hn v h v' e
    simp only [Sem.run] at e
    split at e
    · exact ih _ (hn _) v h v' e
    · exact ih _ (hn _) _ h v' e
  | sys c k ih => intro hn; exact hn.elim
  | program k ih => intro hn v h v' e; exact ih _ hn v h v' e
  | mark m k ih => intro hn v h v' e; exact ih hn.2 v h v' e
  | halt y =>
    intro hn v h v' e
    cases e
    exact hn

/-! ### Plain code -/
section
variable (P : Program) (wr : Bool) (L : FuncId → Prop)

def fineOp (o : Oper) : Prop := ∀ a : Act, calm P wr (execOp a.eval o) ∧
  ∀ w x w', (execOp a.eval o).run P w = .ok x w' → (∃ v, x = .value v) ∨ x = .skip ∨ ∃ f args, x = .enter f args ∧ L f

def fineCode : Code → Prop
  | .skip | .ret | .label _ | .exit _ => True
  | .seq a b => fineCode a ∧ fineCode b
  | .cond _ a b => fineCode a ∧ fineCode b
  | .block _ c => fineCode c
  | .loop c => fineCode c
  | .region _ ops _ => ∀ o ∈ ops, fineOp P wr L o
  | _ => False

def fineItem : Item → Prop
  | .code c => fineCode P wr L c
  | .inBlock _ => True
  | .inLoop c => fineCode P wr L c
  | .inRegion ops _ => ∀ o ∈ ops, fineOp P wr L o
  | _ => False

/-- A function of plain code. -/
def fineFn (f : FuncId) : Prop := ∃ fn c, P.funcs[f]? = some fn ∧ fn.body = some c ∧ fineCode P wr L c ∧ ∀ tmps, calm P wr (results fn tmps)
end

/-- A frame that runs, or is on its way out; what stands behind it is said apart. -/
structure F where
  b : Frame
  a : Act
  todo : List Item
  ret : Bool

def F.fr (f : F) (k : List Item) : Frame := if f.ret then { f.b.at f.a (f.todo ++ k) with mode := .returning } else f.b.at f.a (f.todo ++ k)

structure fineF (P : Program) (wr : Bool) (L : FuncId → Prop) (f : F) : Prop where
  items : ∀ x ∈ f.todo, fineItem P wr L x
  defers : f.a.defers = []
  kind : f.b.kind ≠ .early

theorem exitTo_app {id : Nat} : ∀ {l l' : List Item} (k : List Item), exitTo id l = some l' → exitTo id (l ++ k) = some (l' ++ k)
  | .inBlock id' :: l, l', k, h => by
    simp only [exitTo, List.cons_append] at h ⊢
    split at h
    · rename_i e; simp only [e, if_true]; cases h; rfl
    · rename_i e; simp only [e]; exact exitTo_app k h
  | .code _ :: l, l', k, h => exitTo_app (l := l) k h
  | .inLoop _ :: l, l', k, h => exitTo_app (l := l) k h
  | .inScope _ :: l, l', k, h => exitTo_app (l := l) k h
  | .inRegion _ _ :: l, l', k, h => exitTo_app (l := l) k h
  | .inRangeFunc _ :: l, l', k, h => exitTo_app (l := l) k h
  | .endRangeFunc _ :: l, l', k, h => exitTo_app (l := l) k h
  | .beginRound :: l, l', k, h => exitTo_app (l := l) k h
  | .call .. :: l, l', k, h => exitTo_app (l := l) k h
  | .extern .. :: l, l', k, h => exitTo_app (l := l) k h
  | [], _, _, h => by cases h

theorem exitTo_none {id : Nat} {kk : List Item} (hk : exitTo id kk = none) : ∀ {l : List Item}, exitTo id l = none → exitTo id (l ++ kk) = none
  | .inBlock id' :: l, h => by
    simp only [exitTo, List.cons_append] at h ⊢
    split at h
    · cases h
    · rename_i e; simp only [e]; exact exitTo_none hk h
  | .code _ :: l, h => exitTo_none hk (l := l) h
  | .inLoop _ :: l, h => exitTo_none hk (l := l) h
  | .inScope _ :: l, h => exitTo_none hk (l := l) h
  | .inRegion _ _ :: l, h => exitTo_none hk (l := l) h
  | .inRangeFunc _ :: l, h => exitTo_none hk (l := l) h
  | .endRangeFunc _ :: l, h => exitTo_none hk (l := l) h
  | .beginRound :: l, h => exitTo_none hk (l := l) h
  | .call .. :: l, h => exitTo_none hk (l := l) h
  | .extern .. :: l, h => exitTo_none hk (l := l) h
  | [], _ => hk

theorem exitTo_mem {id : Nat} : ∀ {l l' : List Item}, exitTo id l = some l' → ∀ x ∈ l', x ∈ l
  | .inBlock id' :: l, l', h, x, hx => by
    simp only [exitTo] at h
    split at h
    · cases h; exact List.mem_cons_of_mem _ hx
    · exact List.mem_cons_of_mem _ (exitTo_mem h x hx)
  | .code _ :: l, l', h, x, hx => List.mem_cons_of_mem _ (exitTo_mem (l := l) h x hx)
  | .inLoop _ :: l, l', h, x, hx => List.mem_cons_of_mem _ (exitTo_mem (l := l) h x hx)
  | .inScope _ :: l, l', h, x, hx => List.mem_cons_of_mem _ (exitTo_mem (l := l) h x hx)
  | .inRegion _ _ :: l, l', h, x, hx => List.mem_cons_of_mem _ (exitTo_mem (l := l) h x hx)
  | .inRangeFunc _ :: l, l', h, x, hx => List.mem_cons_of_mem _ (exitTo_mem (l := l) h x hx)
  | .endRangeFunc _ :: l, l', h, x, hx => List.mem_cons_of_mem _ (exitTo_mem (l := l) h x hx)
  | .beginRound :: l, l', h, x, hx => List.mem_cons_of_mem _ (exitTo_mem (l := l) h x hx)
  | .call .. :: l, l', h, x, hx => List.mem_cons_of_mem _ (exitTo_mem (l := l) h x hx)
  | .extern .. :: l, l', h, x, hx => List.mem_cons_of_mem _ (exitTo_mem (l := l) h x hx)
  | [], _, h, _, _ => by cases h

/-- A step of frame f's, to T: in world v, and in every world like it. -/
structure Step (P : Program) (wr : Bool) (f : F) (T : List Item → List Frame → Goroutine) (v v' : World) (es : Array Event) : Prop where
  here : ∀ k cs main, stepG P main (G (f.fr k) cs) v = .go (T k cs) v' es
  okay : ∀ e ∈ es, Okay wr e
  tape : v'.tape = v.tape
  le : v.drawn ≤ v'.drawn
  like : ∀ z w, Rel z v w → Same v v' w → ∃ w', Out z wr v v' w w' ∧ (∀ e ∈ es, Spares z w' e) ∧ ∀ k cs main, stepG P main (G (f.fr k) cs) w = .go (T k cs) w' es

theorem Step.ctl {P : Program} {wr : Bool} {f : F} {T : List Item → List Frame → Goroutine} {v : World} (h : ∀ k cs main w, stepG P main (G (f.fr k) cs) w = .go (T k cs) w #[]) : Step P wr f T v v #[] :=
  ⟨fun k cs main => h k cs main v, fun e he => by simp at he, rfl, Nat.le_refl _, fun z w hr _ => ⟨w, .refl hr, fun e he => by simp at he, fun k cs main => h k cs main w⟩⟩

/-- It leads nowhere. -/
def Doomed (cs : List Frame) (s : GStep) : Prop := (∃ o w es, s = .ended o w es) ∨ ∃ (fr : Frame) (chain : List PanicEntry) (w : World) (es : Array Event), s = .go (G { fr with mode := .panicking chain } cs) w es ∧ fr.defers = []

theorem seen_okay {P : Program} {wr : Bool} {fn : FuncId} {es : Array Event} (h : ∀ e ∈ es, Okay wr e) : ∀ e ∈ seen P fn es, Okay wr e := fun e he => h e (mem_seen he)

section
variable {P : Program} {wr : Bool} {L : FuncId → Prop} {f : F} {v : World}

theorem F.fr_run {b : Frame} {a : Act} {todo k : List Item} : (F.mk b a todo false).fr k = b.at a (todo ++ k) := rfl
theorem F.fr_ret {b : Frame} {a : Act} {todo k : List Item} : (F.mk b a todo true).fr k = { b.at a (todo ++ k) with mode := .returning } := rfl

/-- ONE STEP OF A FRAME THAT RUNS PLAIN CODE. 'kk': what stands behind it in a run alone. -/
theorem local_step (hf : fineF P wr L f) (hr : f.ret = false) (hne : f.todo ≠ []) (hE : ∀ fr cs dy g w, ∃ o w', early P fr cs dy g w = .ended o w') (hL : ∀ g, L g → fineFn P wr L g) {kk : List Item} (hkk : ∀ id, exitTo id kk = none) :
    (∃ f' v' es, f'.b = f.b ∧ fineF P wr L f' ∧ Step P wr f (fun k cs => G (f'.fr k) cs) v v' es) ∨
    (∃ g v' es, fineF P wr L g ∧ g.ret = false ∧ g.b.kind = .normal ∧ L g.b.fn ∧ (∃ ops i rest more, f.todo = .inRegion ops (i :: rest) :: more) ∧ Step P wr f (fun k cs => G (g.fr []) (f.fr k :: cs)) v v' es) ∨
    ∀ cs, Doomed cs (stepG P true (G (f.fr kk) cs) v) := by
  obtain ⟨b, a, todo, ret⟩ := f
  simp only at hr hne
  subst hr
  obtain ⟨hi, hd, hk⟩ := hf
  simp only at hi hd hk
  cases todo with
  | nil => exact absurd rfl hne
  | cons x rest =>
    have hx := hi x (List.mem_cons_self ..)
    have hrest : ∀ y ∈ rest, fineItem P wr L y := fun y hy => hi y (List.mem_cons_of_mem _ hy)
    have mv : ∀ (a' : Act) (t : List Item), a'.defers = [] → (∀ y ∈ t, fineItem P wr L y) → fineF P wr L ⟨b, a', t, false⟩ := fun a' t h1 h2 => ⟨h2, h1, hk⟩
    cases x with
    | inScope c => exact hx.elim
    | inRangeFunc l => exact hx.elim
    | endRangeFunc l => exact hx.elim
    | beginRound => exact hx.elim
    | call d w r s => exact hx.elim
    | extern r as => exact hx.elim
    | inBlock id => exact .inl ⟨⟨b, a, rest, false⟩, v, #[], rfl, mv a rest hd hrest, .ctl fun k cs main w => stepG_inBlock⟩
    | inLoop c =>
      exact .inl ⟨⟨b, a, .code c :: .inLoop c :: rest, false⟩, v, #[], rfl, mv a _ hd (fun y hy => by
        rcases List.mem_cons.1 hy with rfl | hy
        · exact hx
        · rcases List.mem_cons.1 hy with rfl | hy
          · exact hx
          · exact hrest y hy), .ctl fun k cs main w => stepG_inLoop⟩
    | code c =>
      cases c with
      | skip => exact .inl ⟨⟨b, a, rest, false⟩, v, #[], rfl, mv a rest hd hrest, .ctl fun k cs main w => stepG_skip⟩
      | label l => exact .inl ⟨⟨b, a, rest, false⟩, v, #[], rfl, mv a rest hd hrest, .ctl fun k cs main w => stepG_label⟩
      | ret => exact .inl ⟨⟨b, a, .code .ret :: rest, true⟩, v, #[], rfl, ⟨hi, hd, hk⟩, .ctl fun k cs main w => by
          simp [F.fr_run, F.fr_ret, G, stepG, stepG.exec, Frame.at]⟩
      | exit id =>
        cases he : exitTo id rest with
        | some t =>
          exact .inl ⟨⟨b, a, t, false⟩, v, #[], rfl, mv a t hd (fun y hy => hrest y (exitTo_mem he y hy)), .ctl fun k cs main w => stepG_exit (exitTo_app k he)⟩
        | none =>
          refine .inr (.inr fun cs => Or.inl ?_)
          have h0 := exitTo_none (hkk id) he
          simp [F.fr_run, G, stepG, stepG.exec, Frame.at, h0]
      | seq c d =>
        exact .inl ⟨⟨b, a, .code c :: .code d :: rest, false⟩, v, #[], rfl, mv a _ hd (fun y hy => by
          rcases List.mem_cons.1 hy with rfl | hy
          · exact hx.1
          · rcases List.mem_cons.1 hy with rfl | hy
            · exact hx.2
            · exact hrest y hy), .ctl fun k cs main w => stepG_seq⟩
      | cond o c d =>
        cases ho : a.eval o with
        | bool t =>
          exact .inl ⟨⟨b, a, .code (if t then c else d) :: rest, false⟩, v, #[], rfl, mv a _ hd (fun y hy => by
            rcases List.mem_cons.1 hy with rfl | hy
            · cases t
              · exact hx.2
              · exact hx.1
            · exact hrest y hy), .ctl fun k cs main w => stepG_cond ho⟩
        | _ =>
          refine .inr (.inr fun cs => Or.inl ?_)
          have he := Frame.eval_at b a (.code (.cond o c d) :: (rest ++ kk)) o
          simp only [Frame.at] at he
          simp [F.fr_run, G, stepG, stepG.exec, Frame.at, he, ho]
      | block id c =>
        exact .inl ⟨⟨b, a, .code c :: .inBlock id :: rest, false⟩, v, #[], rfl, mv a _ hd (fun y hy => by
          rcases List.mem_cons.1 hy with rfl | hy
          · exact hx
          · rcases List.mem_cons.1 hy with rfl | hy
            · trivial
            · exact hrest y hy), .ctl fun k cs main w => stepG_block⟩
      | loop c =>
        exact .inl ⟨⟨b, a, .code c :: .inLoop c :: rest, false⟩, v, #[], rfl, mv a _ hd (fun y hy => by
          rcases List.mem_cons.1 hy with rfl | hy
          · exact hx
          · rcases List.mem_cons.1 hy with rfl | hy
            · exact hx
            · exact hrest y hy), .ctl fun k cs main w => stepG_loop⟩
      | region id ops draw =>
        have hreg : ∀ t, ∀ y ∈ (Item.inRegion ops t :: rest), fineItem P wr L y := fun t y hy => by
          rcases List.mem_cons.1 hy with rfl | hy
          · exact hx
          · exact hrest y hy
        cases draw with
        | false => exact .inl ⟨⟨b, a, .inRegion ops (List.range ops.size) :: rest, false⟩, v, #[], rfl, mv a _ hd (hreg _), .ctl fun k cs main w => stepG_region⟩
        | true =>
          refine .inl ⟨⟨b, a, .inRegion ops (Region.schedule (P.follows .mixedOrders) ops (v.tape v.drawn (.order b.fn id))) :: rest, false⟩, { v with drawn := v.drawn + 1 }, #[], rfl, mv a _ hd (hreg _),
            fun k cs main => stepG_region_draw, fun e he => by simp at he, rfl, Nat.le_succ _, fun z w hr hs => ⟨{ w with drawn := w.drawn + 1 }, ⟨hr.re rfl rfl rfl rfl rfl rfl, rfl, rfl, Nat.le_succ _, by simp, .of_rel ⟨rfl, rfl, rfl⟩, fun _ _ _ => rfl⟩, fun e he => by simp at he, fun k cs main => ?_⟩⟩
          have e0 : v.tape v.drawn = w.tape w.drawn := hs 0 (by simp)
          rw [e0]
          exact stepG_region_draw
      | _ => exact hx.elim
    | inRegion ops todo =>
      have hreg : ∀ t, ∀ y ∈ (Item.inRegion ops t :: rest), fineItem P wr L y := fun t y hy => by
        rcases List.mem_cons.1 hy with rfl | hy
        · exact hx
        · exact hrest y hy
      cases todo with
      | nil => exact .inl ⟨⟨b, a, rest, false⟩, v, #[], rfl, mv a rest hd hrest, .ctl fun k cs main w => stepG_region_end⟩
      | cons i t =>
        cases ho : ops[i]? with
        | none =>
          -- it is passed over
          refine .inl ⟨⟨b, a, .inRegion ops t :: rest, false⟩, v, #[], rfl, mv a _ hd (hreg _), .ctl fun k cs main w => ?_⟩
          simp [F.fr_run, G, stepG, stepG.exec, Frame.at, ho, Frame.finish]
        | some o =>
          have hof : fineOp P wr L o := hx o (Array.mem_of_getElem? ho)
          cases hw : Region.wanted o (yielded ops a.tmps) with
          | false =>
            refine .inl ⟨⟨b, a.put o.dst undef, .inRegion ops t :: rest, false⟩, v, #[], rfl, mv _ _ (by rw [← hd]; unfold Act.put; split <;> rfl) (hreg _), .ctl fun k cs main w => ?_⟩
            have := Frame.finish_at b a ops i t (rest ++ k) undef
            rw [ho] at this
            simp only [Frame.at] at this
            simp [F.fr_run, G, stepG, stepG.exec, Frame.at, ho, hw, this]
          | true =>
            have hput : ∀ x, (a.put o.dst x).defers = [] := fun x => by rw [← hd]; unfold Act.put; split <;> rfl
            have hk' : (b.kind == CallKind.early) = false := by simpa using hk
            obtain ⟨hn, hout⟩ := hof a
            cases hres : (execOp a.eval o).run P v with
            | ok x v' =>
              have hT : (execOp a.eval o).runT P v #[] = (.ok x v', (execOp a.eval o).events P v #[]) := by
                have := runT_fst (P := P) (execOp a.eval o) v #[]
                rw [hres] at this
                exact Prod.ext this rfl
              have hs := fun z => sim z _ hn v
              have hok : ∀ e ∈ listed P b.fn a o v, Okay wr e := seen_okay fun e he => by
                obtain ⟨_, _, _, h3⟩ := hs zn v #[] x v' _ (Rel.refl v) hT (fun i _ => rfl)
                rcases h3 e he with h | h
                · simp at h
                · exact h.1
              have hO : Out zn wr v v' v v' := by
                obtain ⟨w', h1, h2, _⟩ := hs zn v #[] x v' _ (Rel.refl v) hT (fun i _ => rfl)
                rw [hT] at h1
                cases h1
                exact h2
              have lk : ∀ z w, Rel z v w → Same v v' w → ∃ w', Out z wr v v' w w' ∧ (execOp a.eval o).run P w = .ok x w' ∧ listed P b.fn a o w = listed P b.fn a o v ∧ ∀ e ∈ listed P b.fn a o v, Spares z w' e := fun z w hr hS => by
                obtain ⟨w', h1, h2, h3⟩ := hs z w #[] x v' _ hr hT hS
                refine ⟨w', h2, by rw [← runT_fst (P := P) _ w #[], h1], ?_, fun e he => by
                  rcases h3 e (mem_seen he) with h | h
                  · simp at h
                  · exact h.2⟩
                unfold listed
                have : (execOp a.eval o).events P w #[] = (execOp a.eval o).events P v #[] := by
                  show ((execOp a.eval o).runT P w #[]).2 = _
                  rw [h1]
                rw [this]
              rcases hout v x v' hres with ⟨y, rfl⟩ | rfl | ⟨g, args, rfl, hg⟩
              · refine .inl ⟨⟨b, a.put o.dst y, .inRegion ops t :: rest, false⟩, v', listed P b.fn a o v, rfl, mv _ _ (hput _) (hreg _), fun k cs main => stepG_value ho hw hk hres, hok, hO.tape, hO.le, fun z w hr hS => ?_⟩
                obtain ⟨w', h2, h3, h4, h5⟩ := lk z w hr hS
                exact ⟨w', h2, h5, fun k cs main => by rw [← h4]; exact stepG_value ho hw hk h3⟩
              · refine .inl ⟨⟨b, a.put o.dst undef, .inRegion ops t :: rest, false⟩, v', listed P b.fn a o v, rfl, mv _ _ (hput _) (hreg _), fun k cs main => stepG_none ho hw hk hres, hok, hO.tape, hO.le, fun z w hr hS => ?_⟩
                obtain ⟨w', h2, h3, h4, h5⟩ := lk z w hr hS
                exact ⟨w', h2, h5, fun k cs main => by rw [← h4]; exact stepG_none ho hw hk h3⟩
              · obtain ⟨fn, c, hfn, hbody, hfine, hresn⟩ := hL g hg
                have hent : Frame.enter P g args .normal = (F.mk (base g) { tmps := args ++ Array.replicate (fn.ntmps - args.size) undef, defers := [] } [.code c] false).fr [] := enter_at args hfn hbody
                refine .inr (.inl ⟨⟨base g, { tmps := args ++ Array.replicate (fn.ntmps - args.size) undef, defers := [] }, [.code c], false⟩, v', listed P b.fn a o v,
                  ⟨fun y hy => by rcases List.mem_singleton.1 hy with rfl; exact hfine, rfl, by simp [base]⟩, rfl, rfl, hg, ⟨ops, i, t, rest, rfl⟩,
                  fun k cs main => by rw [← hent]; exact stepG_enter ho hw hk hres, hok, hO.tape, hO.le, fun z w hr hS => ?_⟩)
                obtain ⟨w', h2, h3, h4, h5⟩ := lk z w hr hS
                exact ⟨w', h2, h5, fun k cs main => by rw [← h4, ← hent]; exact stepG_enter ho hw hk h3⟩
            | halt h v' =>
              refine .inr (.inr fun cs => ?_)
              have hsoft := calm_halt _ hn v h v' hres
              have e1 : stepG P true (G ((F.mk b a (.inRegion ops (i :: t) :: rest) false).fr kk) cs) v = stepG.apply P true (b.at a (.inRegion ops (i :: t) :: (rest ++ kk))) cs none (execOp a.eval o) v := stepG_oper ho hw
              rcases hsoft with ⟨x, rfl⟩ | ⟨s, rfl⟩ | ⟨u, rfl⟩
              · refine Or.inr ⟨b.at a (.inRegion ops (i :: t) :: (rest ++ kk)), [{ v := x, recovered := false }], v', listed P b.fn a o v, ?_, hd⟩
                rw [e1]
                simp [stepG.apply, hres, G, Frame.at, hk', GStep.after, Frame.raise, listed]
              · left
                rw [e1]
                simp [stepG.apply, hres, Frame.at, hk', GStep.after]
              · left
                rw [e1]
                cases u
                case initOrder g =>
                  obtain ⟨o', w', e2⟩ := hE (b.at a (.inRegion ops (i :: t) :: (rest ++ kk))) cs none g v'
                  simp only [Frame.at] at e2
                  simp [stepG.apply, hres, Frame.at, GStep.after, e2]
                all_goals simp [stepG.apply, hres, Frame.at, hk', GStep.after]
end
end Go.Lift

namespace Go.Lift
open Go.Conc

/-- Frames above a base frame, the innermost first. -/
structure St where
  ups : List F
  base : F

def St.emb : St → List Item → List Frame → Goroutine
  | ⟨[], b⟩, k, cs => G (b.fr k) cs
  | ⟨u :: us, b⟩, k, cs => G (u.fr []) (us.map (·.fr []) ++ b.fr k :: cs)

/-- It waits for what it called. -/
def waits (f : F) : Prop := f.ret = false ∧ ∃ ops i rest more, f.todo = .inRegion ops (i :: rest) :: more

structure fineSt (P : Program) (wr : Bool) (L : FuncId → Prop) (b : Frame) (s : St) : Prop where
  base : fineF P wr L s.base
  eb : s.base.b = b
  ups : ∀ u ∈ s.ups, fineF P wr L u ∧ u.b.kind = .normal ∧ L u.b.fn
  wait : ∀ x ∈ (s.ups ++ [s.base]).drop 1, waits x

def Done (s : St) : Prop := s.ups = [] ∧ (s.base.ret = true ∨ s.base.todo = [])

structure StepS (P : Program) (wr : Bool) (s s' : St) (v v' : World) (es : Array Event) : Prop where
  here : ∀ k cs main, stepG P main (s.emb k cs) v = .go (s'.emb k cs) v' es
  okay : ∀ e ∈ es, Okay wr e
  tape : v'.tape = v.tape
  le : v.drawn ≤ v'.drawn
  like : ∀ z w, Rel z v w → Same v v' w → ∃ w', Out z wr v v' w w' ∧ (∀ e ∈ es, Spares z w' e) ∧ ∀ k cs main, stepG P main (s.emb k cs) w = .go (s'.emb k cs) w' es

theorem stepG_back {P : Program} {main : Bool} {b : Frame} {a : Act} {cs : List Frame} {w w' : World} {fn : Func} {todo : List Item} {c : Frame} {v : Value} (hn : b.kind = .normal) (hd : a.defers = []) (hf : P.funcs[b.fn]? = some fn)
    (hr : (results fn a.tmps).run P w = .ok v w') :
    stepG P main (G { b.at a todo with mode := .returning } (c :: cs)) w = .go (G (c.finish v) cs) w' (seen P b.fn ((results fn a.tmps).events P w #[])) := by
  simp [G, stepG, unwind, doReturn, Frame.at, hn, hd, hf, hr, GStep.after]

/-- A frame that waits, handed its value. -/
def F.got (f : F) (x : Value) : F :=
  match f.todo with
  | .inRegion ops (i :: rest) :: more => ⟨f.b, f.a.put ((ops[i]?).bind (·.dst)) x, .inRegion ops rest :: more, f.ret⟩
  | _ => f

theorem finish_got {f : F} (hw : waits f) (x : Value) (k : List Item) : (f.fr k).finish x = (f.got x).fr k := by
  obtain ⟨b, a, todo, ret⟩ := f
  obtain ⟨h1, ops, i, rest, more, h2⟩ := hw
  simp only at h1 h2
  subst h1 h2
  exact Frame.finish_at b a ops i rest (more ++ k) x

theorem fineF.got {P : Program} {wr : Bool} {L : FuncId → Prop} {f : F} (h : fineF P wr L f) (hw : waits f) (x : Value) : fineF P wr L (f.got x) ∧ (f.got x).b = f.b ∧ (f.got x).ret = false := by
  obtain ⟨b, a, todo, ret⟩ := f
  obtain ⟨h1, ops, i, rest, more, h2⟩ := hw
  simp only at h1 h2
  subst h1 h2
  refine ⟨⟨fun y hy => ?_, ?_, h.kind⟩, rfl, rfl⟩
  · rcases List.mem_cons.1 hy with rfl | hy
    · exact h.items (.inRegion ops (i :: rest)) (List.mem_cons_self ..)
    · exact h.items y (List.mem_cons_of_mem _ hy)
  · rw [← h.defers]
    show (a.put _ x).defers = a.defers
    unfold Act.put
    split <;> rfl

/-- The frame below all in a run alone: whoever comes there is stuck. -/
def last : Frame := { (default : Frame) with todo := [.code (.refuse "")], defers := [{ target := .nil, args := #[] }], mode := .run, kind := .normal, roundOf := none }
def tail : List Item := [.code (.refuse "")]
theorem tail_exit (id : Nat) : exitTo id tail = none := rfl
theorem nil_exit (id : Nat) : exitTo id [] = none := rfl

/-- The machine in which this goroutine is alone. -/
def aloneM (g : Goroutine) (w : World) : Machine := lone g.frame g.callers w

theorem alone_go {P : Program} {fr fr' : Frame} {cs cs' : List Frame} {w w' : World} {es : Array Event} (h : stepG P true (G fr cs) w = .go (G fr' cs') w' es) : step P (lone fr cs w) = .next (lone fr' cs' w') :=
  step_lone_go (by
    have h' : stepG P true { frame := fr, callers := cs, status := .running, dying := none } w = .go (G fr' cs') w' es := h
    rw [h']; rfl)
theorem alone_ended {P : Program} {fr : Frame} {cs : List Frame} {w w' : World} {o : Outcome} {es : Array Event} (h : stepG P true (G fr cs) w = .ended o w' es) : step P (lone fr cs w) = .ended o w' :=
  step_lone_ended (by
    have h' : stepG P true { frame := fr, callers := cs, status := .running, dying := none } w = .ended o w' es := h
    rw [h']; rfl)

theorem dead_step {P : Program} {fr c : Frame} {cs : List Frame} {chain : List PanicEntry} {w : World} (hd : fr.defers = []) :
    (∃ o, step P (lone { fr with mode := .panicking chain } (c :: cs) w) = .ended o w) ∨ step P (lone { fr with mode := .panicking chain } (c :: cs) w) = .next (lone (c.raise chain) cs w) := by
  obtain ⟨fn, tmps, todo, defers, mode, kind, ro⟩ := fr
  simp only at hd
  subst hd
  by_cases hc : Frame.catches P { fn := fn, tmps := tmps, todo := todo, defers := [], mode := .panicking chain, kind := kind, roundOf := ro } = true
  · exact .inl ⟨_, alone_ended (es := #[]) (by simp [G, stepG, unwind, hc]; rfl)⟩
  · exact .inr (alone_go (es := #[]) (by simp [G, stepG, unwind, hc]))

/-- Whoever panics with nothing deferred never runs again. -/
theorem dead_run {P : Program} : ∀ (us : List Frame) (fr : Frame) (chain : List PanicEntry) (w : World) (n : Nat) (m' : Machine), fr.defers = [] → (∀ u ∈ us, u.defers = []) →
    runN P n (lone { fr with mode := .panicking chain } (us ++ [last]) w) = .next m' → ∃ fr' cs' w' chain', m' = lone fr' cs' w' ∧ fr'.mode = .panicking chain' := by
  have up : ∀ (u : Frame) (chain : List PanicEntry), ∃ ch, u.raise chain = { u with mode := .panicking ch } := fun u chain => by
    unfold Frame.raise; split <;> exact ⟨_, rfl⟩
  intro us
  induction us with
  | nil =>
    intro fr chain w n m' hd _ h
    cases n with
    | zero => simp only [runN, Stepped.next.injEq] at h; exact ⟨_, _, _, _, h.symm, rfl⟩
    | succ n =>
      simp only [runN] at h
      obtain ⟨ch, hch⟩ := up last chain
      rcases dead_step (P := P) (c := last) (cs := []) (chain := chain) (w := w) hd with ⟨o, e⟩ | e
      · simp only [List.nil_append, e] at h; cases h
      · simp only [List.nil_append, e, hch] at h
        cases n with
        | zero => simp only [runN, Stepped.next.injEq] at h; exact ⟨_, _, _, _, h.symm, rfl⟩
        | succ n =>
          simp only [runN] at h
          have e2 : ∃ o, step P (lone { last with mode := .panicking ch } [] w) = .ended o w := ⟨_, alone_ended (es := #[]) (by simp [G, stepG, unwind, last, callDeferred]; rfl)⟩
          obtain ⟨o, e2⟩ := e2
          rw [e2] at h; cases h
  | cons u us ih =>
    intro fr chain w n m' hd hu h
    cases n with
    | zero => simp only [runN, Stepped.next.injEq] at h; exact ⟨_, _, _, _, h.symm, rfl⟩
    | succ n =>
      simp only [runN] at h
      obtain ⟨ch, hch⟩ := up u chain
      rcases dead_step (P := P) (c := u) (cs := us ++ [last]) (chain := chain) (w := w) hd with ⟨o, e⟩ | e
      · simp only [List.cons_append, e] at h; cases h
      · simp only [List.cons_append, e, hch] at h
        exact ih u ch w n m' (hu u (List.mem_cons_self ..)) (fun x hx => hu x (List.mem_cons_of_mem _ hx)) h

/-! ### One step of a stack -/
section
variable {P : Program} {wr : Bool} {L : FuncId → Prop} {b : Frame} {v : World}

theorem Step.toS {f : F} {T : List Item → List Frame → Goroutine} {v' : World} {es : Array Event} {s s' : St} (h : Step P wr f T v v' es) (κ : List Item → List Item) (γ : List Item → List Frame → List Frame)
    (e1 : ∀ k cs, s.emb k cs = G (f.fr (κ k)) (γ k cs)) (e2 : ∀ k cs, s'.emb k cs = T (κ k) (γ k cs)) : StepS P wr s s' v v' es :=
  ⟨fun k cs main => by rw [e1, e2]; exact h.here _ _ _, h.okay, h.tape, h.le, fun z w hr hs => by
    obtain ⟨w', ho, hsp, hg⟩ := h.like z w hr hs
    exact ⟨w', ho, hsp, fun k cs main => by rw [e1, e2]; exact hg _ _ _⟩⟩

/-- It leads nowhere, alone. -/
def Lost (P : Program) (g : Goroutine) (v : World) : Prop := (∃ o w, step P (aloneM g v) = .ended o w) ∨
  ∃ (us : List Frame) (fr : Frame) (chain : List PanicEntry) (w : World), step P (aloneM g v) = .next (lone { fr with mode := .panicking chain } (us ++ [last]) w) ∧ fr.defers = [] ∧ ∀ u ∈ us, u.defers = []

theorem lost_of {fr : Frame} {us : List Frame} (hu : ∀ u ∈ us, u.defers = []) (h : Doomed (us ++ [last]) (stepG P true (G fr (us ++ [last])) v)) : Lost P (G fr (us ++ [last])) v := by
  rcases h with ⟨o, w, es, e⟩ | ⟨fr', chain, w, es, e, hd⟩
  · exact Or.inl ⟨o, w, alone_ended e⟩
  · exact Or.inr ⟨us, fr', chain, w, alone_go e, hd, hu⟩

theorem fr_defers (f : F) (k : List Item) : (f.fr k).defers = f.a.defers := by unfold F.fr; split <;> rfl

theorem stack_step {s : St} (hf : fineSt P wr L b s) (hnd : ¬ Done s) (hE : ∀ fr cs dy g w, ∃ o w', early P fr cs dy g w = .ended o w') (hL : ∀ g, L g → fineFn P wr L g) :
    (∃ s' v' es, fineSt P wr L b s' ∧ StepS P wr s s' v v' es) ∨ Lost P (s.emb tail [last]) v := by
  obtain ⟨ups, bs⟩ := s
  obtain ⟨hb, heb, hups, hwait⟩ := hf
  cases ups with
  | nil =>
    have hr : bs.ret = false := by
      cases h : bs.ret with
      | false => rfl
      | true => exact absurd ⟨rfl, .inl h⟩ hnd
    have hne : bs.todo ≠ [] := fun h => hnd ⟨rfl, .inr h⟩
    rcases local_step hb hr hne hE hL tail_exit with ⟨f', v', es, eb, hf', hs⟩ | ⟨g, v', es, hg, hgr, hgk, hgL, hw, hs⟩ | hdoom
    · exact .inl ⟨⟨[], f'⟩, v', es, ⟨hf', eb.trans heb, fun _ h => by simp at h, fun _ h => by simp at h⟩, hs.toS id (fun _ cs => cs) (fun _ _ => rfl) (fun _ _ => rfl)⟩
    · exact .inl ⟨⟨[g], bs⟩, v', es, ⟨hb, heb, fun u hu => by rcases List.mem_singleton.1 hu with rfl; exact ⟨hg, hgk, hgL⟩, fun x hx => by
        simp only [List.cons_append, List.nil_append, List.drop_succ_cons, List.drop_zero, List.mem_singleton] at hx
        subst hx; exact ⟨hr, hw⟩⟩, hs.toS id (fun _ cs => cs) (fun _ _ => rfl) (fun _ _ => rfl)⟩
    · exact .inr (lost_of (us := []) (fun _ h => by simp at h) (hdoom [last]))
  | cons u us =>
    obtain ⟨hu, huk, huL⟩ := hups u (List.mem_cons_self ..)
    have hus : ∀ x ∈ us, fineF P wr L x ∧ x.b.kind = .normal ∧ L x.b.fn := fun x hx => hups x (List.mem_cons_of_mem _ hx)
    have hwait' : ∀ x ∈ us ++ [bs], waits x := hwait
    cases hret : u.ret with
    | true =>
      obtain ⟨fn, c, hfn, hbody, _, hresn⟩ := hL _ huL
      obtain ⟨ub, ua, ut, ur⟩ := u
      simp only at hret huk hfn
      subst hret
      have hud : ua.defers = [] := hu.defers
      cases hres : (results fn ua.tmps).run P v with
      | halt h v' =>
        refine .inr ?_
        have : ∃ o w es, stepG P true (G (F.fr ⟨ub, ua, ut, true⟩ []) (us.map (·.fr []) ++ bs.fr tail :: [last])) v = .ended o w es := by
          cases h <;> simp [F.fr_ret, G, stepG, unwind, Frame.at, hud, hfn, hres, GStep.after]
        obtain ⟨o, w, es, e⟩ := this
        exact Or.inl ⟨o, w, alone_ended e⟩
      | ok x v' =>
        have hT : (results fn ua.tmps).runT P v #[] = (.ok x v', (results fn ua.tmps).events P v #[]) := by
          have := runT_fst (P := P) (results fn ua.tmps) v #[]
          rw [hres] at this
          exact Prod.ext this rfl
        have hsim := fun z => sim z _ (hresn ua.tmps) v
        obtain ⟨v'', q1, hO, hev⟩ := hsim zn v #[] x v' _ (Rel.refl v) hT (fun i _ => rfl)
        rw [hT] at q1
        cases q1
        have hok : ∀ e ∈ seen P ub.fn ((results fn ua.tmps).events P v #[]), Okay wr e := seen_okay fun e he => by
          rcases hev e he with h | h
          · simp at h
          · exact h.1
        -- to whom it comes back
        have key : ∀ (γ : List Item → List Frame → Frame × List Frame) (s' : St), (∀ k cs, (us.map (·.fr []) ++ bs.fr k :: cs) = (γ k cs).1 :: (γ k cs).2) → (∀ k cs, s'.emb k cs = G ((γ k cs).1.finish x) (γ k cs).2) →
            StepS P wr ⟨⟨ub, ua, ut, true⟩ :: us, bs⟩ s' v v' (seen P ub.fn ((results fn ua.tmps).events P v #[])) := fun γ s' e1 e2 => by
          refine ⟨fun k cs main => ?_, hok, hO.tape, hO.le, fun z w hr hS => ?_⟩
          · rw [e2]
            show stepG P main (G (F.fr ⟨ub, ua, ut, true⟩ []) (us.map (·.fr []) ++ bs.fr k :: cs)) v = _
            rw [e1, F.fr_ret]
            exact stepG_back huk hud hfn hres
          · obtain ⟨w', h1, h2, h5⟩ := hsim z w #[] x v' _ hr hT hS
            refine ⟨w', h2, fun e he => by
              rcases h5 e (mem_seen he) with h | h
              · simp at h
              · exact h.2, fun k cs main => ?_⟩
            rw [e2]
            show stepG P main (G (F.fr ⟨ub, ua, ut, true⟩ []) (us.map (·.fr []) ++ bs.fr k :: cs)) w = _
            have h3 : (results fn ua.tmps).run P w = .ok x w' := by rw [← runT_fst (P := P) _ w #[], h1]
            have h4 : (results fn ua.tmps).events P w #[] = (results fn ua.tmps).events P v #[] := by
              show ((results fn ua.tmps).runT P w #[]).2 = _
              rw [h1]
            rw [e1, F.fr_ret, ← h4]
            exact stepG_back huk hud hfn h3
        cases us with
        | nil =>
          have hwb : waits bs := hwait' bs (by simp)
          obtain ⟨g1, g2, g3⟩ := hb.got hwb x
          exact .inl ⟨⟨[], bs.got x⟩, v', _, ⟨g1, g2.trans heb, fun _ h => by simp at h, fun _ h => by simp at h⟩, key (fun k cs => (bs.fr k, cs)) _ (fun _ _ => rfl) (fun k cs => by simp only [finish_got hwb]; rfl)⟩
        | cons u2 us2 =>
          have hw2 : waits u2 := hwait' u2 (by simp)
          obtain ⟨h21, h22, h23⟩ := hus u2 (List.mem_cons_self ..)
          obtain ⟨g1, g2, g3⟩ := h21.got hw2 x
          refine .inl ⟨⟨u2.got x :: us2, bs⟩, v', _, ⟨hb, heb, fun y hy => ?_, fun y hy => hwait' y ?_⟩, key (fun k cs => (u2.fr [], us2.map (·.fr []) ++ bs.fr k :: cs)) _ (fun _ _ => rfl) (fun k cs => by simp only [finish_got hw2]; rfl)⟩
          · rcases List.mem_cons.1 hy with rfl | hy
            · exact ⟨g1, by rw [g2]; exact h22, by rw [g2]; exact h23⟩
            · exact hus y (List.mem_cons_of_mem _ hy)
          · exact List.mem_cons_of_mem _ hy
    | false =>
      have hcall : ∀ y ∈ us.map (·.fr []) ++ [bs.fr tail], y.defers = [] := fun y hy => by
        rcases List.mem_append.1 hy with hy | hy
        · obtain ⟨z, hz, rfl⟩ := List.mem_map.1 hy
          rw [fr_defers]; exact (hus z hz).1.defers
        · rcases List.mem_singleton.1 hy with rfl
          rw [fr_defers]; exact hb.defers
      by_cases hne : u.todo = []
      · obtain ⟨ub, ua, ut, ur⟩ := u
        simp only at hret hne
        subst hret hne
        refine .inl ⟨⟨⟨ub, ua, [], true⟩ :: us, bs⟩, v, #[], ⟨hb, heb, fun y hy => ?_, hwait'⟩, ?_⟩
        · rcases List.mem_cons.1 hy with rfl | hy
          · exact ⟨⟨hu.items, hu.defers, hu.kind⟩, huk, huL⟩
          · exact hus y hy
        · exact ⟨fun k cs main => stepG_end, fun e he => by simp at he, rfl, Nat.le_refl _, fun z w hr _ => ⟨w, .refl hr, fun e he => by simp at he, fun k cs main => stepG_end⟩⟩
      · rcases local_step hu hret hne hE hL nil_exit with ⟨f', v', es, eb, hf', hs⟩ | ⟨g, v', es, hg, hgr, hgk, hgL, hw, hs⟩ | hdoom
        · refine .inl ⟨⟨f' :: us, bs⟩, v', es, ⟨hb, heb, fun y hy => ?_, hwait'⟩, hs.toS (fun _ => []) (fun k cs => us.map (·.fr []) ++ bs.fr k :: cs) (fun _ _ => rfl) (fun _ _ => rfl)⟩
          rcases List.mem_cons.1 hy with rfl | hy
          · exact ⟨hf', by rw [eb]; exact huk, by rw [eb]; exact huL⟩
          · exact hus y hy
        · refine .inl ⟨⟨g :: u :: us, bs⟩, v', es, ⟨hb, heb, fun y hy => ?_, fun y hy => ?_⟩, hs.toS (fun _ => []) (fun k cs => us.map (·.fr []) ++ bs.fr k :: cs) (fun _ _ => rfl) (fun _ _ => rfl)⟩
          · rcases List.mem_cons.1 hy with rfl | hy
            · exact ⟨hg, hgk, hgL⟩
            · exact hups y hy
          · have hy' : y ∈ u :: (us ++ [bs]) := hy
            rcases List.mem_cons.1 hy' with rfl | hy'
            · exact ⟨hret, hw⟩
            · exact hwait' y hy'
        · refine .inr ?_
          have := lost_of (P := P) (v := v) (fr := u.fr []) (us := us.map (·.fr []) ++ [bs.fr tail]) hcall (hdoom _)
          simpa [St.emb] using this
end

end Go.Lift
