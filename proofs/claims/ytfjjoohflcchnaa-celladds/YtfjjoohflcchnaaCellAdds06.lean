/- CellAdds returns true, whatever the schedule, the start and the numbers, and leaves what it was given as it was: of the law's statement as given, with no condition of our own. Part 6 of 34. (Joined, by program, of: Lift10, Lift11, Lift12, Lift13, Lift14, Lift15.) -/
import Derived.Test.YtfjjoohflcchnaaCellAdds05
import Derived.Conc.TokenAlone
import Derived.Conc.Own3
set_option linter.unusedSimpArgs false
set_option linter.unusedVariables false
namespace Go.Lift
open Go.Conc
section
variable {P : Program} {wr : Bool} {L : FuncId → Prop}

/-- What an operation yields is a value, or nothing. -/
theorem out_bind {α : Type} {R : Next → Prop} {k : α → Sem Next} (hk : ∀ a w x w', (k a).run P w = .ok x w' → R x) {s : Sem α} : ∀ {w : World} {x : Next} {w' : World}, (s.bind k).run P w = .ok x w' → R x := by
  induction s with
  | pure a => intro w x w' h; exact hk _ _ _ _ h
  | load m a j ih =>
    intro w x w' h
    simp only [Sem.bind, Sem.run] at h
    split at h
    · exact ih _ h
    · split at h
      · exact ih _ h
      · cases h
  | store m a v j ih =>
    intro w x w' h
    cases v
    case agg => cases h
    case tuple => cases h
    all_goals
      simp only [Sem.bind, Sem.run] at h
      split at h
      · split at h
        · cases h
        · exact ih h
      · split at h
        · exact ih h
        · cases h
  | new o j ih => intro w x w' h; exact ih _ h
  | shape r j ih => intro w x w' h; exact ih _ h
  | freeze a n j ih => intro w x w' h; exact ih h
  | frozen a j ih => intro w x w' h; exact ih _ h
  | getObj r j ih =>
    intro w x w' h
    simp only [Sem.bind, Sem.run] at h
    split at h
    · cases h
    · exact ih _ h
    · cases h
  | setObj r o j ih =>
    intro w x w' h
    simp only [Sem.bind, Sem.run] at h
    split at h
    · cases h
    · exact ih h
    · cases h
  | choose q j ih =>
    intro w x w' h
    simp only [Sem.bind, Sem.run] at h
    split at h <;> exact ih _ h
  | sys c j ih => intro w x w' h; exact ih _ h
  | program j ih => intro w x w' h; exact ih _ h
  | mark m j ih => intro w x w' h; exact ih h
  | halt y => intro w x w' h; cases h

theorem val_out {s : Sem Value} {w : World} {x : Next} {w' : World} (h : (s.bind fun v => Sem.pure (Next.value v)).run P w = .ok x w') : ∃ v, x = .value v :=
  out_bind (R := fun x => ∃ v, x = .value v) (fun a w x w' e => by cases e; exact ⟨_, rfl⟩) h
theorem skip_out {s : Sem Unit} {w : World} {x : Next} {w' : World} (h : (s.bind fun _ => Sem.pure Next.skip).run P w = .ok x w') : x = .skip :=
  out_bind (R := fun x => x = .skip) (fun a w x w' e => by cases e; rfl) h

theorem fine_val {o : Oper} (s : (Operand → Value) → Sem Value) (he : ∀ ρ, execOp ρ o = (s ρ).bind fun v => Sem.pure (Next.value v)) (hc : ∀ ρ, calm P wr (s ρ)) : fineOp P wr L o := fun a => by
  rw [he a.eval]
  exact ⟨calm_sbind (hc a.eval) fun _ => trivial, fun w x w' h => .inl (val_out h)⟩
theorem fine_unit {o : Oper} (s : (Operand → Value) → Sem Unit) (he : ∀ ρ, execOp ρ o = (s ρ).bind fun _ => Sem.pure Next.skip) (hc : ∀ ρ, calm P wr (s ρ)) : fineOp P wr L o := fun a => by
  rw [he a.eval]
  exact ⟨calm_sbind (hc a.eval) fun _ => trivial, fun w x w' h => .inr (.inl (skip_out h))⟩

theorem calm_followBlind : ∀ (l : List FieldStep) (t : TypeId) (x : Option Value), calm P wr (followBlind l t x) := by
  intro l
  induction l with
  | nil => intro t x; exact calm_pure _
  | cons s l ih =>
    intro t x
    unfold followBlind
    repeat' (first | with_reducible (first | exact ih _ _ | exact calm_viewAt _ | exact calm_numberAt _ | exact calm_asNumber _ _ | exact calm_behindNumber _ | exact calm_noView _ | exact calm_byteOf _ | exact calm_partAt _ _ _ | exact calm_fieldPlace _ _ | exact calm_typeStr _ | exact calm_alloc _ | exact calm_box _ _ | exact calm_build _ _ | exact calm_buildSlice _ _ _ | exact calm_loadAt _ _ | exact calm_fieldAt _ _ _ | exact calm_indexAt _ _ _ | exact calm_sliceBound _ _ _ | exact calm_sliceBounds _ _ _ _ _ _ | exact calm_slice _ _ _ _ _ | exact calm_sliceAt _ _ _ _ _ | exact calm_makeChan _ _ | exact calm_makeSlice _ _ _ | exact calm_field _ _ _ | exact calm_index _ _ _ | exact calm_extract _ _ | exact calm_len _ _ _ | exact calm_cap _ _ _ | exact calm_lenOf _ | exact calm_firstCells _ _ _ | exact calm_holdsCells _ _ | exact calm_intArith _ _ _ _ | exact calm_intDiv _ _ _ _ | exact calm_intBits _ _ _ _ | exact calm_intCmp _ _ _ | exact calm_shift _ _ _ _ _ | exact calm_stringOp _ _ _ | exact calm_floatArith _ _ _ _ | exact calm_floatCmp _ _ _ _ | exact calm_twoPlaces _ _ | exact calm_addrSub _ _ _ | exact calm_addrCmp _ _ _ | exact calm_addrMod _ _ _ | exact calm_unsafeAdd _ _ _ | exact calm_movedNumber _ _ _ | exact calm_movedPointer _ _ _ | exact calm_unary _ _ | exact calm_floatToFloat _ _ _ | exact calm_pure _ | exact calm_stuck _ | exact calm_unsupported _ | exact calm_goPanic _ | exact calm_runtimePanic _ | exact calm_boundsPanic _ _ _ _ | exact calm_program | exact calm_shape _ | exact calm_getObj _ | exact calm_newObj _ | exact calm_choose _ | exact calm_load _ _ | exact calm_askRoom _ | exact calm_typeInfo _ | exact calm_underlying _ | exact calm_zeroValue _ | exact calm_sizeOf _ | exact calm_isAgg _ | exact calm_elemOf _ | exact calm_newRow _ _ | exact calm_newVar _ _ | exact calm_asIntOf _ | exact calm_asInt _ | exact calm_asBool _ | exact calm_asAgg _ | exact calm_asAddr _ | exact calm_sureAddr _ | exact calm_loadCells _ _ | exact calm_loadVar _ _ | exact calm_part _ _ _ | exact calm_markRoom | exact calm_markExtern _ | apply calm_map | refine calm_bind ?_ (fun _ => ?_)) | split | dsimp only)
theorem calm_nilAhead : ∀ (d : Nat) (t : TypeId) (v : Value) (n : String), calm P wr (nilAhead d t v n) := by
  intro d
  induction d with
  | zero => intro t v n; exact calm_pure _
  | succ d ih =>
    intro t v n
    unfold nilAhead
    repeat' (first | with_reducible (first | exact ih _ _ _ | exact calm_followBlind _ _ _ | exact calm_viewAt _ | exact calm_numberAt _ | exact calm_asNumber _ _ | exact calm_behindNumber _ | exact calm_noView _ | exact calm_byteOf _ | exact calm_partAt _ _ _ | exact calm_fieldPlace _ _ | exact calm_typeStr _ | exact calm_alloc _ | exact calm_box _ _ | exact calm_build _ _ | exact calm_buildSlice _ _ _ | exact calm_loadAt _ _ | exact calm_fieldAt _ _ _ | exact calm_indexAt _ _ _ | exact calm_sliceBound _ _ _ | exact calm_sliceBounds _ _ _ _ _ _ | exact calm_slice _ _ _ _ _ | exact calm_sliceAt _ _ _ _ _ | exact calm_makeChan _ _ | exact calm_makeSlice _ _ _ | exact calm_field _ _ _ | exact calm_index _ _ _ | exact calm_extract _ _ | exact calm_len _ _ _ | exact calm_cap _ _ _ | exact calm_lenOf _ | exact calm_firstCells _ _ _ | exact calm_holdsCells _ _ | exact calm_intArith _ _ _ _ | exact calm_intDiv _ _ _ _ | exact calm_intBits _ _ _ _ | exact calm_intCmp _ _ _ | exact calm_shift _ _ _ _ _ | exact calm_stringOp _ _ _ | exact calm_floatArith _ _ _ _ | exact calm_floatCmp _ _ _ _ | exact calm_twoPlaces _ _ | exact calm_addrSub _ _ _ | exact calm_addrCmp _ _ _ | exact calm_addrMod _ _ _ | exact calm_unsafeAdd _ _ _ | exact calm_movedNumber _ _ _ | exact calm_movedPointer _ _ _ | exact calm_unary _ _ | exact calm_floatToFloat _ _ _ | exact calm_pure _ | exact calm_stuck _ | exact calm_unsupported _ | exact calm_goPanic _ | exact calm_runtimePanic _ | exact calm_boundsPanic _ _ _ _ | exact calm_program | exact calm_shape _ | exact calm_getObj _ | exact calm_newObj _ | exact calm_choose _ | exact calm_load _ _ | exact calm_askRoom _ | exact calm_typeInfo _ | exact calm_underlying _ | exact calm_zeroValue _ | exact calm_sizeOf _ | exact calm_isAgg _ | exact calm_elemOf _ | exact calm_newRow _ _ | exact calm_newVar _ _ | exact calm_asIntOf _ | exact calm_asInt _ | exact calm_asBool _ | exact calm_asAgg _ | exact calm_asAddr _ | exact calm_sureAddr _ | exact calm_loadCells _ _ | exact calm_loadVar _ _ | exact calm_part _ _ _ | exact calm_markRoom | exact calm_markExtern _ | apply calm_map | refine calm_bind ?_ (fun _ => ?_)) | split | dsimp only)
theorem fine_nilCheck {o : Oper} {x : Operand} (ho : o.op = .nilCheck x) : fineOp P wr L o := fun a => by
  unfold execOp
  rw [ho]
  dsimp only
  constructor
  · repeat' (first | with_reducible (first | exact calm_nilAhead _ _ _ _ | exact calm_viewAt _ | exact calm_numberAt _ | exact calm_asNumber _ _ | exact calm_behindNumber _ | exact calm_noView _ | exact calm_byteOf _ | exact calm_partAt _ _ _ | exact calm_fieldPlace _ _ | exact calm_typeStr _ | exact calm_alloc _ | exact calm_box _ _ | exact calm_build _ _ | exact calm_buildSlice _ _ _ | exact calm_loadAt _ _ | exact calm_fieldAt _ _ _ | exact calm_indexAt _ _ _ | exact calm_sliceBound _ _ _ | exact calm_sliceBounds _ _ _ _ _ _ | exact calm_slice _ _ _ _ _ | exact calm_sliceAt _ _ _ _ _ | exact calm_makeChan _ _ | exact calm_makeSlice _ _ _ | exact calm_field _ _ _ | exact calm_index _ _ _ | exact calm_extract _ _ | exact calm_len _ _ _ | exact calm_cap _ _ _ | exact calm_lenOf _ | exact calm_firstCells _ _ _ | exact calm_holdsCells _ _ | exact calm_intArith _ _ _ _ | exact calm_intDiv _ _ _ _ | exact calm_intBits _ _ _ _ | exact calm_intCmp _ _ _ | exact calm_shift _ _ _ _ _ | exact calm_stringOp _ _ _ | exact calm_floatArith _ _ _ _ | exact calm_floatCmp _ _ _ _ | exact calm_twoPlaces _ _ | exact calm_addrSub _ _ _ | exact calm_addrCmp _ _ _ | exact calm_addrMod _ _ _ | exact calm_unsafeAdd _ _ _ | exact calm_movedNumber _ _ _ | exact calm_movedPointer _ _ _ | exact calm_unary _ _ | exact calm_floatToFloat _ _ _ | exact calm_pure _ | exact calm_stuck _ | exact calm_unsupported _ | exact calm_goPanic _ | exact calm_runtimePanic _ | exact calm_boundsPanic _ _ _ _ | exact calm_program | exact calm_shape _ | exact calm_getObj _ | exact calm_newObj _ | exact calm_choose _ | exact calm_load _ _ | exact calm_askRoom _ | exact calm_typeInfo _ | exact calm_underlying _ | exact calm_zeroValue _ | exact calm_sizeOf _ | exact calm_isAgg _ | exact calm_elemOf _ | exact calm_newRow _ _ | exact calm_newVar _ _ | exact calm_asIntOf _ | exact calm_asInt _ | exact calm_asBool _ | exact calm_asAgg _ | exact calm_asAddr _ | exact calm_sureAddr _ | exact calm_loadCells _ _ | exact calm_loadVar _ _ | exact calm_part _ _ _ | exact calm_markRoom | exact calm_markExtern _ | apply calm_map | refine calm_bind ?_ (fun _ => ?_)) | split | dsimp only)
  · intro w y w' h
    split at h
    · exact absurd h (by simp [runtimePanic, program, goPanic, bind, Sem.bind, Sem.run])
    · exact absurd h (by simp [runtimePanic, program, goPanic, bind, Sem.bind, Sem.run])
    · exact absurd h (by simp [runtimePanic, program, goPanic, bind, Sem.bind, Sem.run])
    · left
      split at h
      · exact absurd h (by simp [runtimePanic, program, goPanic, bind, Sem.bind, Sem.run])
      · refine out_bind (P := P) (R := fun x => ∃ v, x = .value v) (fun a w x w' e => ?_) h
        refine out_bind (P := P) (R := fun x => ∃ v, x = .value v) (fun b w x w' e => ?_) e
        split at e
        · exact absurd e (by simp [unsupported, bind, Sem.bind])
        · cases e; exact ⟨_, rfl⟩
      · cases h; exact ⟨_, rfl⟩
    · cases h; exact .inl ⟨_, rfl⟩

/-- These kinds of operation are plain. -/
def plainOp (P : Program) (wr : Bool) : Op → Bool
  | .move _ | .assign _ | .alloc _ | .box .. | .build .. | .buildSlice .. | .load .. | .unOp .. | .makeFunc .. | .makeChan .. | .makeSlice .. | .slice .. | .fieldAddr .. | .field .. | .indexAddr .. | .index .. | .extract .. => true
  | .binOp op t x y _ => eqOk P op t x y
  | .store .. => wr
  | .nilCheck _ | .pick .. => true
  | .call { callee := .builtin .len, .. } | .call { callee := .builtin .cap, .. } => true
  | .call { callee := .builtin .copy, .. } | .call { callee := .builtin .append, .. } => wr
  | _ => false

theorem equal_ok {op : BinOp} {t : TypeId} {x y : Operand} (h : eqOk P op t x y = true) (a : Act) (ho : op = .eql ∨ op = .neq) : calm P wr (Op.equal t (a.eval x) (a.eval y)) := by
  have h' : (flatT P t || (isPtr P t && (isNil x || isNil y))) = true := by
    rcases ho with rfl | rfl <;> exact h
  rcases Bool.or_eq_true_iff.1 h' with h1 | h1
  · exact calm_equal_flat h1 _ _
  · obtain ⟨h2, h3⟩ := (Bool.and_eq_true _ _ ▸ h1 : _ ∧ _)
    refine calm_equal_nil h2 ?_
    rcases Bool.or_eq_true_iff.1 h3 with h4 | h4
    · left; unfold isNil at h4; split at h4; rfl; cases h4
    · right; unfold isNil at h4; split at h4; rfl; cases h4

theorem fine_plain {o : Oper} (h : plainOp P wr o.op = true) : fineOp P wr L o := by
  obtain ⟨dst, op, type, pos, after, guard⟩ := o
  cases op <;> simp only [plainOp, Bool.false_eq_true] at h
  case move x => exact fun ρ => ⟨trivial, fun w y w' e => by cases e; exact .inl ⟨_, rfl⟩⟩
  case assign x => exact fun ρ => ⟨trivial, fun w y w' e => by cases e; exact .inl ⟨_, rfl⟩⟩
  case alloc e => exact fine_val (fun ρ => Instr.alloc e true (.tuple #[])) (fun _ => rfl) (fun _ => calm_alloc _)
  case box e x => exact fine_val (fun ρ => Instr.box e (ρ x)) (fun _ => rfl) (fun _ => calm_box _ _)
  case build t ps => exact fine_val (fun ρ => Instr.build t (ps.map fun (i, x) => (i, ρ x))) (fun _ => rfl) (fun _ => calm_build _ _)
  case buildSlice t l ps => exact fine_val (fun ρ => Instr.buildSlice t l (ps.map fun (i, x) => (i, ρ x))) (fun _ => rfl) (fun _ => calm_buildSlice _ _ _)
  case load t a => exact fine_val (fun ρ => Instr.loadAt t (ρ a)) (fun _ => rfl) (fun _ => calm_loadAt _ _)
  case store t a x => exact fine_unit (fun ρ => Instr.storeAt t (ρ a) (ρ x)) (fun _ => rfl) (fun _ => calm_storeAt h _ _ _)
  case nilCheck x => exact fine_nilCheck rfl
  case pick c x y => exact fun a => ⟨calm_bind (calm_asBool _) fun _ => calm_pure _, fun w z w' e => .inl (out_bind (P := P) (R := fun x => ∃ v, x = .value v) (fun b w x w' e => by cases e; exact ⟨_, rfl⟩) e)⟩
  case binOp op xt x y yt =>
    refine fun a => ?_
    have he : execOp a.eval { dst := dst, op := .binOp op xt x y yt, type := type, pos := pos, after := after, guard := guard } = (do eqGuard op xt x y (a.eval x) (a.eval y); binOp op xt (a.eval x) (a.eval y) : Sem Value).bind fun v => Sem.pure (Next.value v) := rfl
    rw [he]
    exact ⟨calm_sbind (calm_bind (calm_eqGuard _ _ _ _ _ _) fun _ => calm_binOp _ _ _ _ (equal_ok h a)) fun _ => trivial, fun w x w' h => .inl (val_out h)⟩
  case unOp op t x => exact fine_val (fun ρ => Op.unary op (ρ x)) (fun _ => rfl) (fun _ => calm_unary _ _)
  case makeFunc f a b => exact fine_val (fun ρ => Instr.makeFunc f (a.map ρ) (b.map ρ)) (fun _ => rfl) (fun _ => calm_pure _)
  case makeChan t s => exact fine_val (fun ρ => Instr.makeChan t (ρ s)) (fun _ => rfl) (fun _ => calm_makeChan _ _)
  case makeSlice t l c => exact fine_val (fun ρ => Instr.makeSlice t (ρ l) (ρ c)) (fun _ => rfl) (fun _ => calm_makeSlice _ _ _)
  case slice t x a b c => exact fine_val (fun ρ => Instr.sliceAt t (ρ x) (a.map ρ) (b.map ρ) (c.map ρ)) (fun _ => rfl) (fun _ => calm_sliceAt _ _ _ _ _)
  case fieldAddr s x f => exact fine_val (fun ρ => Instr.fieldAt s (ρ x) f) (fun _ => rfl) (fun _ => calm_fieldAt _ _ _)
  case field t x f => exact fine_val (fun ρ => Instr.field t (ρ x) f) (fun _ => rfl) (fun _ => calm_field _ _ _)
  case indexAddr t x i => exact fine_val (fun ρ => Instr.indexAt t (ρ x) (ρ i)) (fun _ => rfl) (fun _ => calm_indexAt _ _ _)
  case index t x i => exact fine_val (fun ρ => Instr.index t (ρ x) (ρ i)) (fun _ => rfl) (fun _ => calm_index _ _ _)
  case extract t i => exact fine_val (fun ρ => Instr.extract (ρ t) i) (fun _ => rfl) (fun _ => calm_extract _ _)
  case call c =>
    obtain ⟨callee, args, ats⟩ := c
    cases callee with
    | builtin b =>
      cases b <;> simp only [Bool.false_eq_true] at h
      case len => exact fine_val (fun ρ => Builtin.len_ ats type (args.map ρ)) (fun _ => rfl) (fun _ => calm_len _ _ _)
      case cap => exact fine_val (fun ρ => Builtin.cap_ ats type (args.map ρ)) (fun _ => rfl) (fun _ => calm_cap _ _ _)
      case append => exact fine_val (fun ρ => Builtin.append_ ats type (args.map ρ)) (fun _ => rfl) (fun _ => calm_append h _ _ _)
      case copy => exact fine_val (fun ρ => Builtin.copy_ ats type (args.map ρ)) (fun _ => rfl) (fun _ => calm_copy h _ _ _)
    | _ => simp only [Bool.false_eq_true] at h

/-- A call, by name, of a plain function. -/
theorem fine_call {o : Oper} {f : FuncId} {args : Array Operand} {ats : Array TypeId} {fn : Func} (ho : o.op = .call { callee := .value (.func f), args := args, argTypes := ats }) (hf : P.funcs[f]? = some fn) (hn : (fn.name == "runtime.NumGoroutine") = false) (hb : fn.body.isNone = false) (hL : L f) : fineOp P wr L o := fun a => by
  have e : execOp a.eval o = callFunc f ((#[] ++ args.map a.eval) ++ #[]) := by
    unfold execOp
    rw [ho]
    rfl
  rw [e]
  constructor
  · simp only [callFunc, program, bind, Sem.bind, calm, hf, hn, hb, Bool.false_eq_true, if_false]
    exact calm_pure _
  · intro w x w' h
    simp only [callFunc, program, bind, Sem.bind, Sem.run, hf, hn, hb, Bool.false_eq_true, if_false] at h
    cases h
    exact .inr (.inr ⟨_, _, rfl, hL⟩)
end
end Go.Lift

namespace Go.Lift
open Go.Conc
section
variable {P : Program} {z : Nat → Option Nat} {wr : Bool} {L : FuncId → Prop} {D : World → World → Array Event → Prop} {I : World → Prop} {main : Bool} {b : Frame} {k : List Item} {cs : List Frame}

theorem GoesI.mono {D : World → World → Array Event → Prop} {Stop Stop' : Goroutine → World → Prop} (h : ∀ g w, Stop g w → Stop' g w) {g : Goroutine} {w : World} (hg : GoesI P main D Stop g w) : GoesI P main D Stop' g w := by
  exact hg.induct (M := fun g w => GoesI P main D Stop' g w) (fun _ _ hs => .stop fun d => h _ _ (hs d)) (fun _ _ hs g' w' es e hD _ ih => .step hs g' w' es e hD ih)

/-- The others' draws do not unseat it. -/
theorem GoesI.at {D : World → World → Array Event → Prop} {Stop : Goroutine → World → Prop} {g : Goroutine} {w : World} (hg : GoesI P main D Stop g w) (d : Nat) : GoesI P main D Stop g (w.at d) := by
  exact hg.induct (M := fun g w => ∀ d, GoesI P main D Stop g (w.at d)) (fun _ _ hs d => .stop fun d' => hs d') (fun _ _ hs g' w' es e hD hn _ d => .step hs g' w' es e hD hn) d

/-- Walks add up. -/
theorem GoesI.then {D : World → World → Array Event → Prop} {Stop Stop' : Goroutine → World → Prop} {g : Goroutine} {w : World} (hg : GoesI P main D Stop g w) (h : ∀ g w, Stop g w → GoesI P main D Stop' g w) : GoesI P main D Stop' g w := by
  exact hg.induct (M := fun g w => GoesI P main D Stop' g w) (fun g w hs => h _ _ (hs w.drawn)) (fun _ _ hs g' w' es e hD _ ih => .step hs g' w' es e hD ih)

/-- One step that looks at no world. -/
theorem GoesI.ctl {D : World → World → Array Event → Prop} {Stop : Goroutine → World → Prop} {g g' : Goroutine} {w : World} (hs : g.status = .running) (e : ∀ w, stepG P main g w = .go g' w #[]) (hD : ∀ w, D w w #[]) (h : GoesI P main D Stop g' w) : GoesI P main D Stop g w :=
  .step hs (fun _ => g') (fun d => w.at d) (fun _ => #[]) (fun _ => e _) (fun _ => hD _) (fun d => h.at d)

/-- What the lone walk of a piece of plain code tells, in company. -/
theorem lift_code (hE : ∀ fr cs dy g w, ∃ o w', early P fr cs dy g w = .ended o w') (hL : ∀ g, L g → fineFn P wr L g) (hI : ∀ v v', Keeps wr v v' → I v → I v')
    (hD : ∀ v v' w w' es, I v → Rel z v w → Out z wr v v' w w' → (∀ e ∈ es, Okay wr e ∧ Spares z w' e) → D w w' es)
    {c : Code} {a : Act} {Q : Exit → Act → World → Prop} {v w : World} (hvw : Rel z v w) (hc : fineCode P wr L c) (ha : a.defers = []) (hb : b.kind ≠ .early) (hi : I v)
    (hwp : ∀ τ, c.wp P Q a (onTape v τ 0)) (hQ : ∀ e a w, Q e a w → e = .normal ∨ e = .ret) :
    GoesI P main D (fun g w' => ∃ a' v', Rel z v' w' ∧ I v' ∧ a'.defers = [] ∧ ((Q .normal a' v' ∧ g = G (b.at a' k) cs) ∨ (Q .ret a' v' ∧ ∃ todo, g = G { b.at a' todo with mode := .returning } cs))) (G (b.at a (.code c :: k)) cs) w := by
  have key := lift_goes (P := P) (z := z) (wr := wr) (L := L) (b := b) (Q := Q) (D := D) (I := I) (main := main) (k := k) (cs := cs) hE hL hI hD (s := ⟨[], ⟨b, a, [.code c], false⟩⟩) (v := v) (w := w)
    ⟨⟨fun x hx => by rcases List.mem_singleton.1 hx with rfl; exact hc, ha, hb⟩, rfl, fun _ h => by simp at h, fun _ h => by simp at h⟩ hvw hi (fun τ => by
      obtain ⟨e, a', w', hq, harr⟩ := hwp τ b tail [last]
      rcases hQ _ _ _ hq with rfl | rfl
      · obtain ⟨n, hn⟩ := harr
        exact ⟨n, _, hn, .inl ⟨a', w', rfl, hq⟩⟩
      · obtain ⟨todo, n, hn⟩ := harr
        exact ⟨n, _, hn, .inr ⟨{ b.at a' todo with mode := .returning }, w', rfl, rfl, hq⟩⟩)
  refine GoesI.mono (fun g w' hg => ?_) key
  obtain ⟨s, v, rfl, ⟨hu, hdn⟩, heb, hdf, hr, hiv, hq⟩ := hg
  obtain ⟨ups, ⟨bb, ba, bt, br⟩⟩ := s
  simp only at hu heb hdf
  subst hu heb
  refine ⟨ba, v, hr, hiv, hdf, ?_⟩
  cases br with
  | true => exact .inr ⟨hq, bt ++ k, rfl⟩
  | false =>
    simp only [Bool.false_eq_true, false_or] at hdn
    subst hdn
    exact .inl ⟨hq, rfl⟩

end
end Go.Lift

namespace Go.Lift
open Go.Conc
open Go.ConcN (sumTo upd sumTo_upd upd_ne upd_same)

theorem goes_weaken {P : Program} {main : Bool} {R R' : World → World → Prop} {D D' : World → World → Array Event → Prop} {Stop Stop' : Goroutine → World → Prop} (hR : ∀ w w₁, R' w w₁ → R w w₁) (hD : ∀ w w' es, D w w' es → D' w w' es) (hS : ∀ g w, Stop g w → Stop' g w) :
    ∀ {n : Nat} {g : Goroutine} {w : World}, Goes P main R D Stop n g w → Goes P main R' D' Stop' n g w := by
  intro n
  induction n with
  | zero => intro g w h w₁ h₁; exact hS _ _ (h w₁ (hR _ _ h₁))
  | succ n ih =>
    intro g w h
    rcases h with h | ⟨hr, h⟩
    · exact .inl fun w₁ h₁ => hS _ _ (h w₁ (hR _ _ h₁))
    · refine .inr ⟨hr, fun w₁ h₁ => ?_⟩
      have := h w₁ (hR _ _ h₁)
      revert this
      cases stepG P main g w₁ <;> simp only [GStep.goes, imp_self]
      exact fun ⟨d, x⟩ => ⟨hD _ _ _ d, ih x⟩

section
variable {P : Program} {K K' : World → Prop} {Still Still' : Loc → Prop} {B B' : Nat} {Mem : Nat → Prop} {Inb : Nat → Option Seat} {h : Nat} {T : Trace} {gs : Array Goroutine} {w : World} {q : Nat → Nat}

theorem evC_grow (hS : ∀ l, Still l → Still' l) (hB : B ≤ B') {e : Event} (he : EvC Still B e) : EvC Still' B' e := by
  obtain ⟨a, h1, h2, h3⟩ := he
  exact ⟨a, h1, hS _ h2, Nat.lt_of_lt_of_le h3 hB⟩

theorem atIn_grow (hS : ∀ l, Still l → Still' l) (hB : B ≤ B') (hK : ∀ w, K' w → K w) {main : Bool} {s : Seat} {g g₂ : Goroutine} (hg : AtIn P main K Still B s g g₂) : AtIn P main K' Still' B' s g g₂ := by
  obtain ⟨h1, h2, h3, h4, h5, es, h6, h7⟩ := hg
  exact ⟨h1, h2, h3, h4, h5, es, fun e he => evC_grow hS hB (h6 e he), fun w hw => h7 w (hK w hw)⟩

theorem sits_grow (hS : ∀ l, Still l → Still' l) (hB : B ≤ B') (hK : ∀ w, K' w → K w) {main : Bool} {s : Seat} {n : Nat} {g : Goroutine} (hg : Sits P main K Still B s n g) : Sits P main K' Still' B' s n g := by
  rcases hg with ⟨k, w, e, hg⟩ | ⟨e, g₀, g₂, hg, ha⟩
  · exact .inl ⟨k, w, e, goes_weaken (fun _ _ h => hK _ h) (fun _ _ _ ⟨x, y⟩ => ⟨x, fun e he => evC_grow hS hB (y e he)⟩) (fun _ _ ⟨g₂, h⟩ => ⟨g₂, atIn_grow hS hB hK h⟩) hg⟩
  · exact .inr ⟨e, g₀, g₂, hg, atIn_grow hS hB hK ha⟩

theorem idle_grow (hS : ∀ l, Still l → Still' l) (hB : B ≤ B') (hK : ∀ w, K' w → K w) {i n : Nat} {g : Goroutine} {o : Option Seat} (hg : Idle P K Still B T i n g o) : Idle P K' Still' B' T i n g o := by
  cases o with
  | none => exact hg
  | some s => exact sits_grow hS hB hK hg

/-- THE RING GROWS: more still places (nobody has written them), more that is known of them, a higher bound. -/
theorem Ring.grow (C : Ring P K Still B Mem Inb h T gs w q) (hS : ∀ l, Still l → Still' l) (hB : B ≤ B') (hK : ∀ w, K' w → K w) (hw : K' w)
    (hnew : ∀ i a, touchAt T i = some a → Still' a.loc → ¬ Still a.loc → a.write = false) : Ring P K' Still' B' Mem Inb h T gs w q :=
  ⟨fun i g hi hg => idle_grow hS hB hK (C.idle i g hi hg), C.chans, C.wf, C.live, C.inj, C.above, fun i s e => ⟨(C.mem i s e).1, fun c hc => Nat.lt_of_lt_of_le ((C.mem i s e).2 c hc) hB⟩, C.nomem, C.lo,
    ⟨C.past.clean, fun i a ha hm => (C.past.known i a ha hm).imp id fun ⟨x, y, z⟩ => ⟨x, hS _ y, z⟩, (fun i a ha hwr hst g hg => by
      by_cases hold : Still a.loc
      · exact C.past.wrote i a ha hwr hold g hg
      · rw [hnew i a ha hst hold] at hwr; cases hwr), C.past.hears, fun op hop => MemAct.low_mono hB (C.past.seen op hop)⟩, hw⟩

theorem Ring.raise (C : Ring P K Still B Mem Inb h T gs w q) (hB : B ≤ B') : Ring P K Still B' Mem Inb h T gs w q :=
  Ring.grow C (fun _ x => x) hB (fun _ x => x) C.keep (fun _ _ _ x y => absurd x y)

/-- THE HOLDER's WALK, of which no number of steps is told, is carried out by the machine on whatever tape. -/
theorem hold_goes (hKat : ∀ w d, K w → K (w.at d)) {D : World → World → Array Event → Prop} {Stop : Goroutine → World → Prop} (hD : ∀ w w' es, D w w' es → K w → (∀ i s c, Inb i = some s → s.has c → ∃ o, w.heap[c]? = some o) → w.heap.size ≤ w'.heap.size ∧ ∀ B, w'.heap.size ≤ B → DH K Still B Inb w w' es)
    {a : Goroutine} {w : World} (hG : GoesI P (h == 0) D Stop a w) : ∀ (gs : Array Goroutine) (sl : Option (Nat × Nat)) (T : Trace) (q : Nat → Nat) (B : Nat), gs[h]? = some a → Ring P K Still B Mem Inb h T gs w q →
    ∃ (N : Nat) (gs' : Array Goroutine) (a' : Goroutine) (w' : World) (sl' : Option (Nat × Nat)) (T' : Trace) (q' : Nat → Nat) (B' : Nat),
      runNT P N (crowd gs w sl) T = (.next (crowd gs' w' sl'), T') ∧ gs'.size = gs.size ∧ gs'[h]? = some a' ∧ Stop a' w' ∧ (B ≤ B' ∧ B' ≤ max B w'.heap.size ∧ w.heap.size ≤ w'.heap.size) ∧ Ring P K Still B' Mem Inb h T' gs' w' q' := by
  refine hG.induct (M := fun a w => ∀ (gs : Array Goroutine) (sl : Option (Nat × Nat)) (T : Trace) (q : Nat → Nat) (B : Nat), gs[h]? = some a → Ring P K Still B Mem Inb h T gs w q →
    ∃ (N : Nat) (gs' : Array Goroutine) (a' : Goroutine) (w' : World) (sl' : Option (Nat × Nat)) (T' : Trace) (q' : Nat → Nat) (B' : Nat),
      runNT P N (crowd gs w sl) T = (.next (crowd gs' w' sl'), T') ∧ gs'.size = gs.size ∧ gs'[h]? = some a' ∧ Stop a' w' ∧ (B ≤ B' ∧ B' ≤ max B w'.heap.size ∧ w.heap.size ≤ w'.heap.size) ∧ Ring P K Still B' Mem Inb h T' gs' w' q') ?_ ?_
  · intro g w hs gs sl T q B ha C
    exact ⟨0, gs, g, w, sl, T, q, B, rfl, rfl, ha, hs w.drawn, ⟨Nat.le_refl _, Nat.le_max_left _ _, Nat.le_refl _⟩, C⟩
  · intro g w hrun g' w' es e hDD _ ih
    have key : ∀ (m : Nat) (gs : Array Goroutine) (sl : Option (Nat × Nat)) (T : Trace) (q : Nat → Nat) (B d₀ : Nat), sumTo gs.size q = m → gs[h]? = some g → Ring P K Still B Mem Inb h T gs (w.at d₀) q →
        ∃ (N : Nat) (gs' : Array Goroutine) (a' : Goroutine) (w' : World) (sl' : Option (Nat × Nat)) (T' : Trace) (q' : Nat → Nat) (B' : Nat),
          runNT P N (crowd gs (w.at d₀) sl) T = (.next (crowd gs' w' sl'), T') ∧ gs'.size = gs.size ∧ gs'[h]? = some a' ∧ Stop a' w' ∧ (B ≤ B' ∧ B' ≤ max B w'.heap.size ∧ w.heap.size ≤ w'.heap.size) ∧ Ring P K Still B' Mem Inb h T' gs' w' q' := by
      intro m
      induction m using Nat.strongRecOn with
      | _ m ihm =>
        intro gs sl T q B d₀ hm ha C
        obtain ⟨i, x, d, sl', hi, hg, hst⟩ := crowd_pick (P := P) (w := w.at d₀) (sl := sl) (C.awake ha (.inl hrun)) ⟨h, g, ha, hrun⟩
        have Cd : Ring P K Still B Mem Inb h T gs (w.at d) q := TokCore.at hKat C d
        have hst' : stepT P (crowd gs (w.at d₀) sl) = runT P (crowd gs (w.at d) sl') i := hst
        by_cases ei : i = h
        · subst ei
          obtain rfl : x = g := by rw [ha] at hi; exact (Option.some.inj hi).symm
          obtain ⟨hB1, hB₀⟩ := hD _ _ _ (hDD d) Cd.keep (fun j s c e hc => by obtain ⟨cap, n, hk⟩ := Cd.chans j s c (fun z => z) e hc; exact ⟨_, hk⟩)
          obtain ⟨C', ha'⟩ := (Ring.raise Cd (Nat.le_max_left B (w' d).heap.size)).own (a' := g' d) hi (hB₀ _ (Nat.le_max_right B (w' d).heap.size))
          obtain ⟨N, gs2, a2, w2, sl2, T2, q2, B2, r, hsz, h2, hS, ⟨hle, hle2, hle3⟩, C2⟩ := ih d _ sl' _ q _ ha' C'
          have hB1' : w.heap.size ≤ (w' d).heap.size := hB1
          refine ⟨N + 1, gs2, a2, w2, sl2, T2, q2, B2, ?_, by simpa using hsz, h2, hS, ⟨by omega, by omega, Nat.le_trans hB1' hle3⟩, C2⟩
          have hrt := runT_crowd_go (P := P) (sl := sl') hi (e d)
          simp only [runNT, hst', hrt]
          exact r
        · obtain ⟨gs', ops, q', hrt, hsz', hsp, _, _, C', hlt⟩ := TokCore.by_step (sl := sl') (fun t u i => Knows.app u) Cd hi ei hg
            (fun y gy hy hgy => by subst hy; rw [ha] at hgy; obtain rfl := Option.some.inj hgy; exact again_of_running (.inl hrun) _) (fun hD => hD.elim)
            (fun s g₂ _ _ => ⟨fun hD => hD, fun y gy c hy hgy _ => by subst hy; rw [ha] at hgy; obtain rfl := Option.some.inj hgy; exact offersAt_of_not_blocked (by rw [hrun]; simp) _ _⟩)
          obtain ⟨N, gs2, a2, w2, sl2, T2, q2, B2, r, hsz, h2, hS, hle, C2⟩ := ihm (sumTo gs'.size q') (by rw [hsz']; omega) gs' sl' _ q' B d rfl (by rw [hsp h rfl]; exact ha) C'
          refine ⟨N + 1, gs2, a2, w2, sl2, T2, q2, B2, ?_, hsz.trans hsz', h2, hS, hle, C2⟩
          simp only [runNT, hst', hrt]
          exact r
    intro gs sl T q B ha C
    exact key _ gs sl T q B w.drawn rfl ha C
end
end Go.Lift

namespace Go.Lift
open Go.Conc

end Go.Lift

namespace Go.Lift
open Go.Conc
section
variable {P : Program} {wr : Bool} {L : FuncId → Prop}

theorem calm_results (fn : Func) (tmps : Array Value) : calm P wr (results fn tmps) := by
  unfold results
  refine calm_bind (calm_arrayMapM (fun r => ?_) _) fun _ => calm_pure _
  split
  · exact calm_pure _
  · exact calm_bind (calm_asAddr _) fun _ => calm_loadVar _ _

/-- A call, by name, of one of these functions. -/
def plainCall (fs : List FuncId) : Op → Bool
  | .call { callee := .value (.func f), .. } => fs.contains f
  | _ => false

def plainCode (P : Program) (wr : Bool) (fs : List FuncId) : Code → Bool
  | .skip | .ret | .label _ | .exit _ => true
  | .seq a b => plainCode P wr fs a && plainCode P wr fs b
  | .cond _ a b => plainCode P wr fs a && plainCode P wr fs b
  | .block _ c => plainCode P wr fs c
  | .loop c => plainCode P wr fs c
  | .region _ ops _ => ops.all fun o => plainOp P wr o.op || plainCall fs o.op
  | _ => false

/-- What is asked of each function that is called. -/
def Callable (P : Program) (L : FuncId → Prop) (f : FuncId) : Prop := L f ∧ ∃ fn, P.funcs[f]? = some fn ∧ (fn.name == "runtime.NumGoroutine") = false ∧ fn.body.isNone = false

theorem fineOp_of {fs : List FuncId} (hfs : ∀ f ∈ fs, Callable P L f) {o : Oper} (h : (plainOp P wr o.op || plainCall fs o.op) = true) : fineOp P wr L o := by
  rcases Bool.or_eq_true_iff.1 h with h | h
  · exact fine_plain h
  · unfold plainCall at h
    split at h
    · rename_i f args ats e
      obtain ⟨hL, fn, h1, h2, h3⟩ := hfs f (by simpa using h)
      exact fine_call e h1 h2 h3 hL
    · cases h

theorem fineCode_of {fs : List FuncId} (hfs : ∀ f ∈ fs, Callable P L f) : ∀ {c : Code}, plainCode P wr fs c = true → fineCode P wr L c := by
  intro c
  induction c with
  | seq a b iha ihb => intro h; simp only [plainCode, Bool.and_eq_true] at h; exact ⟨iha h.1, ihb h.2⟩
  | cond o a b iha ihb => intro h; simp only [plainCode, Bool.and_eq_true] at h; exact ⟨iha h.1, ihb h.2⟩
  | block id c ih => intro h; exact ih h
  | loop c ih => intro h; exact ih h
  | region id ops d =>
    intro h
    simp only [plainCode, Array.all_eq_true_iff_forall_mem] at h
    exact fun o ho => fineOp_of hfs (h o ho)
  | skip => intro _; trivial
  | ret => intro _; trivial
  | label l => intro _; trivial
  | exit id => intro _; trivial
  | _ => intro h; simp [plainCode] at h

theorem fineFn_of {fs : List FuncId} (hfs : ∀ f ∈ fs, Callable P L f) {f : FuncId} {fn : Func} {c : Code} (hf : P.funcs[f]? = some fn) (hb : fn.body = some c) (h : plainCode P wr fs c = true) : fineFn P wr L f :=
  ⟨fn, c, hf, hb, fineCode_of hfs h, calm_results fn⟩
end
end Go.Lift

namespace Go.Lift
open Go.Conc
section
variable {P : Program} {main : Bool} {D : World → World → Array Event → Prop} {Stop : Goroutine → World → Prop} {b : Frame} {a : Act} {k : List Item} {cs : List Frame} {w : World}

theorem goesI_skip (hD : ∀ w, D w w #[]) (h : GoesI P main D Stop (G (b.at a k) cs) w) : GoesI P main D Stop (G (b.at a (.code .skip :: k)) cs) w := .ctl rfl (fun _ => stepG_skip) hD h
theorem goesI_inBlock (hD : ∀ w, D w w #[]) {id : Nat} (h : GoesI P main D Stop (G (b.at a k) cs) w) : GoesI P main D Stop (G (b.at a (.inBlock id :: k)) cs) w := .ctl rfl (fun _ => stepG_inBlock) hD h
theorem goesI_seq (hD : ∀ w, D w w #[]) {x y : Code} (h : GoesI P main D Stop (G (b.at a (.code x :: .code y :: k)) cs) w) : GoesI P main D Stop (G (b.at a (.code (.seq x y) :: k)) cs) w := .ctl rfl (fun _ => stepG_seq) hD h
theorem goesI_cond (hD : ∀ w, D w w #[]) {c : Operand} {x y : Code} {t : Bool} (hc : a.eval c = .bool t) (h : GoesI P main D Stop (G (b.at a (.code (if t then x else y) :: k)) cs) w) : GoesI P main D Stop (G (b.at a (.code (.cond c x y) :: k)) cs) w :=
  .ctl rfl (fun _ => stepG_cond hc) hD h
theorem goesI_block (hD : ∀ w, D w w #[]) {id : Nat} {c : Code} (h : GoesI P main D Stop (G (b.at a (.code c :: .inBlock id :: k)) cs) w) : GoesI P main D Stop (G (b.at a (.code (.block id c) :: k)) cs) w := .ctl rfl (fun _ => stepG_block) hD h
theorem goesI_loop (hD : ∀ w, D w w #[]) {c : Code} (h : GoesI P main D Stop (G (b.at a (.code c :: .inLoop c :: k)) cs) w) : GoesI P main D Stop (G (b.at a (.code (.loop c) :: k)) cs) w := .ctl rfl (fun _ => stepG_loop) hD h
theorem goesI_inLoop (hD : ∀ w, D w w #[]) {c : Code} (h : GoesI P main D Stop (G (b.at a (.code c :: .inLoop c :: k)) cs) w) : GoesI P main D Stop (G (b.at a (.inLoop c :: k)) cs) w := .ctl rfl (fun _ => stepG_inLoop) hD h
theorem goesI_exit (hD : ∀ w, D w w #[]) {id : Nat} {k' : List Item} (he : exitTo id k = some k') (h : GoesI P main D Stop (G (b.at a k') cs) w) : GoesI P main D Stop (G (b.at a (.code (.exit id) :: k)) cs) w := .ctl rfl (fun _ => stepG_exit he) hD h
theorem goesI_region (hD : ∀ w, D w w #[]) {id : Nat} {ops : Array Oper} (h : GoesI P main D Stop (G (b.at a (.inRegion ops (List.range ops.size) :: k)) cs) w) : GoesI P main D Stop (G (b.at a (.code (.region id ops false) :: k)) cs) w := .ctl rfl (fun _ => stepG_region) hD h
theorem goesI_regionEnd (hD : ∀ w, D w w #[]) {ops : Array Oper} (h : GoesI P main D Stop (G (b.at a k) cs) w) : GoesI P main D Stop (G (b.at a (.inRegion ops [] :: k)) cs) w := .ctl rfl (fun _ => stepG_region_end) hD h
theorem goesI_end (hD : ∀ w, D w w #[]) (h : GoesI P main D Stop (G { b.at a [] with mode := .returning } cs) w) : GoesI P main D Stop (G (b.at a []) cs) w := .ctl rfl (fun _ => stepG_end) hD h

/-- An operation that yields a value. -/
theorem goesI_value {ops : Array Oper} {i : Nat} {rest : List Nat} {o : Oper} {v : Nat → Value} {w' : Nat → World} (ho : ops[i]? = some o) (hw : Region.wanted o (yielded ops a.tmps) = true) (hk : b.kind ≠ .early)
    (hr : ∀ d, (execOp a.eval o).run P (w.at d) = .ok (.value (v d)) (w' d)) (hD : ∀ d, D (w.at d) (w' d) (listed P b.fn a o (w.at d)))
    (h : ∀ d, GoesI P main D Stop (G (b.at (a.put o.dst (v d)) (.inRegion ops rest :: k)) cs) (w' d)) : GoesI P main D Stop (G (b.at a (.inRegion ops (i :: rest) :: k)) cs) w :=
  .step rfl _ w' (fun d => listed P b.fn a o (w.at d)) (fun d => stepG_value ho hw hk (hr d)) hD h
/-- A call of a function with a body is entered. -/
theorem goesI_enter {ops : Array Oper} {i : Nat} {rest : List Nat} {o : Oper} {f : FuncId} {args : Array Value} {fn : Func} {c : Code} (ho : ops[i]? = some o) (hw : Region.wanted o (yielded ops a.tmps) = true) (hk : b.kind ≠ .early)
    (hr : ∀ w, (execOp a.eval o).run P w = .ok (.enter f args) w) (hl : ∀ w, listed P b.fn a o w = #[]) (hD : ∀ w, D w w #[]) (hf : P.funcs[f]? = some fn) (hb : fn.body = some c)
    (h : GoesI P main D Stop (G ((base f).at { tmps := args ++ Array.replicate (fn.ntmps - args.size) undef, defers := [] } [.code c]) (b.at a (.inRegion ops (i :: rest) :: k) :: cs)) w) : GoesI P main D Stop (G (b.at a (.inRegion ops (i :: rest) :: k)) cs) w := by
  refine .ctl rfl (fun w => ?_) hD h
  rw [stepG_enter ho hw hk (hr w), hl w, enter_at args hf hb]
/-- A return: what it answers goes to the caller's operation. -/
theorem goesI_leave {ops : Array Oper} {i : Nat} {rest : List Nat} {o : Oper} {fn : Func} {todo : List Item} {bc : Frame} {ac : Act} {v : Value} (hn : b.kind = .normal) (hd : a.defers = []) (hf : P.funcs[b.fn]? = some fn)
    (hr : ∀ w, (results fn a.tmps).run P w = .ok v w) (he : ∀ w, (results fn a.tmps).events P w #[] = #[]) (ho : ops[i]? = some o) (hD : ∀ w, D w w #[])
    (h : GoesI P main D Stop (G (bc.at (ac.put o.dst v) (.inRegion ops rest :: k)) cs) w) : GoesI P main D Stop (G { b.at a todo with mode := .returning } (bc.at ac (.inRegion ops (i :: rest) :: k) :: cs)) w := by
  refine .ctl rfl (fun w => ?_) hD h
  have hfin : (bc.at ac (.inRegion ops (i :: rest) :: k)).finish v = bc.at (ac.put o.dst v) (.inRegion ops rest :: k) := by rw [Frame.finish_at, ho]; rfl
  rw [stepG_leave hn hd hf (hr w) (he w), hfin]

/-- A plain piece, by its lone walk, and then what follows; it may draw and may write (as 'wr' says). -/
theorem goesI_plain {z : Nat → Option Nat} {wr : Bool} {L : FuncId → Prop} {I : World → Prop} (hE : ∀ fr cs dy g w, ∃ o w', early P fr cs dy g w = .ended o w') (hL : ∀ g, L g → fineFn P wr L g) (hI : ∀ v v', Keeps wr v v' → I v → I v')
    (hD : ∀ v v' w w' es, I v → Rel z v w → Out z wr v v' w w' → (∀ e ∈ es, Okay wr e ∧ Spares z w' e) → D w w' es) {c : Code} {Q : Act → World → Prop} {v : World} (hvw : Rel z v w) (hc : fineCode P wr L c) (ha : a.defers = []) (hb : b.kind ≠ .early) (hi : I v)
    (hwp : ∀ τ, c.wp P (fun e a w => e = .normal ∧ Q a w) a (onTape v τ 0))
    (h : ∀ a' v' w', Q a' v' → Rel z v' w' → I v' → a'.defers = [] → GoesI P main D Stop (G (b.at a' k) cs) w') : GoesI P main D Stop (G (b.at a (.code c :: k)) cs) w := by
  refine (lift_code (P := P) (wr := wr) (L := L) (D := D) (I := I) (main := main) (b := b) (k := k) (cs := cs) hE hL hI hD hvw hc ha hb hi hwp (fun e a w h => .inl h.1)).then ?_
  rintro g w' ⟨a', v', hr, hiv, hd, ⟨⟨_, hq⟩, rfl⟩ | ⟨⟨hq, _⟩, _⟩⟩
  · exact h a' v' w' hq hr hiv hd
  · cases hq
end
end Go.Lift
