/- CellAdds returns true, whatever the schedule, the start and the numbers, and leaves what it was given as it was: of the law's statement as given, with no condition of our own. Part 5 of 34. (Joined, by program, of: Lift7, Lift9, Lift8.) -/
import Derived.Test.YtfjjoohflcchnaaCellAdds04
set_option linter.unusedSimpArgs false
set_option linter.unusedVariables false
namespace Go.Lift
open Go.Conc
section
variable {P : Program} {wr : Bool} {α β : Type}
theorem calm_rangeForIn {σ : Type} {f : Nat → σ → Sem (ForInStep σ)} (h : ∀ a s, calm P wr (f a s)) (r : Std.Legacy.Range) (s : σ) : calm P wr (forIn r s f) := by
  rw [Std.Legacy.Range.forIn_eq_forIn_range']
  exact calm_listForIn h _ _

/-- A type whose values are compared without a look at memory's marks. -/
def flatT (P : Program) (t : TypeId) : Bool :=
  match P.underlying t with
  | some .bool | some (.int _) | some (.float _) | some (.complex _) | some .string | some (.chan ..) | some (.slice _) | some (.map ..) | some (.func ..) => true
  | _ => false
def isPtr (P : Program) (t : TypeId) : Bool :=
  match P.underlying t with
  | some (.pointer _) => true
  | _ => false
theorem calm_und {α : Type} {t : TypeId} {f : TypeDesc → Sem α} (h : ∀ d, P.underlying t = some d → calm P wr (f d)) : calm P wr (underlying t >>= f) := by
  show calm P wr ((underlying t).bind f)
  unfold underlying
  simp only [program, bind, Sem.bind, calm]
  split
  · rename_i d hd; exact h d hd
  · exact calm_stuck _
set_option maxHeartbeats 0 in
theorem calm_equal_flat {t : TypeId} (ht : flatT P t = true) (x y : Value) : calm P wr (Op.equal t x y) := by
  show calm P wr (Op.equalIn (9999 + 1) t x y)
  unfold Op.equalIn
  refine calm_und fun d hd => ?_
  unfold flatT at ht
  rw [hd] at ht
  split
  all_goals first | (exfalso; revert ht; simp; done) | repeat' (first | with_reducible (first | exact calm_viewAt _ | exact calm_numberAt _ | exact calm_asNumber _ _ | exact calm_behindNumber _ | exact calm_noView _ | exact calm_byteOf _ | exact calm_partAt _ _ _ | exact calm_fieldPlace _ _ | exact calm_typeStr _ | exact calm_alloc _ | exact calm_box _ _ | exact calm_build _ _ | exact calm_buildSlice _ _ _ | exact calm_loadAt _ _ | exact calm_fieldAt _ _ _ | exact calm_indexAt _ _ _ | exact calm_sliceBound _ _ _ | exact calm_sliceBounds _ _ _ _ _ _ | exact calm_slice _ _ _ _ _ | exact calm_sliceAt _ _ _ _ _ | exact calm_makeChan _ _ | exact calm_makeSlice _ _ _ | exact calm_field _ _ _ | exact calm_index _ _ _ | exact calm_extract _ _ | exact calm_len _ _ _ | exact calm_cap _ _ _ | exact calm_lenOf _ | exact calm_firstCells _ _ _ | exact calm_holdsCells _ _ | exact calm_intArith _ _ _ _ | exact calm_intDiv _ _ _ _ | exact calm_intBits _ _ _ _ | exact calm_intCmp _ _ _ | exact calm_shift _ _ _ _ _ | exact calm_stringOp _ _ _ | exact calm_floatArith _ _ _ _ | exact calm_floatCmp _ _ _ _ | exact calm_twoPlaces _ _ | exact calm_addrSub _ _ _ | exact calm_addrCmp _ _ _ | exact calm_addrMod _ _ _ | exact calm_unsafeAdd _ _ _ | exact calm_movedNumber _ _ _ | exact calm_movedPointer _ _ _ | exact calm_unary _ _ | exact calm_floatToFloat _ _ _ | exact calm_pure _ | exact calm_stuck _ | exact calm_unsupported _ | exact calm_goPanic _ | exact calm_runtimePanic _ | exact calm_boundsPanic _ _ _ _ | exact calm_program | exact calm_shape _ | exact calm_getObj _ | exact calm_newObj _ | exact calm_choose _ | exact calm_load _ _ | exact calm_askRoom _ | exact calm_typeInfo _ | exact calm_underlying _ | exact calm_zeroValue _ | exact calm_sizeOf _ | exact calm_isAgg _ | exact calm_elemOf _ | exact calm_newRow _ _ | exact calm_newVar _ _ | exact calm_asIntOf _ | exact calm_asInt _ | exact calm_asBool _ | exact calm_asAgg _ | exact calm_asAddr _ | exact calm_sureAddr _ | exact calm_loadCells _ _ | exact calm_loadVar _ _ | exact calm_part _ _ _ | exact calm_markRoom | exact calm_markExtern _ | (refine calm_arrayForIn (fun _ _ => ?_) _ _) | (refine calm_rangeForIn (fun _ _ => ?_) _ _) | apply calm_map | refine calm_bind ?_ (fun _ => ?_)) | split | dsimp only)
theorem calm_equal_nil {t : TypeId} (ht : isPtr P t = true) {x y : Value} (h : x = .pointer none ∨ y = .pointer none) : calm P wr (Op.equal t x y) := by
  show calm P wr (Op.equalIn (9999 + 1) t x y)
  unfold Op.equalIn
  refine calm_und fun d hd => ?_
  unfold isPtr at ht
  rw [hd] at ht
  cases d <;> simp only [Bool.false_eq_true] at ht
  rcases h with rfl | rfl
  · cases y <;> first | exact calm_pure _ | exact calm_stuck _
  · cases x
    case pointer p => cases p <;> exact calm_pure _
    all_goals exact calm_stuck _

theorem calm_eqGuardIn : ∀ (d : Nat) (t : TypeId) (x y : Value), calm P wr (Op.eqGuardIn d t x y) := by
  intro d
  induction d with
  | zero => intro t x y; exact calm_unsupported _
  | succ d ih =>
    intro t x y
    unfold Op.eqGuardIn
    repeat' (first | with_reducible (first | exact ih _ _ _ | exact calm_viewAt _ | exact calm_numberAt _ | exact calm_asNumber _ _ | exact calm_behindNumber _ | exact calm_noView _ | exact calm_byteOf _ | exact calm_partAt _ _ _ | exact calm_fieldPlace _ _ | exact calm_typeStr _ | exact calm_alloc _ | exact calm_box _ _ | exact calm_build _ _ | exact calm_buildSlice _ _ _ | exact calm_loadAt _ _ | exact calm_fieldAt _ _ _ | exact calm_indexAt _ _ _ | exact calm_sliceBound _ _ _ | exact calm_sliceBounds _ _ _ _ _ _ | exact calm_slice _ _ _ _ _ | exact calm_sliceAt _ _ _ _ _ | exact calm_makeChan _ _ | exact calm_makeSlice _ _ _ | exact calm_field _ _ _ | exact calm_index _ _ _ | exact calm_extract _ _ | exact calm_len _ _ _ | exact calm_cap _ _ _ | exact calm_lenOf _ | exact calm_firstCells _ _ _ | exact calm_holdsCells _ _ | exact calm_intArith _ _ _ _ | exact calm_intDiv _ _ _ _ | exact calm_intBits _ _ _ _ | exact calm_intCmp _ _ _ | exact calm_shift _ _ _ _ _ | exact calm_stringOp _ _ _ | exact calm_floatArith _ _ _ _ | exact calm_floatCmp _ _ _ _ | exact calm_twoPlaces _ _ | exact calm_addrSub _ _ _ | exact calm_addrCmp _ _ _ | exact calm_addrMod _ _ _ | exact calm_unsafeAdd _ _ _ | exact calm_movedNumber _ _ _ | exact calm_movedPointer _ _ _ | exact calm_unary _ _ | exact calm_floatToFloat _ _ _ | exact calm_pure _ | exact calm_stuck _ | exact calm_unsupported _ | exact calm_goPanic _ | exact calm_runtimePanic _ | exact calm_boundsPanic _ _ _ _ | exact calm_program | exact calm_shape _ | exact calm_getObj _ | exact calm_newObj _ | exact calm_choose _ | exact calm_load _ _ | exact calm_askRoom _ | exact calm_typeInfo _ | exact calm_underlying _ | exact calm_zeroValue _ | exact calm_sizeOf _ | exact calm_isAgg _ | exact calm_elemOf _ | exact calm_newRow _ _ | exact calm_newVar _ _ | exact calm_asIntOf _ | exact calm_asInt _ | exact calm_asBool _ | exact calm_asAgg _ | exact calm_asAddr _ | exact calm_sureAddr _ | exact calm_loadCells _ _ | exact calm_loadVar _ _ | exact calm_part _ _ _ | exact calm_markRoom | exact calm_markExtern _ | (refine calm_arrayForIn (fun _ _ => ?_) _ _) | (refine calm_rangeForIn (fun _ _ => ?_) _ _) | apply calm_map | refine calm_bind ?_ (fun _ => ?_)) | split | dsimp only)

end
end Go.Lift

namespace Go.Lift
open Go.Conc
section
variable {P : Program} {wr : Bool} {α β : Type}
theorem calm_carith (op : BinOp) (k : FloatKind) (x y : Nat) : calm P wr (Op.Complex.arith op k x y) := by
  unfold Op.Complex.arith
  repeat' (first | with_reducible (first | exact calm_viewAt _ | exact calm_numberAt _ | exact calm_asNumber _ _ | exact calm_behindNumber _ | exact calm_noView _ | exact calm_byteOf _ | exact calm_partAt _ _ _ | exact calm_fieldPlace _ _ | exact calm_typeStr _ | exact calm_alloc _ | exact calm_box _ _ | exact calm_build _ _ | exact calm_buildSlice _ _ _ | exact calm_loadAt _ _ | exact calm_fieldAt _ _ _ | exact calm_indexAt _ _ _ | exact calm_sliceBound _ _ _ | exact calm_sliceBounds _ _ _ _ _ _ | exact calm_slice _ _ _ _ _ | exact calm_sliceAt _ _ _ _ _ | exact calm_makeChan _ _ | exact calm_makeSlice _ _ _ | exact calm_field _ _ _ | exact calm_index _ _ _ | exact calm_extract _ _ | exact calm_len _ _ _ | exact calm_cap _ _ _ | exact calm_lenOf _ | exact calm_firstCells _ _ _ | exact calm_holdsCells _ _ | exact calm_intArith _ _ _ _ | exact calm_intDiv _ _ _ _ | exact calm_intBits _ _ _ _ | exact calm_intCmp _ _ _ | exact calm_shift _ _ _ _ _ | exact calm_stringOp _ _ _ | exact calm_floatArith _ _ _ _ | exact calm_floatCmp _ _ _ _ | exact calm_twoPlaces _ _ | exact calm_addrSub _ _ _ | exact calm_addrCmp _ _ _ | exact calm_addrMod _ _ _ | exact calm_unsafeAdd _ _ _ | exact calm_movedNumber _ _ _ | exact calm_movedPointer _ _ _ | exact calm_unary _ _ | exact calm_floatToFloat _ _ _ | exact calm_pure _ | exact calm_stuck _ | exact calm_unsupported _ | exact calm_goPanic _ | exact calm_runtimePanic _ | exact calm_boundsPanic _ _ _ _ | exact calm_program | exact calm_shape _ | exact calm_getObj _ | exact calm_newObj _ | exact calm_choose _ | exact calm_load _ _ | exact calm_askRoom _ | exact calm_typeInfo _ | exact calm_underlying _ | exact calm_zeroValue _ | exact calm_sizeOf _ | exact calm_isAgg _ | exact calm_elemOf _ | exact calm_newRow _ _ | exact calm_newVar _ _ | exact calm_asIntOf _ | exact calm_asInt _ | exact calm_asBool _ | exact calm_asAgg _ | exact calm_asAddr _ | exact calm_sureAddr _ | exact calm_loadCells _ _ | exact calm_loadVar _ _ | exact calm_part _ _ _ | exact calm_markRoom | exact calm_markExtern _ | apply calm_map | refine calm_bind ?_ (fun _ => ?_)) | split | dsimp only)

theorem calm_ccmp (op : BinOp) (k : FloatKind) (x y : Nat) : calm P wr (Op.Complex.cmp op k x y) := by
  unfold Op.Complex.cmp
  repeat' (first | with_reducible (first | exact calm_viewAt _ | exact calm_numberAt _ | exact calm_asNumber _ _ | exact calm_behindNumber _ | exact calm_noView _ | exact calm_byteOf _ | exact calm_partAt _ _ _ | exact calm_fieldPlace _ _ | exact calm_typeStr _ | exact calm_alloc _ | exact calm_box _ _ | exact calm_build _ _ | exact calm_buildSlice _ _ _ | exact calm_loadAt _ _ | exact calm_fieldAt _ _ _ | exact calm_indexAt _ _ _ | exact calm_sliceBound _ _ _ | exact calm_sliceBounds _ _ _ _ _ _ | exact calm_slice _ _ _ _ _ | exact calm_sliceAt _ _ _ _ _ | exact calm_makeChan _ _ | exact calm_makeSlice _ _ _ | exact calm_field _ _ _ | exact calm_index _ _ _ | exact calm_extract _ _ | exact calm_len _ _ _ | exact calm_cap _ _ _ | exact calm_lenOf _ | exact calm_firstCells _ _ _ | exact calm_holdsCells _ _ | exact calm_intArith _ _ _ _ | exact calm_intDiv _ _ _ _ | exact calm_intBits _ _ _ _ | exact calm_intCmp _ _ _ | exact calm_shift _ _ _ _ _ | exact calm_stringOp _ _ _ | exact calm_floatArith _ _ _ _ | exact calm_floatCmp _ _ _ _ | exact calm_twoPlaces _ _ | exact calm_addrSub _ _ _ | exact calm_addrCmp _ _ _ | exact calm_addrMod _ _ _ | exact calm_unsafeAdd _ _ _ | exact calm_movedNumber _ _ _ | exact calm_movedPointer _ _ _ | exact calm_unary _ _ | exact calm_floatToFloat _ _ _ | exact calm_carith _ _ _ _ | exact calm_pure _ | exact calm_stuck _ | exact calm_unsupported _ | exact calm_goPanic _ | exact calm_runtimePanic _ | exact calm_boundsPanic _ _ _ _ | exact calm_program | exact calm_shape _ | exact calm_getObj _ | exact calm_newObj _ | exact calm_choose _ | exact calm_load _ _ | exact calm_askRoom _ | exact calm_typeInfo _ | exact calm_underlying _ | exact calm_zeroValue _ | exact calm_sizeOf _ | exact calm_isAgg _ | exact calm_elemOf _ | exact calm_newRow _ _ | exact calm_newVar _ _ | exact calm_asIntOf _ | exact calm_asInt _ | exact calm_asBool _ | exact calm_asAgg _ | exact calm_asAddr _ | exact calm_sureAddr _ | exact calm_loadCells _ _ | exact calm_loadVar _ _ | exact calm_part _ _ _ | exact calm_markRoom | exact calm_markExtern _ | apply calm_map | refine calm_bind ?_ (fun _ => ?_)) | split | dsimp only)

theorem calm_cconv (s : FloatKind) (x : Nat) (d : FloatKind) : calm P wr (Op.Complex.conv s x d) := by
  unfold Op.Complex.conv
  repeat' (first | with_reducible (first | exact calm_viewAt _ | exact calm_numberAt _ | exact calm_asNumber _ _ | exact calm_behindNumber _ | exact calm_noView _ | exact calm_byteOf _ | exact calm_partAt _ _ _ | exact calm_fieldPlace _ _ | exact calm_typeStr _ | exact calm_alloc _ | exact calm_box _ _ | exact calm_build _ _ | exact calm_buildSlice _ _ _ | exact calm_loadAt _ _ | exact calm_fieldAt _ _ _ | exact calm_indexAt _ _ _ | exact calm_sliceBound _ _ _ | exact calm_sliceBounds _ _ _ _ _ _ | exact calm_slice _ _ _ _ _ | exact calm_sliceAt _ _ _ _ _ | exact calm_makeChan _ _ | exact calm_makeSlice _ _ _ | exact calm_field _ _ _ | exact calm_index _ _ _ | exact calm_extract _ _ | exact calm_len _ _ _ | exact calm_cap _ _ _ | exact calm_lenOf _ | exact calm_firstCells _ _ _ | exact calm_holdsCells _ _ | exact calm_intArith _ _ _ _ | exact calm_intDiv _ _ _ _ | exact calm_intBits _ _ _ _ | exact calm_intCmp _ _ _ | exact calm_shift _ _ _ _ _ | exact calm_stringOp _ _ _ | exact calm_floatArith _ _ _ _ | exact calm_floatCmp _ _ _ _ | exact calm_twoPlaces _ _ | exact calm_addrSub _ _ _ | exact calm_addrCmp _ _ _ | exact calm_addrMod _ _ _ | exact calm_unsafeAdd _ _ _ | exact calm_movedNumber _ _ _ | exact calm_movedPointer _ _ _ | exact calm_unary _ _ | exact calm_floatToFloat _ _ _ | exact calm_carith _ _ _ _ | exact calm_ccmp _ _ _ _ | exact calm_pure _ | exact calm_stuck _ | exact calm_unsupported _ | exact calm_goPanic _ | exact calm_runtimePanic _ | exact calm_boundsPanic _ _ _ _ | exact calm_program | exact calm_shape _ | exact calm_getObj _ | exact calm_newObj _ | exact calm_choose _ | exact calm_load _ _ | exact calm_askRoom _ | exact calm_typeInfo _ | exact calm_underlying _ | exact calm_zeroValue _ | exact calm_sizeOf _ | exact calm_isAgg _ | exact calm_elemOf _ | exact calm_newRow _ _ | exact calm_newVar _ _ | exact calm_asIntOf _ | exact calm_asInt _ | exact calm_asBool _ | exact calm_asAgg _ | exact calm_asAddr _ | exact calm_sureAddr _ | exact calm_loadCells _ _ | exact calm_loadVar _ _ | exact calm_part _ _ _ | exact calm_markRoom | exact calm_markExtern _ | apply calm_map | refine calm_bind ?_ (fun _ => ?_)) | split | dsimp only)

theorem calm_cadd (x y : Nat) : calm P wr (Op.Complex.add x y) := calm_carith _ _ _ _

theorem calm_csub (x y : Nat) : calm P wr (Op.Complex.sub x y) := calm_carith _ _ _ _

theorem calm_cmul (x y : Nat) : calm P wr (Op.Complex.mul x y) := calm_carith _ _ _ _

theorem calm_cquo (x y : Nat) : calm P wr (Op.Complex.quo x y) := calm_carith _ _ _ _

theorem calm_cproduct (a b c d : Nat) : calm P wr (Op.Complex.product a b c d) := by
  unfold Op.Complex.product
  repeat' (first | with_reducible (first | exact calm_viewAt _ | exact calm_numberAt _ | exact calm_asNumber _ _ | exact calm_behindNumber _ | exact calm_noView _ | exact calm_byteOf _ | exact calm_partAt _ _ _ | exact calm_fieldPlace _ _ | exact calm_typeStr _ | exact calm_alloc _ | exact calm_box _ _ | exact calm_build _ _ | exact calm_buildSlice _ _ _ | exact calm_loadAt _ _ | exact calm_fieldAt _ _ _ | exact calm_indexAt _ _ _ | exact calm_sliceBound _ _ _ | exact calm_sliceBounds _ _ _ _ _ _ | exact calm_slice _ _ _ _ _ | exact calm_sliceAt _ _ _ _ _ | exact calm_makeChan _ _ | exact calm_makeSlice _ _ _ | exact calm_field _ _ _ | exact calm_index _ _ _ | exact calm_extract _ _ | exact calm_len _ _ _ | exact calm_cap _ _ _ | exact calm_lenOf _ | exact calm_firstCells _ _ _ | exact calm_holdsCells _ _ | exact calm_intArith _ _ _ _ | exact calm_intDiv _ _ _ _ | exact calm_intBits _ _ _ _ | exact calm_intCmp _ _ _ | exact calm_shift _ _ _ _ _ | exact calm_stringOp _ _ _ | exact calm_floatArith _ _ _ _ | exact calm_floatCmp _ _ _ _ | exact calm_twoPlaces _ _ | exact calm_addrSub _ _ _ | exact calm_addrCmp _ _ _ | exact calm_addrMod _ _ _ | exact calm_unsafeAdd _ _ _ | exact calm_movedNumber _ _ _ | exact calm_movedPointer _ _ _ | exact calm_unary _ _ | exact calm_floatToFloat _ _ _ | exact calm_carith _ _ _ _ | exact calm_ccmp _ _ _ _ | exact calm_cconv _ _ _ | exact calm_cadd _ _ | exact calm_csub _ _ | exact calm_cmul _ _ | exact calm_cquo _ _ | exact calm_pure _ | exact calm_stuck _ | exact calm_unsupported _ | exact calm_goPanic _ | exact calm_runtimePanic _ | exact calm_boundsPanic _ _ _ _ | exact calm_program | exact calm_shape _ | exact calm_getObj _ | exact calm_newObj _ | exact calm_choose _ | exact calm_load _ _ | exact calm_askRoom _ | exact calm_typeInfo _ | exact calm_underlying _ | exact calm_zeroValue _ | exact calm_sizeOf _ | exact calm_isAgg _ | exact calm_elemOf _ | exact calm_newRow _ _ | exact calm_newVar _ _ | exact calm_asIntOf _ | exact calm_asInt _ | exact calm_asBool _ | exact calm_asAgg _ | exact calm_asAddr _ | exact calm_sureAddr _ | exact calm_loadCells _ _ | exact calm_loadVar _ _ | exact calm_part _ _ _ | exact calm_markRoom | exact calm_markExtern _ | apply calm_map | refine calm_bind ?_ (fun _ => ?_)) | split | dsimp only)

theorem calm_ccorrected (s a b c d : Nat) : calm P wr (Op.Complex.corrected s a b c d) := by
  unfold Op.Complex.corrected
  repeat' (first | with_reducible (first | exact calm_viewAt _ | exact calm_numberAt _ | exact calm_asNumber _ _ | exact calm_behindNumber _ | exact calm_noView _ | exact calm_byteOf _ | exact calm_partAt _ _ _ | exact calm_fieldPlace _ _ | exact calm_typeStr _ | exact calm_alloc _ | exact calm_box _ _ | exact calm_build _ _ | exact calm_buildSlice _ _ _ | exact calm_loadAt _ _ | exact calm_fieldAt _ _ _ | exact calm_indexAt _ _ _ | exact calm_sliceBound _ _ _ | exact calm_sliceBounds _ _ _ _ _ _ | exact calm_slice _ _ _ _ _ | exact calm_sliceAt _ _ _ _ _ | exact calm_makeChan _ _ | exact calm_makeSlice _ _ _ | exact calm_field _ _ _ | exact calm_index _ _ _ | exact calm_extract _ _ | exact calm_len _ _ _ | exact calm_cap _ _ _ | exact calm_lenOf _ | exact calm_firstCells _ _ _ | exact calm_holdsCells _ _ | exact calm_intArith _ _ _ _ | exact calm_intDiv _ _ _ _ | exact calm_intBits _ _ _ _ | exact calm_intCmp _ _ _ | exact calm_shift _ _ _ _ _ | exact calm_stringOp _ _ _ | exact calm_floatArith _ _ _ _ | exact calm_floatCmp _ _ _ _ | exact calm_twoPlaces _ _ | exact calm_addrSub _ _ _ | exact calm_addrCmp _ _ _ | exact calm_addrMod _ _ _ | exact calm_unsafeAdd _ _ _ | exact calm_movedNumber _ _ _ | exact calm_movedPointer _ _ _ | exact calm_unary _ _ | exact calm_floatToFloat _ _ _ | exact calm_carith _ _ _ _ | exact calm_ccmp _ _ _ _ | exact calm_cconv _ _ _ | exact calm_cadd _ _ | exact calm_csub _ _ | exact calm_cmul _ _ | exact calm_cquo _ _ | exact calm_cproduct _ _ _ _ | exact calm_pure _ | exact calm_stuck _ | exact calm_unsupported _ | exact calm_goPanic _ | exact calm_runtimePanic _ | exact calm_boundsPanic _ _ _ _ | exact calm_program | exact calm_shape _ | exact calm_getObj _ | exact calm_newObj _ | exact calm_choose _ | exact calm_load _ _ | exact calm_askRoom _ | exact calm_typeInfo _ | exact calm_underlying _ | exact calm_zeroValue _ | exact calm_sizeOf _ | exact calm_isAgg _ | exact calm_elemOf _ | exact calm_newRow _ _ | exact calm_newVar _ _ | exact calm_asIntOf _ | exact calm_asInt _ | exact calm_asBool _ | exact calm_asAgg _ | exact calm_asAddr _ | exact calm_sureAddr _ | exact calm_loadCells _ _ | exact calm_loadVar _ _ | exact calm_part _ _ _ | exact calm_markRoom | exact calm_markExtern _ | apply calm_map | refine calm_bind ?_ (fun _ => ?_)) | split | dsimp only)

theorem calm_cquotient (a b c d : Nat) : calm P wr (Op.Complex.quotient a b c d) := by
  unfold Op.Complex.quotient
  repeat' (first | with_reducible (first | exact calm_viewAt _ | exact calm_numberAt _ | exact calm_asNumber _ _ | exact calm_behindNumber _ | exact calm_noView _ | exact calm_byteOf _ | exact calm_partAt _ _ _ | exact calm_fieldPlace _ _ | exact calm_typeStr _ | exact calm_alloc _ | exact calm_box _ _ | exact calm_build _ _ | exact calm_buildSlice _ _ _ | exact calm_loadAt _ _ | exact calm_fieldAt _ _ _ | exact calm_indexAt _ _ _ | exact calm_sliceBound _ _ _ | exact calm_sliceBounds _ _ _ _ _ _ | exact calm_slice _ _ _ _ _ | exact calm_sliceAt _ _ _ _ _ | exact calm_makeChan _ _ | exact calm_makeSlice _ _ _ | exact calm_field _ _ _ | exact calm_index _ _ _ | exact calm_extract _ _ | exact calm_len _ _ _ | exact calm_cap _ _ _ | exact calm_lenOf _ | exact calm_firstCells _ _ _ | exact calm_holdsCells _ _ | exact calm_intArith _ _ _ _ | exact calm_intDiv _ _ _ _ | exact calm_intBits _ _ _ _ | exact calm_intCmp _ _ _ | exact calm_shift _ _ _ _ _ | exact calm_stringOp _ _ _ | exact calm_floatArith _ _ _ _ | exact calm_floatCmp _ _ _ _ | exact calm_twoPlaces _ _ | exact calm_addrSub _ _ _ | exact calm_addrCmp _ _ _ | exact calm_addrMod _ _ _ | exact calm_unsafeAdd _ _ _ | exact calm_movedNumber _ _ _ | exact calm_movedPointer _ _ _ | exact calm_unary _ _ | exact calm_floatToFloat _ _ _ | exact calm_carith _ _ _ _ | exact calm_ccmp _ _ _ _ | exact calm_cconv _ _ _ | exact calm_cadd _ _ | exact calm_csub _ _ | exact calm_cmul _ _ | exact calm_cquo _ _ | exact calm_cproduct _ _ _ _ | exact calm_ccorrected _ _ _ _ _ | exact calm_pure _ | exact calm_stuck _ | exact calm_unsupported _ | exact calm_goPanic _ | exact calm_runtimePanic _ | exact calm_boundsPanic _ _ _ _ | exact calm_program | exact calm_shape _ | exact calm_getObj _ | exact calm_newObj _ | exact calm_choose _ | exact calm_load _ _ | exact calm_askRoom _ | exact calm_typeInfo _ | exact calm_underlying _ | exact calm_zeroValue _ | exact calm_sizeOf _ | exact calm_isAgg _ | exact calm_elemOf _ | exact calm_newRow _ _ | exact calm_newVar _ _ | exact calm_asIntOf _ | exact calm_asInt _ | exact calm_asBool _ | exact calm_asAgg _ | exact calm_asAddr _ | exact calm_sureAddr _ | exact calm_loadCells _ _ | exact calm_loadVar _ _ | exact calm_part _ _ _ | exact calm_markRoom | exact calm_markExtern _ | apply calm_map | refine calm_bind ?_ (fun _ => ?_)) | split | dsimp only)

theorem calm_complexOp (op : BinOp) (k : FloatKind) (a b c d : Nat) : calm P wr (Op.complexOp op k a b c d) := by
  unfold Op.complexOp
  repeat' (first | with_reducible (first | exact calm_viewAt _ | exact calm_numberAt _ | exact calm_asNumber _ _ | exact calm_behindNumber _ | exact calm_noView _ | exact calm_byteOf _ | exact calm_partAt _ _ _ | exact calm_fieldPlace _ _ | exact calm_typeStr _ | exact calm_alloc _ | exact calm_box _ _ | exact calm_build _ _ | exact calm_buildSlice _ _ _ | exact calm_loadAt _ _ | exact calm_fieldAt _ _ _ | exact calm_indexAt _ _ _ | exact calm_sliceBound _ _ _ | exact calm_sliceBounds _ _ _ _ _ _ | exact calm_slice _ _ _ _ _ | exact calm_sliceAt _ _ _ _ _ | exact calm_makeChan _ _ | exact calm_makeSlice _ _ _ | exact calm_field _ _ _ | exact calm_index _ _ _ | exact calm_extract _ _ | exact calm_len _ _ _ | exact calm_cap _ _ _ | exact calm_lenOf _ | exact calm_firstCells _ _ _ | exact calm_holdsCells _ _ | exact calm_intArith _ _ _ _ | exact calm_intDiv _ _ _ _ | exact calm_intBits _ _ _ _ | exact calm_intCmp _ _ _ | exact calm_shift _ _ _ _ _ | exact calm_stringOp _ _ _ | exact calm_floatArith _ _ _ _ | exact calm_floatCmp _ _ _ _ | exact calm_twoPlaces _ _ | exact calm_addrSub _ _ _ | exact calm_addrCmp _ _ _ | exact calm_addrMod _ _ _ | exact calm_unsafeAdd _ _ _ | exact calm_movedNumber _ _ _ | exact calm_movedPointer _ _ _ | exact calm_unary _ _ | exact calm_floatToFloat _ _ _ | exact calm_carith _ _ _ _ | exact calm_ccmp _ _ _ _ | exact calm_cconv _ _ _ | exact calm_cadd _ _ | exact calm_csub _ _ | exact calm_cmul _ _ | exact calm_cquo _ _ | exact calm_cproduct _ _ _ _ | exact calm_ccorrected _ _ _ _ _ | exact calm_cquotient _ _ _ _ | exact calm_pure _ | exact calm_stuck _ | exact calm_unsupported _ | exact calm_goPanic _ | exact calm_runtimePanic _ | exact calm_boundsPanic _ _ _ _ | exact calm_program | exact calm_shape _ | exact calm_getObj _ | exact calm_newObj _ | exact calm_choose _ | exact calm_load _ _ | exact calm_askRoom _ | exact calm_typeInfo _ | exact calm_underlying _ | exact calm_zeroValue _ | exact calm_sizeOf _ | exact calm_isAgg _ | exact calm_elemOf _ | exact calm_newRow _ _ | exact calm_newVar _ _ | exact calm_asIntOf _ | exact calm_asInt _ | exact calm_asBool _ | exact calm_asAgg _ | exact calm_asAddr _ | exact calm_sureAddr _ | exact calm_loadCells _ _ | exact calm_loadVar _ _ | exact calm_part _ _ _ | exact calm_markRoom | exact calm_markExtern _ | apply calm_map | refine calm_bind ?_ (fun _ => ?_)) | split | dsimp only)

theorem calm_eqGuard (op : BinOp) (t : TypeId) (x y : Operand) (a b : Value) : calm P wr (eqGuard op t x y a b) := by
  unfold eqGuard
  repeat' (first | with_reducible (first | exact calm_viewAt _ | exact calm_numberAt _ | exact calm_asNumber _ _ | exact calm_behindNumber _ | exact calm_noView _ | exact calm_byteOf _ | exact calm_partAt _ _ _ | exact calm_fieldPlace _ _ | exact calm_typeStr _ | exact calm_alloc _ | exact calm_box _ _ | exact calm_build _ _ | exact calm_buildSlice _ _ _ | exact calm_loadAt _ _ | exact calm_fieldAt _ _ _ | exact calm_indexAt _ _ _ | exact calm_sliceBound _ _ _ | exact calm_sliceBounds _ _ _ _ _ _ | exact calm_slice _ _ _ _ _ | exact calm_sliceAt _ _ _ _ _ | exact calm_makeChan _ _ | exact calm_makeSlice _ _ _ | exact calm_field _ _ _ | exact calm_index _ _ _ | exact calm_extract _ _ | exact calm_len _ _ _ | exact calm_cap _ _ _ | exact calm_lenOf _ | exact calm_firstCells _ _ _ | exact calm_holdsCells _ _ | exact calm_intArith _ _ _ _ | exact calm_intDiv _ _ _ _ | exact calm_intBits _ _ _ _ | exact calm_intCmp _ _ _ | exact calm_shift _ _ _ _ _ | exact calm_stringOp _ _ _ | exact calm_floatArith _ _ _ _ | exact calm_floatCmp _ _ _ _ | exact calm_twoPlaces _ _ | exact calm_addrSub _ _ _ | exact calm_addrCmp _ _ _ | exact calm_addrMod _ _ _ | exact calm_unsafeAdd _ _ _ | exact calm_movedNumber _ _ _ | exact calm_movedPointer _ _ _ | exact calm_unary _ _ | exact calm_floatToFloat _ _ _ | exact calm_carith _ _ _ _ | exact calm_ccmp _ _ _ _ | exact calm_cconv _ _ _ | exact calm_cadd _ _ | exact calm_csub _ _ | exact calm_cmul _ _ | exact calm_cquo _ _ | exact calm_cproduct _ _ _ _ | exact calm_ccorrected _ _ _ _ _ | exact calm_cquotient _ _ _ _ | exact calm_complexOp _ _ _ _ _ _ | exact calm_equalIn _ _ _ _ | exact calm_eqGuardIn _ _ _ _ | exact calm_equal _ _ _ | exact calm_pure _ | exact calm_stuck _ | exact calm_unsupported _ | exact calm_goPanic _ | exact calm_runtimePanic _ | exact calm_boundsPanic _ _ _ _ | exact calm_program | exact calm_shape _ | exact calm_getObj _ | exact calm_newObj _ | exact calm_choose _ | exact calm_load _ _ | exact calm_askRoom _ | exact calm_typeInfo _ | exact calm_underlying _ | exact calm_zeroValue _ | exact calm_sizeOf _ | exact calm_isAgg _ | exact calm_elemOf _ | exact calm_newRow _ _ | exact calm_newVar _ _ | exact calm_asIntOf _ | exact calm_asInt _ | exact calm_asBool _ | exact calm_asAgg _ | exact calm_asAddr _ | exact calm_sureAddr _ | exact calm_loadCells _ _ | exact calm_loadVar _ _ | exact calm_part _ _ _ | exact calm_markRoom | exact calm_markExtern _ | apply calm_map | refine calm_bind ?_ (fun _ => ?_)) | split | dsimp only)

def isNil : Operand → Bool
  | .const (.pointer none) => true
  | _ => false
/-- A comparison of pointers is with nil alone. -/
def eqOk (P : Program) (op : BinOp) (t : TypeId) (x y : Operand) : Bool :=
  match op with
  | .eql | .neq => flatT P t || (isPtr P t && (isNil x || isNil y))
  | _ => true
theorem calm_binOp (op : BinOp) (t : TypeId) (x y : Value) (hq : op = .eql ∨ op = .neq → calm P wr (Op.equal t x y)) : calm P wr (binOp op t x y) := by
  unfold binOp
  repeat' (first | with_reducible (first | exact calm_viewAt _ | exact calm_numberAt _ | exact calm_asNumber _ _ | exact calm_behindNumber _ | exact calm_noView _ | exact calm_byteOf _ | exact calm_partAt _ _ _ | exact calm_fieldPlace _ _ | exact calm_typeStr _ | exact calm_alloc _ | exact calm_box _ _ | exact calm_build _ _ | exact calm_buildSlice _ _ _ | exact calm_loadAt _ _ | exact calm_fieldAt _ _ _ | exact calm_indexAt _ _ _ | exact calm_sliceBound _ _ _ | exact calm_sliceBounds _ _ _ _ _ _ | exact calm_slice _ _ _ _ _ | exact calm_sliceAt _ _ _ _ _ | exact calm_makeChan _ _ | exact calm_makeSlice _ _ _ | exact calm_field _ _ _ | exact calm_index _ _ _ | exact calm_extract _ _ | exact calm_len _ _ _ | exact calm_cap _ _ _ | exact calm_lenOf _ | exact calm_firstCells _ _ _ | exact calm_holdsCells _ _ | exact calm_intArith _ _ _ _ | exact calm_intDiv _ _ _ _ | exact calm_intBits _ _ _ _ | exact calm_intCmp _ _ _ | exact calm_shift _ _ _ _ _ | exact calm_stringOp _ _ _ | exact calm_floatArith _ _ _ _ | exact calm_floatCmp _ _ _ _ | exact calm_twoPlaces _ _ | exact calm_addrSub _ _ _ | exact calm_addrCmp _ _ _ | exact calm_addrMod _ _ _ | exact calm_unsafeAdd _ _ _ | exact calm_movedNumber _ _ _ | exact calm_movedPointer _ _ _ | exact calm_unary _ _ | exact calm_floatToFloat _ _ _ | exact calm_carith _ _ _ _ | exact calm_ccmp _ _ _ _ | exact calm_cconv _ _ _ | exact calm_cadd _ _ | exact calm_csub _ _ | exact calm_cmul _ _ | exact calm_cquo _ _ | exact calm_cproduct _ _ _ _ | exact calm_ccorrected _ _ _ _ _ | exact calm_cquotient _ _ _ _ | exact calm_complexOp _ _ _ _ _ _ | exact calm_equalIn _ _ _ _ | exact calm_eqGuardIn _ _ _ _ | exact hq (.inl rfl) | exact hq (.inr rfl) | exact calm_eqGuard _ _ _ _ _ _ | exact calm_pure _ | exact calm_stuck _ | exact calm_unsupported _ | exact calm_goPanic _ | exact calm_runtimePanic _ | exact calm_boundsPanic _ _ _ _ | exact calm_program | exact calm_shape _ | exact calm_getObj _ | exact calm_newObj _ | exact calm_choose _ | exact calm_load _ _ | exact calm_askRoom _ | exact calm_typeInfo _ | exact calm_underlying _ | exact calm_zeroValue _ | exact calm_sizeOf _ | exact calm_isAgg _ | exact calm_elemOf _ | exact calm_newRow _ _ | exact calm_newVar _ _ | exact calm_asIntOf _ | exact calm_asInt _ | exact calm_asBool _ | exact calm_asAgg _ | exact calm_asAddr _ | exact calm_sureAddr _ | exact calm_loadCells _ _ | exact calm_loadVar _ _ | exact calm_part _ _ _ | exact calm_markRoom | exact calm_markExtern _ | apply calm_map | refine calm_bind ?_ (fun _ => ?_)) | split | dsimp only)

end
end Go.Lift

namespace Go.Lift
section
variable {P : Program} {wr : Bool}
theorem calm_ite {α : Type} {c : Prop} [Decidable c] {a b : Sem α} (ha : calm P wr a) (hb : calm P wr b) : calm P wr (if c then a else b) := by split <;> assumption
/-- As 'calm', but that it may ask whether a cell is frozen. -/
def calm0 (P : Program) (wr : Bool) {α : Type} : Sem α → Prop
  | .pure _ => True
  | .load _ _ k => ∀ v, calm0 P wr (k v)
  | .store _ _ _ k => wr = true ∧ calm0 P wr k
  | .new _ k => ∀ r, calm0 P wr (k r)
  | .shape _ k => ∀ s, calm0 P wr (k s)
  | .freeze _ _ _ => False
  | .frozen _ k => ∀ b, calm0 P wr (k b)
  | .getObj _ k => ∀ o, calm0 P wr (k o)
  | .setObj _ _ _ => False
  | .choose _ k => ∀ n, calm0 P wr (k n)
  | .sys _ _ => False
  | .program k => calm0 P wr (k P)
  | .mark m k => (m = .noRoom ∨ ∃ f, m = .extern f) ∧ calm0 P wr k
  | .halt h => Soft h
theorem dead_right {α β : Type} {f : α → Sem β} (hf : ∀ a, dead P (f a)) : ∀ {s : Sem α}, calm0 P wr s → dead P (s.bind f) := by
  intro s
  induction s with
  | pure a => intro h; exact hf a
  | load m a k ih => intro h v; exact ih v (h v)
  | store m a v k ih => intro h; exact ih h.2
  | new o k ih => intro h r; exact ih r (h r)
  | shape r k ih => intro h s; exact ih s (h s)
  | freeze a n k ih => intro h; exact h.elim
  | frozen a k ih => intro h b; exact ih b (h b)
  | getObj r k ih => intro h o; exact ih o (h o)
  | setObj r o k ih => intro h; exact h.elim
  | choose q k ih => intro h n; exact ih n (h n)
  | sys c k ih => intro h; exact h.elim
  | program k ih => intro h; exact ih P h
  | mark m k ih => intro h; exact ih h.2
  | halt x => intro h; trivial
theorem calm_dead {α β : Type} {f : α → Sem β} (hf : ∀ a, calm P wr (f a) ∧ dead P (f a)) : ∀ {s : Sem α}, calm0 P wr s → calm P wr (s.bind f) := by
  intro s
  induction s with
  | pure a => intro h; exact (hf a).1
  | load m a k ih => intro h v; exact ih v (h v)
  | store m a v k ih => intro h; exact ⟨h.1, ih h.2⟩
  | new o k ih => intro h r; exact ih r (h r)
  | shape r k ih => intro h s; exact ih s (h s)
  | freeze a n k ih => intro h; exact h.elim
  | frozen a k ih => intro h; exact ⟨fun b => ih b (h b), dead_right (fun a => (hf a).2) (h true)⟩
  | getObj r k ih => intro h o; exact ih o (h o)
  | setObj r o k ih => intro h; exact h.elim
  | choose q k ih => intro h n; exact ih n (h n)
  | sys c k ih => intro h; exact h.elim
  | program k ih => intro h; exact ih P h
  | mark m k ih => intro h; exact ⟨h.1, ih h.2⟩
  | halt x => intro h; exact h
theorem calm0_mayShare (s l n : Nat) (b : Option Addr) (x : Value) : calm0 P wr (Builtin.mayShare s l n b x) := by
  have hh : ∀ (a : Addr) (m : Nat) {β : Type} (f : Bool → Sem β), (∀ t, calm0 P wr (f t)) → calm0 P wr ((Builtin.holdsCells a m).bind f) := fun a m β f hf => by
    unfold Builtin.holdsCells
    intro s
    cases s with
    | none => exact hf _
    | some s => exact hf _
  have tail : ∀ there : Bool, calm0 P wr (if (!there) = true then pure true else match x with
      | .slice (some bb) _ _ => do pure (!(← Builtin.holdsCells bb (n * s)) || b.any (·.block == bb.block))
      | _ => pure false : Sem Bool) := fun there => by
    split
    · trivial
    · split
      · exact hh _ _ _ fun _ => trivial
      · trivial
  unfold Builtin.mayShare
  cases b with
  | none => exact tail true
  | some a => exact hh _ _ _ fun t u => tail _
theorem calm_share {β : Type} {s l n : Nat} {b : Option Addr} {x : Value} {f : Bool → Sem β} (hf : ∀ a, calm P wr (f a) ∧ dead P (f a)) : calm P wr (Builtin.mayShare s l n b x >>= f) := calm_dead hf (calm0_mayShare _ _ _ _ _)
theorem calm_ends {a b c : Nat} {o : Option Addr} {x : Value} {y : String} : calm P wr (do
      if !(← Builtin.mayShare a b c o x) then mark .noRoom
      unsupported (.resourceLimit y) : Sem Unit) := by
  refine calm_share (fun t => ?_)
  cases t
  · refine ⟨?_, ?_⟩
    · exact calm_bind calm_markRoom fun _ => calm_unsupported _
    · trivial
  · refine ⟨?_, ?_⟩
    · exact calm_unsupported _
    · trivial
set_option maxHeartbeats 0 in
theorem calm_append (h : wr = true) (ts : Array TypeId) (t : TypeId) (as : Array Value) : calm P wr (Builtin.append_ ts t as) := by
  unfold Builtin.append_
  repeat' (first | exact calm_ends | with_reducible (first | exact calm_storeCells h _ _ _ | exact calm_firstCells _ _ _ | exact calm_lenOf _ | exact calm_pure _ | exact calm_stuck _ | exact calm_unsupported _ | exact calm_runtimePanic _ | exact calm_choose _ | exact calm_askRoom _ | exact calm_typeInfo _ | exact calm_underlying _ | exact calm_zeroValue _ | exact calm_sizeOf _ | exact calm_newRow _ _ | exact calm_asInt _ | exact calm_markRoom | refine calm_ite ?_ ?_ | refine calm_bind ?_ (fun _ => ?_)) | split | dsimp only)
end
end Go.Lift
