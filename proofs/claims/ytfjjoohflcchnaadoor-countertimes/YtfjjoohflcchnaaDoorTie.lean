/-
  DERIVED. GIVEN WITH THE SEED: THE PROGRAM's TIES (one call each: nine closed facts by the kernel) AND EACH ROW's TIE, after the 31st guide's Derived/Test/Toyas{Tie, Card}.lean. No idea stands in it: it is a product of the set-up. Laid BY PROGRAM, IN A SANDBOX (cutbox-door.mjs). By AI agents, Wed Nov 11 2026. No macro, syntax, notation, axiom, sorry.
-/
import Derived.Test.YtfjjoohflcchnaaDoorRows
import Derived.LaidByTextLater
import Derived.SevenTiedAt
import Derived.LaidSub
import Derived.LaidOnce
namespace Go.Proofs.YtfjjoohflcchnaaDoor
open Go
set_option maxRecDepth 100000
theorem seatTie1 : Tryd.prog.laidByTextLater [("butler/counter.fieldAmount", Rows.laid_butler_counter_fieldAmount), ("butler/counter.fieldVersion", Rows.laid_butler_counter_fieldVersion), ("butler/kept.fieldState", Rows.laid_butler_kept_fieldState), ("butler/kept.fieldWho", Rows.laid_butler_kept_fieldWho), ("butler/kept.fieldCode", Rows.laid_butler_kept_fieldCode), ("butler/slots.fieldFirst", Rows.laid_butler_slots_fieldFirst), ("butler/slots.fieldVersion", Rows.laid_butler_slots_fieldVersion), ("butler/stack.fieldTop", Rows.laid_butler_stack_fieldTop), ("butler/stack.fieldVersion", Rows.laid_butler_stack_fieldVersion)] [.data, .data, .data, .data, .data, .data, .data, .data, .data] true :=
  Program.laidByTextLater_by_one 54 8 3 (by kernel_rfl) (by kernel_rfl) (by kernel_rfl) (by kernel_rfl) (by kernel_rfl) (by kernel_rfl) (fun _ _ => by kernel_rfl)
theorem noOwnUnsafe : Tryd.pinned.checked.prog.headLifts.contains "ownunsafe" = false := by kernel_rfl
theorem tie : Tryd.prog.laidByTextLater [("butler/kept.fieldState", Rows.laid_butler_kept_fieldState), ("butler/kept.fieldWho", Rows.laid_butler_kept_fieldWho), ("butler/kept.fieldCode", Rows.laid_butler_kept_fieldCode)] [.data, .data, .data] true :=
  Program.laidByTextLater.sub seatTie1 ["butler/kept.fieldState", "butler/kept.fieldWho", "butler/kept.fieldCode"] (by kernel_rfl) (by kernel_rfl)
theorem onceOnce_row_tie : Rows.onceOnceRow.laidByTextAt .later Tryd.pinned [.data, .data, .data] true :=
  OpenClaim.laidByTextAt_later rfl rfl tie noOwnUnsafe
theorem onceLinear_row_tie : Rows.onceLinearRow.laidByTextAt .later Tryd.pinned [.data, .data, .data] true :=
  OpenClaim.laidByTextAt_later rfl rfl tie noOwnUnsafe
theorem onceAlone_row_tie : Rows.onceAloneRow.laidByTextAt .later Tryd.pinned [.data, .data, .data] true :=
  OpenClaim.laidByTextAt_later rfl rfl tie noOwnUnsafe
theorem tie2 : Tryd.prog.laidByTextLater [("butler/slots.fieldFirst", Rows.laid_butler_slots_fieldFirst), ("butler/slots.fieldVersion", Rows.laid_butler_slots_fieldVersion)] [.data, .data] true :=
  Program.laidByTextLater.sub seatTie1 ["butler/slots.fieldFirst", "butler/slots.fieldVersion"] (by kernel_rfl) (by kernel_rfl)
theorem slotsNames_row_tie : Rows.slotsNamesRow.laidByTextAt .later Tryd.pinned [.data, .data] true :=
  OpenClaim.laidByTextAt_later rfl rfl tie2 noOwnUnsafe
theorem slotsWhole_row_tie : Rows.slotsWholeRow.laidByTextAt .later Tryd.pinned [.data, .data] true :=
  OpenClaim.laidByTextAt_later rfl rfl tie2 noOwnUnsafe
theorem slotsAlone_row_tie : Rows.slotsAloneRow.laidByTextAt .later Tryd.pinned [.data, .data] true :=
  OpenClaim.laidByTextAt_later rfl rfl tie2 noOwnUnsafe
theorem slotsFree_row_tie : Rows.slotsFreeRow.laidByTextAt .later Tryd.pinned [.data, .data] true :=
  OpenClaim.laidByTextAt_later rfl rfl tie2 noOwnUnsafe
theorem tie3 : Tryd.prog.laidByTextLater [("butler/slots.fieldFirst", Rows.laid_butler_slots_fieldFirst), ("butler/slots.fieldVersion", Rows.laid_butler_slots_fieldVersion), ("butler/stack.fieldTop", Rows.laid_butler_stack_fieldTop), ("butler/stack.fieldVersion", Rows.laid_butler_stack_fieldVersion)] [.data, .data, .data, .data] true :=
  Program.laidByTextLater.sub seatTie1 ["butler/slots.fieldFirst", "butler/slots.fieldVersion", "butler/stack.fieldTop", "butler/stack.fieldVersion"] (by kernel_rfl) (by kernel_rfl)
theorem stackKeeps_row_tie : Rows.stackKeepsRow.laidByTextAt .later Tryd.pinned [.data, .data, .data, .data] true :=
  OpenClaim.laidByTextAt_later rfl rfl tie3 noOwnUnsafe
theorem stackLinear_row_tie : Rows.stackLinearRow.laidByTextAt .later Tryd.pinned [.data, .data, .data, .data] true :=
  OpenClaim.laidByTextAt_later rfl rfl tie3 noOwnUnsafe
theorem stackVersions_row_tie : Rows.stackVersionsRow.laidByTextAt .later Tryd.pinned [.data, .data, .data, .data] true :=
  OpenClaim.laidByTextAt_later rfl rfl tie3 noOwnUnsafe
theorem tie4 : Tryd.prog.laidByTextLater [("butler/counter.fieldAmount", Rows.laid_butler_counter_fieldAmount), ("butler/counter.fieldVersion", Rows.laid_butler_counter_fieldVersion)] [.data, .data] true :=
  Program.laidByTextLater.sub seatTie1 ["butler/counter.fieldAmount", "butler/counter.fieldVersion"] (by kernel_rfl) (by kernel_rfl)
theorem counterLinear_row_tie : Rows.counterLinearRow.laidByTextAt .later Tryd.pinned [.data, .data] true :=
  OpenClaim.laidByTextAt_later rfl rfl tie4 noOwnUnsafe
theorem counterTimes_row_tie : Rows.counterTimesRow.laidByTextAt .later Tryd.pinned [.data, .data] true :=
  OpenClaim.laidByTextAt_later rfl rfl tie4 noOwnUnsafe
theorem counterAlone_row_tie : Rows.counterAloneRow.laidByTextAt .later Tryd.pinned [.data, .data] true :=
  OpenClaim.laidByTextAt_later rfl rfl tie4 noOwnUnsafe
theorem onceOnceUpto_row_tie : Rows.onceOnceUptoRow.laidByTextAt .later Tryd.pinned [.data, .data, .data] true :=
  OpenClaim.laidByTextAt_later rfl rfl tie noOwnUnsafe
theorem onceLinearUpto_row_tie : Rows.onceLinearUptoRow.laidByTextAt .later Tryd.pinned [.data, .data, .data] true :=
  OpenClaim.laidByTextAt_later rfl rfl tie noOwnUnsafe
theorem onceAloneUpto_row_tie : Rows.onceAloneUptoRow.laidByTextAt .later Tryd.pinned [.data, .data, .data] true :=
  OpenClaim.laidByTextAt_later rfl rfl tie noOwnUnsafe
theorem slotsNamesUpto_row_tie : Rows.slotsNamesUptoRow.laidByTextAt .later Tryd.pinned [.data, .data] true :=
  OpenClaim.laidByTextAt_later rfl rfl tie2 noOwnUnsafe
theorem slotsWholeUpto_row_tie : Rows.slotsWholeUptoRow.laidByTextAt .later Tryd.pinned [.data, .data] true :=
  OpenClaim.laidByTextAt_later rfl rfl tie2 noOwnUnsafe
theorem slotsAloneUpto_row_tie : Rows.slotsAloneUptoRow.laidByTextAt .later Tryd.pinned [.data, .data] true :=
  OpenClaim.laidByTextAt_later rfl rfl tie2 noOwnUnsafe
theorem slotsFreeUpto_row_tie : Rows.slotsFreeUptoRow.laidByTextAt .later Tryd.pinned [.data, .data] true :=
  OpenClaim.laidByTextAt_later rfl rfl tie2 noOwnUnsafe
theorem stackKeepsUpto_row_tie : Rows.stackKeepsUptoRow.laidByTextAt .later Tryd.pinned [.data, .data, .data, .data] true :=
  OpenClaim.laidByTextAt_later rfl rfl tie3 noOwnUnsafe
theorem stackLinearUpto_row_tie : Rows.stackLinearUptoRow.laidByTextAt .later Tryd.pinned [.data, .data, .data, .data] true :=
  OpenClaim.laidByTextAt_later rfl rfl tie3 noOwnUnsafe
theorem stackVersionsUpto_row_tie : Rows.stackVersionsUptoRow.laidByTextAt .later Tryd.pinned [.data, .data, .data, .data] true :=
  OpenClaim.laidByTextAt_later rfl rfl tie3 noOwnUnsafe
theorem counterLinearUpto_row_tie : Rows.counterLinearUptoRow.laidByTextAt .later Tryd.pinned [.data, .data] true :=
  OpenClaim.laidByTextAt_later rfl rfl tie4 noOwnUnsafe
theorem counterTimesUpto_row_tie : Rows.counterTimesUptoRow.laidByTextAt .later Tryd.pinned [.data, .data] true :=
  OpenClaim.laidByTextAt_later rfl rfl tie4 noOwnUnsafe
theorem counterAloneUpto_row_tie : Rows.counterAloneUptoRow.laidByTextAt .later Tryd.pinned [.data, .data] true :=
  OpenClaim.laidByTextAt_later rfl rfl tie4 noOwnUnsafe
end Go.Proofs.YtfjjoohflcchnaaDoor
