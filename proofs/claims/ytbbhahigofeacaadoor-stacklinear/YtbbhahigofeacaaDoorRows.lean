/-
  NARROWER THAN 'FOR EVERY INPUT', by the rows' own cells (each row's printed sentence says how): SlotsNames: laid · SlotsWhole: laid · SlotsAlone: laid · SlotsFree: laid · StackKeeps: laid · StackLinear: laid · StackVersions: laid.
  DERIVED. THE GIVEN ROWS OF THIS SEAT. 7 by the template 'for every input the law returns true; each argument reads behind the call as it read before'; 0 by the template 'total and deterministic' (their statements: YtbbhahigofeacaaDoorTotals.lean).
  GIVEN WITH THE SEED: the statements are not yours to turn. If you find one false, say at which input.
  Laid BY PROGRAM, IN A SANDBOX (cutbox-rows.mjs): the forced cells as the released guide's own fill.sh prints them over the translation ebeeb2b090d7c298… (all of the seat's roots in one cut). By AI agents, Wed Nov 11 2026. No macro, syntax, notation, axiom, sorry.
-/
import Derived.Test.YtbbhahigofeacaaDoorChecked
import GoSem.Claim
import GoSem.ClaimJoined
import GoSem.ClaimMapViews
import Derived.JoinedTies
import Derived.KernelRfl
namespace Go.Proofs.YtbbhahigofeacaaDoor
/- THE CELL 'sum', in the pinned program and in every row, IS THE sha256 OF THE DUMP (.gsa) THAT YtbbhahigofeacaaDoorProg.lean LOADS. Nothing in Lean hashes anything: it is a label: what it is worth is what the hold of that sum in a sandbox is worth. -/
noncomputable def Tryd.pinned : Pinned := { name := "ytbbhahigofeacaadoor", sum := "ebeeb2b090d7c2986b5b182f11cddd8dd6138afdd888748bf9d4dd795c6e9044", checked := Tryd.checked }
namespace Rows
def none {H : Type} : Left H := { results := [], args := [] }

/- WHAT THE LISTED PACKAGE-LEVEL VARIABLES READ AS WHEN THE CALL BEGINS. Each datum BY PROGRAM (the guide's laid-datum.mjs) off the statement by which the dump's own 'gosem.cut.vars' lays the variable. In a bare row this is a premise. The card (YtbbhahigofeacaaDoorCards.lean) ties it to the program's text. -/
def laid_butler_slots_fieldFirst {H : Type} : DataW H := .agg [.lit (.int .i64 0), .lit (.int .i64 32)]
def laid_butler_slots_fieldVersion {H : Type} : DataW H := .agg [.lit (.int .i64 32), .lit (.int .i64 30)]
def laid_butler_stack_fieldTop {H : Type} : DataW H := .agg [.lit (.int .i64 0), .lit (.int .i64 32)]
def laid_butler_stack_fieldVersion {H : Type} : DataW H := .agg [.lit (.int .i64 32), .lit (.int .i64 30)]

/-- 'butlerlaw08.SlotsNames': WHATEVER THE INPUT: true; the input reads as it did. -/
def slotsNamesSpec : ChangeSpec := { name := "slotsNames", fn := fun _ => fun
  | [] => { results := [.lit (.bool true)], args := [] }
  | _ => none }
def slotsNamesRow : OpenClaim := { program := "ytbbhahigofeacaadoor", sum := "ebeeb2b090d7c2986b5b182f11cddd8dd6138afdd888748bf9d4dd795c6e9044", func := "butler/butlerlaw08.SlotsNames", spec := "slotsNames", inPlace := ["sync/atomic.SwapInt64", "sync/atomic.LoadInt64", "sync/atomic.CompareAndSwapInt64", "(*sync.WaitGroup).Add", "internal/race.ReleaseMerge", "internal/race.Disable", "internal/race.Enable", "internal/synctest.IsInBubble", "internal/synctest.Associate[sync.WaitGroup]", "sync.fatal", "sync/atomic.OrUint64", "sync/atomic.AddUint64", "internal/race.Read", "sync/atomic.LoadUint64", "sync/atomic.StoreUint64", "internal/synctest.Disassociate[sync.WaitGroup]", "sync.runtime_Semrelease", "(*sync.WaitGroup).Done", "(*sync.WaitGroup).Wait", "internal/race.Acquire", "internal/synctest.IsAssociated[sync.WaitGroup]", "sync/atomic.CompareAndSwapUint64", "internal/race.Write", "sync.runtime_SemacquireWaitGroup"], unfollowed := true, recurses := true, named := ["butler/slots.fieldFirst", "butler/slots.fieldVersion"], leaving := true, apart := false, laid := [("butler/slots.fieldFirst", laid_butler_slots_fieldFirst), ("butler/slots.fieldVersion", laid_butler_slots_fieldVersion)] }
def SlotsNamesSaid : Prop := slotsNamesRow.holds Tryd.pinned (OpenSpec.ofChange slotsNamesSpec)

/-- ITS FALSE NEIGHBOUR: 'it returns false'. Refute it at one input. -/
def slotsNamesWrong : ChangeSpec := { name := "slotsNames", fn := fun _ => fun
  | [] => { results := [.lit (.bool false)], args := [] }
  | _ => none }
def SlotsNamesWrongFalsely : Prop := slotsNamesRow.holds Tryd.pinned (OpenSpec.ofChange slotsNamesWrong)

/-- 'butlerlaw08.SlotsWhole': WHATEVER THE INPUT: true; the input reads as it did. -/
def slotsWholeSpec : ChangeSpec := { name := "slotsWhole", fn := fun _ => fun
  | [d1, d2, d3] => { results := [.lit (.bool true)], args := [d1, d2, d3] }
  | _ => none }
def slotsWholeRow : OpenClaim := { program := "ytbbhahigofeacaadoor", sum := "ebeeb2b090d7c2986b5b182f11cddd8dd6138afdd888748bf9d4dd795c6e9044", func := "butler/butlerlaw08.SlotsWhole", spec := "slotsWhole", inPlace := ["sync/atomic.SwapInt64", "sync/atomic.LoadInt64", "sync/atomic.CompareAndSwapInt64", "(*sync.WaitGroup).Add", "internal/race.ReleaseMerge", "internal/race.Disable", "internal/race.Enable", "internal/synctest.IsInBubble", "internal/synctest.Associate[sync.WaitGroup]", "sync.fatal", "sync/atomic.OrUint64", "sync/atomic.AddUint64", "internal/race.Read", "sync/atomic.LoadUint64", "sync/atomic.StoreUint64", "internal/synctest.Disassociate[sync.WaitGroup]", "sync.runtime_Semrelease", "(*sync.WaitGroup).Done", "(*sync.WaitGroup).Wait", "internal/race.Acquire", "internal/synctest.IsAssociated[sync.WaitGroup]", "sync/atomic.CompareAndSwapUint64", "internal/race.Write", "sync.runtime_SemacquireWaitGroup"], unfollowed := true, recurses := true, named := ["butler/slots.fieldFirst", "butler/slots.fieldVersion"], leaving := true, apart := false, laid := [("butler/slots.fieldFirst", laid_butler_slots_fieldFirst), ("butler/slots.fieldVersion", laid_butler_slots_fieldVersion)] }
def SlotsWholeSaid : Prop := slotsWholeRow.holds Tryd.pinned (OpenSpec.ofChange slotsWholeSpec)

/-- ITS FALSE NEIGHBOUR: 'it returns false'. Refute it at one input. -/
def slotsWholeWrong : ChangeSpec := { name := "slotsWhole", fn := fun _ => fun
  | [d1, d2, d3] => { results := [.lit (.bool false)], args := [d1, d2, d3] }
  | _ => none }
def SlotsWholeWrongFalsely : Prop := slotsWholeRow.holds Tryd.pinned (OpenSpec.ofChange slotsWholeWrong)

/-- 'butlerlaw08.SlotsAlone': WHATEVER THE INPUT: true; the input reads as it did. -/
def slotsAloneSpec : ChangeSpec := { name := "slotsAlone", fn := fun _ => fun
  | [d1, d2] => { results := [.lit (.bool true)], args := [d1, d2] }
  | _ => none }
def slotsAloneRow : OpenClaim := { program := "ytbbhahigofeacaadoor", sum := "ebeeb2b090d7c2986b5b182f11cddd8dd6138afdd888748bf9d4dd795c6e9044", func := "butler/butlerlaw08.SlotsAlone", spec := "slotsAlone", inPlace := ["sync/atomic.SwapInt64", "sync/atomic.LoadInt64", "sync/atomic.CompareAndSwapInt64", "(*sync.WaitGroup).Add", "internal/race.ReleaseMerge", "internal/race.Disable", "internal/race.Enable", "internal/synctest.IsInBubble", "internal/synctest.Associate[sync.WaitGroup]", "sync.fatal", "sync/atomic.OrUint64", "sync/atomic.AddUint64", "internal/race.Read", "sync/atomic.LoadUint64", "sync/atomic.StoreUint64", "internal/synctest.Disassociate[sync.WaitGroup]", "sync.runtime_Semrelease", "(*sync.WaitGroup).Done", "(*sync.WaitGroup).Wait", "internal/race.Acquire", "internal/synctest.IsAssociated[sync.WaitGroup]", "sync/atomic.CompareAndSwapUint64", "internal/race.Write", "sync.runtime_SemacquireWaitGroup"], unfollowed := true, recurses := true, named := ["butler/slots.fieldFirst", "butler/slots.fieldVersion"], leaving := true, apart := false, laid := [("butler/slots.fieldFirst", laid_butler_slots_fieldFirst), ("butler/slots.fieldVersion", laid_butler_slots_fieldVersion)] }
def SlotsAloneSaid : Prop := slotsAloneRow.holds Tryd.pinned (OpenSpec.ofChange slotsAloneSpec)

/-- ITS FALSE NEIGHBOUR: 'it returns false'. Refute it at one input. -/
def slotsAloneWrong : ChangeSpec := { name := "slotsAlone", fn := fun _ => fun
  | [d1, d2] => { results := [.lit (.bool false)], args := [d1, d2] }
  | _ => none }
def SlotsAloneWrongFalsely : Prop := slotsAloneRow.holds Tryd.pinned (OpenSpec.ofChange slotsAloneWrong)

/-- 'butlerlaw08.SlotsFree': WHATEVER THE INPUT: true; the input reads as it did. -/
def slotsFreeSpec : ChangeSpec := { name := "slotsFree", fn := fun _ => fun
  | [d1, d2] => { results := [.lit (.bool true)], args := [d1, d2] }
  | _ => none }
def slotsFreeRow : OpenClaim := { program := "ytbbhahigofeacaadoor", sum := "ebeeb2b090d7c2986b5b182f11cddd8dd6138afdd888748bf9d4dd795c6e9044", func := "butler/butlerlaw08.SlotsFree", spec := "slotsFree", inPlace := ["sync/atomic.SwapInt64", "sync/atomic.LoadInt64", "sync/atomic.CompareAndSwapInt64", "(*sync.WaitGroup).Add", "internal/race.ReleaseMerge", "internal/race.Disable", "internal/race.Enable", "internal/synctest.IsInBubble", "internal/synctest.Associate[sync.WaitGroup]", "sync.fatal", "sync/atomic.OrUint64", "sync/atomic.AddUint64", "internal/race.Read", "sync/atomic.LoadUint64", "sync/atomic.StoreUint64", "internal/synctest.Disassociate[sync.WaitGroup]", "sync.runtime_Semrelease", "(*sync.WaitGroup).Done", "(*sync.WaitGroup).Wait", "internal/race.Acquire", "internal/synctest.IsAssociated[sync.WaitGroup]", "sync/atomic.CompareAndSwapUint64", "internal/race.Write", "sync.runtime_SemacquireWaitGroup"], unfollowed := true, recurses := true, named := ["butler/slots.fieldFirst", "butler/slots.fieldVersion"], leaving := true, apart := false, laid := [("butler/slots.fieldFirst", laid_butler_slots_fieldFirst), ("butler/slots.fieldVersion", laid_butler_slots_fieldVersion)] }
def SlotsFreeSaid : Prop := slotsFreeRow.holds Tryd.pinned (OpenSpec.ofChange slotsFreeSpec)

/-- ITS FALSE NEIGHBOUR: 'it returns false'. Refute it at one input. -/
def slotsFreeWrong : ChangeSpec := { name := "slotsFree", fn := fun _ => fun
  | [d1, d2] => { results := [.lit (.bool false)], args := [d1, d2] }
  | _ => none }
def SlotsFreeWrongFalsely : Prop := slotsFreeRow.holds Tryd.pinned (OpenSpec.ofChange slotsFreeWrong)

/-- 'butlerlaw09.StackKeeps': WHATEVER THE INPUT: true; the input reads as it did. -/
def stackKeepsSpec : ChangeSpec := { name := "stackKeeps", fn := fun _ => fun
  | [d1, d2, d3] => { results := [.lit (.bool true)], args := [d1, d2, d3] }
  | _ => none }
def stackKeepsRow : OpenClaim := { program := "ytbbhahigofeacaadoor", sum := "ebeeb2b090d7c2986b5b182f11cddd8dd6138afdd888748bf9d4dd795c6e9044", func := "butler/butlerlaw09.StackKeeps", spec := "stackKeeps", inPlace := ["sync/atomic.SwapInt64", "sync/atomic.LoadInt64", "sync/atomic.CompareAndSwapInt64", "(*sync.WaitGroup).Add", "internal/race.ReleaseMerge", "internal/race.Disable", "internal/race.Enable", "internal/synctest.IsInBubble", "internal/synctest.Associate[sync.WaitGroup]", "sync.fatal", "sync/atomic.OrUint64", "sync/atomic.AddUint64", "internal/race.Read", "sync/atomic.LoadUint64", "sync/atomic.StoreUint64", "internal/synctest.Disassociate[sync.WaitGroup]", "sync.runtime_Semrelease", "(*sync.WaitGroup).Done", "(*sync.WaitGroup).Wait", "internal/race.Acquire", "internal/synctest.IsAssociated[sync.WaitGroup]", "sync/atomic.CompareAndSwapUint64", "internal/race.Write", "sync.runtime_SemacquireWaitGroup"], unfollowed := true, recurses := true, named := ["butler/slots.fieldFirst", "butler/slots.fieldVersion", "butler/stack.fieldTop", "butler/stack.fieldVersion"], leaving := true, apart := false, laid := [("butler/slots.fieldFirst", laid_butler_slots_fieldFirst), ("butler/slots.fieldVersion", laid_butler_slots_fieldVersion), ("butler/stack.fieldTop", laid_butler_stack_fieldTop), ("butler/stack.fieldVersion", laid_butler_stack_fieldVersion)] }
def StackKeepsSaid : Prop := stackKeepsRow.holds Tryd.pinned (OpenSpec.ofChange stackKeepsSpec)

/-- ITS FALSE NEIGHBOUR: 'it returns false'. Refute it at one input. -/
def stackKeepsWrong : ChangeSpec := { name := "stackKeeps", fn := fun _ => fun
  | [d1, d2, d3] => { results := [.lit (.bool false)], args := [d1, d2, d3] }
  | _ => none }
def StackKeepsWrongFalsely : Prop := stackKeepsRow.holds Tryd.pinned (OpenSpec.ofChange stackKeepsWrong)

/-- 'butlerlaw09.StackLinear': WHATEVER THE INPUT: true; the input reads as it did. -/
def stackLinearSpec : ChangeSpec := { name := "stackLinear", fn := fun _ => fun
  | [d1, d2, d3] => { results := [.lit (.bool true)], args := [d1, d2, d3] }
  | _ => none }
def stackLinearRow : OpenClaim := { program := "ytbbhahigofeacaadoor", sum := "ebeeb2b090d7c2986b5b182f11cddd8dd6138afdd888748bf9d4dd795c6e9044", func := "butler/butlerlaw09.StackLinear", spec := "stackLinear", inPlace := ["sync/atomic.SwapInt64", "sync/atomic.LoadInt64", "sync/atomic.CompareAndSwapInt64", "(*sync.WaitGroup).Add", "internal/race.ReleaseMerge", "internal/race.Disable", "internal/race.Enable", "internal/synctest.IsInBubble", "internal/synctest.Associate[sync.WaitGroup]", "sync.fatal", "sync/atomic.OrUint64", "sync/atomic.AddUint64", "internal/race.Read", "sync/atomic.LoadUint64", "sync/atomic.StoreUint64", "internal/synctest.Disassociate[sync.WaitGroup]", "sync.runtime_Semrelease", "(*sync.WaitGroup).Done", "(*sync.WaitGroup).Wait", "internal/race.Acquire", "internal/synctest.IsAssociated[sync.WaitGroup]", "sync/atomic.CompareAndSwapUint64", "internal/race.Write", "sync.runtime_SemacquireWaitGroup"], unfollowed := true, recurses := true, named := ["butler/slots.fieldFirst", "butler/slots.fieldVersion", "butler/stack.fieldTop", "butler/stack.fieldVersion"], leaving := true, apart := false, laid := [("butler/slots.fieldFirst", laid_butler_slots_fieldFirst), ("butler/slots.fieldVersion", laid_butler_slots_fieldVersion), ("butler/stack.fieldTop", laid_butler_stack_fieldTop), ("butler/stack.fieldVersion", laid_butler_stack_fieldVersion)] }
def StackLinearSaid : Prop := stackLinearRow.holds Tryd.pinned (OpenSpec.ofChange stackLinearSpec)

/-- ITS FALSE NEIGHBOUR: 'it returns false'. Refute it at one input. -/
def stackLinearWrong : ChangeSpec := { name := "stackLinear", fn := fun _ => fun
  | [d1, d2, d3] => { results := [.lit (.bool false)], args := [d1, d2, d3] }
  | _ => none }
def StackLinearWrongFalsely : Prop := stackLinearRow.holds Tryd.pinned (OpenSpec.ofChange stackLinearWrong)

/-- 'butlerlaw09.StackVersions': WHATEVER THE INPUT: true; the input reads as it did. -/
def stackVersionsSpec : ChangeSpec := { name := "stackVersions", fn := fun _ => fun
  | [d1, d2, d3] => { results := [.lit (.bool true)], args := [d1, d2, d3] }
  | _ => none }
def stackVersionsRow : OpenClaim := { program := "ytbbhahigofeacaadoor", sum := "ebeeb2b090d7c2986b5b182f11cddd8dd6138afdd888748bf9d4dd795c6e9044", func := "butler/butlerlaw09.StackVersions", spec := "stackVersions", inPlace := ["sync/atomic.SwapInt64", "sync/atomic.LoadInt64", "sync/atomic.CompareAndSwapInt64", "(*sync.WaitGroup).Add", "internal/race.ReleaseMerge", "internal/race.Disable", "internal/race.Enable", "internal/synctest.IsInBubble", "internal/synctest.Associate[sync.WaitGroup]", "sync.fatal", "sync/atomic.OrUint64", "sync/atomic.AddUint64", "internal/race.Read", "sync/atomic.LoadUint64", "sync/atomic.StoreUint64", "internal/synctest.Disassociate[sync.WaitGroup]", "sync.runtime_Semrelease", "(*sync.WaitGroup).Done", "(*sync.WaitGroup).Wait", "internal/race.Acquire", "internal/synctest.IsAssociated[sync.WaitGroup]", "sync/atomic.CompareAndSwapUint64", "internal/race.Write", "sync.runtime_SemacquireWaitGroup"], unfollowed := true, recurses := true, named := ["butler/slots.fieldFirst", "butler/slots.fieldVersion", "butler/stack.fieldTop", "butler/stack.fieldVersion"], leaving := true, apart := false, laid := [("butler/slots.fieldFirst", laid_butler_slots_fieldFirst), ("butler/slots.fieldVersion", laid_butler_slots_fieldVersion), ("butler/stack.fieldTop", laid_butler_stack_fieldTop), ("butler/stack.fieldVersion", laid_butler_stack_fieldVersion)] }
def StackVersionsSaid : Prop := stackVersionsRow.holds Tryd.pinned (OpenSpec.ofChange stackVersionsSpec)

/-- ITS FALSE NEIGHBOUR: 'it returns false'. Refute it at one input. -/
def stackVersionsWrong : ChangeSpec := { name := "stackVersions", fn := fun _ => fun
  | [d1, d2, d3] => { results := [.lit (.bool false)], args := [d1, d2, d3] }
  | _ => none }
def StackVersionsWrongFalsely : Prop := stackVersionsRow.holds Tryd.pinned (OpenSpec.ofChange stackVersionsWrong)

/- THE SECOND FORM. 'bulk': how many values and letters a reading holds, each counted each time it is reached (what is shared counts as often as it is met; a slice's spare places count too). A statement '..UptoSaid' is the law's where the arguments, and the package variables that the reading takes, are together of bulk at most 1048576: NARROWER than '..Said'. Prove '..Said' where nothing that the law and all that it calls make is longer than what came in: it says more and counts as full. Else prove '..UptoSaid'. A law counts once. -/
mutual
def uptoBulk {H : Type} : DataW H → Nat
  | .lit (.string bytes) => bytes.length + 1
  | .lit _ => 1
  | .nil => 1
  | .ptr d => uptoBulk d + 1
  | .slice elems spare => uptoBulkAll elems + uptoBulkAll spare + 1
  | .agg parts => uptoBulkAll parts + 1
  | .iface _ d => uptoBulk d + 1
  | .map entries => uptoBulkEntries entries + 1
  | .held _ => 1
def uptoBulkAll {H : Type} : List (DataW H) → Nat
  | [] => 0
  | d :: r => uptoBulk d + uptoBulkAll r
def uptoBulkEntries {H : Type} : List (Lit × DataW H) → Nat
  | [] => 0
  | x :: r => uptoBulkEntry x + uptoBulkEntries r
def uptoBulkEntry {H : Type} : Lit × DataW H → Nat
  | (.string bytes, d) => bytes.length + uptoBulk d + 1
  | (_, d) => uptoBulk d + 1
 end
def uptoSmall : (H : Type) → List (DataW H) → Bool := fun _ ds => decide (uptoBulkAll ds ≤ 1048576)
def OpenSpec.upto (s : _root_.Go.ChangeSpec) : _root_.Go.OpenSpec := { _root_.Go.OpenSpec.ofChange s with cond := some uptoSmall }

/-- 'butlerlaw08.SlotsNames', WHERE WHAT IT READS IS OF BULK AT MOST 1048576: true; the input reads as it did. -/
def slotsNamesUptoRow : OpenClaim := { program := "ytbbhahigofeacaadoor", sum := "ebeeb2b090d7c2986b5b182f11cddd8dd6138afdd888748bf9d4dd795c6e9044", func := "butler/butlerlaw08.SlotsNames", spec := "slotsNames", inPlace := ["sync/atomic.SwapInt64", "sync/atomic.LoadInt64", "sync/atomic.CompareAndSwapInt64", "(*sync.WaitGroup).Add", "internal/race.ReleaseMerge", "internal/race.Disable", "internal/race.Enable", "internal/synctest.IsInBubble", "internal/synctest.Associate[sync.WaitGroup]", "sync.fatal", "sync/atomic.OrUint64", "sync/atomic.AddUint64", "internal/race.Read", "sync/atomic.LoadUint64", "sync/atomic.StoreUint64", "internal/synctest.Disassociate[sync.WaitGroup]", "sync.runtime_Semrelease", "(*sync.WaitGroup).Done", "(*sync.WaitGroup).Wait", "internal/race.Acquire", "internal/synctest.IsAssociated[sync.WaitGroup]", "sync/atomic.CompareAndSwapUint64", "internal/race.Write", "sync.runtime_SemacquireWaitGroup"], unfollowed := true, recurses := true, named := ["butler/slots.fieldFirst", "butler/slots.fieldVersion"], leaving := true, apart := false, laid := [("butler/slots.fieldFirst", laid_butler_slots_fieldFirst), ("butler/slots.fieldVersion", laid_butler_slots_fieldVersion)], narrowed := true }
def SlotsNamesUptoSaid : Prop := slotsNamesUptoRow.holds Tryd.pinned (OpenSpec.upto slotsNamesSpec)

/-- 'butlerlaw08.SlotsWhole', WHERE WHAT IT READS IS OF BULK AT MOST 1048576: true; the input reads as it did. -/
def slotsWholeUptoRow : OpenClaim := { program := "ytbbhahigofeacaadoor", sum := "ebeeb2b090d7c2986b5b182f11cddd8dd6138afdd888748bf9d4dd795c6e9044", func := "butler/butlerlaw08.SlotsWhole", spec := "slotsWhole", inPlace := ["sync/atomic.SwapInt64", "sync/atomic.LoadInt64", "sync/atomic.CompareAndSwapInt64", "(*sync.WaitGroup).Add", "internal/race.ReleaseMerge", "internal/race.Disable", "internal/race.Enable", "internal/synctest.IsInBubble", "internal/synctest.Associate[sync.WaitGroup]", "sync.fatal", "sync/atomic.OrUint64", "sync/atomic.AddUint64", "internal/race.Read", "sync/atomic.LoadUint64", "sync/atomic.StoreUint64", "internal/synctest.Disassociate[sync.WaitGroup]", "sync.runtime_Semrelease", "(*sync.WaitGroup).Done", "(*sync.WaitGroup).Wait", "internal/race.Acquire", "internal/synctest.IsAssociated[sync.WaitGroup]", "sync/atomic.CompareAndSwapUint64", "internal/race.Write", "sync.runtime_SemacquireWaitGroup"], unfollowed := true, recurses := true, named := ["butler/slots.fieldFirst", "butler/slots.fieldVersion"], leaving := true, apart := false, laid := [("butler/slots.fieldFirst", laid_butler_slots_fieldFirst), ("butler/slots.fieldVersion", laid_butler_slots_fieldVersion)], narrowed := true }
def SlotsWholeUptoSaid : Prop := slotsWholeUptoRow.holds Tryd.pinned (OpenSpec.upto slotsWholeSpec)

/-- 'butlerlaw08.SlotsAlone', WHERE WHAT IT READS IS OF BULK AT MOST 1048576: true; the input reads as it did. -/
def slotsAloneUptoRow : OpenClaim := { program := "ytbbhahigofeacaadoor", sum := "ebeeb2b090d7c2986b5b182f11cddd8dd6138afdd888748bf9d4dd795c6e9044", func := "butler/butlerlaw08.SlotsAlone", spec := "slotsAlone", inPlace := ["sync/atomic.SwapInt64", "sync/atomic.LoadInt64", "sync/atomic.CompareAndSwapInt64", "(*sync.WaitGroup).Add", "internal/race.ReleaseMerge", "internal/race.Disable", "internal/race.Enable", "internal/synctest.IsInBubble", "internal/synctest.Associate[sync.WaitGroup]", "sync.fatal", "sync/atomic.OrUint64", "sync/atomic.AddUint64", "internal/race.Read", "sync/atomic.LoadUint64", "sync/atomic.StoreUint64", "internal/synctest.Disassociate[sync.WaitGroup]", "sync.runtime_Semrelease", "(*sync.WaitGroup).Done", "(*sync.WaitGroup).Wait", "internal/race.Acquire", "internal/synctest.IsAssociated[sync.WaitGroup]", "sync/atomic.CompareAndSwapUint64", "internal/race.Write", "sync.runtime_SemacquireWaitGroup"], unfollowed := true, recurses := true, named := ["butler/slots.fieldFirst", "butler/slots.fieldVersion"], leaving := true, apart := false, laid := [("butler/slots.fieldFirst", laid_butler_slots_fieldFirst), ("butler/slots.fieldVersion", laid_butler_slots_fieldVersion)], narrowed := true }
def SlotsAloneUptoSaid : Prop := slotsAloneUptoRow.holds Tryd.pinned (OpenSpec.upto slotsAloneSpec)

/-- 'butlerlaw08.SlotsFree', WHERE WHAT IT READS IS OF BULK AT MOST 1048576: true; the input reads as it did. -/
def slotsFreeUptoRow : OpenClaim := { program := "ytbbhahigofeacaadoor", sum := "ebeeb2b090d7c2986b5b182f11cddd8dd6138afdd888748bf9d4dd795c6e9044", func := "butler/butlerlaw08.SlotsFree", spec := "slotsFree", inPlace := ["sync/atomic.SwapInt64", "sync/atomic.LoadInt64", "sync/atomic.CompareAndSwapInt64", "(*sync.WaitGroup).Add", "internal/race.ReleaseMerge", "internal/race.Disable", "internal/race.Enable", "internal/synctest.IsInBubble", "internal/synctest.Associate[sync.WaitGroup]", "sync.fatal", "sync/atomic.OrUint64", "sync/atomic.AddUint64", "internal/race.Read", "sync/atomic.LoadUint64", "sync/atomic.StoreUint64", "internal/synctest.Disassociate[sync.WaitGroup]", "sync.runtime_Semrelease", "(*sync.WaitGroup).Done", "(*sync.WaitGroup).Wait", "internal/race.Acquire", "internal/synctest.IsAssociated[sync.WaitGroup]", "sync/atomic.CompareAndSwapUint64", "internal/race.Write", "sync.runtime_SemacquireWaitGroup"], unfollowed := true, recurses := true, named := ["butler/slots.fieldFirst", "butler/slots.fieldVersion"], leaving := true, apart := false, laid := [("butler/slots.fieldFirst", laid_butler_slots_fieldFirst), ("butler/slots.fieldVersion", laid_butler_slots_fieldVersion)], narrowed := true }
def SlotsFreeUptoSaid : Prop := slotsFreeUptoRow.holds Tryd.pinned (OpenSpec.upto slotsFreeSpec)

/-- 'butlerlaw09.StackKeeps', WHERE WHAT IT READS IS OF BULK AT MOST 1048576: true; the input reads as it did. -/
def stackKeepsUptoRow : OpenClaim := { program := "ytbbhahigofeacaadoor", sum := "ebeeb2b090d7c2986b5b182f11cddd8dd6138afdd888748bf9d4dd795c6e9044", func := "butler/butlerlaw09.StackKeeps", spec := "stackKeeps", inPlace := ["sync/atomic.SwapInt64", "sync/atomic.LoadInt64", "sync/atomic.CompareAndSwapInt64", "(*sync.WaitGroup).Add", "internal/race.ReleaseMerge", "internal/race.Disable", "internal/race.Enable", "internal/synctest.IsInBubble", "internal/synctest.Associate[sync.WaitGroup]", "sync.fatal", "sync/atomic.OrUint64", "sync/atomic.AddUint64", "internal/race.Read", "sync/atomic.LoadUint64", "sync/atomic.StoreUint64", "internal/synctest.Disassociate[sync.WaitGroup]", "sync.runtime_Semrelease", "(*sync.WaitGroup).Done", "(*sync.WaitGroup).Wait", "internal/race.Acquire", "internal/synctest.IsAssociated[sync.WaitGroup]", "sync/atomic.CompareAndSwapUint64", "internal/race.Write", "sync.runtime_SemacquireWaitGroup"], unfollowed := true, recurses := true, named := ["butler/slots.fieldFirst", "butler/slots.fieldVersion", "butler/stack.fieldTop", "butler/stack.fieldVersion"], leaving := true, apart := false, laid := [("butler/slots.fieldFirst", laid_butler_slots_fieldFirst), ("butler/slots.fieldVersion", laid_butler_slots_fieldVersion), ("butler/stack.fieldTop", laid_butler_stack_fieldTop), ("butler/stack.fieldVersion", laid_butler_stack_fieldVersion)], narrowed := true }
def StackKeepsUptoSaid : Prop := stackKeepsUptoRow.holds Tryd.pinned (OpenSpec.upto stackKeepsSpec)

/-- 'butlerlaw09.StackLinear', WHERE WHAT IT READS IS OF BULK AT MOST 1048576: true; the input reads as it did. -/
def stackLinearUptoRow : OpenClaim := { program := "ytbbhahigofeacaadoor", sum := "ebeeb2b090d7c2986b5b182f11cddd8dd6138afdd888748bf9d4dd795c6e9044", func := "butler/butlerlaw09.StackLinear", spec := "stackLinear", inPlace := ["sync/atomic.SwapInt64", "sync/atomic.LoadInt64", "sync/atomic.CompareAndSwapInt64", "(*sync.WaitGroup).Add", "internal/race.ReleaseMerge", "internal/race.Disable", "internal/race.Enable", "internal/synctest.IsInBubble", "internal/synctest.Associate[sync.WaitGroup]", "sync.fatal", "sync/atomic.OrUint64", "sync/atomic.AddUint64", "internal/race.Read", "sync/atomic.LoadUint64", "sync/atomic.StoreUint64", "internal/synctest.Disassociate[sync.WaitGroup]", "sync.runtime_Semrelease", "(*sync.WaitGroup).Done", "(*sync.WaitGroup).Wait", "internal/race.Acquire", "internal/synctest.IsAssociated[sync.WaitGroup]", "sync/atomic.CompareAndSwapUint64", "internal/race.Write", "sync.runtime_SemacquireWaitGroup"], unfollowed := true, recurses := true, named := ["butler/slots.fieldFirst", "butler/slots.fieldVersion", "butler/stack.fieldTop", "butler/stack.fieldVersion"], leaving := true, apart := false, laid := [("butler/slots.fieldFirst", laid_butler_slots_fieldFirst), ("butler/slots.fieldVersion", laid_butler_slots_fieldVersion), ("butler/stack.fieldTop", laid_butler_stack_fieldTop), ("butler/stack.fieldVersion", laid_butler_stack_fieldVersion)], narrowed := true }
def StackLinearUptoSaid : Prop := stackLinearUptoRow.holds Tryd.pinned (OpenSpec.upto stackLinearSpec)

/-- 'butlerlaw09.StackVersions', WHERE WHAT IT READS IS OF BULK AT MOST 1048576: true; the input reads as it did. -/
def stackVersionsUptoRow : OpenClaim := { program := "ytbbhahigofeacaadoor", sum := "ebeeb2b090d7c2986b5b182f11cddd8dd6138afdd888748bf9d4dd795c6e9044", func := "butler/butlerlaw09.StackVersions", spec := "stackVersions", inPlace := ["sync/atomic.SwapInt64", "sync/atomic.LoadInt64", "sync/atomic.CompareAndSwapInt64", "(*sync.WaitGroup).Add", "internal/race.ReleaseMerge", "internal/race.Disable", "internal/race.Enable", "internal/synctest.IsInBubble", "internal/synctest.Associate[sync.WaitGroup]", "sync.fatal", "sync/atomic.OrUint64", "sync/atomic.AddUint64", "internal/race.Read", "sync/atomic.LoadUint64", "sync/atomic.StoreUint64", "internal/synctest.Disassociate[sync.WaitGroup]", "sync.runtime_Semrelease", "(*sync.WaitGroup).Done", "(*sync.WaitGroup).Wait", "internal/race.Acquire", "internal/synctest.IsAssociated[sync.WaitGroup]", "sync/atomic.CompareAndSwapUint64", "internal/race.Write", "sync.runtime_SemacquireWaitGroup"], unfollowed := true, recurses := true, named := ["butler/slots.fieldFirst", "butler/slots.fieldVersion", "butler/stack.fieldTop", "butler/stack.fieldVersion"], leaving := true, apart := false, laid := [("butler/slots.fieldFirst", laid_butler_slots_fieldFirst), ("butler/slots.fieldVersion", laid_butler_slots_fieldVersion), ("butler/stack.fieldTop", laid_butler_stack_fieldTop), ("butler/stack.fieldVersion", laid_butler_stack_fieldVersion)], narrowed := true }
def StackVersionsUptoSaid : Prop := stackVersionsUptoRow.holds Tryd.pinned (OpenSpec.upto stackVersionsSpec)

end Rows
end Go.Proofs.YtbbhahigofeacaaDoor
