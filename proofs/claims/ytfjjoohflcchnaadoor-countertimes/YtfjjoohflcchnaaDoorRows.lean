/-
  NARROWER THAN 'FOR EVERY INPUT', by the rows' own cells (each row's printed sentence says how): OnceOnce: laid · OnceLinear: laid · OnceAlone: laid · SlotsNames: laid · SlotsWhole: laid · SlotsAlone: laid · SlotsFree: laid · StackKeeps: laid · StackLinear: laid · StackVersions: laid · CounterLinear: laid · CounterTimes: laid · CounterAlone: laid.
  DERIVED. THE GIVEN ROWS OF THIS SEAT. 13 by the template 'for every input the law returns true; each argument reads behind the call as it read before'; 0 by the template 'total and deterministic' (their statements: YtfjjoohflcchnaaDoorTotals.lean).
  GIVEN WITH THE SEED: the statements are not yours to turn. If you find one false, say at which input.
  Laid BY PROGRAM, IN A SANDBOX (cutbox-rows.mjs): the forced cells as the released guide's own fill.sh prints them over the translation 4038df7789f69a38… (all of the seat's roots in one cut). By AI agents, Wed Nov 11 2026. No macro, syntax, notation, axiom, sorry.
-/
import Derived.Test.YtfjjoohflcchnaaDoorChecked
import GoSem.Claim
import GoSem.ClaimJoined
import GoSem.ClaimMapViews
import Derived.JoinedTies
import Derived.KernelRfl
namespace Go.Proofs.YtfjjoohflcchnaaDoor
/- THE CELL 'sum', in the pinned program and in every row, IS THE sha256 OF THE DUMP (.gsa) THAT YtfjjoohflcchnaaDoorProg.lean LOADS. Nothing in Lean hashes anything: it is a label: what it is worth is what the hold of that sum in a sandbox is worth. -/
noncomputable def Tryd.pinned : Pinned := { name := "ytfjjoohflcchnaadoor", sum := "4038df7789f69a38168283df129f27ae656445f34c29a5383843516db3c7876e", checked := Tryd.checked }
namespace Rows
def none {H : Type} : Left H := { results := [], args := [] }

/- WHAT THE LISTED PACKAGE-LEVEL VARIABLES READ AS WHEN THE CALL BEGINS. Each datum BY PROGRAM (the guide's laid-datum.mjs) off the statement by which the dump's own 'gosem.cut.vars' lays the variable. In a bare row this is a premise. The card (YtfjjoohflcchnaaDoorCards.lean) ties it to the program's text. -/
def laid_butler_kept_fieldState {H : Type} : DataW H := .agg [.lit (.int .i64 0), .lit (.int .i64 2)]
def laid_butler_kept_fieldWho {H : Type} : DataW H := .agg [.lit (.int .i64 2), .lit (.int .i64 8)]
def laid_butler_kept_fieldCode {H : Type} : DataW H := .agg [.lit (.int .i64 10), .lit (.int .i64 20)]
def laid_butler_slots_fieldFirst {H : Type} : DataW H := .agg [.lit (.int .i64 0), .lit (.int .i64 32)]
def laid_butler_slots_fieldVersion {H : Type} : DataW H := .agg [.lit (.int .i64 32), .lit (.int .i64 30)]
def laid_butler_stack_fieldTop {H : Type} : DataW H := .agg [.lit (.int .i64 0), .lit (.int .i64 32)]
def laid_butler_stack_fieldVersion {H : Type} : DataW H := .agg [.lit (.int .i64 32), .lit (.int .i64 30)]
def laid_butler_counter_fieldAmount {H : Type} : DataW H := .agg [.lit (.int .i64 0), .lit (.int .i64 32)]
def laid_butler_counter_fieldVersion {H : Type} : DataW H := .agg [.lit (.int .i64 32), .lit (.int .i64 30)]

/-- 'butlerlaw07.OnceOnce': WHATEVER THE INPUT: true; the input reads as it did. -/
def onceOnceSpec : ChangeSpec := { name := "onceOnce", fn := fun _ => fun
  | [d1, d2, d3] => { results := [.lit (.bool true)], args := [d1, d2, d3] }
  | _ => none }
def onceOnceRow : OpenClaim := { program := "ytfjjoohflcchnaadoor", sum := "4038df7789f69a38168283df129f27ae656445f34c29a5383843516db3c7876e", func := "butler/butlerlaw07.OnceOnce", spec := "onceOnce", inPlace := ["sync/atomic.SwapInt64", "sync/atomic.LoadInt64", "sync/atomic.CompareAndSwapInt64", "(*sync.WaitGroup).Add", "internal/race.ReleaseMerge", "internal/race.Disable", "internal/race.Enable", "internal/synctest.IsInBubble", "internal/synctest.Associate[sync.WaitGroup]", "sync.fatal", "sync/atomic.OrUint64", "sync/atomic.AddUint64", "internal/race.Read", "sync/atomic.LoadUint64", "sync/atomic.StoreUint64", "internal/synctest.Disassociate[sync.WaitGroup]", "sync.runtime_Semrelease", "(*sync.WaitGroup).Done", "(*sync.WaitGroup).Wait", "internal/race.Acquire", "internal/synctest.IsAssociated[sync.WaitGroup]", "sync/atomic.CompareAndSwapUint64", "internal/race.Write", "sync.runtime_SemacquireWaitGroup"], unfollowed := true, recurses := true, named := ["butler/kept.fieldState", "butler/kept.fieldCode", "butler/kept.fieldWho"], leaving := true, apart := false, laid := [("butler/kept.fieldState", laid_butler_kept_fieldState), ("butler/kept.fieldWho", laid_butler_kept_fieldWho), ("butler/kept.fieldCode", laid_butler_kept_fieldCode)] }
def OnceOnceSaid : Prop := onceOnceRow.holds Tryd.pinned (OpenSpec.ofChange onceOnceSpec)

/-- ITS FALSE NEIGHBOUR: 'it returns false'. Refute it at one input. -/
def onceOnceWrong : ChangeSpec := { name := "onceOnce", fn := fun _ => fun
  | [d1, d2, d3] => { results := [.lit (.bool false)], args := [d1, d2, d3] }
  | _ => none }
def OnceOnceWrongFalsely : Prop := onceOnceRow.holds Tryd.pinned (OpenSpec.ofChange onceOnceWrong)

/-- 'butlerlaw07.OnceLinear': WHATEVER THE INPUT: true; the input reads as it did. -/
def onceLinearSpec : ChangeSpec := { name := "onceLinear", fn := fun _ => fun
  | [d1, d2, d3] => { results := [.lit (.bool true)], args := [d1, d2, d3] }
  | _ => none }
def onceLinearRow : OpenClaim := { program := "ytfjjoohflcchnaadoor", sum := "4038df7789f69a38168283df129f27ae656445f34c29a5383843516db3c7876e", func := "butler/butlerlaw07.OnceLinear", spec := "onceLinear", inPlace := ["sync/atomic.SwapInt64", "sync/atomic.LoadInt64", "sync/atomic.CompareAndSwapInt64", "(*sync.WaitGroup).Add", "internal/race.ReleaseMerge", "internal/race.Disable", "internal/race.Enable", "internal/synctest.IsInBubble", "internal/synctest.Associate[sync.WaitGroup]", "sync.fatal", "sync/atomic.OrUint64", "sync/atomic.AddUint64", "internal/race.Read", "sync/atomic.LoadUint64", "sync/atomic.StoreUint64", "internal/synctest.Disassociate[sync.WaitGroup]", "sync.runtime_Semrelease", "(*sync.WaitGroup).Done", "(*sync.WaitGroup).Wait", "internal/race.Acquire", "internal/synctest.IsAssociated[sync.WaitGroup]", "sync/atomic.CompareAndSwapUint64", "internal/race.Write", "sync.runtime_SemacquireWaitGroup"], unfollowed := true, recurses := true, named := ["butler/kept.fieldState", "butler/kept.fieldCode", "butler/kept.fieldWho"], leaving := true, apart := false, laid := [("butler/kept.fieldState", laid_butler_kept_fieldState), ("butler/kept.fieldWho", laid_butler_kept_fieldWho), ("butler/kept.fieldCode", laid_butler_kept_fieldCode)] }
def OnceLinearSaid : Prop := onceLinearRow.holds Tryd.pinned (OpenSpec.ofChange onceLinearSpec)

/-- ITS FALSE NEIGHBOUR: 'it returns false'. Refute it at one input. -/
def onceLinearWrong : ChangeSpec := { name := "onceLinear", fn := fun _ => fun
  | [d1, d2, d3] => { results := [.lit (.bool false)], args := [d1, d2, d3] }
  | _ => none }
def OnceLinearWrongFalsely : Prop := onceLinearRow.holds Tryd.pinned (OpenSpec.ofChange onceLinearWrong)

/-- 'butlerlaw07.OnceAlone': WHATEVER THE INPUT: true; the input reads as it did. -/
def onceAloneSpec : ChangeSpec := { name := "onceAlone", fn := fun _ => fun
  | [d] => { results := [.lit (.bool true)], args := [d] }
  | _ => none }
def onceAloneRow : OpenClaim := { program := "ytfjjoohflcchnaadoor", sum := "4038df7789f69a38168283df129f27ae656445f34c29a5383843516db3c7876e", func := "butler/butlerlaw07.OnceAlone", spec := "onceAlone", inPlace := ["sync/atomic.SwapInt64", "sync/atomic.LoadInt64", "sync/atomic.CompareAndSwapInt64", "(*sync.WaitGroup).Add", "internal/race.ReleaseMerge", "internal/race.Disable", "internal/race.Enable", "internal/synctest.IsInBubble", "internal/synctest.Associate[sync.WaitGroup]", "sync.fatal", "sync/atomic.OrUint64", "sync/atomic.AddUint64", "internal/race.Read", "sync/atomic.LoadUint64", "sync/atomic.StoreUint64", "internal/synctest.Disassociate[sync.WaitGroup]", "sync.runtime_Semrelease", "(*sync.WaitGroup).Done", "(*sync.WaitGroup).Wait", "internal/race.Acquire", "internal/synctest.IsAssociated[sync.WaitGroup]", "sync/atomic.CompareAndSwapUint64", "internal/race.Write", "sync.runtime_SemacquireWaitGroup"], unfollowed := true, recurses := true, named := ["butler/kept.fieldState", "butler/kept.fieldCode", "butler/kept.fieldWho"], leaving := true, apart := false, laid := [("butler/kept.fieldState", laid_butler_kept_fieldState), ("butler/kept.fieldWho", laid_butler_kept_fieldWho), ("butler/kept.fieldCode", laid_butler_kept_fieldCode)] }
def OnceAloneSaid : Prop := onceAloneRow.holds Tryd.pinned (OpenSpec.ofChange onceAloneSpec)

/-- ITS FALSE NEIGHBOUR: 'it returns false'. Refute it at one input. -/
def onceAloneWrong : ChangeSpec := { name := "onceAlone", fn := fun _ => fun
  | [d] => { results := [.lit (.bool false)], args := [d] }
  | _ => none }
def OnceAloneWrongFalsely : Prop := onceAloneRow.holds Tryd.pinned (OpenSpec.ofChange onceAloneWrong)

/-- 'butlerlaw08.SlotsNames': WHATEVER THE INPUT: true; the input reads as it did. -/
def slotsNamesSpec : ChangeSpec := { name := "slotsNames", fn := fun _ => fun
  | [] => { results := [.lit (.bool true)], args := [] }
  | _ => none }
def slotsNamesRow : OpenClaim := { program := "ytfjjoohflcchnaadoor", sum := "4038df7789f69a38168283df129f27ae656445f34c29a5383843516db3c7876e", func := "butler/butlerlaw08.SlotsNames", spec := "slotsNames", inPlace := ["sync/atomic.SwapInt64", "sync/atomic.LoadInt64", "sync/atomic.CompareAndSwapInt64", "(*sync.WaitGroup).Add", "internal/race.ReleaseMerge", "internal/race.Disable", "internal/race.Enable", "internal/synctest.IsInBubble", "internal/synctest.Associate[sync.WaitGroup]", "sync.fatal", "sync/atomic.OrUint64", "sync/atomic.AddUint64", "internal/race.Read", "sync/atomic.LoadUint64", "sync/atomic.StoreUint64", "internal/synctest.Disassociate[sync.WaitGroup]", "sync.runtime_Semrelease", "(*sync.WaitGroup).Done", "(*sync.WaitGroup).Wait", "internal/race.Acquire", "internal/synctest.IsAssociated[sync.WaitGroup]", "sync/atomic.CompareAndSwapUint64", "internal/race.Write", "sync.runtime_SemacquireWaitGroup"], unfollowed := true, recurses := true, named := ["butler/slots.fieldFirst", "butler/slots.fieldVersion"], leaving := true, apart := false, laid := [("butler/slots.fieldFirst", laid_butler_slots_fieldFirst), ("butler/slots.fieldVersion", laid_butler_slots_fieldVersion)] }
def SlotsNamesSaid : Prop := slotsNamesRow.holds Tryd.pinned (OpenSpec.ofChange slotsNamesSpec)

/-- ITS FALSE NEIGHBOUR: 'it returns false'. Refute it at one input. -/
def slotsNamesWrong : ChangeSpec := { name := "slotsNames", fn := fun _ => fun
  | [] => { results := [.lit (.bool false)], args := [] }
  | _ => none }
def SlotsNamesWrongFalsely : Prop := slotsNamesRow.holds Tryd.pinned (OpenSpec.ofChange slotsNamesWrong)

/-- 'butlerlaw08.SlotsWhole': WHATEVER THE INPUT: true; the input reads as it did. -/
def slotsWholeSpec : ChangeSpec := { name := "slotsWhole", fn := fun _ => fun
  | [d1, d2, d3] => { results := [.lit (.bool true)], args := [d1, d2, d3] }
  | _ => none }
def slotsWholeRow : OpenClaim := { program := "ytfjjoohflcchnaadoor", sum := "4038df7789f69a38168283df129f27ae656445f34c29a5383843516db3c7876e", func := "butler/butlerlaw08.SlotsWhole", spec := "slotsWhole", inPlace := ["sync/atomic.SwapInt64", "sync/atomic.LoadInt64", "sync/atomic.CompareAndSwapInt64", "(*sync.WaitGroup).Add", "internal/race.ReleaseMerge", "internal/race.Disable", "internal/race.Enable", "internal/synctest.IsInBubble", "internal/synctest.Associate[sync.WaitGroup]", "sync.fatal", "sync/atomic.OrUint64", "sync/atomic.AddUint64", "internal/race.Read", "sync/atomic.LoadUint64", "sync/atomic.StoreUint64", "internal/synctest.Disassociate[sync.WaitGroup]", "sync.runtime_Semrelease", "(*sync.WaitGroup).Done", "(*sync.WaitGroup).Wait", "internal/race.Acquire", "internal/synctest.IsAssociated[sync.WaitGroup]", "sync/atomic.CompareAndSwapUint64", "internal/race.Write", "sync.runtime_SemacquireWaitGroup"], unfollowed := true, recurses := true, named := ["butler/slots.fieldFirst", "butler/slots.fieldVersion"], leaving := true, apart := false, laid := [("butler/slots.fieldFirst", laid_butler_slots_fieldFirst), ("butler/slots.fieldVersion", laid_butler_slots_fieldVersion)] }
def SlotsWholeSaid : Prop := slotsWholeRow.holds Tryd.pinned (OpenSpec.ofChange slotsWholeSpec)

/-- ITS FALSE NEIGHBOUR: 'it returns false'. Refute it at one input. -/
def slotsWholeWrong : ChangeSpec := { name := "slotsWhole", fn := fun _ => fun
  | [d1, d2, d3] => { results := [.lit (.bool false)], args := [d1, d2, d3] }
  | _ => none }
def SlotsWholeWrongFalsely : Prop := slotsWholeRow.holds Tryd.pinned (OpenSpec.ofChange slotsWholeWrong)

/-- 'butlerlaw08.SlotsAlone': WHATEVER THE INPUT: true; the input reads as it did. -/
def slotsAloneSpec : ChangeSpec := { name := "slotsAlone", fn := fun _ => fun
  | [d1, d2] => { results := [.lit (.bool true)], args := [d1, d2] }
  | _ => none }
def slotsAloneRow : OpenClaim := { program := "ytfjjoohflcchnaadoor", sum := "4038df7789f69a38168283df129f27ae656445f34c29a5383843516db3c7876e", func := "butler/butlerlaw08.SlotsAlone", spec := "slotsAlone", inPlace := ["sync/atomic.SwapInt64", "sync/atomic.LoadInt64", "sync/atomic.CompareAndSwapInt64", "(*sync.WaitGroup).Add", "internal/race.ReleaseMerge", "internal/race.Disable", "internal/race.Enable", "internal/synctest.IsInBubble", "internal/synctest.Associate[sync.WaitGroup]", "sync.fatal", "sync/atomic.OrUint64", "sync/atomic.AddUint64", "internal/race.Read", "sync/atomic.LoadUint64", "sync/atomic.StoreUint64", "internal/synctest.Disassociate[sync.WaitGroup]", "sync.runtime_Semrelease", "(*sync.WaitGroup).Done", "(*sync.WaitGroup).Wait", "internal/race.Acquire", "internal/synctest.IsAssociated[sync.WaitGroup]", "sync/atomic.CompareAndSwapUint64", "internal/race.Write", "sync.runtime_SemacquireWaitGroup"], unfollowed := true, recurses := true, named := ["butler/slots.fieldFirst", "butler/slots.fieldVersion"], leaving := true, apart := false, laid := [("butler/slots.fieldFirst", laid_butler_slots_fieldFirst), ("butler/slots.fieldVersion", laid_butler_slots_fieldVersion)] }
def SlotsAloneSaid : Prop := slotsAloneRow.holds Tryd.pinned (OpenSpec.ofChange slotsAloneSpec)

/-- ITS FALSE NEIGHBOUR: 'it returns false'. Refute it at one input. -/
def slotsAloneWrong : ChangeSpec := { name := "slotsAlone", fn := fun _ => fun
  | [d1, d2] => { results := [.lit (.bool false)], args := [d1, d2] }
  | _ => none }
def SlotsAloneWrongFalsely : Prop := slotsAloneRow.holds Tryd.pinned (OpenSpec.ofChange slotsAloneWrong)

/-- 'butlerlaw08.SlotsFree': WHATEVER THE INPUT: true; the input reads as it did. -/
def slotsFreeSpec : ChangeSpec := { name := "slotsFree", fn := fun _ => fun
  | [d1, d2] => { results := [.lit (.bool true)], args := [d1, d2] }
  | _ => none }
def slotsFreeRow : OpenClaim := { program := "ytfjjoohflcchnaadoor", sum := "4038df7789f69a38168283df129f27ae656445f34c29a5383843516db3c7876e", func := "butler/butlerlaw08.SlotsFree", spec := "slotsFree", inPlace := ["sync/atomic.SwapInt64", "sync/atomic.LoadInt64", "sync/atomic.CompareAndSwapInt64", "(*sync.WaitGroup).Add", "internal/race.ReleaseMerge", "internal/race.Disable", "internal/race.Enable", "internal/synctest.IsInBubble", "internal/synctest.Associate[sync.WaitGroup]", "sync.fatal", "sync/atomic.OrUint64", "sync/atomic.AddUint64", "internal/race.Read", "sync/atomic.LoadUint64", "sync/atomic.StoreUint64", "internal/synctest.Disassociate[sync.WaitGroup]", "sync.runtime_Semrelease", "(*sync.WaitGroup).Done", "(*sync.WaitGroup).Wait", "internal/race.Acquire", "internal/synctest.IsAssociated[sync.WaitGroup]", "sync/atomic.CompareAndSwapUint64", "internal/race.Write", "sync.runtime_SemacquireWaitGroup"], unfollowed := true, recurses := true, named := ["butler/slots.fieldFirst", "butler/slots.fieldVersion"], leaving := true, apart := false, laid := [("butler/slots.fieldFirst", laid_butler_slots_fieldFirst), ("butler/slots.fieldVersion", laid_butler_slots_fieldVersion)] }
def SlotsFreeSaid : Prop := slotsFreeRow.holds Tryd.pinned (OpenSpec.ofChange slotsFreeSpec)

/-- ITS FALSE NEIGHBOUR: 'it returns false'. Refute it at one input. -/
def slotsFreeWrong : ChangeSpec := { name := "slotsFree", fn := fun _ => fun
  | [d1, d2] => { results := [.lit (.bool false)], args := [d1, d2] }
  | _ => none }
def SlotsFreeWrongFalsely : Prop := slotsFreeRow.holds Tryd.pinned (OpenSpec.ofChange slotsFreeWrong)

/-- 'butlerlaw09.StackKeeps': WHATEVER THE INPUT: true; the input reads as it did. -/
def stackKeepsSpec : ChangeSpec := { name := "stackKeeps", fn := fun _ => fun
  | [d1, d2, d3] => { results := [.lit (.bool true)], args := [d1, d2, d3] }
  | _ => none }
def stackKeepsRow : OpenClaim := { program := "ytfjjoohflcchnaadoor", sum := "4038df7789f69a38168283df129f27ae656445f34c29a5383843516db3c7876e", func := "butler/butlerlaw09.StackKeeps", spec := "stackKeeps", inPlace := ["sync/atomic.SwapInt64", "sync/atomic.LoadInt64", "sync/atomic.CompareAndSwapInt64", "(*sync.WaitGroup).Add", "internal/race.ReleaseMerge", "internal/race.Disable", "internal/race.Enable", "internal/synctest.IsInBubble", "internal/synctest.Associate[sync.WaitGroup]", "sync.fatal", "sync/atomic.OrUint64", "sync/atomic.AddUint64", "internal/race.Read", "sync/atomic.LoadUint64", "sync/atomic.StoreUint64", "internal/synctest.Disassociate[sync.WaitGroup]", "sync.runtime_Semrelease", "(*sync.WaitGroup).Done", "(*sync.WaitGroup).Wait", "internal/race.Acquire", "internal/synctest.IsAssociated[sync.WaitGroup]", "sync/atomic.CompareAndSwapUint64", "internal/race.Write", "sync.runtime_SemacquireWaitGroup"], unfollowed := true, recurses := true, named := ["butler/slots.fieldFirst", "butler/slots.fieldVersion", "butler/stack.fieldTop", "butler/stack.fieldVersion"], leaving := true, apart := false, laid := [("butler/slots.fieldFirst", laid_butler_slots_fieldFirst), ("butler/slots.fieldVersion", laid_butler_slots_fieldVersion), ("butler/stack.fieldTop", laid_butler_stack_fieldTop), ("butler/stack.fieldVersion", laid_butler_stack_fieldVersion)] }
def StackKeepsSaid : Prop := stackKeepsRow.holds Tryd.pinned (OpenSpec.ofChange stackKeepsSpec)

/-- ITS FALSE NEIGHBOUR: 'it returns false'. Refute it at one input. -/
def stackKeepsWrong : ChangeSpec := { name := "stackKeeps", fn := fun _ => fun
  | [d1, d2, d3] => { results := [.lit (.bool false)], args := [d1, d2, d3] }
  | _ => none }
def StackKeepsWrongFalsely : Prop := stackKeepsRow.holds Tryd.pinned (OpenSpec.ofChange stackKeepsWrong)

/-- 'butlerlaw09.StackLinear': WHATEVER THE INPUT: true; the input reads as it did. -/
def stackLinearSpec : ChangeSpec := { name := "stackLinear", fn := fun _ => fun
  | [d1, d2, d3] => { results := [.lit (.bool true)], args := [d1, d2, d3] }
  | _ => none }
def stackLinearRow : OpenClaim := { program := "ytfjjoohflcchnaadoor", sum := "4038df7789f69a38168283df129f27ae656445f34c29a5383843516db3c7876e", func := "butler/butlerlaw09.StackLinear", spec := "stackLinear", inPlace := ["sync/atomic.SwapInt64", "sync/atomic.LoadInt64", "sync/atomic.CompareAndSwapInt64", "(*sync.WaitGroup).Add", "internal/race.ReleaseMerge", "internal/race.Disable", "internal/race.Enable", "internal/synctest.IsInBubble", "internal/synctest.Associate[sync.WaitGroup]", "sync.fatal", "sync/atomic.OrUint64", "sync/atomic.AddUint64", "internal/race.Read", "sync/atomic.LoadUint64", "sync/atomic.StoreUint64", "internal/synctest.Disassociate[sync.WaitGroup]", "sync.runtime_Semrelease", "(*sync.WaitGroup).Done", "(*sync.WaitGroup).Wait", "internal/race.Acquire", "internal/synctest.IsAssociated[sync.WaitGroup]", "sync/atomic.CompareAndSwapUint64", "internal/race.Write", "sync.runtime_SemacquireWaitGroup"], unfollowed := true, recurses := true, named := ["butler/slots.fieldFirst", "butler/slots.fieldVersion", "butler/stack.fieldTop", "butler/stack.fieldVersion"], leaving := true, apart := false, laid := [("butler/slots.fieldFirst", laid_butler_slots_fieldFirst), ("butler/slots.fieldVersion", laid_butler_slots_fieldVersion), ("butler/stack.fieldTop", laid_butler_stack_fieldTop), ("butler/stack.fieldVersion", laid_butler_stack_fieldVersion)] }
def StackLinearSaid : Prop := stackLinearRow.holds Tryd.pinned (OpenSpec.ofChange stackLinearSpec)

/-- ITS FALSE NEIGHBOUR: 'it returns false'. Refute it at one input. -/
def stackLinearWrong : ChangeSpec := { name := "stackLinear", fn := fun _ => fun
  | [d1, d2, d3] => { results := [.lit (.bool false)], args := [d1, d2, d3] }
  | _ => none }
def StackLinearWrongFalsely : Prop := stackLinearRow.holds Tryd.pinned (OpenSpec.ofChange stackLinearWrong)

/-- 'butlerlaw09.StackVersions': WHATEVER THE INPUT: true; the input reads as it did. -/
def stackVersionsSpec : ChangeSpec := { name := "stackVersions", fn := fun _ => fun
  | [d1, d2, d3] => { results := [.lit (.bool true)], args := [d1, d2, d3] }
  | _ => none }
def stackVersionsRow : OpenClaim := { program := "ytfjjoohflcchnaadoor", sum := "4038df7789f69a38168283df129f27ae656445f34c29a5383843516db3c7876e", func := "butler/butlerlaw09.StackVersions", spec := "stackVersions", inPlace := ["sync/atomic.SwapInt64", "sync/atomic.LoadInt64", "sync/atomic.CompareAndSwapInt64", "(*sync.WaitGroup).Add", "internal/race.ReleaseMerge", "internal/race.Disable", "internal/race.Enable", "internal/synctest.IsInBubble", "internal/synctest.Associate[sync.WaitGroup]", "sync.fatal", "sync/atomic.OrUint64", "sync/atomic.AddUint64", "internal/race.Read", "sync/atomic.LoadUint64", "sync/atomic.StoreUint64", "internal/synctest.Disassociate[sync.WaitGroup]", "sync.runtime_Semrelease", "(*sync.WaitGroup).Done", "(*sync.WaitGroup).Wait", "internal/race.Acquire", "internal/synctest.IsAssociated[sync.WaitGroup]", "sync/atomic.CompareAndSwapUint64", "internal/race.Write", "sync.runtime_SemacquireWaitGroup"], unfollowed := true, recurses := true, named := ["butler/slots.fieldFirst", "butler/slots.fieldVersion", "butler/stack.fieldTop", "butler/stack.fieldVersion"], leaving := true, apart := false, laid := [("butler/slots.fieldFirst", laid_butler_slots_fieldFirst), ("butler/slots.fieldVersion", laid_butler_slots_fieldVersion), ("butler/stack.fieldTop", laid_butler_stack_fieldTop), ("butler/stack.fieldVersion", laid_butler_stack_fieldVersion)] }
def StackVersionsSaid : Prop := stackVersionsRow.holds Tryd.pinned (OpenSpec.ofChange stackVersionsSpec)

/-- ITS FALSE NEIGHBOUR: 'it returns false'. Refute it at one input. -/
def stackVersionsWrong : ChangeSpec := { name := "stackVersions", fn := fun _ => fun
  | [d1, d2, d3] => { results := [.lit (.bool false)], args := [d1, d2, d3] }
  | _ => none }
def StackVersionsWrongFalsely : Prop := stackVersionsRow.holds Tryd.pinned (OpenSpec.ofChange stackVersionsWrong)

/-- 'butlerlaw10.CounterLinear': WHATEVER THE INPUT: true; the input reads as it did. -/
def counterLinearSpec : ChangeSpec := { name := "counterLinear", fn := fun _ => fun
  | [d1, d2, d3] => { results := [.lit (.bool true)], args := [d1, d2, d3] }
  | _ => none }
def counterLinearRow : OpenClaim := { program := "ytfjjoohflcchnaadoor", sum := "4038df7789f69a38168283df129f27ae656445f34c29a5383843516db3c7876e", func := "butler/butlerlaw10.CounterLinear", spec := "counterLinear", inPlace := ["sync/atomic.SwapInt64", "sync/atomic.LoadInt64", "sync/atomic.CompareAndSwapInt64", "(*sync.WaitGroup).Add", "internal/race.ReleaseMerge", "internal/race.Disable", "internal/race.Enable", "internal/synctest.IsInBubble", "internal/synctest.Associate[sync.WaitGroup]", "sync.fatal", "sync/atomic.OrUint64", "sync/atomic.AddUint64", "internal/race.Read", "sync/atomic.LoadUint64", "sync/atomic.StoreUint64", "internal/synctest.Disassociate[sync.WaitGroup]", "sync.runtime_Semrelease", "(*sync.WaitGroup).Done", "(*sync.WaitGroup).Wait", "internal/race.Acquire", "internal/synctest.IsAssociated[sync.WaitGroup]", "sync/atomic.CompareAndSwapUint64", "internal/race.Write", "sync.runtime_SemacquireWaitGroup"], unfollowed := true, recurses := true, named := ["butler/counter.fieldAmount", "butler/counter.fieldVersion"], leaving := true, apart := false, laid := [("butler/counter.fieldAmount", laid_butler_counter_fieldAmount), ("butler/counter.fieldVersion", laid_butler_counter_fieldVersion)] }
def CounterLinearSaid : Prop := counterLinearRow.holds Tryd.pinned (OpenSpec.ofChange counterLinearSpec)

/-- ITS FALSE NEIGHBOUR: 'it returns false'. Refute it at one input. -/
def counterLinearWrong : ChangeSpec := { name := "counterLinear", fn := fun _ => fun
  | [d1, d2, d3] => { results := [.lit (.bool false)], args := [d1, d2, d3] }
  | _ => none }
def CounterLinearWrongFalsely : Prop := counterLinearRow.holds Tryd.pinned (OpenSpec.ofChange counterLinearWrong)

/-- 'butlerlaw10.CounterTimes': WHATEVER THE INPUT: true; the input reads as it did. -/
def counterTimesSpec : ChangeSpec := { name := "counterTimes", fn := fun _ => fun
  | [d1, d2, d3] => { results := [.lit (.bool true)], args := [d1, d2, d3] }
  | _ => none }
def counterTimesRow : OpenClaim := { program := "ytfjjoohflcchnaadoor", sum := "4038df7789f69a38168283df129f27ae656445f34c29a5383843516db3c7876e", func := "butler/butlerlaw10.CounterTimes", spec := "counterTimes", inPlace := ["sync/atomic.SwapInt64", "sync/atomic.LoadInt64", "sync/atomic.CompareAndSwapInt64", "(*sync.WaitGroup).Add", "internal/race.ReleaseMerge", "internal/race.Disable", "internal/race.Enable", "internal/synctest.IsInBubble", "internal/synctest.Associate[sync.WaitGroup]", "sync.fatal", "sync/atomic.OrUint64", "sync/atomic.AddUint64", "internal/race.Read", "sync/atomic.LoadUint64", "sync/atomic.StoreUint64", "internal/synctest.Disassociate[sync.WaitGroup]", "sync.runtime_Semrelease", "(*sync.WaitGroup).Done", "(*sync.WaitGroup).Wait", "internal/race.Acquire", "internal/synctest.IsAssociated[sync.WaitGroup]", "sync/atomic.CompareAndSwapUint64", "internal/race.Write", "sync.runtime_SemacquireWaitGroup"], unfollowed := true, recurses := true, named := ["butler/counter.fieldAmount", "butler/counter.fieldVersion"], leaving := true, apart := false, laid := [("butler/counter.fieldAmount", laid_butler_counter_fieldAmount), ("butler/counter.fieldVersion", laid_butler_counter_fieldVersion)] }
def CounterTimesSaid : Prop := counterTimesRow.holds Tryd.pinned (OpenSpec.ofChange counterTimesSpec)

/-- ITS FALSE NEIGHBOUR: 'it returns false'. Refute it at one input. -/
def counterTimesWrong : ChangeSpec := { name := "counterTimes", fn := fun _ => fun
  | [d1, d2, d3] => { results := [.lit (.bool false)], args := [d1, d2, d3] }
  | _ => none }
def CounterTimesWrongFalsely : Prop := counterTimesRow.holds Tryd.pinned (OpenSpec.ofChange counterTimesWrong)

/-- 'butlerlaw10.CounterAlone': WHATEVER THE INPUT: true; the input reads as it did. -/
def counterAloneSpec : ChangeSpec := { name := "counterAlone", fn := fun _ => fun
  | [d1, d2, d3] => { results := [.lit (.bool true)], args := [d1, d2, d3] }
  | _ => none }
def counterAloneRow : OpenClaim := { program := "ytfjjoohflcchnaadoor", sum := "4038df7789f69a38168283df129f27ae656445f34c29a5383843516db3c7876e", func := "butler/butlerlaw10.CounterAlone", spec := "counterAlone", inPlace := ["sync/atomic.SwapInt64", "sync/atomic.LoadInt64", "sync/atomic.CompareAndSwapInt64", "(*sync.WaitGroup).Add", "internal/race.ReleaseMerge", "internal/race.Disable", "internal/race.Enable", "internal/synctest.IsInBubble", "internal/synctest.Associate[sync.WaitGroup]", "sync.fatal", "sync/atomic.OrUint64", "sync/atomic.AddUint64", "internal/race.Read", "sync/atomic.LoadUint64", "sync/atomic.StoreUint64", "internal/synctest.Disassociate[sync.WaitGroup]", "sync.runtime_Semrelease", "(*sync.WaitGroup).Done", "(*sync.WaitGroup).Wait", "internal/race.Acquire", "internal/synctest.IsAssociated[sync.WaitGroup]", "sync/atomic.CompareAndSwapUint64", "internal/race.Write", "sync.runtime_SemacquireWaitGroup"], unfollowed := true, recurses := true, named := ["butler/counter.fieldAmount", "butler/counter.fieldVersion"], leaving := true, apart := false, laid := [("butler/counter.fieldAmount", laid_butler_counter_fieldAmount), ("butler/counter.fieldVersion", laid_butler_counter_fieldVersion)] }
def CounterAloneSaid : Prop := counterAloneRow.holds Tryd.pinned (OpenSpec.ofChange counterAloneSpec)

/-- ITS FALSE NEIGHBOUR: 'it returns false'. Refute it at one input. -/
def counterAloneWrong : ChangeSpec := { name := "counterAlone", fn := fun _ => fun
  | [d1, d2, d3] => { results := [.lit (.bool false)], args := [d1, d2, d3] }
  | _ => none }
def CounterAloneWrongFalsely : Prop := counterAloneRow.holds Tryd.pinned (OpenSpec.ofChange counterAloneWrong)

/- THE SECOND FORM. 'bulk': how many values and letters a reading holds, each counted each time it is reached (what is shared counts as often as it is met; a slice's spare places count too). A statement '..UptoSaid' is the law's where the arguments, and the package variables that the reading takes, are together of bulk at most 1048576: NARROWER than '..Said'. Prove '..Said' where nothing that the law and all that it calls make is longer than what came in: it says more and counts as full. Else prove '..UptoSaid'. A law counts once. -/
mutual
def uptoBulk {H : Type} : DataW H → Nat
  | .lit (.string bytes) => bytes.length + 1
  | .lit _ => 1
  | .nil => 1
  | .ptr d => uptoBulk d + 1
  | .slice elems spare => uptoBulkAll elems + uptoBulkAll spare + 1
  | .agg parts => uptoBulkAll parts + 1
  | .iface _ d => uptoBulk d + 1
  | .map entries => uptoBulkEntries entries + 1
  | .held _ => 1
def uptoBulkAll {H : Type} : List (DataW H) → Nat
  | [] => 0
  | d :: r => uptoBulk d + uptoBulkAll r
def uptoBulkEntries {H : Type} : List (Lit × DataW H) → Nat
  | [] => 0
  | x :: r => uptoBulkEntry x + uptoBulkEntries r
def uptoBulkEntry {H : Type} : Lit × DataW H → Nat
  | (.string bytes, d) => bytes.length + uptoBulk d + 1
  | (_, d) => uptoBulk d + 1
 end
def uptoSmall : (H : Type) → List (DataW H) → Bool := fun _ ds => decide (uptoBulkAll ds ≤ 1048576)
def OpenSpec.upto (s : _root_.Go.ChangeSpec) : _root_.Go.OpenSpec := { _root_.Go.OpenSpec.ofChange s with cond := some uptoSmall }

/-- 'butlerlaw07.OnceOnce', WHERE WHAT IT READS IS OF BULK AT MOST 1048576: true; the input reads as it did. -/
def onceOnceUptoRow : OpenClaim := { program := "ytfjjoohflcchnaadoor", sum := "4038df7789f69a38168283df129f27ae656445f34c29a5383843516db3c7876e", func := "butler/butlerlaw07.OnceOnce", spec := "onceOnce", inPlace := ["sync/atomic.SwapInt64", "sync/atomic.LoadInt64", "sync/atomic.CompareAndSwapInt64", "(*sync.WaitGroup).Add", "internal/race.ReleaseMerge", "internal/race.Disable", "internal/race.Enable", "internal/synctest.IsInBubble", "internal/synctest.Associate[sync.WaitGroup]", "sync.fatal", "sync/atomic.OrUint64", "sync/atomic.AddUint64", "internal/race.Read", "sync/atomic.LoadUint64", "sync/atomic.StoreUint64", "internal/synctest.Disassociate[sync.WaitGroup]", "sync.runtime_Semrelease", "(*sync.WaitGroup).Done", "(*sync.WaitGroup).Wait", "internal/race.Acquire", "internal/synctest.IsAssociated[sync.WaitGroup]", "sync/atomic.CompareAndSwapUint64", "internal/race.Write", "sync.runtime_SemacquireWaitGroup"], unfollowed := true, recurses := true, named := ["butler/kept.fieldState", "butler/kept.fieldCode", "butler/kept.fieldWho"], leaving := true, apart := false, laid := [("butler/kept.fieldState", laid_butler_kept_fieldState), ("butler/kept.fieldWho", laid_butler_kept_fieldWho), ("butler/kept.fieldCode", laid_butler_kept_fieldCode)], narrowed := true }
def OnceOnceUptoSaid : Prop := onceOnceUptoRow.holds Tryd.pinned (OpenSpec.upto onceOnceSpec)

/-- 'butlerlaw07.OnceLinear', WHERE WHAT IT READS IS OF BULK AT MOST 1048576: true; the input reads as it did. -/
def onceLinearUptoRow : OpenClaim := { program := "ytfjjoohflcchnaadoor", sum := "4038df7789f69a38168283df129f27ae656445f34c29a5383843516db3c7876e", func := "butler/butlerlaw07.OnceLinear", spec := "onceLinear", inPlace := ["sync/atomic.SwapInt64", "sync/atomic.LoadInt64", "sync/atomic.CompareAndSwapInt64", "(*sync.WaitGroup).Add", "internal/race.ReleaseMerge", "internal/race.Disable", "internal/race.Enable", "internal/synctest.IsInBubble", "internal/synctest.Associate[sync.WaitGroup]", "sync.fatal", "sync/atomic.OrUint64", "sync/atomic.AddUint64", "internal/race.Read", "sync/atomic.LoadUint64", "sync/atomic.StoreUint64", "internal/synctest.Disassociate[sync.WaitGroup]", "sync.runtime_Semrelease", "(*sync.WaitGroup).Done", "(*sync.WaitGroup).Wait", "internal/race.Acquire", "internal/synctest.IsAssociated[sync.WaitGroup]", "sync/atomic.CompareAndSwapUint64", "internal/race.Write", "sync.runtime_SemacquireWaitGroup"], unfollowed := true, recurses := true, named := ["butler/kept.fieldState", "butler/kept.fieldCode", "butler/kept.fieldWho"], leaving := true, apart := false, laid := [("butler/kept.fieldState", laid_butler_kept_fieldState), ("butler/kept.fieldWho", laid_butler_kept_fieldWho), ("butler/kept.fieldCode", laid_butler_kept_fieldCode)], narrowed := true }
def OnceLinearUptoSaid : Prop := onceLinearUptoRow.holds Tryd.pinned (OpenSpec.upto onceLinearSpec)

/-- 'butlerlaw07.OnceAlone', WHERE WHAT IT READS IS OF BULK AT MOST 1048576: true; the input reads as it did. -/
def onceAloneUptoRow : OpenClaim := { program := "ytfjjoohflcchnaadoor", sum := "4038df7789f69a38168283df129f27ae656445f34c29a5383843516db3c7876e", func := "butler/butlerlaw07.OnceAlone", spec := "onceAlone", inPlace := ["sync/atomic.SwapInt64", "sync/atomic.LoadInt64", "sync/atomic.CompareAndSwapInt64", "(*sync.WaitGroup).Add", "internal/race.ReleaseMerge", "internal/race.Disable", "internal/race.Enable", "internal/synctest.IsInBubble", "internal/synctest.Associate[sync.WaitGroup]", "sync.fatal", "sync/atomic.OrUint64", "sync/atomic.AddUint64", "internal/race.Read", "sync/atomic.LoadUint64", "sync/atomic.StoreUint64", "internal/synctest.Disassociate[sync.WaitGroup]", "sync.runtime_Semrelease", "(*sync.WaitGroup).Done", "(*sync.WaitGroup).Wait", "internal/race.Acquire", "internal/synctest.IsAssociated[sync.WaitGroup]", "sync/atomic.CompareAndSwapUint64", "internal/race.Write", "sync.runtime_SemacquireWaitGroup"], unfollowed := true, recurses := true, named := ["butler/kept.fieldState", "butler/kept.fieldCode", "butler/kept.fieldWho"], leaving := true, apart := false, laid := [("butler/kept.fieldState", laid_butler_kept_fieldState), ("butler/kept.fieldWho", laid_butler_kept_fieldWho), ("butler/kept.fieldCode", laid_butler_kept_fieldCode)], narrowed := true }
def OnceAloneUptoSaid : Prop := onceAloneUptoRow.holds Tryd.pinned (OpenSpec.upto onceAloneSpec)

/-- 'butlerlaw08.SlotsNames', WHERE WHAT IT READS IS OF BULK AT MOST 1048576: true; the input reads as it did. -/
def slotsNamesUptoRow : OpenClaim := { program := "ytfjjoohflcchnaadoor", sum := "4038df7789f69a38168283df129f27ae656445f34c29a5383843516db3c7876e", func := "butler/butlerlaw08.SlotsNames", spec := "slotsNames", inPlace := ["sync/atomic.SwapInt64", "sync/atomic.LoadInt64", "sync/atomic.CompareAndSwapInt64", "(*sync.WaitGroup).Add", "internal/race.ReleaseMerge", "internal/race.Disable", "internal/race.Enable", "internal/synctest.IsInBubble", "internal/synctest.Associate[sync.WaitGroup]", "sync.fatal", "sync/atomic.OrUint64", "sync/atomic.AddUint64", "internal/race.Read", "sync/atomic.LoadUint64", "sync/atomic.StoreUint64", "internal/synctest.Disassociate[sync.WaitGroup]", "sync.runtime_Semrelease", "(*sync.WaitGroup).Done", "(*sync.WaitGroup).Wait", "internal/race.Acquire", "internal/synctest.IsAssociated[sync.WaitGroup]", "sync/atomic.CompareAndSwapUint64", "internal/race.Write", "sync.runtime_SemacquireWaitGroup"], unfollowed := true, recurses := true, named := ["butler/slots.fieldFirst", "butler/slots.fieldVersion"], leaving := true, apart := false, laid := [("butler/slots.fieldFirst", laid_butler_slots_fieldFirst), ("butler/slots.fieldVersion", laid_butler_slots_fieldVersion)], narrowed := true }
def SlotsNamesUptoSaid : Prop := slotsNamesUptoRow.holds Tryd.pinned (OpenSpec.upto slotsNamesSpec)

/-- 'butlerlaw08.SlotsWhole', WHERE WHAT IT READS IS OF BULK AT MOST 1048576: true; the input reads as it did. -/
def slotsWholeUptoRow : OpenClaim := { program := "ytfjjoohflcchnaadoor", sum := "4038df7789f69a38168283df129f27ae656445f34c29a5383843516db3c7876e", func := "butler/butlerlaw08.SlotsWhole", spec := "slotsWhole", inPlace := ["sync/atomic.SwapInt64", "sync/atomic.LoadInt64", "sync/atomic.CompareAndSwapInt64", "(*sync.WaitGroup).Add", "internal/race.ReleaseMerge", "internal/race.Disable", "internal/race.Enable", "internal/synctest.IsInBubble", "internal/synctest.Associate[sync.WaitGroup]", "sync.fatal", "sync/atomic.OrUint64", "sync/atomic.AddUint64", "internal/race.Read", "sync/atomic.LoadUint64", "sync/atomic.StoreUint64", "internal/synctest.Disassociate[sync.WaitGroup]", "sync.runtime_Semrelease", "(*sync.WaitGroup).Done", "(*sync.WaitGroup).Wait", "internal/race.Acquire", "internal/synctest.IsAssociated[sync.WaitGroup]", "sync/atomic.CompareAndSwapUint64", "internal/race.Write", "sync.runtime_SemacquireWaitGroup"], unfollowed := true, recurses := true, named := ["butler/slots.fieldFirst", "butler/slots.fieldVersion"], leaving := true, apart := false, laid := [("butler/slots.fieldFirst", laid_butler_slots_fieldFirst), ("butler/slots.fieldVersion", laid_butler_slots_fieldVersion)], narrowed := true }
def SlotsWholeUptoSaid : Prop := slotsWholeUptoRow.holds Tryd.pinned (OpenSpec.upto slotsWholeSpec)

/-- 'butlerlaw08.SlotsAlone', WHERE WHAT IT READS IS OF BULK AT MOST 1048576: true; the input reads as it did. -/
def slotsAloneUptoRow : OpenClaim := { program := "ytfjjoohflcchnaadoor", sum := "4038df7789f69a38168283df129f27ae656445f34c29a5383843516db3c7876e", func := "butler/butlerlaw08.SlotsAlone", spec := "slotsAlone", inPlace := ["sync/atomic.SwapInt64", "sync/atomic.LoadInt64", "sync/atomic.CompareAndSwapInt64", "(*sync.WaitGroup).Add", "internal/race.ReleaseMerge", "internal/race.Disable", "internal/race.Enable", "internal/synctest.IsInBubble", "internal/synctest.Associate[sync.WaitGroup]", "sync.fatal", "sync/atomic.OrUint64", "sync/atomic.AddUint64", "internal/race.Read", "sync/atomic.LoadUint64", "sync/atomic.StoreUint64", "internal/synctest.Disassociate[sync.WaitGroup]", "sync.runtime_Semrelease", "(*sync.WaitGroup).Done", "(*sync.WaitGroup).Wait", "internal/race.Acquire", "internal/synctest.IsAssociated[sync.WaitGroup]", "sync/atomic.CompareAndSwapUint64", "internal/race.Write", "sync.runtime_SemacquireWaitGroup"], unfollowed := true, recurses := true, named := ["butler/slots.fieldFirst", "butler/slots.fieldVersion"], leaving := true, apart := false, laid := [("butler/slots.fieldFirst", laid_butler_slots_fieldFirst), ("butler/slots.fieldVersion", laid_butler_slots_fieldVersion)], narrowed := true }
def SlotsAloneUptoSaid : Prop := slotsAloneUptoRow.holds Tryd.pinned (OpenSpec.upto slotsAloneSpec)

/-- 'butlerlaw08.SlotsFree', WHERE WHAT IT READS IS OF BULK AT MOST 1048576: true; the input reads as it did. -/
def slotsFreeUptoRow : OpenClaim := { program := "ytfjjoohflcchnaadoor", sum := "4038df7789f69a38168283df129f27ae656445f34c29a5383843516db3c7876e", func := "butler/butlerlaw08.SlotsFree", spec := "slotsFree", inPlace := ["sync/atomic.SwapInt64", "sync/atomic.LoadInt64", "sync/atomic.CompareAndSwapInt64", "(*sync.WaitGroup).Add", "internal/race.ReleaseMerge", "internal/race.Disable", "internal/race.Enable", "internal/synctest.IsInBubble", "internal/synctest.Associate[sync.WaitGroup]", "sync.fatal", "sync/atomic.OrUint64", "sync/atomic.AddUint64", "internal/race.Read", "sync/atomic.LoadUint64", "sync/atomic.StoreUint64", "internal/synctest.Disassociate[sync.WaitGroup]", "sync.runtime_Semrelease", "(*sync.WaitGroup).Done", "(*sync.WaitGroup).Wait", "internal/race.Acquire", "internal/synctest.IsAssociated[sync.WaitGroup]", "sync/atomic.CompareAndSwapUint64", "internal/race.Write", "sync.runtime_SemacquireWaitGroup"], unfollowed := true, recurses := true, named := ["butler/slots.fieldFirst", "butler/slots.fieldVersion"], leaving := true, apart := false, laid := [("butler/slots.fieldFirst", laid_butler_slots_fieldFirst), ("butler/slots.fieldVersion", laid_butler_slots_fieldVersion)], narrowed := true }
def SlotsFreeUptoSaid : Prop := slotsFreeUptoRow.holds Tryd.pinned (OpenSpec.upto slotsFreeSpec)

/-- 'butlerlaw09.StackKeeps', WHERE WHAT IT READS IS OF BULK AT MOST 1048576: true; the input reads as it did. -/
def stackKeepsUptoRow : OpenClaim := { program := "ytfjjoohflcchnaadoor", sum := "4038df7789f69a38168283df129f27ae656445f34c29a5383843516db3c7876e", func := "butler/butlerlaw09.StackKeeps", spec := "stackKeeps", inPlace := ["sync/atomic.SwapInt64", "sync/atomic.LoadInt64", "sync/atomic.CompareAndSwapInt64", "(*sync.WaitGroup).Add", "internal/race.ReleaseMerge", "internal/race.Disable", "internal/race.Enable", "internal/synctest.IsInBubble", "internal/synctest.Associate[sync.WaitGroup]", "sync.fatal", "sync/atomic.OrUint64", "sync/atomic.AddUint64", "internal/race.Read", "sync/atomic.LoadUint64", "sync/atomic.StoreUint64", "internal/synctest.Disassociate[sync.WaitGroup]", "sync.runtime_Semrelease", "(*sync.WaitGroup).Done", "(*sync.WaitGroup).Wait", "internal/race.Acquire", "internal/synctest.IsAssociated[sync.WaitGroup]", "sync/atomic.CompareAndSwapUint64", "internal/race.Write", "sync.runtime_SemacquireWaitGroup"], unfollowed := true, recurses := true, named := ["butler/slots.fieldFirst", "butler/slots.fieldVersion", "butler/stack.fieldTop", "butler/stack.fieldVersion"], leaving := true, apart := false, laid := [("butler/slots.fieldFirst", laid_butler_slots_fieldFirst), ("butler/slots.fieldVersion", laid_butler_slots_fieldVersion), ("butler/stack.fieldTop", laid_butler_stack_fieldTop), ("butler/stack.fieldVersion", laid_butler_stack_fieldVersion)], narrowed := true }
def StackKeepsUptoSaid : Prop := stackKeepsUptoRow.holds Tryd.pinned (OpenSpec.upto stackKeepsSpec)

/-- 'butlerlaw09.StackLinear', WHERE WHAT IT READS IS OF BULK AT MOST 1048576: true; the input reads as it did. -/
def stackLinearUptoRow : OpenClaim := { program := "ytfjjoohflcchnaadoor", sum := "4038df7789f69a38168283df129f27ae656445f34c29a5383843516db3c7876e", func := "butler/butlerlaw09.StackLinear", spec := "stackLinear", inPlace := ["sync/atomic.SwapInt64", "sync/atomic.LoadInt64", "sync/atomic.CompareAndSwapInt64", "(*sync.WaitGroup).Add", "internal/race.ReleaseMerge", "internal/race.Disable", "internal/race.Enable", "internal/synctest.IsInBubble", "internal/synctest.Associate[sync.WaitGroup]", "sync.fatal", "sync/atomic.OrUint64", "sync/atomic.AddUint64", "internal/race.Read", "sync/atomic.LoadUint64", "sync/atomic.StoreUint64", "internal/synctest.Disassociate[sync.WaitGroup]", "sync.runtime_Semrelease", "(*sync.WaitGroup).Done", "(*sync.WaitGroup).Wait", "internal/race.Acquire", "internal/synctest.IsAssociated[sync.WaitGroup]", "sync/atomic.CompareAndSwapUint64", "internal/race.Write", "sync.runtime_SemacquireWaitGroup"], unfollowed := true, recurses := true, named := ["butler/slots.fieldFirst", "butler/slots.fieldVersion", "butler/stack.fieldTop", "butler/stack.fieldVersion"], leaving := true, apart := false, laid := [("butler/slots.fieldFirst", laid_butler_slots_fieldFirst), ("butler/slots.fieldVersion", laid_butler_slots_fieldVersion), ("butler/stack.fieldTop", laid_butler_stack_fieldTop), ("butler/stack.fieldVersion", laid_butler_stack_fieldVersion)], narrowed := true }
def StackLinearUptoSaid : Prop := stackLinearUptoRow.holds Tryd.pinned (OpenSpec.upto stackLinearSpec)

/-- 'butlerlaw09.StackVersions', WHERE WHAT IT READS IS OF BULK AT MOST 1048576: true; the input reads as it did. -/
def stackVersionsUptoRow : OpenClaim := { program := "ytfjjoohflcchnaadoor", sum := "4038df7789f69a38168283df129f27ae656445f34c29a5383843516db3c7876e", func := "butler/butlerlaw09.StackVersions", spec := "stackVersions", inPlace := ["sync/atomic.SwapInt64", "sync/atomic.LoadInt64", "sync/atomic.CompareAndSwapInt64", "(*sync.WaitGroup).Add", "internal/race.ReleaseMerge", "internal/race.Disable", "internal/race.Enable", "internal/synctest.IsInBubble", "internal/synctest.Associate[sync.WaitGroup]", "sync.fatal", "sync/atomic.OrUint64", "sync/atomic.AddUint64", "internal/race.Read", "sync/atomic.LoadUint64", "sync/atomic.StoreUint64", "internal/synctest.Disassociate[sync.WaitGroup]", "sync.runtime_Semrelease", "(*sync.WaitGroup).Done", "(*sync.WaitGroup).Wait", "internal/race.Acquire", "internal/synctest.IsAssociated[sync.WaitGroup]", "sync/atomic.CompareAndSwapUint64", "internal/race.Write", "sync.runtime_SemacquireWaitGroup"], unfollowed := true, recurses := true, named := ["butler/slots.fieldFirst", "butler/slots.fieldVersion", "butler/stack.fieldTop", "butler/stack.fieldVersion"], leaving := true, apart := false, laid := [("butler/slots.fieldFirst", laid_butler_slots_fieldFirst), ("butler/slots.fieldVersion", laid_butler_slots_fieldVersion), ("butler/stack.fieldTop", laid_butler_stack_fieldTop), ("butler/stack.fieldVersion", laid_butler_stack_fieldVersion)], narrowed := true }
def StackVersionsUptoSaid : Prop := stackVersionsUptoRow.holds Tryd.pinned (OpenSpec.upto stackVersionsSpec)

/-- 'butlerlaw10.CounterLinear', WHERE WHAT IT READS IS OF BULK AT MOST 1048576: true; the input reads as it did. -/
def counterLinearUptoRow : OpenClaim := { program := "ytfjjoohflcchnaadoor", sum := "4038df7789f69a38168283df129f27ae656445f34c29a5383843516db3c7876e", func := "butler/butlerlaw10.CounterLinear", spec := "counterLinear", inPlace := ["sync/atomic.SwapInt64", "sync/atomic.LoadInt64", "sync/atomic.CompareAndSwapInt64", "(*sync.WaitGroup).Add", "internal/race.ReleaseMerge", "internal/race.Disable", "internal/race.Enable", "internal/synctest.IsInBubble", "internal/synctest.Associate[sync.WaitGroup]", "sync.fatal", "sync/atomic.OrUint64", "sync/atomic.AddUint64", "internal/race.Read", "sync/atomic.LoadUint64", "sync/atomic.StoreUint64", "internal/synctest.Disassociate[sync.WaitGroup]", "sync.runtime_Semrelease", "(*sync.WaitGroup).Done", "(*sync.WaitGroup).Wait", "internal/race.Acquire", "internal/synctest.IsAssociated[sync.WaitGroup]", "sync/atomic.CompareAndSwapUint64", "internal/race.Write", "sync.runtime_SemacquireWaitGroup"], unfollowed := true, recurses := true, named := ["butler/counter.fieldAmount", "butler/counter.fieldVersion"], leaving := true, apart := false, laid := [("butler/counter.fieldAmount", laid_butler_counter_fieldAmount), ("butler/counter.fieldVersion", laid_butler_counter_fieldVersion)], narrowed := true }
def CounterLinearUptoSaid : Prop := counterLinearUptoRow.holds Tryd.pinned (OpenSpec.upto counterLinearSpec)

/-- 'butlerlaw10.CounterTimes', WHERE WHAT IT READS IS OF BULK AT MOST 1048576: true; the input reads as it did. -/
def counterTimesUptoRow : OpenClaim := { program := "ytfjjoohflcchnaadoor", sum := "4038df7789f69a38168283df129f27ae656445f34c29a5383843516db3c7876e", func := "butler/butlerlaw10.CounterTimes", spec := "counterTimes", inPlace := ["sync/atomic.SwapInt64", "sync/atomic.LoadInt64", "sync/atomic.CompareAndSwapInt64", "(*sync.WaitGroup).Add", "internal/race.ReleaseMerge", "internal/race.Disable", "internal/race.Enable", "internal/synctest.IsInBubble", "internal/synctest.Associate[sync.WaitGroup]", "sync.fatal", "sync/atomic.OrUint64", "sync/atomic.AddUint64", "internal/race.Read", "sync/atomic.LoadUint64", "sync/atomic.StoreUint64", "internal/synctest.Disassociate[sync.WaitGroup]", "sync.runtime_Semrelease", "(*sync.WaitGroup).Done", "(*sync.WaitGroup).Wait", "internal/race.Acquire", "internal/synctest.IsAssociated[sync.WaitGroup]", "sync/atomic.CompareAndSwapUint64", "internal/race.Write", "sync.runtime_SemacquireWaitGroup"], unfollowed := true, recurses := true, named := ["butler/counter.fieldAmount", "butler/counter.fieldVersion"], leaving := true, apart := false, laid := [("butler/counter.fieldAmount", laid_butler_counter_fieldAmount), ("butler/counter.fieldVersion", laid_butler_counter_fieldVersion)], narrowed := true }
def CounterTimesUptoSaid : Prop := counterTimesUptoRow.holds Tryd.pinned (OpenSpec.upto counterTimesSpec)

/-- 'butlerlaw10.CounterAlone', WHERE WHAT IT READS IS OF BULK AT MOST 1048576: true; the input reads as it did. -/
def counterAloneUptoRow : OpenClaim := { program := "ytfjjoohflcchnaadoor", sum := "4038df7789f69a38168283df129f27ae656445f34c29a5383843516db3c7876e", func := "butler/butlerlaw10.CounterAlone", spec := "counterAlone", inPlace := ["sync/atomic.SwapInt64", "sync/atomic.LoadInt64", "sync/atomic.CompareAndSwapInt64", "(*sync.WaitGroup).Add", "internal/race.ReleaseMerge", "internal/race.Disable", "internal/race.Enable", "internal/synctest.IsInBubble", "internal/synctest.Associate[sync.WaitGroup]", "sync.fatal", "sync/atomic.OrUint64", "sync/atomic.AddUint64", "internal/race.Read", "sync/atomic.LoadUint64", "sync/atomic.StoreUint64", "internal/synctest.Disassociate[sync.WaitGroup]", "sync.runtime_Semrelease", "(*sync.WaitGroup).Done", "(*sync.WaitGroup).Wait", "internal/race.Acquire", "internal/synctest.IsAssociated[sync.WaitGroup]", "sync/atomic.CompareAndSwapUint64", "internal/race.Write", "sync.runtime_SemacquireWaitGroup"], unfollowed := true, recurses := true, named := ["butler/counter.fieldAmount", "butler/counter.fieldVersion"], leaving := true, apart := false, laid := [("butler/counter.fieldAmount", laid_butler_counter_fieldAmount), ("butler/counter.fieldVersion", laid_butler_counter_fieldVersion)], narrowed := true }
def CounterAloneUptoSaid : Prop := counterAloneUptoRow.holds Tryd.pinned (OpenSpec.upto counterAloneSpec)

end Rows
end Go.Proofs.YtfjjoohflcchnaaDoor
