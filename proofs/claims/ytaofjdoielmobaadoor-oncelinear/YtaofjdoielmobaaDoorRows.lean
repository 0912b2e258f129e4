/-
  NARROWER THAN 'FOR EVERY INPUT', by the rows' own cells (each row's printed sentence says how): OnceOnce: laid · OnceLinear: laid · OnceAlone: laid · BoxFirst: laid.
  DERIVED. THE GIVEN ROWS OF THIS SEAT. 4 by the template 'for every input the law returns true; each argument reads behind the call as it read before'; 0 by the template 'total and deterministic' (their statements: YtaofjdoielmobaaDoorTotals.lean).
  GIVEN WITH THE SEED: the statements are not yours to turn. If you find one false, say at which input.
  Laid BY PROGRAM, IN A SANDBOX (cutbox-rows.mjs): the forced cells as the released guide's own fill.sh prints them over the translation 436a4ed4325b7df1… (all of the seat's roots in one cut). By AI agents, Wed Nov 11 2026. No macro, syntax, notation, axiom, sorry.
-/
import Derived.Test.YtaofjdoielmobaaDoorChecked
import GoSem.Claim
import GoSem.ClaimJoined
import GoSem.ClaimMapViews
import Derived.JoinedTies
import Derived.KernelRfl
namespace Go.Proofs.YtaofjdoielmobaaDoor
/- THE CELL 'sum', in the pinned program and in every row, IS THE sha256 OF THE DUMP (.gsa) THAT YtaofjdoielmobaaDoorProg.lean LOADS. Nothing in Lean hashes anything: it is a label: what it is worth is what the hold of that sum in a sandbox is worth. -/
noncomputable def Tryd.pinned : Pinned := { name := "ytaofjdoielmobaadoor", sum := "436a4ed4325b7df186b786b6d13f747f67b2e9b53a2b3dcead208a8209f3d1ae", checked := Tryd.checked }
namespace Rows
def none {H : Type} : Left H := { results := [], args := [] }

/- WHAT THE LISTED PACKAGE-LEVEL VARIABLES READ AS WHEN THE CALL BEGINS. Each datum BY PROGRAM (the guide's laid-datum.mjs) off the statement by which the dump's own 'gosem.cut.vars' lays the variable. In a bare row this is a premise. The card (YtaofjdoielmobaaDoorCards.lean) ties it to the program's text. -/
def laid_butler_kept_fieldState {H : Type} : DataW H := .agg [.lit (.int .i64 0), .lit (.int .i64 2)]
def laid_butler_kept_fieldWho {H : Type} : DataW H := .agg [.lit (.int .i64 2), .lit (.int .i64 8)]
def laid_butler_kept_fieldCode {H : Type} : DataW H := .agg [.lit (.int .i64 10), .lit (.int .i64 20)]

/-- 'butlerlaw07.OnceOnce': WHATEVER THE INPUT: true; the input reads as it did. -/
def onceOnceSpec : ChangeSpec := { name := "onceOnce", fn := fun _ => fun
  | [d1, d2, d3] => { results := [.lit (.bool true)], args := [d1, d2, d3] }
  | _ => none }
def onceOnceRow : OpenClaim := { program := "ytaofjdoielmobaadoor", sum := "436a4ed4325b7df186b786b6d13f747f67b2e9b53a2b3dcead208a8209f3d1ae", func := "butler/butlerlaw07.OnceOnce", spec := "onceOnce", inPlace := ["sync/atomic.SwapInt64", "sync/atomic.LoadInt64", "sync/atomic.CompareAndSwapInt64", "(*sync.WaitGroup).Add", "internal/race.ReleaseMerge", "internal/race.Disable", "internal/race.Enable", "internal/synctest.IsInBubble", "internal/synctest.Associate[sync.WaitGroup]", "sync.fatal", "sync/atomic.OrUint64", "sync/atomic.AddUint64", "internal/race.Read", "sync/atomic.LoadUint64", "sync/atomic.StoreUint64", "internal/synctest.Disassociate[sync.WaitGroup]", "sync.runtime_Semrelease", "(*sync.WaitGroup).Done", "(*sync.WaitGroup).Wait", "internal/race.Acquire", "internal/synctest.IsAssociated[sync.WaitGroup]", "sync/atomic.CompareAndSwapUint64", "internal/race.Write", "sync.runtime_SemacquireWaitGroup"], unfollowed := true, recurses := true, named := ["butler/kept.fieldState", "butler/kept.fieldCode", "butler/kept.fieldWho"], leaving := true, apart := false, laid := [("butler/kept.fieldState", laid_butler_kept_fieldState), ("butler/kept.fieldWho", laid_butler_kept_fieldWho), ("butler/kept.fieldCode", laid_butler_kept_fieldCode)] }
def OnceOnceSaid : Prop := onceOnceRow.holds Tryd.pinned (OpenSpec.ofChange onceOnceSpec)

/-- ITS FALSE NEIGHBOUR: 'it returns false'. Refute it at one input. -/
def onceOnceWrong : ChangeSpec := { name := "onceOnce", fn := fun _ => fun
  | [d1, d2, d3] => { results := [.lit (.bool false)], args := [d1, d2, d3] }
  | _ => none }
def OnceOnceWrongFalsely : Prop := onceOnceRow.holds Tryd.pinned (OpenSpec.ofChange onceOnceWrong)

/-- 'butlerlaw07.OnceLinear': WHATEVER THE INPUT: true; the input reads as it did. -/
def onceLinearSpec : ChangeSpec := { name := "onceLinear", fn := fun _ => fun
  | [d1, d2, d3] => { results := [.lit (.bool true)], args := [d1, d2, d3] }
  | _ => none }
def onceLinearRow : OpenClaim := { program := "ytaofjdoielmobaadoor", sum := "436a4ed4325b7df186b786b6d13f747f67b2e9b53a2b3dcead208a8209f3d1ae", func := "butler/butlerlaw07.OnceLinear", spec := "onceLinear", inPlace := ["sync/atomic.SwapInt64", "sync/atomic.LoadInt64", "sync/atomic.CompareAndSwapInt64", "(*sync.WaitGroup).Add", "internal/race.ReleaseMerge", "internal/race.Disable", "internal/race.Enable", "internal/synctest.IsInBubble", "internal/synctest.Associate[sync.WaitGroup]", "sync.fatal", "sync/atomic.OrUint64", "sync/atomic.AddUint64", "internal/race.Read", "sync/atomic.LoadUint64", "sync/atomic.StoreUint64", "internal/synctest.Disassociate[sync.WaitGroup]", "sync.runtime_Semrelease", "(*sync.WaitGroup).Done", "(*sync.WaitGroup).Wait", "internal/race.Acquire", "internal/synctest.IsAssociated[sync.WaitGroup]", "sync/atomic.CompareAndSwapUint64", "internal/race.Write", "sync.runtime_SemacquireWaitGroup"], unfollowed := true, recurses := true, named := ["butler/kept.fieldState", "butler/kept.fieldCode", "butler/kept.fieldWho"], leaving := true, apart := false, laid := [("butler/kept.fieldState", laid_butler_kept_fieldState), ("butler/kept.fieldWho", laid_butler_kept_fieldWho), ("butler/kept.fieldCode", laid_butler_kept_fieldCode)] }
def OnceLinearSaid : Prop := onceLinearRow.holds Tryd.pinned (OpenSpec.ofChange onceLinearSpec)

/-- ITS FALSE NEIGHBOUR: 'it returns false'. Refute it at one input. -/
def onceLinearWrong : ChangeSpec := { name := "onceLinear", fn := fun _ => fun
  | [d1, d2, d3] => { results := [.lit (.bool false)], args := [d1, d2, d3] }
  | _ => none }
def OnceLinearWrongFalsely : Prop := onceLinearRow.holds Tryd.pinned (OpenSpec.ofChange onceLinearWrong)

/-- 'butlerlaw07.OnceAlone': WHATEVER THE INPUT: true; the input reads as it did. -/
def onceAloneSpec : ChangeSpec := { name := "onceAlone", fn := fun _ => fun
  | [d] => { results := [.lit (.bool true)], args := [d] }
  | _ => none }
def onceAloneRow : OpenClaim := { program := "ytaofjdoielmobaadoor", sum := "436a4ed4325b7df186b786b6d13f747f67b2e9b53a2b3dcead208a8209f3d1ae", func := "butler/butlerlaw07.OnceAlone", spec := "onceAlone", inPlace := ["sync/atomic.SwapInt64", "sync/atomic.LoadInt64", "sync/atomic.CompareAndSwapInt64", "(*sync.WaitGroup).Add", "internal/race.ReleaseMerge", "internal/race.Disable", "internal/race.Enable", "internal/synctest.IsInBubble", "internal/synctest.Associate[sync.WaitGroup]", "sync.fatal", "sync/atomic.OrUint64", "sync/atomic.AddUint64", "internal/race.Read", "sync/atomic.LoadUint64", "sync/atomic.StoreUint64", "internal/synctest.Disassociate[sync.WaitGroup]", "sync.runtime_Semrelease", "(*sync.WaitGroup).Done", "(*sync.WaitGroup).Wait", "internal/race.Acquire", "internal/synctest.IsAssociated[sync.WaitGroup]", "sync/atomic.CompareAndSwapUint64", "internal/race.Write", "sync.runtime_SemacquireWaitGroup"], unfollowed := true, recurses := true, named := ["butler/kept.fieldState", "butler/kept.fieldCode", "butler/kept.fieldWho"], leaving := true, apart := false, laid := [("butler/kept.fieldState", laid_butler_kept_fieldState), ("butler/kept.fieldWho", laid_butler_kept_fieldWho), ("butler/kept.fieldCode", laid_butler_kept_fieldCode)] }
def OnceAloneSaid : Prop := onceAloneRow.holds Tryd.pinned (OpenSpec.ofChange onceAloneSpec)

/-- ITS FALSE NEIGHBOUR: 'it returns false'. Refute it at one input. -/
def onceAloneWrong : ChangeSpec := { name := "onceAlone", fn := fun _ => fun
  | [d] => { results := [.lit (.bool false)], args := [d] }
  | _ => none }
def OnceAloneWrongFalsely : Prop := onceAloneRow.holds Tryd.pinned (OpenSpec.ofChange onceAloneWrong)

/-- 'butlerlaw13.BoxFirst': WHATEVER THE INPUT: true; the input reads as it did. -/
def boxFirstSpec : ChangeSpec := { name := "boxFirst", fn := fun _ => fun
  | [d1, d2, d3] => { results := [.lit (.bool true)], args := [d1, d2, d3] }
  | _ => none }
def boxFirstRow : OpenClaim := { program := "ytaofjdoielmobaadoor", sum := "436a4ed4325b7df186b786b6d13f747f67b2e9b53a2b3dcead208a8209f3d1ae", func := "butler/butlerlaw13.BoxFirst", spec := "boxFirst", inPlace := ["sync/atomic.SwapInt64", "sync/atomic.LoadInt64", "sync/atomic.CompareAndSwapInt64", "(*sync.WaitGroup).Add", "internal/race.ReleaseMerge", "internal/race.Disable", "internal/race.Enable", "internal/synctest.IsInBubble", "internal/synctest.Associate[sync.WaitGroup]", "sync.fatal", "sync/atomic.OrUint64", "sync/atomic.AddUint64", "internal/race.Read", "sync/atomic.LoadUint64", "sync/atomic.StoreUint64", "internal/synctest.Disassociate[sync.WaitGroup]", "sync.runtime_Semrelease", "(*sync.WaitGroup).Done", "(*sync.WaitGroup).Wait", "internal/race.Acquire", "internal/synctest.IsAssociated[sync.WaitGroup]", "sync/atomic.CompareAndSwapUint64", "internal/race.Write", "sync.runtime_SemacquireWaitGroup"], unfollowed := true, recurses := true, named := ["butler/kept.fieldState", "butler/kept.fieldCode", "butler/kept.fieldWho"], leaving := true, apart := false, laid := [("butler/kept.fieldState", laid_butler_kept_fieldState), ("butler/kept.fieldWho", laid_butler_kept_fieldWho), ("butler/kept.fieldCode", laid_butler_kept_fieldCode)] }
def BoxFirstSaid : Prop := boxFirstRow.holds Tryd.pinned (OpenSpec.ofChange boxFirstSpec)

/-- ITS FALSE NEIGHBOUR: 'it returns false'. Refute it at one input. -/
def boxFirstWrong : ChangeSpec := { name := "boxFirst", fn := fun _ => fun
  | [d1, d2, d3] => { results := [.lit (.bool false)], args := [d1, d2, d3] }
  | _ => none }
def BoxFirstWrongFalsely : Prop := boxFirstRow.holds Tryd.pinned (OpenSpec.ofChange boxFirstWrong)

/- THE SECOND FORM. 'bulk': how many values and letters a reading holds, each counted each time it is reached (what is shared counts as often as it is met; a slice's spare places count too). A statement '..UptoSaid' is the law's where the arguments, and the package variables that the reading takes, are together of bulk at most 1048576: NARROWER than '..Said'. Prove '..Said' where nothing that the law and all that it calls make is longer than what came in: it says more and counts as full. Else prove '..UptoSaid'. A law counts once. -/
mutual
def uptoBulk {H : Type} : DataW H → Nat
  | .lit (.string bytes) => bytes.length + 1
  | .lit _ => 1
  | .nil => 1
  | .ptr d => uptoBulk d + 1
  | .slice elems spare => uptoBulkAll elems + uptoBulkAll spare + 1
  | .agg parts => uptoBulkAll parts + 1
  | .iface _ d => uptoBulk d + 1
  | .map entries => uptoBulkEntries entries + 1
  | .held _ => 1
def uptoBulkAll {H : Type} : List (DataW H) → Nat
  | [] => 0
  | d :: r => uptoBulk d + uptoBulkAll r
def uptoBulkEntries {H : Type} : List (Lit × DataW H) → Nat
  | [] => 0
  | x :: r => uptoBulkEntry x + uptoBulkEntries r
def uptoBulkEntry {H : Type} : Lit × DataW H → Nat
  | (.string bytes, d) => bytes.length + uptoBulk d + 1
  | (_, d) => uptoBulk d + 1
 end
def uptoSmall : (H : Type) → List (DataW H) → Bool := fun _ ds => decide (uptoBulkAll ds ≤ 1048576)
def OpenSpec.upto (s : _root_.Go.ChangeSpec) : _root_.Go.OpenSpec := { _root_.Go.OpenSpec.ofChange s with cond := some uptoSmall }

/-- 'butlerlaw07.OnceOnce', WHERE WHAT IT READS IS OF BULK AT MOST 1048576: true; the input reads as it did. -/
def onceOnceUptoRow : OpenClaim := { program := "ytaofjdoielmobaadoor", sum := "436a4ed4325b7df186b786b6d13f747f67b2e9b53a2b3dcead208a8209f3d1ae", func := "butler/butlerlaw07.OnceOnce", spec := "onceOnce", inPlace := ["sync/atomic.SwapInt64", "sync/atomic.LoadInt64", "sync/atomic.CompareAndSwapInt64", "(*sync.WaitGroup).Add", "internal/race.ReleaseMerge", "internal/race.Disable", "internal/race.Enable", "internal/synctest.IsInBubble", "internal/synctest.Associate[sync.WaitGroup]", "sync.fatal", "sync/atomic.OrUint64", "sync/atomic.AddUint64", "internal/race.Read", "sync/atomic.LoadUint64", "sync/atomic.StoreUint64", "internal/synctest.Disassociate[sync.WaitGroup]", "sync.runtime_Semrelease", "(*sync.WaitGroup).Done", "(*sync.WaitGroup).Wait", "internal/race.Acquire", "internal/synctest.IsAssociated[sync.WaitGroup]", "sync/atomic.CompareAndSwapUint64", "internal/race.Write", "sync.runtime_SemacquireWaitGroup"], unfollowed := true, recurses := true, named := ["butler/kept.fieldState", "butler/kept.fieldCode", "butler/kept.fieldWho"], leaving := true, apart := false, laid := [("butler/kept.fieldState", laid_butler_kept_fieldState), ("butler/kept.fieldWho", laid_butler_kept_fieldWho), ("butler/kept.fieldCode", laid_butler_kept_fieldCode)], narrowed := true }
def OnceOnceUptoSaid : Prop := onceOnceUptoRow.holds Tryd.pinned (OpenSpec.upto onceOnceSpec)

/-- 'butlerlaw07.OnceLinear', WHERE WHAT IT READS IS OF BULK AT MOST 1048576: true; the input reads as it did. -/
def onceLinearUptoRow : OpenClaim := { program := "ytaofjdoielmobaadoor", sum := "436a4ed4325b7df186b786b6d13f747f67b2e9b53a2b3dcead208a8209f3d1ae", func := "butler/butlerlaw07.OnceLinear", spec := "onceLinear", inPlace := ["sync/atomic.SwapInt64", "sync/atomic.LoadInt64", "sync/atomic.CompareAndSwapInt64", "(*sync.WaitGroup).Add", "internal/race.ReleaseMerge", "internal/race.Disable", "internal/race.Enable", "internal/synctest.IsInBubble", "internal/synctest.Associate[sync.WaitGroup]", "sync.fatal", "sync/atomic.OrUint64", "sync/atomic.AddUint64", "internal/race.Read", "sync/atomic.LoadUint64", "sync/atomic.StoreUint64", "internal/synctest.Disassociate[sync.WaitGroup]", "sync.runtime_Semrelease", "(*sync.WaitGroup).Done", "(*sync.WaitGroup).Wait", "internal/race.Acquire", "internal/synctest.IsAssociated[sync.WaitGroup]", "sync/atomic.CompareAndSwapUint64", "internal/race.Write", "sync.runtime_SemacquireWaitGroup"], unfollowed := true, recurses := true, named := ["butler/kept.fieldState", "butler/kept.fieldCode", "butler/kept.fieldWho"], leaving := true, apart := false, laid := [("butler/kept.fieldState", laid_butler_kept_fieldState), ("butler/kept.fieldWho", laid_butler_kept_fieldWho), ("butler/kept.fieldCode", laid_butler_kept_fieldCode)], narrowed := true }
def OnceLinearUptoSaid : Prop := onceLinearUptoRow.holds Tryd.pinned (OpenSpec.upto onceLinearSpec)

/-- 'butlerlaw07.OnceAlone', WHERE WHAT IT READS IS OF BULK AT MOST 1048576: true; the input reads as it did. -/
def onceAloneUptoRow : OpenClaim := { program := "ytaofjdoielmobaadoor", sum := "436a4ed4325b7df186b786b6d13f747f67b2e9b53a2b3dcead208a8209f3d1ae", func := "butler/butlerlaw07.OnceAlone", spec := "onceAlone", inPlace := ["sync/atomic.SwapInt64", "sync/atomic.LoadInt64", "sync/atomic.CompareAndSwapInt64", "(*sync.WaitGroup).Add", "internal/race.ReleaseMerge", "internal/race.Disable", "internal/race.Enable", "internal/synctest.IsInBubble", "internal/synctest.Associate[sync.WaitGroup]", "sync.fatal", "sync/atomic.OrUint64", "sync/atomic.AddUint64", "internal/race.Read", "sync/atomic.LoadUint64", "sync/atomic.StoreUint64", "internal/synctest.Disassociate[sync.WaitGroup]", "sync.runtime_Semrelease", "(*sync.WaitGroup).Done", "(*sync.WaitGroup).Wait", "internal/race.Acquire", "internal/synctest.IsAssociated[sync.WaitGroup]", "sync/atomic.CompareAndSwapUint64", "internal/race.Write", "sync.runtime_SemacquireWaitGroup"], unfollowed := true, recurses := true, named := ["butler/kept.fieldState", "butler/kept.fieldCode", "butler/kept.fieldWho"], leaving := true, apart := false, laid := [("butler/kept.fieldState", laid_butler_kept_fieldState), ("butler/kept.fieldWho", laid_butler_kept_fieldWho), ("butler/kept.fieldCode", laid_butler_kept_fieldCode)], narrowed := true }
def OnceAloneUptoSaid : Prop := onceAloneUptoRow.holds Tryd.pinned (OpenSpec.upto onceAloneSpec)

/-- 'butlerlaw13.BoxFirst', WHERE WHAT IT READS IS OF BULK AT MOST 1048576: true; the input reads as it did. -/
def boxFirstUptoRow : OpenClaim := { program := "ytaofjdoielmobaadoor", sum := "436a4ed4325b7df186b786b6d13f747f67b2e9b53a2b3dcead208a8209f3d1ae", func := "butler/butlerlaw13.BoxFirst", spec := "boxFirst", inPlace := ["sync/atomic.SwapInt64", "sync/atomic.LoadInt64", "sync/atomic.CompareAndSwapInt64", "(*sync.WaitGroup).Add", "internal/race.ReleaseMerge", "internal/race.Disable", "internal/race.Enable", "internal/synctest.IsInBubble", "internal/synctest.Associate[sync.WaitGroup]", "sync.fatal", "sync/atomic.OrUint64", "sync/atomic.AddUint64", "internal/race.Read", "sync/atomic.LoadUint64", "sync/atomic.StoreUint64", "internal/synctest.Disassociate[sync.WaitGroup]", "sync.runtime_Semrelease", "(*sync.WaitGroup).Done", "(*sync.WaitGroup).Wait", "internal/race.Acquire", "internal/synctest.IsAssociated[sync.WaitGroup]", "sync/atomic.CompareAndSwapUint64", "internal/race.Write", "sync.runtime_SemacquireWaitGroup"], unfollowed := true, recurses := true, named := ["butler/kept.fieldState", "butler/kept.fieldCode", "butler/kept.fieldWho"], leaving := true, apart := false, laid := [("butler/kept.fieldState", laid_butler_kept_fieldState), ("butler/kept.fieldWho", laid_butler_kept_fieldWho), ("butler/kept.fieldCode", laid_butler_kept_fieldCode)], narrowed := true }
def BoxFirstUptoSaid : Prop := boxFirstUptoRow.holds Tryd.pinned (OpenSpec.upto boxFirstSpec)

end Rows
end Go.Proofs.YtaofjdoielmobaaDoor
