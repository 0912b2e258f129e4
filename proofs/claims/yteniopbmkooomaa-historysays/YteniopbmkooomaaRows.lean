/-
  No cell of these rows narrows 'for every input' (looked for: loops, veiled, ifaces, maps, wideKeys, modest, calm, conditions, laid).
  DERIVED. THE GIVEN ROWS OF THIS SEAT. 4 by the template 'for every input the law returns true; each argument reads behind the call as it read before'; 0 by the template 'total and deterministic' (their statements: YteniopbmkooomaaTotals.lean).
  GIVEN WITH THE SEED: the statements are not yours to turn. If you find one false, say at which input.
  Laid BY PROGRAM, IN A SANDBOX (cutbox-rows.mjs): the forced cells as the released guide's own fill.sh prints them over the translation 50b5511889bfa617… (all of the seat's roots in one cut). By AI agents, Wed Nov 11 2026. No macro, syntax, notation, axiom, sorry.
-/
import Derived.Test.YteniopbmkooomaaChecked
import GoSem.Claim
import GoSem.ClaimJoined
import GoSem.ClaimMapViews
import Derived.JoinedTies
import Derived.KernelRfl
namespace Go.Proofs.Yteniopbmkooomaa
/- THE CELL 'sum', in the pinned program and in every row, IS THE sha256 OF THE DUMP (.gsa) THAT YteniopbmkooomaaProg.lean LOADS. Nothing in Lean hashes anything: it is a label: what it is worth is what the hold of that sum in a sandbox is worth. -/
noncomputable def Try.pinned : Pinned := { name := "yteniopbmkooomaa", sum := "50b5511889bfa617c3164a4562121ee0f5dbb1c55dcb0d8f15b3a182dc17fe2b", checked := Try.checked }
namespace Rows
def none {H : Type} : Left H := { results := [], args := [] }

/-- 'butlerlaw03.HistorySays': WHATEVER THE INPUT: true; the input reads as it did. -/
def historySaysSpec : ChangeSpec := { name := "historySays", fn := fun _ => fun
  | [d1, d2, d3, d4] => { results := [.lit (.bool true)], args := [d1, d2, d3, d4] }
  | _ => none }
def historySaysRow : OpenClaim := { program := "yteniopbmkooomaa", sum := "50b5511889bfa617c3164a4562121ee0f5dbb1c55dcb0d8f15b3a182dc17fe2b", func := "butler/butlerlaw03.HistorySays", spec := "historySays", unfollowed := true, recurses := true, plainKeys := false, apart := false }
def HistorySaysSaid : Prop := historySaysRow.holds Try.pinned (OpenSpec.ofChange historySaysSpec)

/-- ITS FALSE NEIGHBOUR: 'it returns false'. Refute it at one input. -/
def historySaysWrong : ChangeSpec := { name := "historySays", fn := fun _ => fun
  | [d1, d2, d3, d4] => { results := [.lit (.bool false)], args := [d1, d2, d3, d4] }
  | _ => none }
def HistorySaysWrongFalsely : Prop := historySaysRow.holds Try.pinned (OpenSpec.ofChange historySaysWrong)

/-- 'butlerlaw03.HistoryOf': WHATEVER THE INPUT: true; the input reads as it did. -/
def historyOfSpec : ChangeSpec := { name := "historyOf", fn := fun _ => fun
  | [d] => { results := [.lit (.bool true)], args := [d] }
  | _ => none }
def historyOfRow : OpenClaim := { program := "yteniopbmkooomaa", sum := "50b5511889bfa617c3164a4562121ee0f5dbb1c55dcb0d8f15b3a182dc17fe2b", func := "butler/butlerlaw03.HistoryOf", spec := "historyOf", unfollowed := true, recurses := true, plainKeys := false, apart := false }
def HistoryOfSaid : Prop := historyOfRow.holds Try.pinned (OpenSpec.ofChange historyOfSpec)

/-- ITS FALSE NEIGHBOUR: 'it returns false'. Refute it at one input. -/
def historyOfWrong : ChangeSpec := { name := "historyOf", fn := fun _ => fun
  | [d] => { results := [.lit (.bool false)], args := [d] }
  | _ => none }
def HistoryOfWrongFalsely : Prop := historyOfRow.holds Try.pinned (OpenSpec.ofChange historyOfWrong)

/-- 'butlerlaw03.HistoryRow': WHATEVER THE INPUT: true; the input reads as it did. -/
def historyRowSpec : ChangeSpec := { name := "historyRow", fn := fun _ => fun
  | [d1, d2, d3, d4] => { results := [.lit (.bool true)], args := [d1, d2, d3, d4] }
  | _ => none }
def historyRowRow : OpenClaim := { program := "yteniopbmkooomaa", sum := "50b5511889bfa617c3164a4562121ee0f5dbb1c55dcb0d8f15b3a182dc17fe2b", func := "butler/butlerlaw03.HistoryRow", spec := "historyRow", unfollowed := true, recurses := true, plainKeys := false, apart := false }
def HistoryRowSaid : Prop := historyRowRow.holds Try.pinned (OpenSpec.ofChange historyRowSpec)

/-- ITS FALSE NEIGHBOUR: 'it returns false'. Refute it at one input. -/
def historyRowWrong : ChangeSpec := { name := "historyRow", fn := fun _ => fun
  | [d1, d2, d3, d4] => { results := [.lit (.bool false)], args := [d1, d2, d3, d4] }
  | _ => none }
def HistoryRowWrongFalsely : Prop := historyRowRow.holds Try.pinned (OpenSpec.ofChange historyRowWrong)

/-- 'butlerlaw03.HistoryWide': WHATEVER THE INPUT: true; the input reads as it did. -/
def historyWideSpec : ChangeSpec := { name := "historyWide", fn := fun _ => fun
  | [d1, d2, d3, d4, d5] => { results := [.lit (.bool true)], args := [d1, d2, d3, d4, d5] }
  | _ => none }
def historyWideRow : OpenClaim := { program := "yteniopbmkooomaa", sum := "50b5511889bfa617c3164a4562121ee0f5dbb1c55dcb0d8f15b3a182dc17fe2b", func := "butler/butlerlaw03.HistoryWide", spec := "historyWide", unfollowed := true, recurses := true, plainKeys := false, apart := false }
def HistoryWideSaid : Prop := historyWideRow.holds Try.pinned (OpenSpec.ofChange historyWideSpec)

/-- ITS FALSE NEIGHBOUR: 'it returns false'. Refute it at one input. -/
def historyWideWrong : ChangeSpec := { name := "historyWide", fn := fun _ => fun
  | [d1, d2, d3, d4, d5] => { results := [.lit (.bool false)], args := [d1, d2, d3, d4, d5] }
  | _ => none }
def HistoryWideWrongFalsely : Prop := historyWideRow.holds Try.pinned (OpenSpec.ofChange historyWideWrong)

/- THE SECOND FORM. 'bulk': how many values and letters a reading holds, each counted each time it is reached (what is shared counts as often as it is met; a slice's spare places count too). A statement '..UptoSaid' is the law's where the arguments, and the package variables that the reading takes, are together of bulk at most 1048576: NARROWER than '..Said'. Prove '..Said' where nothing that the law and all that it calls make is longer than what came in: it says more and counts as full. Else prove '..UptoSaid'. A law counts once. -/
mutual
def uptoBulk {H : Type} : DataW H → Nat
  | .lit (.string bytes) => bytes.length + 1
  | .lit _ => 1
  | .nil => 1
  | .ptr d => uptoBulk d + 1
  | .slice elems spare => uptoBulkAll elems + uptoBulkAll spare + 1
  | .agg parts => uptoBulkAll parts + 1
  | .iface _ d => uptoBulk d + 1
  | .map entries => uptoBulkEntries entries + 1
  | .held _ => 1
def uptoBulkAll {H : Type} : List (DataW H) → Nat
  | [] => 0
  | d :: r => uptoBulk d + uptoBulkAll r
def uptoBulkEntries {H : Type} : List (Lit × DataW H) → Nat
  | [] => 0
  | x :: r => uptoBulkEntry x + uptoBulkEntries r
def uptoBulkEntry {H : Type} : Lit × DataW H → Nat
  | (.string bytes, d) => bytes.length + uptoBulk d + 1
  | (_, d) => uptoBulk d + 1
 end
def uptoSmall : (H : Type) → List (DataW H) → Bool := fun _ ds => decide (uptoBulkAll ds ≤ 1048576)
def OpenSpec.upto (s : _root_.Go.ChangeSpec) : _root_.Go.OpenSpec := { _root_.Go.OpenSpec.ofChange s with cond := some uptoSmall }

/-- 'butlerlaw03.HistorySays', WHERE WHAT IT READS IS OF BULK AT MOST 1048576: true; the input reads as it did. -/
def historySaysUptoRow : OpenClaim := { program := "yteniopbmkooomaa", sum := "50b5511889bfa617c3164a4562121ee0f5dbb1c55dcb0d8f15b3a182dc17fe2b", func := "butler/butlerlaw03.HistorySays", spec := "historySays", unfollowed := true, recurses := true, plainKeys := false, apart := false, narrowed := true }
def HistorySaysUptoSaid : Prop := historySaysUptoRow.holds Try.pinned (OpenSpec.upto historySaysSpec)

/-- 'butlerlaw03.HistoryOf', WHERE WHAT IT READS IS OF BULK AT MOST 1048576: true; the input reads as it did. -/
def historyOfUptoRow : OpenClaim := { program := "yteniopbmkooomaa", sum := "50b5511889bfa617c3164a4562121ee0f5dbb1c55dcb0d8f15b3a182dc17fe2b", func := "butler/butlerlaw03.HistoryOf", spec := "historyOf", unfollowed := true, recurses := true, plainKeys := false, apart := false, narrowed := true }
def HistoryOfUptoSaid : Prop := historyOfUptoRow.holds Try.pinned (OpenSpec.upto historyOfSpec)

/-- 'butlerlaw03.HistoryRow', WHERE WHAT IT READS IS OF BULK AT MOST 1048576: true; the input reads as it did. -/
def historyRowUptoRow : OpenClaim := { program := "yteniopbmkooomaa", sum := "50b5511889bfa617c3164a4562121ee0f5dbb1c55dcb0d8f15b3a182dc17fe2b", func := "butler/butlerlaw03.HistoryRow", spec := "historyRow", unfollowed := true, recurses := true, plainKeys := false, apart := false, narrowed := true }
def HistoryRowUptoSaid : Prop := historyRowUptoRow.holds Try.pinned (OpenSpec.upto historyRowSpec)

/-- 'butlerlaw03.HistoryWide', WHERE WHAT IT READS IS OF BULK AT MOST 1048576: true; the input reads as it did. -/
def historyWideUptoRow : OpenClaim := { program := "yteniopbmkooomaa", sum := "50b5511889bfa617c3164a4562121ee0f5dbb1c55dcb0d8f15b3a182dc17fe2b", func := "butler/butlerlaw03.HistoryWide", spec := "historyWide", unfollowed := true, recurses := true, plainKeys := false, apart := false, narrowed := true }
def HistoryWideUptoSaid : Prop := historyWideUptoRow.holds Try.pinned (OpenSpec.upto historyWideSpec)

end Rows
end Go.Proofs.Yteniopbmkooomaa
