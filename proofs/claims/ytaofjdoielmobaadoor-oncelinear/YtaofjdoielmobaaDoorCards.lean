/-
  DERIVED. GIVEN WITH THE SEED: THE CARDS: each row of YtaofjdoielmobaaDoorRows.lean that lists a variable, with what it lists TIED to the program's text (the seventh form; the later family's looks); each row that meets fmt, with fmt's text TOLD by the authors' own Lean function (tested against real Go, not proved from fmt's source: count such statements apart). THE CARD IS WHAT COUNTS. Prove the row's statement (the work); the ties are given (YtaofjdoielmobaaDoorTie.lean); close each card by the builder's one call (the guide's Derived/Test/ToyasCard.lean, 'card_holds'). Laid BY PROGRAM, IN A SANDBOX (cutbox-door.mjs). By AI agents, Wed Nov 11 2026. No macro, syntax, notation, axiom, sorry.
-/
import Derived.Test.YtaofjdoielmobaaDoorRows
import GoSem.ClaimSeven
namespace Go.Proofs.YtaofjdoielmobaaDoor
namespace Rows

/-- THE TIED CARD OF 'butlerlaw07.OnceOnce'. -/
def onceOnceCard : Claim7 := { stood := { row := onceOnceRow, standIns := [], harness := (true, "22e9bfe4b540be7364109b8026225911ca445b9d1be1bb6f937dc49ed01ba853"), looks := false }, kinds := [], alts := [], goes := true, laidByText := true, laidKinds := [.data, .data, .data], laidTests := true, laidLooks := .later }
def OnceOnceCardSaid : Prop := Claim7.holds Tryd.pinned (.plain (OpenSpec.ofChange onceOnceSpec)) onceOnceCard

/-- THE TIED CARD OF 'butlerlaw07.OnceLinear'. -/
def onceLinearCard : Claim7 := { stood := { row := onceLinearRow, standIns := [], harness := (true, "22e9bfe4b540be7364109b8026225911ca445b9d1be1bb6f937dc49ed01ba853"), looks := false }, kinds := [], alts := [], goes := true, laidByText := true, laidKinds := [.data, .data, .data], laidTests := true, laidLooks := .later }
def OnceLinearCardSaid : Prop := Claim7.holds Tryd.pinned (.plain (OpenSpec.ofChange onceLinearSpec)) onceLinearCard

/-- THE TIED CARD OF 'butlerlaw07.OnceAlone'. -/
def onceAloneCard : Claim7 := { stood := { row := onceAloneRow, standIns := [], harness := (true, "22e9bfe4b540be7364109b8026225911ca445b9d1be1bb6f937dc49ed01ba853"), looks := false }, kinds := [], alts := [], goes := true, laidByText := true, laidKinds := [.data, .data, .data], laidTests := true, laidLooks := .later }
def OnceAloneCardSaid : Prop := Claim7.holds Tryd.pinned (.plain (OpenSpec.ofChange onceAloneSpec)) onceAloneCard

/-- THE TIED CARD OF 'butlerlaw13.BoxFirst'. -/
def boxFirstCard : Claim7 := { stood := { row := boxFirstRow, standIns := [], harness := (true, "22e9bfe4b540be7364109b8026225911ca445b9d1be1bb6f937dc49ed01ba853"), looks := false }, kinds := [], alts := [], goes := true, laidByText := true, laidKinds := [.data, .data, .data], laidTests := true, laidLooks := .later }
def BoxFirstCardSaid : Prop := Claim7.holds Tryd.pinned (.plain (OpenSpec.ofChange boxFirstSpec)) boxFirstCard

/-- THE SECOND FORM's CARD OF 'butlerlaw07.OnceOnce'. -/
def onceOnceUptoCard : Claim7 := { stood := { row := onceOnceUptoRow, standIns := [], harness := (true, "22e9bfe4b540be7364109b8026225911ca445b9d1be1bb6f937dc49ed01ba853"), looks := false }, kinds := [], alts := [], goes := true, laidByText := true, laidKinds := [.data, .data, .data], laidTests := true, laidLooks := .later }
def OnceOnceUptoCardSaid : Prop := Claim7.holds Tryd.pinned (.plain (OpenSpec.upto onceOnceSpec)) onceOnceUptoCard

/-- THE SECOND FORM's CARD OF 'butlerlaw07.OnceLinear'. -/
def onceLinearUptoCard : Claim7 := { stood := { row := onceLinearUptoRow, standIns := [], harness := (true, "22e9bfe4b540be7364109b8026225911ca445b9d1be1bb6f937dc49ed01ba853"), looks := false }, kinds := [], alts := [], goes := true, laidByText := true, laidKinds := [.data, .data, .data], laidTests := true, laidLooks := .later }
def OnceLinearUptoCardSaid : Prop := Claim7.holds Tryd.pinned (.plain (OpenSpec.upto onceLinearSpec)) onceLinearUptoCard

/-- THE SECOND FORM's CARD OF 'butlerlaw07.OnceAlone'. -/
def onceAloneUptoCard : Claim7 := { stood := { row := onceAloneUptoRow, standIns := [], harness := (true, "22e9bfe4b540be7364109b8026225911ca445b9d1be1bb6f937dc49ed01ba853"), looks := false }, kinds := [], alts := [], goes := true, laidByText := true, laidKinds := [.data, .data, .data], laidTests := true, laidLooks := .later }
def OnceAloneUptoCardSaid : Prop := Claim7.holds Tryd.pinned (.plain (OpenSpec.upto onceAloneSpec)) onceAloneUptoCard

/-- THE SECOND FORM's CARD OF 'butlerlaw13.BoxFirst'. -/
def boxFirstUptoCard : Claim7 := { stood := { row := boxFirstUptoRow, standIns := [], harness := (true, "22e9bfe4b540be7364109b8026225911ca445b9d1be1bb6f937dc49ed01ba853"), looks := false }, kinds := [], alts := [], goes := true, laidByText := true, laidKinds := [.data, .data, .data], laidTests := true, laidLooks := .later }
def BoxFirstUptoCardSaid : Prop := Claim7.holds Tryd.pinned (.plain (OpenSpec.upto boxFirstSpec)) boxFirstUptoCard
end Rows
end Go.Proofs.YtaofjdoielmobaaDoor
