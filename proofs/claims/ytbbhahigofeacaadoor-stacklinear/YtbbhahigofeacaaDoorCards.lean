/-
  DERIVED. GIVEN WITH THE SEED: THE CARDS: each row of YtbbhahigofeacaaDoorRows.lean that lists a variable, with what it lists TIED to the program's text (the seventh form; the later family's looks); each row that meets fmt, with fmt's text TOLD by the authors' own Lean function (tested against real Go, not proved from fmt's source: count such statements apart). THE CARD IS WHAT COUNTS. Prove the row's statement (the work); the ties are given (YtbbhahigofeacaaDoorTie.lean); close each card by the builder's one call (the guide's Derived/Test/ToyasCard.lean, 'card_holds'). Laid BY PROGRAM, IN A SANDBOX (cutbox-door.mjs). By AI agents, Wed Nov 11 2026. No macro, syntax, notation, axiom, sorry.
-/
import Derived.Test.YtbbhahigofeacaaDoorRows
import GoSem.ClaimSeven
namespace Go.Proofs.YtbbhahigofeacaaDoor
namespace Rows

/-- THE TIED CARD OF 'butlerlaw08.SlotsNames'. -/
def slotsNamesCard : Claim7 := { stood := { row := slotsNamesRow, standIns := [], harness := (true, "5384a0d33f153892fa0c5ab551febbcb8a59721014a4b7689127176bf9c23fe4"), looks := false }, kinds := [], alts := [], goes := true, laidByText := true, laidKinds := [.data, .data], laidTests := true, laidLooks := .later }
def SlotsNamesCardSaid : Prop := Claim7.holds Tryd.pinned (.plain (OpenSpec.ofChange slotsNamesSpec)) slotsNamesCard

/-- THE TIED CARD OF 'butlerlaw08.SlotsWhole'. -/
def slotsWholeCard : Claim7 := { stood := { row := slotsWholeRow, standIns := [], harness := (true, "5384a0d33f153892fa0c5ab551febbcb8a59721014a4b7689127176bf9c23fe4"), looks := false }, kinds := [], alts := [], goes := true, laidByText := true, laidKinds := [.data, .data], laidTests := true, laidLooks := .later }
def SlotsWholeCardSaid : Prop := Claim7.holds Tryd.pinned (.plain (OpenSpec.ofChange slotsWholeSpec)) slotsWholeCard

/-- THE TIED CARD OF 'butlerlaw08.SlotsAlone'. -/
def slotsAloneCard : Claim7 := { stood := { row := slotsAloneRow, standIns := [], harness := (true, "5384a0d33f153892fa0c5ab551febbcb8a59721014a4b7689127176bf9c23fe4"), looks := false }, kinds := [], alts := [], goes := true, laidByText := true, laidKinds := [.data, .data], laidTests := true, laidLooks := .later }
def SlotsAloneCardSaid : Prop := Claim7.holds Tryd.pinned (.plain (OpenSpec.ofChange slotsAloneSpec)) slotsAloneCard

/-- THE TIED CARD OF 'butlerlaw08.SlotsFree'. -/
def slotsFreeCard : Claim7 := { stood := { row := slotsFreeRow, standIns := [], harness := (true, "5384a0d33f153892fa0c5ab551febbcb8a59721014a4b7689127176bf9c23fe4"), looks := false }, kinds := [], alts := [], goes := true, laidByText := true, laidKinds := [.data, .data], laidTests := true, laidLooks := .later }
def SlotsFreeCardSaid : Prop := Claim7.holds Tryd.pinned (.plain (OpenSpec.ofChange slotsFreeSpec)) slotsFreeCard

/-- THE TIED CARD OF 'butlerlaw09.StackKeeps'. -/
def stackKeepsCard : Claim7 := { stood := { row := stackKeepsRow, standIns := [], harness := (true, "5384a0d33f153892fa0c5ab551febbcb8a59721014a4b7689127176bf9c23fe4"), looks := false }, kinds := [], alts := [], goes := true, laidByText := true, laidKinds := [.data, .data, .data, .data], laidTests := true, laidLooks := .later }
def StackKeepsCardSaid : Prop := Claim7.holds Tryd.pinned (.plain (OpenSpec.ofChange stackKeepsSpec)) stackKeepsCard

/-- THE TIED CARD OF 'butlerlaw09.StackLinear'. -/
def stackLinearCard : Claim7 := { stood := { row := stackLinearRow, standIns := [], harness := (true, "5384a0d33f153892fa0c5ab551febbcb8a59721014a4b7689127176bf9c23fe4"), looks := false }, kinds := [], alts := [], goes := true, laidByText := true, laidKinds := [.data, .data, .data, .data], laidTests := true, laidLooks := .later }
def StackLinearCardSaid : Prop := Claim7.holds Tryd.pinned (.plain (OpenSpec.ofChange stackLinearSpec)) stackLinearCard

/-- THE TIED CARD OF 'butlerlaw09.StackVersions'. -/
def stackVersionsCard : Claim7 := { stood := { row := stackVersionsRow, standIns := [], harness := (true, "5384a0d33f153892fa0c5ab551febbcb8a59721014a4b7689127176bf9c23fe4"), looks := false }, kinds := [], alts := [], goes := true, laidByText := true, laidKinds := [.data, .data, .data, .data], laidTests := true, laidLooks := .later }
def StackVersionsCardSaid : Prop := Claim7.holds Tryd.pinned (.plain (OpenSpec.ofChange stackVersionsSpec)) stackVersionsCard

/-- THE SECOND FORM's CARD OF 'butlerlaw08.SlotsNames'. -/
def slotsNamesUptoCard : Claim7 := { stood := { row := slotsNamesUptoRow, standIns := [], harness := (true, "5384a0d33f153892fa0c5ab551febbcb8a59721014a4b7689127176bf9c23fe4"), looks := false }, kinds := [], alts := [], goes := true, laidByText := true, laidKinds := [.data, .data], laidTests := true, laidLooks := .later }
def SlotsNamesUptoCardSaid : Prop := Claim7.holds Tryd.pinned (.plain (OpenSpec.upto slotsNamesSpec)) slotsNamesUptoCard

/-- THE SECOND FORM's CARD OF 'butlerlaw08.SlotsWhole'. -/
def slotsWholeUptoCard : Claim7 := { stood := { row := slotsWholeUptoRow, standIns := [], harness := (true, "5384a0d33f153892fa0c5ab551febbcb8a59721014a4b7689127176bf9c23fe4"), looks := false }, kinds := [], alts := [], goes := true, laidByText := true, laidKinds := [.data, .data], laidTests := true, laidLooks := .later }
def SlotsWholeUptoCardSaid : Prop := Claim7.holds Tryd.pinned (.plain (OpenSpec.upto slotsWholeSpec)) slotsWholeUptoCard

/-- THE SECOND FORM's CARD OF 'butlerlaw08.SlotsAlone'. -/
def slotsAloneUptoCard : Claim7 := { stood := { row := slotsAloneUptoRow, standIns := [], harness := (true, "5384a0d33f153892fa0c5ab551febbcb8a59721014a4b7689127176bf9c23fe4"), looks := false }, kinds := [], alts := [], goes := true, laidByText := true, laidKinds := [.data, .data], laidTests := true, laidLooks := .later }
def SlotsAloneUptoCardSaid : Prop := Claim7.holds Tryd.pinned (.plain (OpenSpec.upto slotsAloneSpec)) slotsAloneUptoCard

/-- THE SECOND FORM's CARD OF 'butlerlaw08.SlotsFree'. -/
def slotsFreeUptoCard : Claim7 := { stood := { row := slotsFreeUptoRow, standIns := [], harness := (true, "5384a0d33f153892fa0c5ab551febbcb8a59721014a4b7689127176bf9c23fe4"), looks := false }, kinds := [], alts := [], goes := true, laidByText := true, laidKinds := [.data, .data], laidTests := true, laidLooks := .later }
def SlotsFreeUptoCardSaid : Prop := Claim7.holds Tryd.pinned (.plain (OpenSpec.upto slotsFreeSpec)) slotsFreeUptoCard

/-- THE SECOND FORM's CARD OF 'butlerlaw09.StackKeeps'. -/
def stackKeepsUptoCard : Claim7 := { stood := { row := stackKeepsUptoRow, standIns := [], harness := (true, "5384a0d33f153892fa0c5ab551febbcb8a59721014a4b7689127176bf9c23fe4"), looks := false }, kinds := [], alts := [], goes := true, laidByText := true, laidKinds := [.data, .data, .data, .data], laidTests := true, laidLooks := .later }
def StackKeepsUptoCardSaid : Prop := Claim7.holds Tryd.pinned (.plain (OpenSpec.upto stackKeepsSpec)) stackKeepsUptoCard

/-- THE SECOND FORM's CARD OF 'butlerlaw09.StackLinear'. -/
def stackLinearUptoCard : Claim7 := { stood := { row := stackLinearUptoRow, standIns := [], harness := (true, "5384a0d33f153892fa0c5ab551febbcb8a59721014a4b7689127176bf9c23fe4"), looks := false }, kinds := [], alts := [], goes := true, laidByText := true, laidKinds := [.data, .data, .data, .data], laidTests := true, laidLooks := .later }
def StackLinearUptoCardSaid : Prop := Claim7.holds Tryd.pinned (.plain (OpenSpec.upto stackLinearSpec)) stackLinearUptoCard

/-- THE SECOND FORM's CARD OF 'butlerlaw09.StackVersions'. -/
def stackVersionsUptoCard : Claim7 := { stood := { row := stackVersionsUptoRow, standIns := [], harness := (true, "5384a0d33f153892fa0c5ab551febbcb8a59721014a4b7689127176bf9c23fe4"), looks := false }, kinds := [], alts := [], goes := true, laidByText := true, laidKinds := [.data, .data, .data, .data], laidTests := true, laidLooks := .later }
def StackVersionsUptoCardSaid : Prop := Claim7.holds Tryd.pinned (.plain (OpenSpec.upto stackVersionsSpec)) stackVersionsUptoCard
end Rows
end Go.Proofs.YtbbhahigofeacaaDoor
