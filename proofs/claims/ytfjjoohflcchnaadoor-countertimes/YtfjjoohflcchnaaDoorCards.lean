/-
  DERIVED. GIVEN WITH THE SEED: THE CARDS: each row of YtfjjoohflcchnaaDoorRows.lean that lists a variable, with what it lists TIED to the program's text (the seventh form; the later family's looks); each row that meets fmt, with fmt's text TOLD by the authors' own Lean function (tested against real Go, not proved from fmt's source: count such statements apart). THE CARD IS WHAT COUNTS. Prove the row's statement (the work); the ties are given (YtfjjoohflcchnaaDoorTie.lean); close each card by the builder's one call (the guide's Derived/Test/ToyasCard.lean, 'card_holds'). Laid BY PROGRAM, IN A SANDBOX (cutbox-door.mjs). By AI agents, Wed Nov 11 2026. No macro, syntax, notation, axiom, sorry.
-/
import Derived.Test.YtfjjoohflcchnaaDoorRows
import GoSem.ClaimSeven
namespace Go.Proofs.YtfjjoohflcchnaaDoor
namespace Rows

/-- THE TIED CARD OF 'butlerlaw07.OnceOnce'. -/
def onceOnceCard : Claim7 := { stood := { row := onceOnceRow, standIns := [], harness := (true, "c5d96d943705fb60c131bcb21c5125a8fd6a727edde1c2dbf4caf91d3e53bca3"), looks := false }, kinds := [], alts := [], goes := true, laidByText := true, laidKinds := [.data, .data, .data], laidTests := true, laidLooks := .later }
def OnceOnceCardSaid : Prop := Claim7.holds Tryd.pinned (.plain (OpenSpec.ofChange onceOnceSpec)) onceOnceCard

/-- THE TIED CARD OF 'butlerlaw07.OnceLinear'. -/
def onceLinearCard : Claim7 := { stood := { row := onceLinearRow, standIns := [], harness := (true, "c5d96d943705fb60c131bcb21c5125a8fd6a727edde1c2dbf4caf91d3e53bca3"), looks := false }, kinds := [], alts := [], goes := true, laidByText := true, laidKinds := [.data, .data, .data], laidTests := true, laidLooks := .later }
def OnceLinearCardSaid : Prop := Claim7.holds Tryd.pinned (.plain (OpenSpec.ofChange onceLinearSpec)) onceLinearCard

/-- THE TIED CARD OF 'butlerlaw07.OnceAlone'. -/
def onceAloneCard : Claim7 := { stood := { row := onceAloneRow, standIns := [], harness := (true, "c5d96d943705fb60c131bcb21c5125a8fd6a727edde1c2dbf4caf91d3e53bca3"), looks := false }, kinds := [], alts := [], goes := true, laidByText := true, laidKinds := [.data, .data, .data], laidTests := true, laidLooks := .later }
def OnceAloneCardSaid : Prop := Claim7.holds Tryd.pinned (.plain (OpenSpec.ofChange onceAloneSpec)) onceAloneCard

/-- THE TIED CARD OF 'butlerlaw08.SlotsNames'. -/
def slotsNamesCard : Claim7 := { stood := { row := slotsNamesRow, standIns := [], harness := (true, "c5d96d943705fb60c131bcb21c5125a8fd6a727edde1c2dbf4caf91d3e53bca3"), looks := false }, kinds := [], alts := [], goes := true, laidByText := true, laidKinds := [.data, .data], laidTests := true, laidLooks := .later }
def SlotsNamesCardSaid : Prop := Claim7.holds Tryd.pinned (.plain (OpenSpec.ofChange slotsNamesSpec)) slotsNamesCard

/-- THE TIED CARD OF 'butlerlaw08.SlotsWhole'. -/
def slotsWholeCard : Claim7 := { stood := { row := slotsWholeRow, standIns := [], harness := (true, "c5d96d943705fb60c131bcb21c5125a8fd6a727edde1c2dbf4caf91d3e53bca3"), looks := false }, kinds := [], alts := [], goes := true, laidByText := true, laidKinds := [.data, .data], laidTests := true, laidLooks := .later }
def SlotsWholeCardSaid : Prop := Claim7.holds Tryd.pinned (.plain (OpenSpec.ofChange slotsWholeSpec)) slotsWholeCard

/-- THE TIED CARD OF 'butlerlaw08.SlotsAlone'. -/
def slotsAloneCard : Claim7 := { stood := { row := slotsAloneRow, standIns := [], harness := (true, "c5d96d943705fb60c131bcb21c5125a8fd6a727edde1c2dbf4caf91d3e53bca3"), looks := false }, kinds := [], alts := [], goes := true, laidByText := true, laidKinds := [.data, .data], laidTests := true, laidLooks := .later }
def SlotsAloneCardSaid : Prop := Claim7.holds Tryd.pinned (.plain (OpenSpec.ofChange slotsAloneSpec)) slotsAloneCard

/-- THE TIED CARD OF 'butlerlaw08.SlotsFree'. -/
def slotsFreeCard : Claim7 := { stood := { row := slotsFreeRow, standIns := [], harness := (true, "c5d96d943705fb60c131bcb21c5125a8fd6a727edde1c2dbf4caf91d3e53bca3"), looks := false }, kinds := [], alts := [], goes := true, laidByText := true, laidKinds := [.data, .data], laidTests := true, laidLooks := .later }
def SlotsFreeCardSaid : Prop := Claim7.holds Tryd.pinned (.plain (OpenSpec.ofChange slotsFreeSpec)) slotsFreeCard

/-- THE TIED CARD OF 'butlerlaw09.StackKeeps'. -/
def stackKeepsCard : Claim7 := { stood := { row := stackKeepsRow, standIns := [], harness := (true, "c5d96d943705fb60c131bcb21c5125a8fd6a727edde1c2dbf4caf91d3e53bca3"), looks := false }, kinds := [], alts := [], goes := true, laidByText := true, laidKinds := [.data, .data, .data, .data], laidTests := true, laidLooks := .later }
def StackKeepsCardSaid : Prop := Claim7.holds Tryd.pinned (.plain (OpenSpec.ofChange stackKeepsSpec)) stackKeepsCard

/-- THE TIED CARD OF 'butlerlaw09.StackLinear'. -/
def stackLinearCard : Claim7 := { stood := { row := stackLinearRow, standIns := [], harness := (true, "c5d96d943705fb60c131bcb21c5125a8fd6a727edde1c2dbf4caf91d3e53bca3"), looks := false }, kinds := [], alts := [], goes := true, laidByText := true, laidKinds := [.data, .data, .data, .data], laidTests := true, laidLooks := .later }
def StackLinearCardSaid : Prop := Claim7.holds Tryd.pinned (.plain (OpenSpec.ofChange stackLinearSpec)) stackLinearCard

/-- THE TIED CARD OF 'butlerlaw09.StackVersions'. -/
def stackVersionsCard : Claim7 := { stood := { row := stackVersionsRow, standIns := [], harness := (true, "c5d96d943705fb60c131bcb21c5125a8fd6a727edde1c2dbf4caf91d3e53bca3"), looks := false }, kinds := [], alts := [], goes := true, laidByText := true, laidKinds := [.data, .data, .data, .data], laidTests := true, laidLooks := .later }
def StackVersionsCardSaid : Prop := Claim7.holds Tryd.pinned (.plain (OpenSpec.ofChange stackVersionsSpec)) stackVersionsCard

/-- THE TIED CARD OF 'butlerlaw10.CounterLinear'. -/
def counterLinearCard : Claim7 := { stood := { row := counterLinearRow, standIns := [], harness := (true, "c5d96d943705fb60c131bcb21c5125a8fd6a727edde1c2dbf4caf91d3e53bca3"), looks := false }, kinds := [], alts := [], goes := true, laidByText := true, laidKinds := [.data, .data], laidTests := true, laidLooks := .later }
def CounterLinearCardSaid : Prop := Claim7.holds Tryd.pinned (.plain (OpenSpec.ofChange counterLinearSpec)) counterLinearCard

/-- THE TIED CARD OF 'butlerlaw10.CounterTimes'. -/
def counterTimesCard : Claim7 := { stood := { row := counterTimesRow, standIns := [], harness := (true, "c5d96d943705fb60c131bcb21c5125a8fd6a727edde1c2dbf4caf91d3e53bca3"), looks := false }, kinds := [], alts := [], goes := true, laidByText := true, laidKinds := [.data, .data], laidTests := true, laidLooks := .later }
def CounterTimesCardSaid : Prop := Claim7.holds Tryd.pinned (.plain (OpenSpec.ofChange counterTimesSpec)) counterTimesCard

/-- THE TIED CARD OF 'butlerlaw10.CounterAlone'. -/
def counterAloneCard : Claim7 := { stood := { row := counterAloneRow, standIns := [], harness := (true, "c5d96d943705fb60c131bcb21c5125a8fd6a727edde1c2dbf4caf91d3e53bca3"), looks := false }, kinds := [], alts := [], goes := true, laidByText := true, laidKinds := [.data, .data], laidTests := true, laidLooks := .later }
def CounterAloneCardSaid : Prop := Claim7.holds Tryd.pinned (.plain (OpenSpec.ofChange counterAloneSpec)) counterAloneCard

/-- THE SECOND FORM's CARD OF 'butlerlaw07.OnceOnce'. -/
def onceOnceUptoCard : Claim7 := { stood := { row := onceOnceUptoRow, standIns := [], harness := (true, "c5d96d943705fb60c131bcb21c5125a8fd6a727edde1c2dbf4caf91d3e53bca3"), looks := false }, kinds := [], alts := [], goes := true, laidByText := true, laidKinds := [.data, .data, .data], laidTests := true, laidLooks := .later }
def OnceOnceUptoCardSaid : Prop := Claim7.holds Tryd.pinned (.plain (OpenSpec.upto onceOnceSpec)) onceOnceUptoCard

/-- THE SECOND FORM's CARD OF 'butlerlaw07.OnceLinear'. -/
def onceLinearUptoCard : Claim7 := { stood := { row := onceLinearUptoRow, standIns := [], harness := (true, "c5d96d943705fb60c131bcb21c5125a8fd6a727edde1c2dbf4caf91d3e53bca3"), looks := false }, kinds := [], alts := [], goes := true, laidByText := true, laidKinds := [.data, .data, .data], laidTests := true, laidLooks := .later }
def OnceLinearUptoCardSaid : Prop := Claim7.holds Tryd.pinned (.plain (OpenSpec.upto onceLinearSpec)) onceLinearUptoCard

/-- THE SECOND FORM's CARD OF 'butlerlaw07.OnceAlone'. -/
def onceAloneUptoCard : Claim7 := { stood := { row := onceAloneUptoRow, standIns := [], harness := (true, "c5d96d943705fb60c131bcb21c5125a8fd6a727edde1c2dbf4caf91d3e53bca3"), looks := false }, kinds := [], alts := [], goes := true, laidByText := true, laidKinds := [.data, .data, .data], laidTests := true, laidLooks := .later }
def OnceAloneUptoCardSaid : Prop := Claim7.holds Tryd.pinned (.plain (OpenSpec.upto onceAloneSpec)) onceAloneUptoCard

/-- THE SECOND FORM's CARD OF 'butlerlaw08.SlotsNames'. -/
def slotsNamesUptoCard : Claim7 := { stood := { row := slotsNamesUptoRow, standIns := [], harness := (true, "c5d96d943705fb60c131bcb21c5125a8fd6a727edde1c2dbf4caf91d3e53bca3"), looks := false }, kinds := [], alts := [], goes := true, laidByText := true, laidKinds := [.data, .data], laidTests := true, laidLooks := .later }
def SlotsNamesUptoCardSaid : Prop := Claim7.holds Tryd.pinned (.plain (OpenSpec.upto slotsNamesSpec)) slotsNamesUptoCard

/-- THE SECOND FORM's CARD OF 'butlerlaw08.SlotsWhole'. -/
def slotsWholeUptoCard : Claim7 := { stood := { row := slotsWholeUptoRow, standIns := [], harness := (true, "c5d96d943705fb60c131bcb21c5125a8fd6a727edde1c2dbf4caf91d3e53bca3"), looks := false }, kinds := [], alts := [], goes := true, laidByText := true, laidKinds := [.data, .data], laidTests := true, laidLooks := .later }
def SlotsWholeUptoCardSaid : Prop := Claim7.holds Tryd.pinned (.plain (OpenSpec.upto slotsWholeSpec)) slotsWholeUptoCard

/-- THE SECOND FORM's CARD OF 'butlerlaw08.SlotsAlone'. -/
def slotsAloneUptoCard : Claim7 := { stood := { row := slotsAloneUptoRow, standIns := [], harness := (true, "c5d96d943705fb60c131bcb21c5125a8fd6a727edde1c2dbf4caf91d3e53bca3"), looks := false }, kinds := [], alts := [], goes := true, laidByText := true, laidKinds := [.data, .data], laidTests := true, laidLooks := .later }
def SlotsAloneUptoCardSaid : Prop := Claim7.holds Tryd.pinned (.plain (OpenSpec.upto slotsAloneSpec)) slotsAloneUptoCard

/-- THE SECOND FORM's CARD OF 'butlerlaw08.SlotsFree'. -/
def slotsFreeUptoCard : Claim7 := { stood := { row := slotsFreeUptoRow, standIns := [], harness := (true, "c5d96d943705fb60c131bcb21c5125a8fd6a727edde1c2dbf4caf91d3e53bca3"), looks := false }, kinds := [], alts := [], goes := true, laidByText := true, laidKinds := [.data, .data], laidTests := true, laidLooks := .later }
def SlotsFreeUptoCardSaid : Prop := Claim7.holds Tryd.pinned (.plain (OpenSpec.upto slotsFreeSpec)) slotsFreeUptoCard

/-- THE SECOND FORM's CARD OF 'butlerlaw09.StackKeeps'. -/
def stackKeepsUptoCard : Claim7 := { stood := { row := stackKeepsUptoRow, standIns := [], harness := (true, "c5d96d943705fb60c131bcb21c5125a8fd6a727edde1c2dbf4caf91d3e53bca3"), looks := false }, kinds := [], alts := [], goes := true, laidByText := true, laidKinds := [.data, .data, .data, .data], laidTests := true, laidLooks := .later }
def StackKeepsUptoCardSaid : Prop := Claim7.holds Tryd.pinned (.plain (OpenSpec.upto stackKeepsSpec)) stackKeepsUptoCard

/-- THE SECOND FORM's CARD OF 'butlerlaw09.StackLinear'. -/
def stackLinearUptoCard : Claim7 := { stood := { row := stackLinearUptoRow, standIns := [], harness := (true, "c5d96d943705fb60c131bcb21c5125a8fd6a727edde1c2dbf4caf91d3e53bca3"), looks := false }, kinds := [], alts := [], goes := true, laidByText := true, laidKinds := [.data, .data, .data, .data], laidTests := true, laidLooks := .later }
def StackLinearUptoCardSaid : Prop := Claim7.holds Tryd.pinned (.plain (OpenSpec.upto stackLinearSpec)) stackLinearUptoCard

/-- THE SECOND FORM's CARD OF 'butlerlaw09.StackVersions'. -/
def stackVersionsUptoCard : Claim7 := { stood := { row := stackVersionsUptoRow, standIns := [], harness := (true, "c5d96d943705fb60c131bcb21c5125a8fd6a727edde1c2dbf4caf91d3e53bca3"), looks := false }, kinds := [], alts := [], goes := true, laidByText := true, laidKinds := [.data, .data, .data, .data], laidTests := true, laidLooks := .later }
def StackVersionsUptoCardSaid : Prop := Claim7.holds Tryd.pinned (.plain (OpenSpec.upto stackVersionsSpec)) stackVersionsUptoCard

/-- THE SECOND FORM's CARD OF 'butlerlaw10.CounterLinear'. -/
def counterLinearUptoCard : Claim7 := { stood := { row := counterLinearUptoRow, standIns := [], harness := (true, "c5d96d943705fb60c131bcb21c5125a8fd6a727edde1c2dbf4caf91d3e53bca3"), looks := false }, kinds := [], alts := [], goes := true, laidByText := true, laidKinds := [.data, .data], laidTests := true, laidLooks := .later }
def CounterLinearUptoCardSaid : Prop := Claim7.holds Tryd.pinned (.plain (OpenSpec.upto counterLinearSpec)) counterLinearUptoCard

/-- THE SECOND FORM's CARD OF 'butlerlaw10.CounterTimes'. -/
def counterTimesUptoCard : Claim7 := { stood := { row := counterTimesUptoRow, standIns := [], harness := (true, "c5d96d943705fb60c131bcb21c5125a8fd6a727edde1c2dbf4caf91d3e53bca3"), looks := false }, kinds := [], alts := [], goes := true, laidByText := true, laidKinds := [.data, .data], laidTests := true, laidLooks := .later }
def CounterTimesUptoCardSaid : Prop := Claim7.holds Tryd.pinned (.plain (OpenSpec.upto counterTimesSpec)) counterTimesUptoCard

/-- THE SECOND FORM's CARD OF 'butlerlaw10.CounterAlone'. -/
def counterAloneUptoCard : Claim7 := { stood := { row := counterAloneUptoRow, standIns := [], harness := (true, "c5d96d943705fb60c131bcb21c5125a8fd6a727edde1c2dbf4caf91d3e53bca3"), looks := false }, kinds := [], alts := [], goes := true, laidByText := true, laidKinds := [.data, .data], laidTests := true, laidLooks := .later }
def CounterAloneUptoCardSaid : Prop := Claim7.holds Tryd.pinned (.plain (OpenSpec.upto counterAloneSpec)) counterAloneUptoCard
end Rows
end Go.Proofs.YtfjjoohflcchnaaDoor
