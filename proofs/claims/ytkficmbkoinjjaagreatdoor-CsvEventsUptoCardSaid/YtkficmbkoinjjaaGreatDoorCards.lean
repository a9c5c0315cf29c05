/-
  DERIVED. GIVEN WITH THE SEED: THE CARDS: each row of YtkficmbkoinjjaaGreatDoorRows.lean that lists a variable, with what it lists TIED to the program's text (the seventh form; the later family's looks); each row that meets fmt, with fmt's text TOLD by the authors' own Lean function (tested against real Go, not proved from fmt's source: count such statements apart). THE CARD IS WHAT COUNTS. Prove the row's statement (the work); the ties are given (YtkficmbkoinjjaaGreatDoorTie.lean); close each card by the builder's one call (the guide's Derived/Test/ToyasCard.lean, 'card_holds'). Laid BY PROGRAM, IN A SANDBOX (cutbox-door.mjs). By AI agents, Wed Nov 11 2026. No macro, syntax, notation, axiom, sorry.
-/
import Derived.Test.YtkficmbkoinjjaaGreatDoorRows
import GoSem.ClaimSeven
namespace Go.Proofs.YtkficmbkoinjjaaGreatDoor
namespace Rows

/-- THE TIED CARD OF 'refrainlaw4.CsvFresh'. -/
def csvFreshCard : Claim7 := { stood := { row := csvFreshRow, standIns := [], harness := (true, "62f267e7eb747be2d3f7d8c73bef3713da26b98b2e4b824e5efc090fafd5774b"), looks := true }, kinds := [], alts := [], laidByText := true, laidKinds := [.data, .data, .data, .data, .sentinel, .sentinel, .pinned], laidTests := true, laidLooks := .later }
def CsvFreshCardSaid : Prop := Claim7.holds Tryz.pinned (.plain (OpenSpec.ofChange csvFreshSpec)) csvFreshCard

/-- THE TIED CARD OF 'refrainlaw4.CsvEvents'. -/
def csvEventsCard : Claim7 := { stood := { row := csvEventsRow, standIns := [], harness := (true, "62f267e7eb747be2d3f7d8c73bef3713da26b98b2e4b824e5efc090fafd5774b"), looks := true }, kinds := [], alts := [], laidByText := true, laidKinds := [.data, .data, .data, .data, .sentinel, .sentinel, .pinned], laidTests := true, laidLooks := .later }
def CsvEventsCardSaid : Prop := Claim7.holds Tryz.pinned (.plain (OpenSpec.ofChange csvEventsSpec)) csvEventsCard

/-- THE TIED CARD OF 'refrainlaw4.CsvScript'. -/
def csvScriptCard : Claim7 := { stood := { row := csvScriptRow, standIns := [], harness := (true, "62f267e7eb747be2d3f7d8c73bef3713da26b98b2e4b824e5efc090fafd5774b"), looks := true }, kinds := [], alts := [], laidByText := true, laidKinds := [.data, .data, .data, .data, .sentinel, .sentinel, .pinned], laidTests := true, laidLooks := .later }
def CsvScriptCardSaid : Prop := Claim7.holds Tryz.pinned (.plain (OpenSpec.ofChange csvScriptSpec)) csvScriptCard

/-- THE SECOND FORM's CARD OF 'refrainlaw4.CsvFresh'. -/
def csvFreshUptoCard : Claim7 := { stood := { row := csvFreshUptoRow, standIns := [], harness := (true, "62f267e7eb747be2d3f7d8c73bef3713da26b98b2e4b824e5efc090fafd5774b"), looks := true }, kinds := [], alts := [], laidByText := true, laidKinds := [.data, .data, .data, .data, .sentinel, .sentinel, .pinned], laidTests := true, laidLooks := .later }
def CsvFreshUptoCardSaid : Prop := Claim7.holds Tryz.pinned (.plain (OpenSpec.upto csvFreshSpec)) csvFreshUptoCard

/-- THE SECOND FORM's CARD OF 'refrainlaw4.CsvEvents'. -/
def csvEventsUptoCard : Claim7 := { stood := { row := csvEventsUptoRow, standIns := [], harness := (true, "62f267e7eb747be2d3f7d8c73bef3713da26b98b2e4b824e5efc090fafd5774b"), looks := true }, kinds := [], alts := [], laidByText := true, laidKinds := [.data, .data, .data, .data, .sentinel, .sentinel, .pinned], laidTests := true, laidLooks := .later }
def CsvEventsUptoCardSaid : Prop := Claim7.holds Tryz.pinned (.plain (OpenSpec.upto csvEventsSpec)) csvEventsUptoCard

/-- THE SECOND FORM's CARD OF 'refrainlaw4.CsvScript'. -/
def csvScriptUptoCard : Claim7 := { stood := { row := csvScriptUptoRow, standIns := [], harness := (true, "62f267e7eb747be2d3f7d8c73bef3713da26b98b2e4b824e5efc090fafd5774b"), looks := true }, kinds := [], alts := [], laidByText := true, laidKinds := [.data, .data, .data, .data, .sentinel, .sentinel, .pinned], laidTests := true, laidLooks := .later }
def CsvScriptUptoCardSaid : Prop := Claim7.holds Tryz.pinned (.plain (OpenSpec.upto csvScriptSpec)) csvScriptUptoCard
end Rows
end Go.Proofs.YtkficmbkoinjjaaGreatDoor
