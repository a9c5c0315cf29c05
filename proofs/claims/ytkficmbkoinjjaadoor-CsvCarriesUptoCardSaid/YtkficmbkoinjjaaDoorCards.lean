/-
  DERIVED. GIVEN WITH THE SEED: THE CARDS: each row of YtkficmbkoinjjaaDoorRows.lean that lists a variable, with what it lists TIED to the program's text (the seventh form; the later family's looks); each row that meets fmt, with fmt's text TOLD by the authors' own Lean function (tested against real Go, not proved from fmt's source: count such statements apart). THE CARD IS WHAT COUNTS. Prove the row's statement (the work); the ties are given (YtkficmbkoinjjaaDoorTie.lean); close each card by the builder's one call (the guide's Derived/Test/ToyasCard.lean, 'card_holds'). Laid BY PROGRAM, IN A SANDBOX (cutbox-door.mjs). By AI agents, Wed Nov 11 2026. No macro, syntax, notation, axiom, sorry.
-/
import Derived.Test.YtkficmbkoinjjaaDoorRows
import GoSem.ClaimSeven
namespace Go.Proofs.YtkficmbkoinjjaaDoor
namespace Rows

/-- THE TIED CARD OF 'refrainlaw4.CsvThere'. -/
def csvThereCard : Claim7 := { stood := { row := csvThereRow, standIns := [], harness := (true, "98fee04f9e5e0dbc2fae87a7e8873aa8f5bbb7e67fb8202edd66fe7929855af7"), looks := true }, kinds := [], alts := [], laidByText := true, laidKinds := [.data, .pinned], laidTests := true, laidLooks := .later }
def CsvThereCardSaid : Prop := Claim7.holds Tryd.pinned (.plain (OpenSpec.ofChange csvThereSpec)) csvThereCard

/-- THE TIED CARD OF 'refrainlaw4.CsvAgain'. -/
def csvAgainCard : Claim7 := { stood := { row := csvAgainRow, standIns := [], harness := (true, "98fee04f9e5e0dbc2fae87a7e8873aa8f5bbb7e67fb8202edd66fe7929855af7"), looks := true }, kinds := [], alts := [], laidByText := true, laidKinds := [.data, .pinned], laidTests := true, laidLooks := .later }
def CsvAgainCardSaid : Prop := Claim7.holds Tryd.pinned (.plain (OpenSpec.ofChange csvAgainSpec)) csvAgainCard

/-- THE TIED CARD OF 'refrainlaw4.CsvSplits'. -/
def csvSplitsCard : Claim7 := { stood := { row := csvSplitsRow, standIns := [], harness := (true, "98fee04f9e5e0dbc2fae87a7e8873aa8f5bbb7e67fb8202edd66fe7929855af7"), looks := true }, kinds := [], alts := [], laidByText := true, laidKinds := [.data, .pinned], laidTests := true, laidLooks := .later }
def CsvSplitsCardSaid : Prop := Claim7.holds Tryd.pinned (.plain (OpenSpec.ofChange csvSplitsSpec)) csvSplitsCard

/-- THE TIED CARD OF 'refrainlaw4.CsvJoins'. -/
def csvJoinsCard : Claim7 := { stood := { row := csvJoinsRow, standIns := [], harness := (true, "98fee04f9e5e0dbc2fae87a7e8873aa8f5bbb7e67fb8202edd66fe7929855af7"), looks := true }, kinds := [], alts := [], laidByText := true, laidKinds := [.data, .pinned], laidTests := true, laidLooks := .later }
def CsvJoinsCardSaid : Prop := Claim7.holds Tryd.pinned (.plain (OpenSpec.ofChange csvJoinsSpec)) csvJoinsCard

/-- THE TIED CARD OF 'refrainlaw4.CsvCarries'. -/
def csvCarriesCard : Claim7 := { stood := { row := csvCarriesRow, standIns := [], harness := (true, "98fee04f9e5e0dbc2fae87a7e8873aa8f5bbb7e67fb8202edd66fe7929855af7"), looks := true }, kinds := [], alts := [], laidByText := true, laidKinds := [.data, .data, .data, .data, .sentinel, .sentinel, .pinned], laidTests := true, laidLooks := .later }
def CsvCarriesCardSaid : Prop := Claim7.holds Tryd.pinned (.plain (OpenSpec.ofChange csvCarriesSpec)) csvCarriesCard

/-- THE SECOND FORM's CARD OF 'refrainlaw4.CsvThere'. -/
def csvThereUptoCard : Claim7 := { stood := { row := csvThereUptoRow, standIns := [], harness := (true, "98fee04f9e5e0dbc2fae87a7e8873aa8f5bbb7e67fb8202edd66fe7929855af7"), looks := true }, kinds := [], alts := [], laidByText := true, laidKinds := [.data, .pinned], laidTests := true, laidLooks := .later }
def CsvThereUptoCardSaid : Prop := Claim7.holds Tryd.pinned (.plain (OpenSpec.upto csvThereSpec)) csvThereUptoCard

/-- THE SECOND FORM's CARD OF 'refrainlaw4.CsvAgain'. -/
def csvAgainUptoCard : Claim7 := { stood := { row := csvAgainUptoRow, standIns := [], harness := (true, "98fee04f9e5e0dbc2fae87a7e8873aa8f5bbb7e67fb8202edd66fe7929855af7"), looks := true }, kinds := [], alts := [], laidByText := true, laidKinds := [.data, .pinned], laidTests := true, laidLooks := .later }
def CsvAgainUptoCardSaid : Prop := Claim7.holds Tryd.pinned (.plain (OpenSpec.upto csvAgainSpec)) csvAgainUptoCard

/-- THE SECOND FORM's CARD OF 'refrainlaw4.CsvSplits'. -/
def csvSplitsUptoCard : Claim7 := { stood := { row := csvSplitsUptoRow, standIns := [], harness := (true, "98fee04f9e5e0dbc2fae87a7e8873aa8f5bbb7e67fb8202edd66fe7929855af7"), looks := true }, kinds := [], alts := [], laidByText := true, laidKinds := [.data, .pinned], laidTests := true, laidLooks := .later }
def CsvSplitsUptoCardSaid : Prop := Claim7.holds Tryd.pinned (.plain (OpenSpec.upto csvSplitsSpec)) csvSplitsUptoCard

/-- THE SECOND FORM's CARD OF 'refrainlaw4.CsvJoins'. -/
def csvJoinsUptoCard : Claim7 := { stood := { row := csvJoinsUptoRow, standIns := [], harness := (true, "98fee04f9e5e0dbc2fae87a7e8873aa8f5bbb7e67fb8202edd66fe7929855af7"), looks := true }, kinds := [], alts := [], laidByText := true, laidKinds := [.data, .pinned], laidTests := true, laidLooks := .later }
def CsvJoinsUptoCardSaid : Prop := Claim7.holds Tryd.pinned (.plain (OpenSpec.upto csvJoinsSpec)) csvJoinsUptoCard

/-- THE SECOND FORM's CARD OF 'refrainlaw4.CsvCarries'. -/
def csvCarriesUptoCard : Claim7 := { stood := { row := csvCarriesUptoRow, standIns := [], harness := (true, "98fee04f9e5e0dbc2fae87a7e8873aa8f5bbb7e67fb8202edd66fe7929855af7"), looks := true }, kinds := [], alts := [], laidByText := true, laidKinds := [.data, .data, .data, .data, .sentinel, .sentinel, .pinned], laidTests := true, laidLooks := .later }
def CsvCarriesUptoCardSaid : Prop := Claim7.holds Tryd.pinned (.plain (OpenSpec.upto csvCarriesSpec)) csvCarriesUptoCard
end Rows
end Go.Proofs.YtkficmbkoinjjaaDoor
