/-
  DERIVED. GIVEN WITH THE SEED: THE CARDS: each row of YtpfpganlghjhjaaDoorRows.lean that lists a variable, with what it lists TIED to the program's text (the seventh form; the later family's looks); each row that meets fmt, with fmt's text TOLD by the authors' own Lean function (tested against real Go, not proved from fmt's source: count such statements apart). THE CARD IS WHAT COUNTS. Prove the row's statement (the work); the ties are given (YtpfpganlghjhjaaDoorTie.lean); close each card by the builder's one call (the guide's Derived/Test/ToyasCard.lean, 'card_holds'). Laid BY PROGRAM, IN A SANDBOX (cutbox-door.mjs). By AI agents, Wed Nov 11 2026. No macro, syntax, notation, axiom, sorry.
-/
import Derived.Test.YtpfpganlghjhjaaDoorRows
import GoSem.ClaimSeven
namespace Go.Proofs.YtpfpganlghjhjaaDoor
namespace Rows

/-- THE TIED CARD OF 'refrainlaw2.SchemaEvents'. -/
def schemaEventsCard : Claim7 := { stood := { row := schemaEventsRow, standIns := [], harness := (true, "4d04624db50d7a0ec64e1f5ddf8977cd0a82a9ce6411be8d87df538910987440"), looks := false }, kinds := [], alts := [], laidByText := true, laidKinds := [.data], laidTests := true, laidLooks := .later }
def SchemaEventsCardSaid : Prop := Claim7.holds Tryd.pinned (.plain (OpenSpec.ofChange schemaEventsSpec)) schemaEventsCard

/-- THE TIED CARD OF 'refrainlaw2.SchemaRound'. -/
def schemaRoundCard : Claim7 := { stood := { row := schemaRoundRow, standIns := [], harness := (true, "4d04624db50d7a0ec64e1f5ddf8977cd0a82a9ce6411be8d87df538910987440"), looks := false }, kinds := [], alts := [], laidByText := true, laidKinds := [.data, .data, .pinned], laidTests := true, laidLooks := .later }
def SchemaRoundCardSaid : Prop := Claim7.holds Tryd.pinned (.plain (OpenSpec.ofChange schemaRoundSpec)) schemaRoundCard

/-- THE TIED CARD OF 'refrainlaw2.SchemaNames'. -/
def schemaNamesCard : Claim7 := { stood := { row := schemaNamesRow, standIns := [], harness := (true, "4d04624db50d7a0ec64e1f5ddf8977cd0a82a9ce6411be8d87df538910987440"), looks := false }, kinds := [], alts := [], laidByText := true, laidKinds := [.data], laidTests := true, laidLooks := .later }
def SchemaNamesCardSaid : Prop := Claim7.holds Tryd.pinned (.plain (OpenSpec.ofChange schemaNamesSpec)) schemaNamesCard

/-- THE SECOND FORM's CARD OF 'refrainlaw2.SchemaEvents'. -/
def schemaEventsUptoCard : Claim7 := { stood := { row := schemaEventsUptoRow, standIns := [], harness := (true, "4d04624db50d7a0ec64e1f5ddf8977cd0a82a9ce6411be8d87df538910987440"), looks := false }, kinds := [], alts := [], laidByText := true, laidKinds := [.data], laidTests := true, laidLooks := .later }
def SchemaEventsUptoCardSaid : Prop := Claim7.holds Tryd.pinned (.plain (OpenSpec.upto schemaEventsSpec)) schemaEventsUptoCard

/-- THE SECOND FORM's CARD OF 'refrainlaw2.SchemaRound'. -/
def schemaRoundUptoCard : Claim7 := { stood := { row := schemaRoundUptoRow, standIns := [], harness := (true, "4d04624db50d7a0ec64e1f5ddf8977cd0a82a9ce6411be8d87df538910987440"), looks := false }, kinds := [], alts := [], laidByText := true, laidKinds := [.data, .data, .pinned], laidTests := true, laidLooks := .later }
def SchemaRoundUptoCardSaid : Prop := Claim7.holds Tryd.pinned (.plain (OpenSpec.upto schemaRoundSpec)) schemaRoundUptoCard

/-- THE SECOND FORM's CARD OF 'refrainlaw2.SchemaNames'. -/
def schemaNamesUptoCard : Claim7 := { stood := { row := schemaNamesUptoRow, standIns := [], harness := (true, "4d04624db50d7a0ec64e1f5ddf8977cd0a82a9ce6411be8d87df538910987440"), looks := false }, kinds := [], alts := [], laidByText := true, laidKinds := [.data], laidTests := true, laidLooks := .later }
def SchemaNamesUptoCardSaid : Prop := Claim7.holds Tryd.pinned (.plain (OpenSpec.upto schemaNamesSpec)) schemaNamesUptoCard
end Rows
end Go.Proofs.YtpfpganlghjhjaaDoor
