/-
  DERIVED. GIVEN WITH THE SEED: THE CARDS: each row of YtdafnkfnaknoiaaDoorRows.lean that lists a variable, with what it lists TIED to the program's text (the seventh form; the later family's looks); each row that meets fmt, with fmt's text TOLD by the authors' own Lean function (tested against real Go, not proved from fmt's source: count such statements apart). THE CARD IS WHAT COUNTS. Prove the row's statement (the work); the ties are given (YtdafnkfnaknoiaaDoorTie.lean); close each card by the builder's one call (the guide's Derived/Test/ToyasCard.lean, 'card_holds'). Laid BY PROGRAM, IN A SANDBOX (cutbox-door.mjs). By AI agents, Wed Nov 11 2026. No macro, syntax, notation, axiom, sorry.
-/
import Derived.Test.YtdafnkfnaknoiaaDoorRows
import GoSem.ClaimSeven
namespace Go.Proofs.YtdafnkfnaknoiaaDoor
namespace Rows

/-- THE TIED CARD OF 'refrainlaw5.TokenString'. -/
def tokenStringCard : Claim7 := { stood := { row := tokenStringRow, standIns := [], harness := (true, "903e036ab013f34ae311d11c0a405497c15781ffb749a1e53ae8f62434cd1cd9"), looks := true }, kinds := [], alts := [], laidByText := true, laidKinds := [.data, .data, .data, .sentinel, .sentinel], laidTests := true, laidLooks := .later }
def TokenStringCardSaid : Prop := Claim7.holds Tryd.pinned (.plain (OpenSpec.ofChange tokenStringSpec)) tokenStringCard

/-- THE TIED CARD OF 'refrainlaw5.TokenLimits'. -/
def tokenLimitsCard : Claim7 := { stood := { row := tokenLimitsRow, standIns := [], harness := (true, "903e036ab013f34ae311d11c0a405497c15781ffb749a1e53ae8f62434cd1cd9"), looks := true }, kinds := [], alts := [], laidByText := true, laidKinds := [.data, .data, .data, .sentinel, .sentinel], laidTests := true, laidLooks := .later }
def TokenLimitsCardSaid : Prop := Claim7.holds Tryd.pinned (.plain (OpenSpec.ofChange tokenLimitsSpec)) tokenLimitsCard

/-- THE TIED CARD OF 'refrainlaw5.TokenBack'. -/
def tokenBackCard : Claim7 := { stood := { row := tokenBackRow, standIns := [], harness := (true, "903e036ab013f34ae311d11c0a405497c15781ffb749a1e53ae8f62434cd1cd9"), looks := true }, kinds := [], alts := [], laidByText := true, laidKinds := [.data, .data, .data, .sentinel, .sentinel], laidTests := true, laidLooks := .later }
def TokenBackCardSaid : Prop := Claim7.holds Tryd.pinned (.plain (OpenSpec.ofChange tokenBackSpec)) tokenBackCard

/-- THE TIED CARD OF 'refrainlaw5.TokenFilled'. -/
def tokenFilledCard : Claim7 := { stood := { row := tokenFilledRow, standIns := [], harness := (true, "903e036ab013f34ae311d11c0a405497c15781ffb749a1e53ae8f62434cd1cd9"), looks := true }, kinds := [], alts := [], laidByText := true, laidKinds := [.data, .data, .data, .sentinel, .sentinel], laidTests := true, laidLooks := .later }
def TokenFilledCardSaid : Prop := Claim7.holds Tryd.pinned (.plain (OpenSpec.ofChange tokenFilledSpec)) tokenFilledCard

/-- THE TIED CARD OF 'refrainlaw5.TokenFresh'. -/
def tokenFreshCard : Claim7 := { stood := { row := tokenFreshRow, standIns := [], harness := (true, "903e036ab013f34ae311d11c0a405497c15781ffb749a1e53ae8f62434cd1cd9"), looks := true }, kinds := [], alts := [], laidByText := true, laidKinds := [.data, .data, .data, .sentinel, .sentinel, .data], laidTests := true, laidLooks := .later }
def TokenFreshCardSaid : Prop := Claim7.holds Tryd.pinned (.plain (OpenSpec.ofChange tokenFreshSpec)) tokenFreshCard

/-- THE TIED CARD OF 'refrainlaw5.TokenAll'. -/
def tokenAllCard : Claim7 := { stood := { row := tokenAllRow, standIns := [], harness := (true, "903e036ab013f34ae311d11c0a405497c15781ffb749a1e53ae8f62434cd1cd9"), looks := true }, kinds := [], alts := [], laidByText := true, laidKinds := [.data, .data, .data, .sentinel, .sentinel, .data], laidTests := true, laidLooks := .later }
def TokenAllCardSaid : Prop := Claim7.holds Tryd.pinned (.plain (OpenSpec.ofChange tokenAllSpec)) tokenAllCard

/-- THE SECOND FORM's CARD OF 'refrainlaw5.TokenString'. -/
def tokenStringUptoCard : Claim7 := { stood := { row := tokenStringUptoRow, standIns := [], harness := (true, "903e036ab013f34ae311d11c0a405497c15781ffb749a1e53ae8f62434cd1cd9"), looks := true }, kinds := [], alts := [], laidByText := true, laidKinds := [.data, .data, .data, .sentinel, .sentinel], laidTests := true, laidLooks := .later }
def TokenStringUptoCardSaid : Prop := Claim7.holds Tryd.pinned (.plain (OpenSpec.upto tokenStringSpec)) tokenStringUptoCard

/-- THE SECOND FORM's CARD OF 'refrainlaw5.TokenLimits'. -/
def tokenLimitsUptoCard : Claim7 := { stood := { row := tokenLimitsUptoRow, standIns := [], harness := (true, "903e036ab013f34ae311d11c0a405497c15781ffb749a1e53ae8f62434cd1cd9"), looks := true }, kinds := [], alts := [], laidByText := true, laidKinds := [.data, .data, .data, .sentinel, .sentinel], laidTests := true, laidLooks := .later }
def TokenLimitsUptoCardSaid : Prop := Claim7.holds Tryd.pinned (.plain (OpenSpec.upto tokenLimitsSpec)) tokenLimitsUptoCard

/-- THE SECOND FORM's CARD OF 'refrainlaw5.TokenBack'. -/
def tokenBackUptoCard : Claim7 := { stood := { row := tokenBackUptoRow, standIns := [], harness := (true, "903e036ab013f34ae311d11c0a405497c15781ffb749a1e53ae8f62434cd1cd9"), looks := true }, kinds := [], alts := [], laidByText := true, laidKinds := [.data, .data, .data, .sentinel, .sentinel], laidTests := true, laidLooks := .later }
def TokenBackUptoCardSaid : Prop := Claim7.holds Tryd.pinned (.plain (OpenSpec.upto tokenBackSpec)) tokenBackUptoCard

/-- THE SECOND FORM's CARD OF 'refrainlaw5.TokenFilled'. -/
def tokenFilledUptoCard : Claim7 := { stood := { row := tokenFilledUptoRow, standIns := [], harness := (true, "903e036ab013f34ae311d11c0a405497c15781ffb749a1e53ae8f62434cd1cd9"), looks := true }, kinds := [], alts := [], laidByText := true, laidKinds := [.data, .data, .data, .sentinel, .sentinel], laidTests := true, laidLooks := .later }
def TokenFilledUptoCardSaid : Prop := Claim7.holds Tryd.pinned (.plain (OpenSpec.upto tokenFilledSpec)) tokenFilledUptoCard

/-- THE SECOND FORM's CARD OF 'refrainlaw5.TokenFresh'. -/
def tokenFreshUptoCard : Claim7 := { stood := { row := tokenFreshUptoRow, standIns := [], harness := (true, "903e036ab013f34ae311d11c0a405497c15781ffb749a1e53ae8f62434cd1cd9"), looks := true }, kinds := [], alts := [], laidByText := true, laidKinds := [.data, .data, .data, .sentinel, .sentinel, .data], laidTests := true, laidLooks := .later }
def TokenFreshUptoCardSaid : Prop := Claim7.holds Tryd.pinned (.plain (OpenSpec.upto tokenFreshSpec)) tokenFreshUptoCard

/-- THE SECOND FORM's CARD OF 'refrainlaw5.TokenAll'. -/
def tokenAllUptoCard : Claim7 := { stood := { row := tokenAllUptoRow, standIns := [], harness := (true, "903e036ab013f34ae311d11c0a405497c15781ffb749a1e53ae8f62434cd1cd9"), looks := true }, kinds := [], alts := [], laidByText := true, laidKinds := [.data, .data, .data, .sentinel, .sentinel, .data], laidTests := true, laidLooks := .later }
def TokenAllUptoCardSaid : Prop := Claim7.holds Tryd.pinned (.plain (OpenSpec.upto tokenAllSpec)) tokenAllUptoCard
end Rows
end Go.Proofs.YtdafnkfnaknoiaaDoor
