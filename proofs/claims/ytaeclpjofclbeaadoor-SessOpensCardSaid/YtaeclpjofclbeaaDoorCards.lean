/-
  DERIVED. GIVEN WITH THE SEED: THE CARDS: each row of YtaeclpjofclbeaaDoorRows.lean that lists a variable, with what it lists TIED to the program's text (the seventh form; the later family's looks); each row that meets fmt, with fmt's text TOLD by the authors' own Lean function (tested against real Go, not proved from fmt's source: count such statements apart). THE CARD IS WHAT COUNTS. Prove the row's statement (the work); the ties are given (YtaeclpjofclbeaaDoorTie.lean); close each card by the builder's one call (the guide's Derived/Test/ToyasCard.lean, 'card_holds'). Laid BY PROGRAM, IN A SANDBOX (cutbox-door.mjs). By AI agents, Wed Nov 11 2026. No macro, syntax, notation, axiom, sorry.
-/
import Derived.Test.YtaeclpjofclbeaaDoorRows
import GoSem.ClaimSeven
namespace Go.Proofs.YtaeclpjofclbeaaDoor
namespace Rows

/-- THE TIED CARD OF 'innkeeplaw19.SessAnew'. -/
def sessAnewCard : Claim7 := { stood := { row := sessAnewRow, standIns := [], harness := (true, "84d1f67eb96ca198ffb692578fa796c353b3a3ba7c7a2dfe23e0b927e21ed6d0"), looks := false }, kinds := [], alts := [], laidByText := true, laidKinds := [.data, .data, .data, .data, .data, .data, .pinned], laidTests := true, laidLooks := .later }
def SessAnewCardSaid : Prop := Claim7.holds Tryd.pinned (.plain (OpenSpec.ofChange sessAnewSpec)) sessAnewCard

/-- THE TIED CARD OF 'innkeeplaw19.SessOpens'. -/
def sessOpensCard : Claim7 := { stood := { row := sessOpensRow, standIns := [], harness := (true, "84d1f67eb96ca198ffb692578fa796c353b3a3ba7c7a2dfe23e0b927e21ed6d0"), looks := false }, kinds := [], alts := [], laidByText := true, laidKinds := [.data, .data, .data, .data, .data, .data, .pinned], laidTests := true, laidLooks := .later }
def SessOpensCardSaid : Prop := Claim7.holds Tryd.pinned (.plain (OpenSpec.ofChange sessOpensSpec)) sessOpensCard

/-- THE SECOND FORM's CARD OF 'innkeeplaw19.SessAnew'. -/
def sessAnewUptoCard : Claim7 := { stood := { row := sessAnewUptoRow, standIns := [], harness := (true, "84d1f67eb96ca198ffb692578fa796c353b3a3ba7c7a2dfe23e0b927e21ed6d0"), looks := false }, kinds := [], alts := [], laidByText := true, laidKinds := [.data, .data, .data, .data, .data, .data, .pinned], laidTests := true, laidLooks := .later }
def SessAnewUptoCardSaid : Prop := Claim7.holds Tryd.pinned (.plain (OpenSpec.upto sessAnewSpec)) sessAnewUptoCard

/-- THE SECOND FORM's CARD OF 'innkeeplaw19.SessOpens'. -/
def sessOpensUptoCard : Claim7 := { stood := { row := sessOpensUptoRow, standIns := [], harness := (true, "84d1f67eb96ca198ffb692578fa796c353b3a3ba7c7a2dfe23e0b927e21ed6d0"), looks := false }, kinds := [], alts := [], laidByText := true, laidKinds := [.data, .data, .data, .data, .data, .data, .pinned], laidTests := true, laidLooks := .later }
def SessOpensUptoCardSaid : Prop := Claim7.holds Tryd.pinned (.plain (OpenSpec.upto sessOpensSpec)) sessOpensUptoCard
end Rows
end Go.Proofs.YtaeclpjofclbeaaDoor
