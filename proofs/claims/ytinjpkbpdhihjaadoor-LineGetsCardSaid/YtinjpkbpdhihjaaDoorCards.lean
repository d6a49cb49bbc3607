/-
  DERIVED. GIVEN WITH THE SEED: THE CARDS: each row of YtinjpkbpdhihjaaDoorRows.lean that lists a variable, with what it lists TIED to the program's text (the seventh form; the later family's looks); each row that meets fmt, with fmt's text TOLD by the authors' own Lean function (tested against real Go, not proved from fmt's source: count such statements apart). THE CARD IS WHAT COUNTS. Prove the row's statement (the work); the ties are given (YtinjpkbpdhihjaaDoorTie.lean); close each card by the builder's one call (the guide's Derived/Test/ToyasCard.lean, 'card_holds'). Laid BY PROGRAM, IN A SANDBOX (cutbox-door.mjs). By AI agents, Wed Nov 11 2026. No macro, syntax, notation, axiom, sorry.
-/
import Derived.Test.YtinjpkbpdhihjaaDoorRows
import GoSem.ClaimSeven
namespace Go.Proofs.YtinjpkbpdhihjaaDoor
namespace Rows

/-- THE TIED CARD OF 'innkeeplaw04.LinePuts'. -/
def linePutsCard : Claim7 := { stood := { row := linePutsRow, standIns := [], harness := (true, "504857d7f8e763f4bc8a28b5999c61c53264bb5c9fec03fed7bb831862d2c417"), looks := false }, kinds := [], alts := [], laidByText := true, laidKinds := [.data, .data, .data, .data, .data, .data, .pinned], laidTests := true, laidLooks := .later }
def LinePutsCardSaid : Prop := Claim7.holds Tryd.pinned (.plain (OpenSpec.ofChange linePutsSpec)) linePutsCard

/-- THE TIED CARD OF 'innkeeplaw04.LineGets'. -/
def lineGetsCard : Claim7 := { stood := { row := lineGetsRow, standIns := [], harness := (true, "504857d7f8e763f4bc8a28b5999c61c53264bb5c9fec03fed7bb831862d2c417"), looks := false }, kinds := [], alts := [], laidByText := true, laidKinds := [.data, .data, .data, .data, .data, .data, .pinned], laidTests := true, laidLooks := .later }
def LineGetsCardSaid : Prop := Claim7.holds Tryd.pinned (.plain (OpenSpec.ofChange lineGetsSpec)) lineGetsCard

/-- THE TIED CARD OF 'innkeeplaw04.LineBack'. -/
def lineBackCard : Claim7 := { stood := { row := lineBackRow, standIns := [], harness := (true, "504857d7f8e763f4bc8a28b5999c61c53264bb5c9fec03fed7bb831862d2c417"), looks := false }, kinds := [], alts := [], laidByText := true, laidKinds := [.data, .data, .data, .data, .data, .data, .pinned], laidTests := true, laidLooks := .later }
def LineBackCardSaid : Prop := Claim7.holds Tryd.pinned (.plain (OpenSpec.ofChange lineBackSpec)) lineBackCard

/-- THE TIED CARD OF 'innkeeplaw04.LineShort'. -/
def lineShortCard : Claim7 := { stood := { row := lineShortRow, standIns := [], harness := (true, "504857d7f8e763f4bc8a28b5999c61c53264bb5c9fec03fed7bb831862d2c417"), looks := false }, kinds := [], alts := [], laidByText := true, laidKinds := [.data, .data, .data, .data, .data, .data, .pinned], laidTests := true, laidLooks := .later }
def LineShortCardSaid : Prop := Claim7.holds Tryd.pinned (.plain (OpenSpec.ofChange lineShortSpec)) lineShortCard

/-- THE TIED CARD OF 'innkeeplaw04.LineKinds'. -/
def lineKindsCard : Claim7 := { stood := { row := lineKindsRow, standIns := [], harness := (true, "504857d7f8e763f4bc8a28b5999c61c53264bb5c9fec03fed7bb831862d2c417"), looks := false }, kinds := [], alts := [], laidByText := true, laidKinds := [.data, .data, .data, .data, .data, .data, .pinned], laidTests := true, laidLooks := .later }
def LineKindsCardSaid : Prop := Claim7.holds Tryd.pinned (.plain (OpenSpec.ofChange lineKindsSpec)) lineKindsCard

/-- THE TIED CARD OF 'innkeeplaw04.LineNumbers'. -/
def lineNumbersCard : Claim7 := { stood := { row := lineNumbersRow, standIns := [], harness := (true, "504857d7f8e763f4bc8a28b5999c61c53264bb5c9fec03fed7bb831862d2c417"), looks := false }, kinds := [], alts := [], laidByText := true, laidKinds := [.data, .data, .data, .data, .data, .data, .pinned], laidTests := true, laidLooks := .later }
def LineNumbersCardSaid : Prop := Claim7.holds Tryd.pinned (.plain (OpenSpec.ofChange lineNumbersSpec)) lineNumbersCard

/-- THE SECOND FORM's CARD OF 'innkeeplaw04.LinePuts'. -/
def linePutsUptoCard : Claim7 := { stood := { row := linePutsUptoRow, standIns := [], harness := (true, "504857d7f8e763f4bc8a28b5999c61c53264bb5c9fec03fed7bb831862d2c417"), looks := false }, kinds := [], alts := [], laidByText := true, laidKinds := [.data, .data, .data, .data, .data, .data, .pinned], laidTests := true, laidLooks := .later }
def LinePutsUptoCardSaid : Prop := Claim7.holds Tryd.pinned (.plain (OpenSpec.upto linePutsSpec)) linePutsUptoCard

/-- THE SECOND FORM's CARD OF 'innkeeplaw04.LineGets'. -/
def lineGetsUptoCard : Claim7 := { stood := { row := lineGetsUptoRow, standIns := [], harness := (true, "504857d7f8e763f4bc8a28b5999c61c53264bb5c9fec03fed7bb831862d2c417"), looks := false }, kinds := [], alts := [], laidByText := true, laidKinds := [.data, .data, .data, .data, .data, .data, .pinned], laidTests := true, laidLooks := .later }
def LineGetsUptoCardSaid : Prop := Claim7.holds Tryd.pinned (.plain (OpenSpec.upto lineGetsSpec)) lineGetsUptoCard

/-- THE SECOND FORM's CARD OF 'innkeeplaw04.LineBack'. -/
def lineBackUptoCard : Claim7 := { stood := { row := lineBackUptoRow, standIns := [], harness := (true, "504857d7f8e763f4bc8a28b5999c61c53264bb5c9fec03fed7bb831862d2c417"), looks := false }, kinds := [], alts := [], laidByText := true, laidKinds := [.data, .data, .data, .data, .data, .data, .pinned], laidTests := true, laidLooks := .later }
def LineBackUptoCardSaid : Prop := Claim7.holds Tryd.pinned (.plain (OpenSpec.upto lineBackSpec)) lineBackUptoCard

/-- THE SECOND FORM's CARD OF 'innkeeplaw04.LineShort'. -/
def lineShortUptoCard : Claim7 := { stood := { row := lineShortUptoRow, standIns := [], harness := (true, "504857d7f8e763f4bc8a28b5999c61c53264bb5c9fec03fed7bb831862d2c417"), looks := false }, kinds := [], alts := [], laidByText := true, laidKinds := [.data, .data, .data, .data, .data, .data, .pinned], laidTests := true, laidLooks := .later }
def LineShortUptoCardSaid : Prop := Claim7.holds Tryd.pinned (.plain (OpenSpec.upto lineShortSpec)) lineShortUptoCard

/-- THE SECOND FORM's CARD OF 'innkeeplaw04.LineKinds'. -/
def lineKindsUptoCard : Claim7 := { stood := { row := lineKindsUptoRow, standIns := [], harness := (true, "504857d7f8e763f4bc8a28b5999c61c53264bb5c9fec03fed7bb831862d2c417"), looks := false }, kinds := [], alts := [], laidByText := true, laidKinds := [.data, .data, .data, .data, .data, .data, .pinned], laidTests := true, laidLooks := .later }
def LineKindsUptoCardSaid : Prop := Claim7.holds Tryd.pinned (.plain (OpenSpec.upto lineKindsSpec)) lineKindsUptoCard

/-- THE SECOND FORM's CARD OF 'innkeeplaw04.LineNumbers'. -/
def lineNumbersUptoCard : Claim7 := { stood := { row := lineNumbersUptoRow, standIns := [], harness := (true, "504857d7f8e763f4bc8a28b5999c61c53264bb5c9fec03fed7bb831862d2c417"), looks := false }, kinds := [], alts := [], laidByText := true, laidKinds := [.data, .data, .data, .data, .data, .data, .pinned], laidTests := true, laidLooks := .later }
def LineNumbersUptoCardSaid : Prop := Claim7.holds Tryd.pinned (.plain (OpenSpec.upto lineNumbersSpec)) lineNumbersUptoCard
end Rows
end Go.Proofs.YtinjpkbpdhihjaaDoor
