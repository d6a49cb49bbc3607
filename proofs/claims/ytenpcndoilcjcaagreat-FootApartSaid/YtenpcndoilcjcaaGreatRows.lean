/-
  No cell of these rows narrows 'for every input' (looked for: loops, veiled, ifaces, maps, wideKeys, modest, calm, conditions, laid).
  DERIVED. THE GIVEN ROWS OF THIS SEAT. 2 by the template 'for every input the law returns true; each argument reads behind the call as it read before'; 0 by the template 'total and deterministic' (their statements: YtenpcndoilcjcaaGreatTotals.lean).
  GIVEN WITH THE SEED: the statements are not yours to turn. If you find one false, say at which input.
  Laid BY PROGRAM, IN A SANDBOX (cutbox-rows.mjs): the forced cells as the released guide's own fill.sh prints them over the translation 57bc4b76f31c5acc… (all of the seat's roots in one cut). By AI agents, Wed Nov 11 2026. No macro, syntax, notation, axiom, sorry.
-/
import Derived.Test.YtenpcndoilcjcaaGreatChecked
import GoSem.Claim
import GoSem.ClaimJoined
import GoSem.ClaimMapViews
import Derived.JoinedTies
import Derived.KernelRfl
namespace Go.Proofs.YtenpcndoilcjcaaGreat
/- THE CELL 'sum', in the pinned program and in every row, IS THE sha256 OF THE DUMP (.gsa) THAT YtenpcndoilcjcaaGreatProg.lean LOADS. Nothing in Lean hashes anything: it is a label: what it is worth is what the hold of that sum in a sandbox is worth. -/
noncomputable def Tryz.pinned : Pinned := { name := "ytenpcndoilcjcaagreat", sum := "57bc4b76f31c5acca795a88d4e8ef7532da4dc95bd894c0bd5eb8a1abe49290d", checked := Tryz.checked }
namespace Rows
def none {H : Type} : Left H := { results := [], args := [] }

/-- 'innkeeplaw16.FootCovers': WHATEVER THE INPUT: true; the input reads as it did. -/
def footCoversSpec : ChangeSpec := { name := "footCovers", fn := fun _ => fun
  | [d1, d2, d3] => { results := [.lit (.bool true)], args := [d1, d2, d3] }
  | _ => none }
def footCoversRow : OpenClaim := { program := "ytenpcndoilcjcaagreat", sum := "57bc4b76f31c5acca795a88d4e8ef7532da4dc95bd894c0bd5eb8a1abe49290d", func := "innkeep/innkeeplaw16.FootCovers", spec := "footCovers", unfollowed := true, recurses := true, plainKeys := false, apart := false }
def FootCoversSaid : Prop := footCoversRow.holds Tryz.pinned (OpenSpec.ofChange footCoversSpec)

/-- ITS FALSE NEIGHBOUR: 'it returns false'. Refute it at one input. -/
def footCoversWrong : ChangeSpec := { name := "footCovers", fn := fun _ => fun
  | [d1, d2, d3] => { results := [.lit (.bool false)], args := [d1, d2, d3] }
  | _ => none }
def FootCoversWrongFalsely : Prop := footCoversRow.holds Tryz.pinned (OpenSpec.ofChange footCoversWrong)

/-- 'innkeeplaw16.FootApart': WHATEVER THE INPUT: true; the input reads as it did. -/
def footApartSpec : ChangeSpec := { name := "footApart", fn := fun _ => fun
  | [d1, d2, d3, d4, d5] => { results := [.lit (.bool true)], args := [d1, d2, d3, d4, d5] }
  | _ => none }
def footApartRow : OpenClaim := { program := "ytenpcndoilcjcaagreat", sum := "57bc4b76f31c5acca795a88d4e8ef7532da4dc95bd894c0bd5eb8a1abe49290d", func := "innkeep/innkeeplaw16.FootApart", spec := "footApart", unfollowed := true, recurses := true, plainKeys := false, apart := false }
def FootApartSaid : Prop := footApartRow.holds Tryz.pinned (OpenSpec.ofChange footApartSpec)

/-- ITS FALSE NEIGHBOUR: 'it returns false'. Refute it at one input. -/
def footApartWrong : ChangeSpec := { name := "footApart", fn := fun _ => fun
  | [d1, d2, d3, d4, d5] => { results := [.lit (.bool false)], args := [d1, d2, d3, d4, d5] }
  | _ => none }
def FootApartWrongFalsely : Prop := footApartRow.holds Tryz.pinned (OpenSpec.ofChange footApartWrong)

/- THE SECOND FORM. 'bulk': how many values and letters a reading holds, each counted each time it is reached (what is shared counts as often as it is met; a slice's spare places count too). A statement '..UptoSaid' is the law's where the arguments, and the package variables that the reading takes, are together of bulk at most 1048576: NARROWER than '..Said'. Prove '..Said' where nothing that the law and all that it calls make is longer than what came in: it says more and counts as full. Else prove '..UptoSaid'. A law counts once. -/
mutual
def uptoBulk {H : Type} : DataW H → Nat
  | .lit (.string bytes) => bytes.length + 1
  | .lit _ => 1
  | .nil => 1
  | .ptr d => uptoBulk d + 1
  | .slice elems spare => uptoBulkAll elems + uptoBulkAll spare + 1
  | .agg parts => uptoBulkAll parts + 1
  | .iface _ d => uptoBulk d + 1
  | .map entries => uptoBulkEntries entries + 1
  | .held _ => 1
def uptoBulkAll {H : Type} : List (DataW H) → Nat
  | [] => 0
  | d :: r => uptoBulk d + uptoBulkAll r
def uptoBulkEntries {H : Type} : List (Lit × DataW H) → Nat
  | [] => 0
  | x :: r => uptoBulkEntry x + uptoBulkEntries r
def uptoBulkEntry {H : Type} : Lit × DataW H → Nat
  | (.string bytes, d) => bytes.length + uptoBulk d + 1
  | (_, d) => uptoBulk d + 1
 end
def uptoSmall : (H : Type) → List (DataW H) → Bool := fun _ ds => decide (uptoBulkAll ds ≤ 1048576)
def OpenSpec.upto (s : _root_.Go.ChangeSpec) : _root_.Go.OpenSpec := { _root_.Go.OpenSpec.ofChange s with cond := some uptoSmall }

/-- 'innkeeplaw16.FootCovers', WHERE WHAT IT READS IS OF BULK AT MOST 1048576: true; the input reads as it did. -/
def footCoversUptoRow : OpenClaim := { program := "ytenpcndoilcjcaagreat", sum := "57bc4b76f31c5acca795a88d4e8ef7532da4dc95bd894c0bd5eb8a1abe49290d", func := "innkeep/innkeeplaw16.FootCovers", spec := "footCovers", unfollowed := true, recurses := true, plainKeys := false, apart := false, narrowed := true }
def FootCoversUptoSaid : Prop := footCoversUptoRow.holds Tryz.pinned (OpenSpec.upto footCoversSpec)

/-- 'innkeeplaw16.FootApart', WHERE WHAT IT READS IS OF BULK AT MOST 1048576: true; the input reads as it did. -/
def footApartUptoRow : OpenClaim := { program := "ytenpcndoilcjcaagreat", sum := "57bc4b76f31c5acca795a88d4e8ef7532da4dc95bd894c0bd5eb8a1abe49290d", func := "innkeep/innkeeplaw16.FootApart", spec := "footApart", unfollowed := true, recurses := true, plainKeys := false, apart := false, narrowed := true }
def FootApartUptoSaid : Prop := footApartUptoRow.holds Tryz.pinned (OpenSpec.upto footApartSpec)

end Rows
end Go.Proofs.YtenpcndoilcjcaaGreat
