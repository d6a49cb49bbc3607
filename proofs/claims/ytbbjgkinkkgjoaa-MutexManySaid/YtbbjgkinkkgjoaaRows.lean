/-
  No cell of these rows narrows 'for every input' (looked for: loops, veiled, ifaces, maps, wideKeys, modest, calm, conditions, laid).
  DERIVED. THE GIVEN ROWS OF THIS SEAT. 4 by the template 'for every input the law returns true; each argument reads behind the call as it read before'; 0 by the template 'total and deterministic' (their statements: YtbbjgkinkkgjoaaTotals.lean).
  GIVEN WITH THE SEED: the statements are not yours to turn. If you find one false, say at which input.
  Laid BY PROGRAM, IN A SANDBOX (cutbox-rows.mjs): the forced cells as the released guide's own fill.sh prints them over the translation f3e5c6040abca745… (all of the seat's roots in one cut). By AI agents, Wed Nov 11 2026. No macro, syntax, notation, axiom, sorry.
-/
import Derived.Test.YtbbjgkinkkgjoaaChecked
import GoSem.Claim
import GoSem.ClaimJoined
import GoSem.ClaimMapViews
import Derived.JoinedTies
import Derived.KernelRfl
namespace Go.Proofs.Ytbbjgkinkkgjoaa
/- THE CELL 'sum', in the pinned program and in every row, IS THE sha256 OF THE DUMP (.gsa) THAT YtbbjgkinkkgjoaaProg.lean LOADS. Nothing in Lean hashes anything: it is a label: what it is worth is what the hold of that sum in a sandbox is worth. -/
noncomputable def Try.pinned : Pinned := { name := "ytbbjgkinkkgjoaa", sum := "f3e5c6040abca745d27c8ed711248bde4c7ae8f9f7a1222eda5d915cf02dd1ec", checked := Try.checked }
namespace Rows
def none {H : Type} : Left H := { results := [], args := [] }

/-- 'innkeeplaw15.MutexDoes': WHATEVER THE INPUT: true; the input reads as it did. -/
def mutexDoesSpec : ChangeSpec := { name := "mutexDoes", fn := fun _ => fun
  | [d1, d2, d3] => { results := [.lit (.bool true)], args := [d1, d2, d3] }
  | _ => none }
def mutexDoesRow : OpenClaim := { program := "ytbbjgkinkkgjoaa", sum := "f3e5c6040abca745d27c8ed711248bde4c7ae8f9f7a1222eda5d915cf02dd1ec", func := "innkeep/innkeeplaw15.MutexDoes", spec := "mutexDoes", apart := false }
def MutexDoesSaid : Prop := mutexDoesRow.holds Try.pinned (OpenSpec.ofChange mutexDoesSpec)

/-- ITS FALSE NEIGHBOUR: 'it returns false'. Refute it at one input. -/
def mutexDoesWrong : ChangeSpec := { name := "mutexDoes", fn := fun _ => fun
  | [d1, d2, d3] => { results := [.lit (.bool false)], args := [d1, d2, d3] }
  | _ => none }
def MutexDoesWrongFalsely : Prop := mutexDoesRow.holds Try.pinned (OpenSpec.ofChange mutexDoesWrong)

/-- 'innkeeplaw15.MutexOne': WHATEVER THE INPUT: true; the input reads as it did. -/
def mutexOneSpec : ChangeSpec := { name := "mutexOne", fn := fun _ => fun
  | [d1, d2, d3, d4] => { results := [.lit (.bool true)], args := [d1, d2, d3, d4] }
  | _ => none }
def mutexOneRow : OpenClaim := { program := "ytbbjgkinkkgjoaa", sum := "f3e5c6040abca745d27c8ed711248bde4c7ae8f9f7a1222eda5d915cf02dd1ec", func := "innkeep/innkeeplaw15.MutexOne", spec := "mutexOne", apart := false }
def MutexOneSaid : Prop := mutexOneRow.holds Try.pinned (OpenSpec.ofChange mutexOneSpec)

/-- ITS FALSE NEIGHBOUR: 'it returns false'. Refute it at one input. -/
def mutexOneWrong : ChangeSpec := { name := "mutexOne", fn := fun _ => fun
  | [d1, d2, d3, d4] => { results := [.lit (.bool false)], args := [d1, d2, d3, d4] }
  | _ => none }
def MutexOneWrongFalsely : Prop := mutexOneRow.holds Try.pinned (OpenSpec.ofChange mutexOneWrong)

/-- 'innkeeplaw15.MutexKeeps': WHATEVER THE INPUT: true; the input reads as it did. -/
def mutexKeepsSpec : ChangeSpec := { name := "mutexKeeps", fn := fun _ => fun
  | [d1, d2, d3] => { results := [.lit (.bool true)], args := [d1, d2, d3] }
  | _ => none }
def mutexKeepsRow : OpenClaim := { program := "ytbbjgkinkkgjoaa", sum := "f3e5c6040abca745d27c8ed711248bde4c7ae8f9f7a1222eda5d915cf02dd1ec", func := "innkeep/innkeeplaw15.MutexKeeps", spec := "mutexKeeps", apart := false }
def MutexKeepsSaid : Prop := mutexKeepsRow.holds Try.pinned (OpenSpec.ofChange mutexKeepsSpec)

/-- ITS FALSE NEIGHBOUR: 'it returns false'. Refute it at one input. -/
def mutexKeepsWrong : ChangeSpec := { name := "mutexKeeps", fn := fun _ => fun
  | [d1, d2, d3] => { results := [.lit (.bool false)], args := [d1, d2, d3] }
  | _ => none }
def MutexKeepsWrongFalsely : Prop := mutexKeepsRow.holds Try.pinned (OpenSpec.ofChange mutexKeepsWrong)

/-- 'innkeeplaw15.MutexMany': WHATEVER THE INPUT: true; the input reads as it did. -/
def mutexManySpec : ChangeSpec := { name := "mutexMany", fn := fun _ => fun
  | [d1, d2] => { results := [.lit (.bool true)], args := [d1, d2] }
  | _ => none }
def mutexManyRow : OpenClaim := { program := "ytbbjgkinkkgjoaa", sum := "f3e5c6040abca745d27c8ed711248bde4c7ae8f9f7a1222eda5d915cf02dd1ec", func := "innkeep/innkeeplaw15.MutexMany", spec := "mutexMany", apart := false }
def MutexManySaid : Prop := mutexManyRow.holds Try.pinned (OpenSpec.ofChange mutexManySpec)

/-- ITS FALSE NEIGHBOUR: 'it returns false'. Refute it at one input. -/
def mutexManyWrong : ChangeSpec := { name := "mutexMany", fn := fun _ => fun
  | [d1, d2] => { results := [.lit (.bool false)], args := [d1, d2] }
  | _ => none }
def MutexManyWrongFalsely : Prop := mutexManyRow.holds Try.pinned (OpenSpec.ofChange mutexManyWrong)

/- THE SECOND FORM. 'bulk': how many values and letters a reading holds, each counted each time it is reached (what is shared counts as often as it is met; a slice's spare places count too). A statement '..UptoSaid' is the law's where the arguments, and the package variables that the reading takes, are together of bulk at most 1048576: NARROWER than '..Said'. Prove '..Said' where nothing that the law and all that it calls make is longer than what came in: it says more and counts as full. Else prove '..UptoSaid'. A law counts once. -/
mutual
def uptoBulk {H : Type} : DataW H → Nat
  | .lit (.string bytes) => bytes.length + 1
  | .lit _ => 1
  | .nil => 1
  | .ptr d => uptoBulk d + 1
  | .slice elems spare => uptoBulkAll elems + uptoBulkAll spare + 1
  | .agg parts => uptoBulkAll parts + 1
  | .iface _ d => uptoBulk d + 1
  | .map entries => uptoBulkEntries entries + 1
  | .held _ => 1
def uptoBulkAll {H : Type} : List (DataW H) → Nat
  | [] => 0
  | d :: r => uptoBulk d + uptoBulkAll r
def uptoBulkEntries {H : Type} : List (Lit × DataW H) → Nat
  | [] => 0
  | x :: r => uptoBulkEntry x + uptoBulkEntries r
def uptoBulkEntry {H : Type} : Lit × DataW H → Nat
  | (.string bytes, d) => bytes.length + uptoBulk d + 1
  | (_, d) => uptoBulk d + 1
 end
def uptoSmall : (H : Type) → List (DataW H) → Bool := fun _ ds => decide (uptoBulkAll ds ≤ 1048576)
def OpenSpec.upto (s : _root_.Go.ChangeSpec) : _root_.Go.OpenSpec := { _root_.Go.OpenSpec.ofChange s with cond := some uptoSmall }

/-- 'innkeeplaw15.MutexDoes', WHERE WHAT IT READS IS OF BULK AT MOST 1048576: true; the input reads as it did. -/
def mutexDoesUptoRow : OpenClaim := { program := "ytbbjgkinkkgjoaa", sum := "f3e5c6040abca745d27c8ed711248bde4c7ae8f9f7a1222eda5d915cf02dd1ec", func := "innkeep/innkeeplaw15.MutexDoes", spec := "mutexDoes", apart := false, narrowed := true }
def MutexDoesUptoSaid : Prop := mutexDoesUptoRow.holds Try.pinned (OpenSpec.upto mutexDoesSpec)

/-- 'innkeeplaw15.MutexOne', WHERE WHAT IT READS IS OF BULK AT MOST 1048576: true; the input reads as it did. -/
def mutexOneUptoRow : OpenClaim := { program := "ytbbjgkinkkgjoaa", sum := "f3e5c6040abca745d27c8ed711248bde4c7ae8f9f7a1222eda5d915cf02dd1ec", func := "innkeep/innkeeplaw15.MutexOne", spec := "mutexOne", apart := false, narrowed := true }
def MutexOneUptoSaid : Prop := mutexOneUptoRow.holds Try.pinned (OpenSpec.upto mutexOneSpec)

/-- 'innkeeplaw15.MutexKeeps', WHERE WHAT IT READS IS OF BULK AT MOST 1048576: true; the input reads as it did. -/
def mutexKeepsUptoRow : OpenClaim := { program := "ytbbjgkinkkgjoaa", sum := "f3e5c6040abca745d27c8ed711248bde4c7ae8f9f7a1222eda5d915cf02dd1ec", func := "innkeep/innkeeplaw15.MutexKeeps", spec := "mutexKeeps", apart := false, narrowed := true }
def MutexKeepsUptoSaid : Prop := mutexKeepsUptoRow.holds Try.pinned (OpenSpec.upto mutexKeepsSpec)

/-- 'innkeeplaw15.MutexMany', WHERE WHAT IT READS IS OF BULK AT MOST 1048576: true; the input reads as it did. -/
def mutexManyUptoRow : OpenClaim := { program := "ytbbjgkinkkgjoaa", sum := "f3e5c6040abca745d27c8ed711248bde4c7ae8f9f7a1222eda5d915cf02dd1ec", func := "innkeep/innkeeplaw15.MutexMany", spec := "mutexMany", apart := false, narrowed := true }
def MutexManyUptoSaid : Prop := mutexManyUptoRow.holds Try.pinned (OpenSpec.upto mutexManySpec)

end Rows
end Go.Proofs.Ytbbjgkinkkgjoaa
