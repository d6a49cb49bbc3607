/-
  NARROWER THAN 'FOR EVERY INPUT', by the rows' own cells (each row's printed sentence says how): CmdMay: laid · CmdNames: laid · CmdFields: laid · CmdLists: laid.
  DERIVED. THE GIVEN ROWS OF THIS SEAT. 4 by the template 'for every input the law returns true; each argument reads behind the call as it read before'; 0 by the template 'total and deterministic' (their statements: YtdioigidilmbkaaDoorTotals.lean).
  GIVEN WITH THE SEED: the statements are not yours to turn. If you find one false, say at which input.
  Laid BY PROGRAM, IN A SANDBOX (cutbox-rows.mjs): the forced cells as the released guide's own fill.sh prints them over the translation af7b84d4772e97d9… (all of the seat's roots in one cut). By AI agents, Wed Nov 11 2026. No macro, syntax, notation, axiom, sorry.
-/
import Derived.Test.YtdioigidilmbkaaDoorChecked
import GoSem.Claim
import GoSem.ClaimJoined
import GoSem.ClaimMapViews
import Derived.JoinedTies
import Derived.KernelRfl
namespace Go.Proofs.YtdioigidilmbkaaDoor
/- THE CELL 'sum', in the pinned program and in every row, IS THE sha256 OF THE DUMP (.gsa) THAT YtdioigidilmbkaaDoorProg.lean LOADS. Nothing in Lean hashes anything: it is a label: what it is worth is what the hold of that sum in a sandbox is worth. -/
noncomputable def Tryd.pinned : Pinned := { name := "ytdioigidilmbkaadoor", sum := "af7b84d4772e97d9413f03f4d45889ab51f2c69c178716ca414b63f86f99a00c", checked := Tryd.checked }
namespace Rows
def none {H : Type} : Left H := { results := [], args := [] }

/- WHAT THE LISTED PACKAGE-LEVEL VARIABLES READ AS WHEN THE CALL BEGINS. Each datum BY PROGRAM (the guide's laid-datum.mjs) off the statement by which the dump's own 'gosem.cut.vars' lays the variable. In a bare row this is a premise. The card (YtdioigidilmbkaaDoorCards.lean) ties it to the program's text. -/
def laid_innkeep_cmd_kindNames {H : Type} : DataW H := .agg [.lit (.string [109, 111, 118, 101]), .lit (.string [112, 117, 115, 104]), .lit (.string [103, 101, 116]), .lit (.string [100, 114, 111, 112]), .lit (.string [112, 117, 116]), .lit (.string [116, 97, 107, 101]), .lit (.string [103, 105, 118, 101]), .lit (.string [116, 114, 97, 100, 101]), .lit (.string [108, 111, 111, 107]), .lit (.string [111, 119, 110])]
def laid_innkeep_cmd_wayNames {H : Type} : DataW H := .agg [.lit (.string [110, 111, 114, 116, 104]), .lit (.string [101, 97, 115, 116]), .lit (.string [115, 111, 117, 116, 104]), .lit (.string [119, 101, 115, 116])]

/-- 'innkeeplaw03.CmdMay': WHATEVER THE INPUT: true; the input reads as it did. -/
def cmdMaySpec : ChangeSpec := { name := "cmdMay", fn := fun _ => fun
  | [d1, d2] => { results := [.lit (.bool true)], args := [d1, d2] }
  | _ => none }
def cmdMayRow : OpenClaim := { program := "ytdioigidilmbkaadoor", sum := "af7b84d4772e97d9413f03f4d45889ab51f2c69c178716ca414b63f86f99a00c", func := "innkeep/innkeeplaw03.CmdMay", spec := "cmdMay", named := ["innkeep/cmd.kindNames", "innkeep/cmd.wayNames"], apart := false, laid := [("innkeep/cmd.kindNames", laid_innkeep_cmd_kindNames), ("innkeep/cmd.wayNames", laid_innkeep_cmd_wayNames)] }
def CmdMaySaid : Prop := cmdMayRow.holds Tryd.pinned (OpenSpec.ofChange cmdMaySpec)

/-- ITS FALSE NEIGHBOUR: 'it returns false'. Refute it at one input. -/
def cmdMayWrong : ChangeSpec := { name := "cmdMay", fn := fun _ => fun
  | [d1, d2] => { results := [.lit (.bool false)], args := [d1, d2] }
  | _ => none }
def CmdMayWrongFalsely : Prop := cmdMayRow.holds Tryd.pinned (OpenSpec.ofChange cmdMayWrong)

/-- 'innkeeplaw03.CmdNames': WHATEVER THE INPUT: true; the input reads as it did. -/
def cmdNamesSpec : ChangeSpec := { name := "cmdNames", fn := fun _ => fun
  | [d1, d2] => { results := [.lit (.bool true)], args := [d1, d2] }
  | _ => none }
def cmdNamesRow : OpenClaim := { program := "ytdioigidilmbkaadoor", sum := "af7b84d4772e97d9413f03f4d45889ab51f2c69c178716ca414b63f86f99a00c", func := "innkeep/innkeeplaw03.CmdNames", spec := "cmdNames", named := ["innkeep/cmd.kindNames", "innkeep/cmd.wayNames"], apart := false, laid := [("innkeep/cmd.kindNames", laid_innkeep_cmd_kindNames), ("innkeep/cmd.wayNames", laid_innkeep_cmd_wayNames)] }
def CmdNamesSaid : Prop := cmdNamesRow.holds Tryd.pinned (OpenSpec.ofChange cmdNamesSpec)

/-- ITS FALSE NEIGHBOUR: 'it returns false'. Refute it at one input. -/
def cmdNamesWrong : ChangeSpec := { name := "cmdNames", fn := fun _ => fun
  | [d1, d2] => { results := [.lit (.bool false)], args := [d1, d2] }
  | _ => none }
def CmdNamesWrongFalsely : Prop := cmdNamesRow.holds Tryd.pinned (OpenSpec.ofChange cmdNamesWrong)

/-- 'innkeeplaw03.CmdFields': WHATEVER THE INPUT: true; the input reads as it did. -/
def cmdFieldsSpec : ChangeSpec := { name := "cmdFields", fn := fun _ => fun
  | [d1, d2] => { results := [.lit (.bool true)], args := [d1, d2] }
  | _ => none }
def cmdFieldsRow : OpenClaim := { program := "ytdioigidilmbkaadoor", sum := "af7b84d4772e97d9413f03f4d45889ab51f2c69c178716ca414b63f86f99a00c", func := "innkeep/innkeeplaw03.CmdFields", spec := "cmdFields", named := ["innkeep/cmd.kindNames", "innkeep/cmd.wayNames"], apart := false, laid := [("innkeep/cmd.kindNames", laid_innkeep_cmd_kindNames), ("innkeep/cmd.wayNames", laid_innkeep_cmd_wayNames)] }
def CmdFieldsSaid : Prop := cmdFieldsRow.holds Tryd.pinned (OpenSpec.ofChange cmdFieldsSpec)

/-- ITS FALSE NEIGHBOUR: 'it returns false'. Refute it at one input. -/
def cmdFieldsWrong : ChangeSpec := { name := "cmdFields", fn := fun _ => fun
  | [d1, d2] => { results := [.lit (.bool false)], args := [d1, d2] }
  | _ => none }
def CmdFieldsWrongFalsely : Prop := cmdFieldsRow.holds Tryd.pinned (OpenSpec.ofChange cmdFieldsWrong)

/-- 'innkeeplaw03.CmdLists': WHATEVER THE INPUT: true; the input reads as it did. -/
def cmdListsSpec : ChangeSpec := { name := "cmdLists", fn := fun _ => fun
  | [d1, d2] => { results := [.lit (.bool true)], args := [d1, d2] }
  | _ => none }
def cmdListsRow : OpenClaim := { program := "ytdioigidilmbkaadoor", sum := "af7b84d4772e97d9413f03f4d45889ab51f2c69c178716ca414b63f86f99a00c", func := "innkeep/innkeeplaw03.CmdLists", spec := "cmdLists", named := ["innkeep/cmd.kindNames", "innkeep/cmd.wayNames"], apart := false, laid := [("innkeep/cmd.kindNames", laid_innkeep_cmd_kindNames), ("innkeep/cmd.wayNames", laid_innkeep_cmd_wayNames)] }
def CmdListsSaid : Prop := cmdListsRow.holds Tryd.pinned (OpenSpec.ofChange cmdListsSpec)

/-- ITS FALSE NEIGHBOUR: 'it returns false'. Refute it at one input. -/
def cmdListsWrong : ChangeSpec := { name := "cmdLists", fn := fun _ => fun
  | [d1, d2] => { results := [.lit (.bool false)], args := [d1, d2] }
  | _ => none }
def CmdListsWrongFalsely : Prop := cmdListsRow.holds Tryd.pinned (OpenSpec.ofChange cmdListsWrong)

/- THE SECOND FORM. 'bulk': how many values and letters a reading holds, each counted each time it is reached (what is shared counts as often as it is met; a slice's spare places count too). A statement '..UptoSaid' is the law's where the arguments, and the package variables that the reading takes, are together of bulk at most 1048576: NARROWER than '..Said'. Prove '..Said' where nothing that the law and all that it calls make is longer than what came in: it says more and counts as full. Else prove '..UptoSaid'. A law counts once. -/
mutual
def uptoBulk {H : Type} : DataW H → Nat
  | .lit (.string bytes) => bytes.length + 1
  | .lit _ => 1
  | .nil => 1
  | .ptr d => uptoBulk d + 1
  | .slice elems spare => uptoBulkAll elems + uptoBulkAll spare + 1
  | .agg parts => uptoBulkAll parts + 1
  | .iface _ d => uptoBulk d + 1
  | .map entries => uptoBulkEntries entries + 1
  | .held _ => 1
def uptoBulkAll {H : Type} : List (DataW H) → Nat
  | [] => 0
  | d :: r => uptoBulk d + uptoBulkAll r
def uptoBulkEntries {H : Type} : List (Lit × DataW H) → Nat
  | [] => 0
  | x :: r => uptoBulkEntry x + uptoBulkEntries r
def uptoBulkEntry {H : Type} : Lit × DataW H → Nat
  | (.string bytes, d) => bytes.length + uptoBulk d + 1
  | (_, d) => uptoBulk d + 1
 end
def uptoSmall : (H : Type) → List (DataW H) → Bool := fun _ ds => decide (uptoBulkAll ds ≤ 1048576)
def OpenSpec.upto (s : _root_.Go.ChangeSpec) : _root_.Go.OpenSpec := { _root_.Go.OpenSpec.ofChange s with cond := some uptoSmall }

/-- 'innkeeplaw03.CmdMay', WHERE WHAT IT READS IS OF BULK AT MOST 1048576: true; the input reads as it did. -/
def cmdMayUptoRow : OpenClaim := { program := "ytdioigidilmbkaadoor", sum := "af7b84d4772e97d9413f03f4d45889ab51f2c69c178716ca414b63f86f99a00c", func := "innkeep/innkeeplaw03.CmdMay", spec := "cmdMay", named := ["innkeep/cmd.kindNames", "innkeep/cmd.wayNames"], apart := false, laid := [("innkeep/cmd.kindNames", laid_innkeep_cmd_kindNames), ("innkeep/cmd.wayNames", laid_innkeep_cmd_wayNames)], narrowed := true }
def CmdMayUptoSaid : Prop := cmdMayUptoRow.holds Tryd.pinned (OpenSpec.upto cmdMaySpec)

/-- 'innkeeplaw03.CmdNames', WHERE WHAT IT READS IS OF BULK AT MOST 1048576: true; the input reads as it did. -/
def cmdNamesUptoRow : OpenClaim := { program := "ytdioigidilmbkaadoor", sum := "af7b84d4772e97d9413f03f4d45889ab51f2c69c178716ca414b63f86f99a00c", func := "innkeep/innkeeplaw03.CmdNames", spec := "cmdNames", named := ["innkeep/cmd.kindNames", "innkeep/cmd.wayNames"], apart := false, laid := [("innkeep/cmd.kindNames", laid_innkeep_cmd_kindNames), ("innkeep/cmd.wayNames", laid_innkeep_cmd_wayNames)], narrowed := true }
def CmdNamesUptoSaid : Prop := cmdNamesUptoRow.holds Tryd.pinned (OpenSpec.upto cmdNamesSpec)

/-- 'innkeeplaw03.CmdFields', WHERE WHAT IT READS IS OF BULK AT MOST 1048576: true; the input reads as it did. -/
def cmdFieldsUptoRow : OpenClaim := { program := "ytdioigidilmbkaadoor", sum := "af7b84d4772e97d9413f03f4d45889ab51f2c69c178716ca414b63f86f99a00c", func := "innkeep/innkeeplaw03.CmdFields", spec := "cmdFields", named := ["innkeep/cmd.kindNames", "innkeep/cmd.wayNames"], apart := false, laid := [("innkeep/cmd.kindNames", laid_innkeep_cmd_kindNames), ("innkeep/cmd.wayNames", laid_innkeep_cmd_wayNames)], narrowed := true }
def CmdFieldsUptoSaid : Prop := cmdFieldsUptoRow.holds Tryd.pinned (OpenSpec.upto cmdFieldsSpec)

/-- 'innkeeplaw03.CmdLists', WHERE WHAT IT READS IS OF BULK AT MOST 1048576: true; the input reads as it did. -/
def cmdListsUptoRow : OpenClaim := { program := "ytdioigidilmbkaadoor", sum := "af7b84d4772e97d9413f03f4d45889ab51f2c69c178716ca414b63f86f99a00c", func := "innkeep/innkeeplaw03.CmdLists", spec := "cmdLists", named := ["innkeep/cmd.kindNames", "innkeep/cmd.wayNames"], apart := false, laid := [("innkeep/cmd.kindNames", laid_innkeep_cmd_kindNames), ("innkeep/cmd.wayNames", laid_innkeep_cmd_wayNames)], narrowed := true }
def CmdListsUptoSaid : Prop := cmdListsUptoRow.holds Tryd.pinned (OpenSpec.upto cmdListsSpec)

end Rows
end Go.Proofs.YtdioigidilmbkaaDoor
