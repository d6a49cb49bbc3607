import Derived.Test.YtcabeagmdfpdlaaDoorRows
import Derived.Test.YtcabeagmdfpdlaaDoorKit
import Derived.Test.YtcabeagmdfpdlaaDoorStrs
import Derived.Test.YtcabeagmdfpdlaaDoorJTab
import Derived.Test.YtcabeagmdfpdlaaDoorJBlk
import Derived.Test.YtcabeagmdfpdlaaDoorJMath
import Derived.Test.YtcabeagmdfpdlaaDoorJNum
import Derived.Test.YtcabeagmdfpdlaaDoorJTokWord
import Derived.Test.YtcabeagmdfpdlaaDoorJTokJoin
import Derived.Test.YtcabeagmdfpdlaaDoorJCmdNames1
import Derived.Test.YtcabeagmdfpdlaaDoorJRepMath
import Derived.Test.YtcabeagmdfpdlaaDoorJRepItems
import Derived.Test.YtcabeagmdfpdlaaDoorJRepWords
import Derived.Test.YtcabeagmdfpdlaaDoorJRepPut
import Derived.Test.YtcabeagmdfpdlaaDoorJRepPut3
import Derived.Test.YtcabeagmdfpdlaaDoorJRepRead1
import Derived.Test.YtcabeagmdfpdlaaDoorJRepGet
import Derived.Test.YtcabeagmdfpdlaaDoorJRepAwake
import Derived.Test.YtcabeagmdfpdlaaDoorJRepArg
import Derived.Test.YtcabeagmdfpdlaaDoorTie
import Derived.Test.YtcabeagmdfpdlaaDoorCards
import Derived.Lay
import Derived.SevenTiedAt
import Derived.MakeChecks
import Derived.Stop.LaidErr
import Derived.Lib.LaidTab
import Derived.WalkKit
import Derived.ProofKit
import Derived.OpenShut
import Derived.IntWalk
/- reply's laws: what every one of them needs: the tables out of the row; answers' blocks; what Put answers. -/
namespace Go.Proofs.YtcabeagmdfpdlaaDoor
open Go.ChangeShapes Go.WideShapes Go.ChangeAt Go.RowKit
set_option linter.unusedVariables false
open Go.RowKit Go
theorem Tab_laid (W : World) {rest : List (String × DataW Unit)} (h : laidMet Tryd.prog (("internal/strconv.uint64pow10", Rows.laid_internal_strconv_uint64pow10) :: rest) W) : Tab W := by
  unfold Tab
  exact Lib.tabIs_of_head (g := 5) (k := .u64) (zs := Lib.pow10Tab) (by kernel_rfl) (by kernel_rfl) Tryd.underlying109 Tryd.underlying96 (by kernel_rfl) (by kernel_rfl) h
theorem KTab_laid (W : World) {rest : List (String × DataW Unit)} (h : laidMet Tryd.prog (("innkeep/cmd.kindNames", Rows.laid_innkeep_cmd_kindNames) :: rest) W) : KTab W :=
  strTab_of_head (g := 0) (ss := kindNames) (by kernel_rfl) (by kernel_rfl) Tryd.underlying84 Tryd.underlying9 (by kernel_rfl) (by kernel_rfl) h
theorem PTab_laid (W : World) {rest : List (String × DataW Unit)} (h : laidMet Tryd.prog (("innkeep/reply.placeNames", Rows.laid_innkeep_reply_placeNames) :: rest) W) : PTab W :=
  strTab_of_head (g := 1) (ss := placeNames) (by kernel_rfl) (by kernel_rfl) Tryd.underlying85 Tryd.underlying9 (by kernel_rfl) (by kernel_rfl) h
/-- Two answers that were handed in, in their blocks. -/
def TwoR (w : World) (c d : Rp) (ga wa gb wb : Option Addr) (gc wc gcb wcb : Nat) (W : World) : Prop :=
  Below w.heap.size w W ∧ HoldR W w.heap.size #[.int .i64 c.err, .int .i64 c.kind, .int .i64 c.room, .slice ga c.players.length gc, .slice wa c.items.length wc, .int .i64 c.coins] c ga wa ∧ HoldR W (w.heap.size + 1) #[.int .i64 d.err, .int .i64 d.kind, .int .i64 d.room, .slice gb d.players.length gcb, .slice wb d.items.length wcb, .int .i64 d.coins] d gb wb
section
variable {w W W' : World} {c d : Rp} {ga wa gb wb : Option Addr} {gc wc gcb wcb : Nat}
theorem TwoR.start (h1 : IntsAt w ga c.players) (h2 : SnsAt w wa c.items) (h3 : IntsAt w gb d.players) (h4 : SnsAt w wb d.items) :
    TwoR w c d ga wa gb wb gc wc gcb wcb ((w.alloc (.cells #[.int .i64 c.err, .int .i64 c.kind, .int .i64 c.room, .slice ga c.players.length gc, .slice wa c.items.length wc, .int .i64 c.coins] 26)).alloc (.cells #[.int .i64 d.err, .int .i64 d.kind, .int .i64 d.room, .slice gb d.players.length gcb, .slice wb d.items.length wcb, .int .i64 d.coins] 26)) :=
  have b : Below w.heap.size w (w.alloc (.cells #[.int .i64 c.err, .int .i64 c.kind, .int .i64 c.room, .slice ga c.players.length gc, .slice wa c.items.length wc, .int .i64 c.coins] 26)) := (Below.refl _ _).alloc (Nat.le_refl _) _
  ⟨b.alloc b.size _, (HoldR.new _ h1 h2).alloc _, HoldR.newn (by simp) (h3.below b (Nat.le_refl _)) (h4.below b (Nat.le_refl _))⟩
theorem TwoR.call (h : TwoR w c d ga wa gb wb gc wc gcb wcb W) (hb : Below W.heap.size W W') : TwoR w c d ga wa gb wb gc wc gcb wcb W' := ⟨bl h.1 hb, h.2.1.call hb, h.2.2.call hb⟩
theorem TwoR.alloc (h : TwoR w c d ga wa gb wb gc wc gcb wcb W) (o : Obj) : TwoR w c d ga wa gb wb gc wc gcb wcb (W.alloc o) := h.call ((Below.refl _ _).alloc (Nat.le_refl _) _)
/-- One answer that was handed in. -/
def OneR (w : World) (c : Rp) (ga wa : Option Addr) (gc wc : Nat) (W : World) : Prop := Below w.heap.size w W ∧ HoldR W w.heap.size #[.int .i64 c.err, .int .i64 c.kind, .int .i64 c.room, .slice ga c.players.length gc, .slice wa c.items.length wc, .int .i64 c.coins] c ga wa
theorem OneR.start (h1 : IntsAt w ga c.players) (h2 : SnsAt w wa c.items) : OneR w c ga wa gc wc (w.alloc (.cells #[.int .i64 c.err, .int .i64 c.kind, .int .i64 c.room, .slice ga c.players.length gc, .slice wa c.items.length wc, .int .i64 c.coins] 26)) := ⟨(Below.refl _ _).alloc (Nat.le_refl _) _, HoldR.new _ h1 h2⟩
theorem OneR.call (h : OneR w c ga wa gc wc W) (hb : Below W.heap.size W W') : OneR w c ga wa gc wc W' := ⟨bl h.1 hb, h.2.call hb⟩
theorem OneR.alloc (h : OneR w c ga wa gc wc W) (o : Obj) : OneR w c ga wa gc wc (W.alloc o) := h.call ((Below.refl _ _).alloc (Nat.le_refl _) _)
end
theorem rput_yes {c : Rp} (h : rmayB c = true) : ∃ A : ByteArray, rputOut c = .tuple #[.string A, .int .i64 0] ∧ A.data.toList = textR c ∧ A.size ≤ 1000 :=
  ⟨⟨(textR c).toArray⟩, by simp [rputOut, rputS, rputN, h, str], by simp, by have := textR_len (fits_of h); show (textR c).toArray.size ≤ 1000; rw [List.size_toArray]; omega⟩
theorem rput_no {c : Rp} (h : rmayB c = false) : rputOut c = .tuple #[.string ⟨#[]⟩, .int .i64 2] := by simp [rputOut, rputS, rputN, h, str]
theorem rput_text {c : Rp} {s : ByteArray} (h : rmayB c = true) (ht : textR c = s.data.toList) : rputOut c = .tuple #[.string s, .int .i64 0] := by simp [rputOut, rputS, rputN, h, str, ht]
theorem rput_apart {c d : Rp} {A B : ByteArray} (h1 : rmayB c = true) (h2 : rmayB d = true) (hA : A.data.toList = textR c) (hB : B.data.toList = textR d) : (A.toList == B.toList) = rsameB c d := by
  rw [ByteArray.toList_eq, ByteArray.toList_eq, Bool.eq_iff_iff, rsameB_iff, beq_iff_eq, hA, hB]
  exact ⟨fun e => text_inj h1 h2 e, fun e => by rw [e]⟩
end Go.Proofs.YtcabeagmdfpdlaaDoor
