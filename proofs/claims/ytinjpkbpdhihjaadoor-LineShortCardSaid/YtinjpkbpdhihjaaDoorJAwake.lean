import Derived.Test.YtinjpkbpdhihjaaDoorRows
import Derived.Test.YtinjpkbpdhihjaaDoorKit
import Derived.Test.YtinjpkbpdhihjaaDoorStrs
import Derived.Test.YtinjpkbpdhihjaaDoorJTab
import Derived.Test.YtinjpkbpdhihjaaDoorJBlk
import Derived.Test.YtinjpkbpdhihjaaDoorJMath
import Derived.Test.YtinjpkbpdhihjaaDoorJNum
import Derived.Test.YtinjpkbpdhihjaaDoorJCut
import Derived.Test.YtinjpkbpdhihjaaDoorJTokCut
import Derived.Test.YtinjpkbpdhihjaaDoorJGrown
import Derived.Test.YtinjpkbpdhihjaaDoorJCmd
import Derived.Test.YtinjpkbpdhihjaaDoorJCmdMay
import Derived.Test.YtinjpkbpdhihjaaDoorJCmdNames1
import Derived.Test.YtinjpkbpdhihjaaDoorJLinePart
import Derived.Test.YtinjpkbpdhihjaaDoorJPut
import Derived.Test.YtinjpkbpdhihjaaDoorJLinePut3
import Derived.Test.YtinjpkbpdhihjaaDoorJTake
import Derived.Test.YtinjpkbpdhihjaaDoorJLineTake4
import Derived.Test.YtinjpkbpdhihjaaDoorJLineRead
import Derived.Test.YtinjpkbpdhihjaaDoorJLineGet
import Derived.Test.YtinjpkbpdhihjaaDoorJLinePut
import Derived.Test.YtinjpkbpdhihjaaDoorJWords
import Derived.WalkKit
import Derived.ProofKit
import Derived.OpenShut
import Derived.IntWalk
import Derived.Test.YtinjpkbpdhihjaaDoorJTokJoin
import Derived.Test.YtinjpkbpdhihjaaDoorJCmdRead
import Derived.Test.YtinjpkbpdhihjaaDoorJCmdLaw
import Derived.Test.YtinjpkbpdhihjaaDoorTie
import Derived.Test.YtinjpkbpdhihjaaDoorCards
import Derived.Lay
import Derived.SevenTiedAt
import Derived.MakeChecks
import Derived.Stop.LaidErr
import Derived.Lib.LaidTab
/- line: awake: the answers that the document fixes. -/
namespace Go.Proofs.YtinjpkbpdhihjaaDoor
open Go.ChangeShapes Go.WideShapes Go.ChangeAt Go.RowKit
set_option linter.unusedVariables false
open Go.RowKit Go
def TradeAt (w : World) (W : World) : Prop := Below w.heap.size w W ∧ w.heap.size + 2 ≤ W.heap.size ∧ Blk W (w.heap.size + 1) 24 #[.int .i64 8, .int .i64 0, .int .i64 0, .int .i64 0, .int .i64 2, .slice (some ⟨w.heap.size, 0, none⟩) 2 2, .int .i64 5, .slice none 0 0, .int .i64 0] ∧ IntsAt W (some ⟨w.heap.size, 0, none⟩) [1, 2]
theorem TradeAt.call {w W W' : World} (h : TradeAt w W) (hb : Below W.heap.size W W') : TradeAt w W' := ⟨bl h.1 hb, Nat.le_trans h.2.1 hb.size, h.2.2.1.call hb, h.2.2.2.below hb (Nat.le_refl _)⟩
theorem TradeAt.alloc {w W : World} (h : TradeAt w W) (o : Obj) : TradeAt w (W.alloc o) := h.call ((Below.refl _ _).alloc (Nat.le_refl _) _)
theorem ints_two (x y : Int) (w : World) : IntsAt (w.alloc (.cells #[.int .i64 x, .int .i64 y] 3)) (some ⟨w.heap.size, 0, none⟩) [x, y] := by
  refine (Blk.new w 3 #[.int .i64 x, .int .i64 y]).ints (by simp [maxLen]) (fun i hi => ?_)
  match i, hi with
  | 0, _ => rfl
  | 1, _ => rfl
theorem TradeAt.start (w : World) : TradeAt w ((w.alloc (.cells #[.int .i64 1, .int .i64 2] 3)).alloc (.cells #[.int .i64 8, .int .i64 0, .int .i64 0, .int .i64 0, .int .i64 2, .slice (some ⟨w.heap.size, 0, none⟩) 2 2, .int .i64 5, .slice none 0 0, .int .i64 0] 24)) :=
  ⟨((Below.refl _ _).alloc (Nat.le_refl _) _).alloc (by simp) _, by simp, Blk.newn _ _ _ (by simp), (ints_two 1 2 w).below ((Below.refl _ _).alloc (Nat.le_refl _) _) (Nat.le_refl _)⟩
/-- A block of a command that was read, with its lists. -/
def HoldC (W : World) (g : Nat) (cs : Array Value) (c : Cm) (ga wa : Option Addr) : Prop := Blk W g 24 cs ∧ IntsAt W ga c.gives ∧ IntsAt W wa c.wants
theorem HoldC.new {W : World} (cs : Array Value) {c : Cm} {ga wa : Option Addr} (h1 : IntsAt W ga c.gives) (h2 : IntsAt W wa c.wants) : HoldC (W.alloc (.cells cs 24)) W.heap.size cs c ga wa :=
  ⟨Blk.new _ _ _, h1.below ((Below.refl _ _).alloc (Nat.le_refl _) _) (Nat.le_refl _), h2.below ((Below.refl _ _).alloc (Nat.le_refl _) _) (Nat.le_refl _)⟩
theorem HoldC.call {W W' : World} {g : Nat} {cs : Array Value} {c : Cm} {ga wa : Option Addr} (h : HoldC W g cs c ga wa) (hb : Below W.heap.size W W') : HoldC W' g cs c ga wa :=
  ⟨h.1.call hb, h.2.1.below hb (Nat.le_refl _), h.2.2.below hb (Nat.le_refl _)⟩
theorem HoldC.alloc {W : World} {g : Nat} {cs : Array Value} {c : Cm} {ga wa : Option Addr} (h : HoldC W g cs c ga wa) (o : Obj) : HoldC (W.alloc o) g cs c ga wa := h.call ((Below.refl _ _).alloc (Nat.le_refl _) _)
theorem get_lit {l : List UInt8} {ws : List (List UInt8)} {c : Cm} {b : Bool} {n : Int} (w : World) (hl : l.length ≤ 1000) (hw : words l = ws) (hb : codeB ws = b) (hc : codeC ws = c) (hn : (if b then 0 else 2) = n) (ht : Tabs w) :
    Calls Tryd.prog 13 #[.string ⟨l.toArray⟩] w fun e w' => ∃ ga gc wa wc, e = .returned (.tuple #[.agg #[.int .i64 c.kind, .int .i64 c.dir, .int .i64 c.item, .int .i64 c.box, .int .i64 c.who, .slice ga c.gives.length gc, .int .i64 c.pay, .slice wa c.wants.length wc, .int .i64 c.fee], .int .i64 n]) ∧ IntsAt w' ga c.gives ∧ IntsAt w' wa c.wants ∧ Below w.heap.size w w' := by
  subst hw hb hc hn
  refine (get_any ⟨l.toArray⟩ w (by show l.length ≤ _; omega) ht).mono ?_
  rintro e w' ⟨c, ga, gc, wa, wc, rfl, he, h1, h2, h3⟩
  exact ⟨ga, gc, wa, wc, he, h1, h2, h3⟩
theorem no_code {ws : List (List UInt8)} (h : codeB ws = false) : codeC ws = zeroC := by unfold codeC; rw [h]; rfl
theorem get_a (w : World) (ht : Tabs w) : Calls Tryd.prog 13 #[.string ⟨#[32, 116, 114, 97, 100, 101, 32, 50, 32, 32, 103, 105, 118, 101, 32, 49, 32, 50, 32, 99, 111, 105, 110, 115, 32, 53, 32, 102, 111, 114, 32, 99, 111, 105, 110, 115, 32, 48, 32]⟩] w fun e w' => ∃ ga gc wa wc, e = .returned (.tuple #[.agg #[.int .i64 tradeC.kind, .int .i64 tradeC.dir, .int .i64 tradeC.item, .int .i64 tradeC.box, .int .i64 tradeC.who, .slice ga tradeC.gives.length gc, .int .i64 tradeC.pay, .slice wa tradeC.wants.length wc, .int .i64 tradeC.fee], .int .i64 0]) ∧ IntsAt w' ga (tradeC : Cm).gives ∧ IntsAt w' wa (tradeC : Cm).wants ∧ Below w.heap.size w w' :=
  get_lit (l := [32, 116, 114, 97, 100, 101, 32, 50, 32, 32, 103, 105, 118, 101, 32, 49, 32, 50, 32, 99, 111, 105, 110, 115, 32, 53, 32, 102, 111, 114, 32, 99, 111, 105, 110, 115, 32, 48, 32]) (n := 0) w (by decide) (by decide) trade_code.1 trade_code.2 rfl ht
theorem get_b (w : World) (ht : Tabs w) : Calls Tryd.prog 13 #[.string ⟨#[116, 114, 97, 100, 101, 32, 50, 32, 103, 105, 118, 101, 32, 49, 32, 50, 32, 99, 111, 105, 110, 115, 32, 53, 32, 102, 111, 114, 32, 99, 111, 105, 110, 115]⟩] w fun e w' => ∃ ga gc wa wc, e = .returned (.tuple #[.agg #[.int .i64 zeroC.kind, .int .i64 zeroC.dir, .int .i64 zeroC.item, .int .i64 zeroC.box, .int .i64 zeroC.who, .slice ga zeroC.gives.length gc, .int .i64 zeroC.pay, .slice wa zeroC.wants.length wc, .int .i64 zeroC.fee], .int .i64 2]) ∧ IntsAt w' ga (zeroC : Cm).gives ∧ IntsAt w' wa (zeroC : Cm).wants ∧ Below w.heap.size w w' :=
  get_lit (l := [116, 114, 97, 100, 101, 32, 50, 32, 103, 105, 118, 101, 32, 49, 32, 50, 32, 99, 111, 105, 110, 115, 32, 53, 32, 102, 111, 114, 32, 99, 111, 105, 110, 115]) (n := 2) w (by decide) (by decide) trade_less (no_code trade_less) rfl ht
theorem get_c (w : World) (ht : Tabs w) : Calls Tryd.prog 13 #[.string ⟨#[109, 111, 118, 101, 32, 119, 101, 115, 116]⟩] w fun e w' => ∃ ga gc wa wc, e = .returned (.tuple #[.agg #[.int .i64 westC.kind, .int .i64 westC.dir, .int .i64 westC.item, .int .i64 westC.box, .int .i64 westC.who, .slice ga westC.gives.length gc, .int .i64 westC.pay, .slice wa westC.wants.length wc, .int .i64 westC.fee], .int .i64 0]) ∧ IntsAt w' ga (westC : Cm).gives ∧ IntsAt w' wa (westC : Cm).wants ∧ Below w.heap.size w w' :=
  get_lit (l := [109, 111, 118, 101, 32, 119, 101, 115, 116]) (n := 0) w (by decide) (by decide) west_code.1 west_code.2 rfl ht
theorem get_d (w : World) (ht : Tabs w) : Calls Tryd.prog 13 #[.string ⟨#[109, 111, 118, 101, 32, 119, 101, 115, 116, 32, 119, 101, 115, 116]⟩] w fun e w' => ∃ ga gc wa wc, e = .returned (.tuple #[.agg #[.int .i64 zeroC.kind, .int .i64 zeroC.dir, .int .i64 zeroC.item, .int .i64 zeroC.box, .int .i64 zeroC.who, .slice ga zeroC.gives.length gc, .int .i64 zeroC.pay, .slice wa zeroC.wants.length wc, .int .i64 zeroC.fee], .int .i64 2]) ∧ IntsAt w' ga (zeroC : Cm).gives ∧ IntsAt w' wa (zeroC : Cm).wants ∧ Below w.heap.size w w' :=
  get_lit (l := [109, 111, 118, 101, 32, 119, 101, 115, 116, 32, 119, 101, 115, 116]) (n := 2) w (by decide) (by decide) west_more (no_code west_more) rfl ht
theorem put_trade : putOut tradeC = .tuple #[.string ⟨#[116, 114, 97, 100, 101, 32, 50, 32, 103, 105, 118, 101, 32, 49, 32, 50, 32, 99, 111, 105, 110, 115, 32, 53, 32, 102, 111, 114, 32, 99, 111, 105, 110, 115, 32, 48]⟩, .int .i64 0] := by
  unfold putOut
  rw [trade_may, if_pos rfl, if_pos rfl, trade_words]
  rfl
theorem same_self (c : Cm) : sameB c c = true := by simp [sameB, numsB]
set_option maxRecDepth 100000 in
set_option maxHeartbeats 4000000 in
theorem awake_any (w : World) (ht : Tabs w) : Calls Tryd.prog 9 #[] w fun e w' => e = .returned (.bool true) ∧ Below w.heap.size w w' := by
  have HT := Lib.hid ht
  clear ht
  have P0 := Lib.hid (TradeAt.start w)
  have hA := P0.out.2.2.1.cell
  go_enter Tryd.func9, Tryd.ntmps9
  go_wp2_with fail
  refine (put_any ⟨8, 0, 0, 0, 2, [1, 2], 5, [], 0⟩ (some ⟨w.heap.size, 0, none⟩) none 2 0 _ P0.out.2.2.2 (IntsAt.nil _ _) (HT.out.below P0.out.1 (Nat.le_refl _))).mono ?_
  rintro e w1 ⟨rfl, b1⟩
  rw [show putOut ⟨8, 0, 0, 0, 2, [1, 2], 5, [], 0⟩ = _ from put_trade]
  have P1 := Lib.hid (P0.out.call b1)
  clear b1 hA P0
  go_wp2_with fail
  refine (get_a _ (HT.out.below P1.out.1 (Nat.le_refl _))).mono ?_
  rintro e w2 ⟨ga, gc, wa, wc, rfl, i1, i2, b2⟩
  have P2 := Lib.hid ((P1.out.call b2).alloc (.cells #[.int .i64 8, .int .i64 0, .int .i64 0, .int .i64 0, .int .i64 2, .slice ga 2 gc, .int .i64 5, .slice wa 0 wc, .int .i64 0] 24))
  have D2 := Lib.hid (HoldC.new #[.int .i64 8, .int .i64 0, .int .i64 0, .int .i64 0, .int .i64 2, .slice ga 2 gc, .int .i64 5, .slice wa 0 wc, .int .i64 0] i1 i2)
  clear b2 i1 i2 P1
  unfold tradeC
  go_wp2_with fail
  refine (get_b _ (HT.out.below P2.out.1 (Nat.le_refl _))).mono ?_
  rintro e w3 ⟨gb, gcb, wb, wcb, rfl, i1, i2, b3⟩
  have P3 := Lib.hid ((P2.out.call b3).alloc (.cells #[.int .i64 0, .int .i64 0, .int .i64 0, .int .i64 0, .int .i64 0, .slice gb 0 gcb, .int .i64 0, .slice wb 0 wcb, .int .i64 0] 24))
  have D3 := Lib.hid ((D2.out.call b3).alloc (.cells #[.int .i64 0, .int .i64 0, .int .i64 0, .int .i64 0, .int .i64 0, .slice gb 0 gcb, .int .i64 0, .slice wb 0 wcb, .int .i64 0] 24))
  clear b3 i1 i2 P2 D2
  unfold zeroC
  go_wp2_with fail
  refine (put_any ⟨0, 0, 0, 0, 0, [], 0, [], 0⟩ none none 0 0 _ (IntsAt.nil _ _) (IntsAt.nil _ _) (HT.out.below P3.out.1 (Nat.le_refl _))).mono ?_
  rintro e w4 ⟨rfl, b4⟩
  rw [show putOut ⟨0, 0, 0, 0, 0, [], 0, [], 0⟩ = .tuple #[.string ⟨#[]⟩, .int .i64 2] from rfl]
  have P4 := Lib.hid (P3.out.call b4)
  have D4 := Lib.hid (D3.out.call b4)
  clear b4 P3 D3
  go_wp2_with fail
  refine (get_c _ (HT.out.below P4.out.1 (Nat.le_refl _))).mono ?_
  rintro e w5 ⟨gm, gcm, wm, wcm, rfl, i1, i2, b5⟩
  have P5 := Lib.hid ((P4.out.call b5).alloc (.cells #[.int .i64 1, .int .i64 3, .int .i64 0, .int .i64 0, .int .i64 0, .slice gm 0 gcm, .int .i64 0, .slice wm 0 wcm, .int .i64 0] 24))
  have D5 := Lib.hid ((D4.out.call b5).alloc (.cells #[.int .i64 1, .int .i64 3, .int .i64 0, .int .i64 0, .int .i64 0, .slice gm 0 gcm, .int .i64 0, .slice wm 0 wcm, .int .i64 0] 24))
  have M5 := Lib.hid (HoldC.new #[.int .i64 1, .int .i64 3, .int .i64 0, .int .i64 0, .int .i64 0, .slice gm 0 gcm, .int .i64 0, .slice wm 0 wcm, .int .i64 0] i1 i2)
  clear b5 i1 i2 P4 D4
  unfold westC
  go_wp2_with fail
  refine (get_d _ (HT.out.below P5.out.1 (Nat.le_refl _))).mono ?_
  rintro e w6 ⟨gb6, gcb6, wb6, wcb6, rfl, i1, i2, b6⟩
  have P6 := Lib.hid ((P5.out.call b6).alloc (.cells #[.int .i64 0, .int .i64 0, .int .i64 0, .int .i64 0, .int .i64 0, .slice gb6 0 gcb6, .int .i64 0, .slice wb6 0 wcb6, .int .i64 0] 24))
  have D6 := Lib.hid ((D5.out.call b6).alloc (.cells #[.int .i64 0, .int .i64 0, .int .i64 0, .int .i64 0, .int .i64 0, .slice gb6 0 gcb6, .int .i64 0, .slice wb6 0 wcb6, .int .i64 0] 24))
  have M6 := Lib.hid ((M5.out.call b6).alloc (.cells #[.int .i64 0, .int .i64 0, .int .i64 0, .int .i64 0, .int .i64 0, .slice gb6 0 gcb6, .int .i64 0, .slice wb6 0 wcb6, .int .i64 0] 24))
  clear b6 i1 i2 P5 D5 M5
  unfold zeroC
  have c1 := P6.out.2.2.1.cell
  have c2 := D6.out.1.cell
  go_wp2_with fail
  refine (refsame_any ⟨8, 0, 0, 0, 2, [1, 2], 5, [], 0⟩ ⟨8, 0, 0, 0, 2, [1, 2], 5, [], 0⟩ (some ⟨w.heap.size, 0, none⟩) none ga wa 2 0 gc wc _ P6.out.2.2.2 (IntsAt.nil _ _) D6.out.2.1 D6.out.2.2).mono ?_
  rintro e w7 ⟨rfl, b7⟩
  rw [same_self]
  have P7 := Lib.hid (P6.out.call b7)
  have M7 := Lib.hid (M6.out.call b7)
  clear b7 P6 D6 M6 c1 c2
  have c3 := M7.out.1.cell
  go_wp2_with fail
  go_ret
  exact ⟨rfl, P7.out.1⟩
end Go.Proofs.YtinjpkbpdhihjaaDoor
/- line's laws: what every one of them needs: the table of Itoa out of the row; a command's block and a read one's. -/
namespace Go.Proofs.YtinjpkbpdhihjaaDoor
open Go.ChangeShapes Go.WideShapes Go.ChangeAt Go.RowKit
set_option linter.unusedVariables false
open Go.RowKit Go
theorem Tab_laid (W : World) {rest : List (String × DataW Unit)} (h : laidMet Tryd.prog (("internal/strconv.uint64pow10", Rows.laid_internal_strconv_uint64pow10) :: rest) W) : Tab W := by
  unfold Tab
  exact Lib.tabIs_of_head (g := 5) (k := .u64) (zs := Lib.pow10Tab) (by kernel_rfl) (by kernel_rfl) Tryd.underlying120 Tryd.underlying112 (by kernel_rfl) (by kernel_rfl) h
theorem Tabs.call {w W : World} (h : Tabs w) (hb : Below w.heap.size w W) : Tabs W := h.below hb (Nat.le_refl _)
/-- Two commands that were handed in, in their blocks. -/
def TwoC (w : World) (c d : Cm) (ga wa gb wb : Option Addr) (gc wc gcb wcb : Nat) (W : World) : Prop :=
  Below w.heap.size w W ∧ HoldC W w.heap.size #[.int .i64 c.kind, .int .i64 c.dir, .int .i64 c.item, .int .i64 c.box, .int .i64 c.who, .slice ga c.gives.length gc, .int .i64 c.pay, .slice wa c.wants.length wc, .int .i64 c.fee] c ga wa ∧ HoldC W (w.heap.size + 1) #[.int .i64 d.kind, .int .i64 d.dir, .int .i64 d.item, .int .i64 d.box, .int .i64 d.who, .slice gb d.gives.length gcb, .int .i64 d.pay, .slice wb d.wants.length wcb, .int .i64 d.fee] d gb wb
section
variable {w W W' : World} {c d : Cm} {ga wa gb wb : Option Addr} {gc wc gcb wcb : Nat}
theorem HoldC.newn {g : Nat} {cs : Array Value} (hg : W.heap.size = g) (h1 : IntsAt W ga c.gives) (h2 : IntsAt W wa c.wants) : HoldC (W.alloc (.cells cs 24)) g cs c ga wa := by
  subst hg; exact HoldC.new cs h1 h2
theorem TwoC.start (h1 : IntsAt w ga c.gives) (h2 : IntsAt w wa c.wants) (h3 : IntsAt w gb d.gives) (h4 : IntsAt w wb d.wants) :
    TwoC w c d ga wa gb wb gc wc gcb wcb ((w.alloc (.cells #[.int .i64 c.kind, .int .i64 c.dir, .int .i64 c.item, .int .i64 c.box, .int .i64 c.who, .slice ga c.gives.length gc, .int .i64 c.pay, .slice wa c.wants.length wc, .int .i64 c.fee] 24)).alloc (.cells #[.int .i64 d.kind, .int .i64 d.dir, .int .i64 d.item, .int .i64 d.box, .int .i64 d.who, .slice gb d.gives.length gcb, .int .i64 d.pay, .slice wb d.wants.length wcb, .int .i64 d.fee] 24)) :=
  have b : Below w.heap.size w (w.alloc (.cells #[.int .i64 c.kind, .int .i64 c.dir, .int .i64 c.item, .int .i64 c.box, .int .i64 c.who, .slice ga c.gives.length gc, .int .i64 c.pay, .slice wa c.wants.length wc, .int .i64 c.fee] 24)) := (Below.refl _ _).alloc (Nat.le_refl _) _
  ⟨b.alloc b.size _, (HoldC.new _ h1 h2).alloc _, HoldC.newn (by simp) (h3.below b (Nat.le_refl _)) (h4.below b (Nat.le_refl _))⟩
theorem TwoC.call (h : TwoC w c d ga wa gb wb gc wc gcb wcb W) (hb : Below W.heap.size W W') : TwoC w c d ga wa gb wb gc wc gcb wcb W' := ⟨bl h.1 hb, h.2.1.call hb, h.2.2.call hb⟩
theorem TwoC.alloc (h : TwoC w c d ga wa gb wb gc wc gcb wcb W) (o : Obj) : TwoC w c d ga wa gb wb gc wc gcb wcb (W.alloc o) := h.call ((Below.refl _ _).alloc (Nat.le_refl _) _)
/-- One command that was handed in. -/
def OneC (w : World) (c : Cm) (ga wa : Option Addr) (gc wc : Nat) (W : World) : Prop := Below w.heap.size w W ∧ HoldC W w.heap.size #[.int .i64 c.kind, .int .i64 c.dir, .int .i64 c.item, .int .i64 c.box, .int .i64 c.who, .slice ga c.gives.length gc, .int .i64 c.pay, .slice wa c.wants.length wc, .int .i64 c.fee] c ga wa
theorem OneC.start (h1 : IntsAt w ga c.gives) (h2 : IntsAt w wa c.wants) : OneC w c ga wa gc wc (w.alloc (.cells #[.int .i64 c.kind, .int .i64 c.dir, .int .i64 c.item, .int .i64 c.box, .int .i64 c.who, .slice ga c.gives.length gc, .int .i64 c.pay, .slice wa c.wants.length wc, .int .i64 c.fee] 24)) := ⟨(Below.refl _ _).alloc (Nat.le_refl _) _, HoldC.new _ h1 h2⟩
theorem OneC.call (h : OneC w c ga wa gc wc W) (hb : Below W.heap.size W W') : OneC w c ga wa gc wc W' := ⟨bl h.1 hb, h.2.call hb⟩
theorem OneC.alloc (h : OneC w c ga wa gc wc W) (o : Obj) : OneC w c ga wa gc wc (W.alloc o) := h.call ((Below.refl _ _).alloc (Nat.le_refl _) _)
end
theorem glue_small {c : Cm} (h : mayB c = true) : (glue (wordsOf c)).length ≤ 2000 := by
  have h1 := glue_len (wordsOf c)
  have h2 := words_sizes h
  omega
theorem put_yes {c : Cm} (h : mayB c = true) : ∃ A : ByteArray, putOut c = .tuple #[.string A, .int .i64 0] ∧ A.data.toList = glue (wordsOf c) ∧ A.size ≤ 2000 :=
  ⟨⟨(glue (wordsOf c)).toArray⟩, by simp [putOut, h, str], by simp, by show (glue (wordsOf c)).toArray.size ≤ 2000; simpa using glue_small h⟩
theorem put_no {c : Cm} (h : mayB c = false) : ∃ A : ByteArray, putOut c = .tuple #[.string A, .int .i64 2] := ⟨⟨#[]⟩, by simp [putOut, h, str]⟩
theorem words_of {c : Cm} (h : mayB c = true) : words (glue (wordsOf c)) = wordsOf c := words_glue _ (words_plain_of h)
theorem put_apart {c d : Cm} {A B : ByteArray} (h1 : mayB c = true) (h2 : mayB d = true) (hA : A.data.toList = glue (wordsOf c)) (hB : B.data.toList = glue (wordsOf d)) : (A.toList == B.toList) = sameB c d := by
  rw [ByteArray.toList_eq, ByteArray.toList_eq, Bool.eq_iff_iff, sameB_iff, beq_iff_eq, hA, hB]
  constructor
  · intro e
    have := congrArg words e
    rw [words_of h1, words_of h2] at this
    exact words_inj h1 h2 this
  · intro e
    subst e
    rfl
theorem words_end (l : List UInt8) : words (l ++ [32]) = words l := by
  rw [show [32] = 32 :: ([] : List UInt8) from rfl, words_both, words_nil, List.append_nil]
end Go.Proofs.YtinjpkbpdhihjaaDoor
