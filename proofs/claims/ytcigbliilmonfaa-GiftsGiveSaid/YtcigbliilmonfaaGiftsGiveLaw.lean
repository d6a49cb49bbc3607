/- GiftsGive: giving is a trade of one item for nothing; given back, it is as it was. -/
import Derived.Test.YtcigbliilmonfaaRows
import Derived.Test.YtcigbliilmonfaaKit
import Derived.Test.YtcigbliilmonfaaGMem
import Derived.Test.YtcigbliilmonfaaCoin
import Derived.Test.YtcigbliilmonfaaGWorld
import Derived.Test.YtcigbliilmonfaaDescMay
import Derived.Test.YtcigbliilmonfaaGDescN
import Derived.Test.YtcigbliilmonfaaGRight
import Derived.Test.YtcigbliilmonfaaGCopy
import Derived.Test.YtcigbliilmonfaaGRefD
import Derived.Test.YtcigbliilmonfaaGAs
import Derived.Test.YtcigbliilmonfaaGEq
import Derived.Test.YtcigbliilmonfaaGNew
import Derived.Test.YtcigbliilmonfaaRefRight
import Derived.Test.YtcigbliilmonfaaGTreeL
import Derived.Test.YtcigbliilmonfaaTreeRefA
import Derived.Test.YtcigbliilmonfaaGHoldA
import Derived.Test.YtcigbliilmonfaaHoldD
import Derived.Test.YtcigbliilmonfaaHoldE
import Derived.Test.YtcigbliilmonfaaGiftMath
import Derived.Test.YtcigbliilmonfaaGiftMath2
import Derived.Test.YtcigbliilmonfaaGiftMath4
import Derived.Test.YtcigbliilmonfaaGiftD
import Derived.Test.YtcigbliilmonfaaGiftH
import Derived.Test.YtcigbliilmonfaaGiftMath3
import Derived.Test.YtcigbliilmonfaaGiftMath5
import Derived.Test.YtcigbliilmonfaaGiftAwake
import Derived.Deep.QuietTactic
import Derived.BigQuiet
import Derived.Deep.RegionHeld3
import Derived.WalkKit
import Derived.ProofKit
import Derived.OpenShut
import Derived.IntWalk
namespace Go.Proofs.Ytcigbliilmonfaa
open Go.ChangeShapes Go.WideShapes Go.ChangeAt Go.RowKit
set_option linter.unusedVariables false
open Go.RowKit
set_option maxRecDepth 100000 in
theorem giftsGive_no (x : Wd) (p : Wp) (a item q : Int) (w : World) (h : WorldAt w p x) (hf : fitsB x = false) : Calls Try.prog 5 #[.agg #[.slice p.d.ex x.d.exits.length p.d.exc, .slice p.d.pl x.d.players.length p.d.plc, .slice p.d.co x.d.coins.length p.d.coc, .slice p.d.it x.d.items.length p.d.itc, .slice p.d.bo x.d.boxes.length p.d.boc, .int .i64 x.d.room, .int .i64 x.d.player, .int .i64 x.d.box, .slice p.at_ x.at_.length p.atc, .slice p.co x.coins.length p.coc, .slice p.wh x.wher.length p.whc], .int .u8 a, .int .i64 item, .int .i64 q] w fun e w' => e = .returned (.bool true) ∧ Below w.heap.size w w' := by
  have H_0 := Lib.hid (Holds.new w #[.slice p.d.ex x.d.exits.length p.d.exc, .slice p.d.pl x.d.players.length p.d.plc, .slice p.d.co x.d.coins.length p.d.coc, .slice p.d.it x.d.items.length p.d.itc, .slice p.d.bo x.d.boxes.length p.d.boc, .int .i64 x.d.room, .int .i64 x.d.player, .int .i64 x.d.box, .slice p.at_ x.at_.length p.atc, .slice p.co x.coins.length p.coc, .slice p.wh x.wher.length p.whc] 29)
  have HF := Lib.hid hf
  have HWA := Lib.hid h
  clear hf h
  go_enter Try.func5, Try.ntmps5
  go_wp2_with fail
  generalize w.alloc (.cells #[.slice p.d.ex x.d.exits.length p.d.exc, .slice p.d.pl x.d.players.length p.d.plc, .slice p.d.co x.d.coins.length p.d.coc, .slice p.d.it x.d.items.length p.d.itc, .slice p.d.bo x.d.boxes.length p.d.boc, .int .i64 x.d.room, .int .i64 x.d.player, .int .i64 x.d.box, .slice p.at_ x.at_.length p.atc, .slice p.co x.coins.length p.coc, .slice p.wh x.wher.length p.whc] 29) = V0 at *
  have B_0 := Lib.hid H_0.out.1
  refine (awake11_any _).mono ?_
  rintro e u1 ⟨rfl, b1⟩
  have B_1 := Lib.hid (bl B_0.out b1)
  have H_1 := Lib.hid (H_0.out.call b1)
  clear b1 B_0 H_0
  have hcH := H_1.out.2.2
  have hlH := H_1.out.2.1
  go_wp2_with fail
  refine (fits11_any x p _ (HWA.out.below H_1.out.1 (Nat.le_refl _))).mono ?_
  rintro e u2 ⟨rfl, b2⟩
  rw [HF.out]
  clear hcH hlH
  have B_2 := Lib.hid (bl B_1.out b2)
  have H_2 := Lib.hid (H_1.out.call b2)
  clear b2 B_1 H_1
  have hcH := H_2.out.2.2
  have hlH := H_2.out.2.1
  go_wp2_with fail
  refine (awake11_any _).mono ?_
  rintro e u3 ⟨rfl, b3⟩
  clear hcH hlH
  have B_3 := Lib.hid (bl B_2.out b3)
  have H_3 := Lib.hid (H_2.out.call b3)
  clear b3 B_2 H_2
  have hcH := H_3.out.2.2
  have hlH := H_3.out.2.1
  go_wp2_with fail
  go_ret
  exact ⟨rfl, B_3.out⟩
set_option maxRecDepth 100000 in
theorem giftsGive_neg (x : Wd) (p : Wp) (a item q : Int) (w : World) (h : WorldAt w p x) (hf : fitsB x = true) (h1 : item < 0) : Calls Try.prog 5 #[.agg #[.slice p.d.ex x.d.exits.length p.d.exc, .slice p.d.pl x.d.players.length p.d.plc, .slice p.d.co x.d.coins.length p.d.coc, .slice p.d.it x.d.items.length p.d.itc, .slice p.d.bo x.d.boxes.length p.d.boc, .int .i64 x.d.room, .int .i64 x.d.player, .int .i64 x.d.box, .slice p.at_ x.at_.length p.atc, .slice p.co x.coins.length p.coc, .slice p.wh x.wher.length p.whc], .int .u8 a, .int .i64 item, .int .i64 q] w fun e w' => e = .returned (.bool true) ∧ Below w.heap.size w w' := by
  have H_0 := Lib.hid (Holds.new w #[.slice p.d.ex x.d.exits.length p.d.exc, .slice p.d.pl x.d.players.length p.d.plc, .slice p.d.co x.d.coins.length p.d.coc, .slice p.d.it x.d.items.length p.d.itc, .slice p.d.bo x.d.boxes.length p.d.boc, .int .i64 x.d.room, .int .i64 x.d.player, .int .i64 x.d.box, .slice p.at_ x.at_.length p.atc, .slice p.co x.coins.length p.coc, .slice p.wh x.wher.length p.whc] 29)
  have HF := Lib.hid hf
  have HWA := Lib.hid h
  clear hf h
  go_enter Try.func5, Try.ntmps5
  go_wp2_with fail
  generalize w.alloc (.cells #[.slice p.d.ex x.d.exits.length p.d.exc, .slice p.d.pl x.d.players.length p.d.plc, .slice p.d.co x.d.coins.length p.d.coc, .slice p.d.it x.d.items.length p.d.itc, .slice p.d.bo x.d.boxes.length p.d.boc, .int .i64 x.d.room, .int .i64 x.d.player, .int .i64 x.d.box, .slice p.at_ x.at_.length p.atc, .slice p.co x.coins.length p.coc, .slice p.wh x.wher.length p.whc] 29) = V0 at *
  have B_0 := Lib.hid H_0.out.1
  refine (awake11_any _).mono ?_
  rintro e u1 ⟨rfl, b1⟩
  have B_1 := Lib.hid (bl B_0.out b1)
  have H_1 := Lib.hid (H_0.out.call b1)
  clear b1 B_0 H_0
  have hcH := H_1.out.2.2
  have hlH := H_1.out.2.1
  go_wp2_with fail
  refine (fits11_any x p _ (HWA.out.below H_1.out.1 (Nat.le_refl _))).mono ?_
  rintro e u2 ⟨rfl, b2⟩
  rw [HF.out]
  clear hcH hlH
  have B_2 := Lib.hid (bl B_1.out b2)
  have H_2 := Lib.hid (H_1.out.call b2)
  clear b2 B_1 H_1
  have hcH := H_2.out.2.2
  have hlH := H_2.out.2.1
  go_wp2_with fail
  refine (awake11_any _).mono ?_
  rintro e u3 ⟨rfl, b3⟩
  clear hcH hlH
  have B_3 := Lib.hid (bl B_2.out b3)
  have H_3 := Lib.hid (H_2.out.call b3)
  clear b3 B_2 H_2
  have hcH := H_3.out.2.2
  have hlH := H_3.out.2.1
  go_wp2_with fail
  go_ret
  exact ⟨rfl, B_3.out⟩
set_option maxRecDepth 100000 in
theorem giftsGive_big (x : Wd) (p : Wp) (a item q : Int) (w : World) (h : WorldAt w p x) (hf : fitsB x = true) (h1 : ¬ item < 0) (h2 : 1073741824 < item) : Calls Try.prog 5 #[.agg #[.slice p.d.ex x.d.exits.length p.d.exc, .slice p.d.pl x.d.players.length p.d.plc, .slice p.d.co x.d.coins.length p.d.coc, .slice p.d.it x.d.items.length p.d.itc, .slice p.d.bo x.d.boxes.length p.d.boc, .int .i64 x.d.room, .int .i64 x.d.player, .int .i64 x.d.box, .slice p.at_ x.at_.length p.atc, .slice p.co x.coins.length p.coc, .slice p.wh x.wher.length p.whc], .int .u8 a, .int .i64 item, .int .i64 q] w fun e w' => e = .returned (.bool true) ∧ Below w.heap.size w w' := by
  have H_0 := Lib.hid (Holds.new w #[.slice p.d.ex x.d.exits.length p.d.exc, .slice p.d.pl x.d.players.length p.d.plc, .slice p.d.co x.d.coins.length p.d.coc, .slice p.d.it x.d.items.length p.d.itc, .slice p.d.bo x.d.boxes.length p.d.boc, .int .i64 x.d.room, .int .i64 x.d.player, .int .i64 x.d.box, .slice p.at_ x.at_.length p.atc, .slice p.co x.coins.length p.coc, .slice p.wh x.wher.length p.whc] 29)
  have HF := Lib.hid hf
  have HWA := Lib.hid h
  clear hf h
  go_enter Try.func5, Try.ntmps5
  go_wp2_with fail
  generalize w.alloc (.cells #[.slice p.d.ex x.d.exits.length p.d.exc, .slice p.d.pl x.d.players.length p.d.plc, .slice p.d.co x.d.coins.length p.d.coc, .slice p.d.it x.d.items.length p.d.itc, .slice p.d.bo x.d.boxes.length p.d.boc, .int .i64 x.d.room, .int .i64 x.d.player, .int .i64 x.d.box, .slice p.at_ x.at_.length p.atc, .slice p.co x.coins.length p.coc, .slice p.wh x.wher.length p.whc] 29) = V0 at *
  have B_0 := Lib.hid H_0.out.1
  refine (awake11_any _).mono ?_
  rintro e u1 ⟨rfl, b1⟩
  have B_1 := Lib.hid (bl B_0.out b1)
  have H_1 := Lib.hid (H_0.out.call b1)
  clear b1 B_0 H_0
  have hcH := H_1.out.2.2
  have hlH := H_1.out.2.1
  go_wp2_with fail
  refine (fits11_any x p _ (HWA.out.below H_1.out.1 (Nat.le_refl _))).mono ?_
  rintro e u2 ⟨rfl, b2⟩
  rw [HF.out]
  clear hcH hlH
  have B_2 := Lib.hid (bl B_1.out b2)
  have H_2 := Lib.hid (H_1.out.call b2)
  clear b2 B_1 H_1
  have hcH := H_2.out.2.2
  have hlH := H_2.out.2.1
  go_wp2_with fail
  refine (awake11_any _).mono ?_
  rintro e u3 ⟨rfl, b3⟩
  clear hcH hlH
  have B_3 := Lib.hid (bl B_2.out b3)
  have H_3 := Lib.hid (H_2.out.call b3)
  clear b3 B_2 H_2
  have hcH := H_3.out.2.2
  have hlH := H_3.out.2.1
  go_wp2_with fail
  go_ret
  exact ⟨rfl, B_3.out⟩
set_option maxRecDepth 100000 in
theorem giftsGive_neg2 (x : Wd) (p : Wp) (a item q : Int) (w : World) (h : WorldAt w p x) (hf : fitsB x = true) (h1 : ¬ item < 0) (h2 : ¬ 1073741824 < item) (h3 : q < 0) : Calls Try.prog 5 #[.agg #[.slice p.d.ex x.d.exits.length p.d.exc, .slice p.d.pl x.d.players.length p.d.plc, .slice p.d.co x.d.coins.length p.d.coc, .slice p.d.it x.d.items.length p.d.itc, .slice p.d.bo x.d.boxes.length p.d.boc, .int .i64 x.d.room, .int .i64 x.d.player, .int .i64 x.d.box, .slice p.at_ x.at_.length p.atc, .slice p.co x.coins.length p.coc, .slice p.wh x.wher.length p.whc], .int .u8 a, .int .i64 item, .int .i64 q] w fun e w' => e = .returned (.bool true) ∧ Below w.heap.size w w' := by
  have H_0 := Lib.hid (Holds.new w #[.slice p.d.ex x.d.exits.length p.d.exc, .slice p.d.pl x.d.players.length p.d.plc, .slice p.d.co x.d.coins.length p.d.coc, .slice p.d.it x.d.items.length p.d.itc, .slice p.d.bo x.d.boxes.length p.d.boc, .int .i64 x.d.room, .int .i64 x.d.player, .int .i64 x.d.box, .slice p.at_ x.at_.length p.atc, .slice p.co x.coins.length p.coc, .slice p.wh x.wher.length p.whc] 29)
  have HF := Lib.hid hf
  have HWA := Lib.hid h
  clear hf h
  go_enter Try.func5, Try.ntmps5
  go_wp2_with fail
  generalize w.alloc (.cells #[.slice p.d.ex x.d.exits.length p.d.exc, .slice p.d.pl x.d.players.length p.d.plc, .slice p.d.co x.d.coins.length p.d.coc, .slice p.d.it x.d.items.length p.d.itc, .slice p.d.bo x.d.boxes.length p.d.boc, .int .i64 x.d.room, .int .i64 x.d.player, .int .i64 x.d.box, .slice p.at_ x.at_.length p.atc, .slice p.co x.coins.length p.coc, .slice p.wh x.wher.length p.whc] 29) = V0 at *
  have B_0 := Lib.hid H_0.out.1
  refine (awake11_any _).mono ?_
  rintro e u1 ⟨rfl, b1⟩
  have B_1 := Lib.hid (bl B_0.out b1)
  have H_1 := Lib.hid (H_0.out.call b1)
  clear b1 B_0 H_0
  have hcH := H_1.out.2.2
  have hlH := H_1.out.2.1
  go_wp2_with fail
  refine (fits11_any x p _ (HWA.out.below H_1.out.1 (Nat.le_refl _))).mono ?_
  rintro e u2 ⟨rfl, b2⟩
  rw [HF.out]
  clear hcH hlH
  have B_2 := Lib.hid (bl B_1.out b2)
  have H_2 := Lib.hid (H_1.out.call b2)
  clear b2 B_1 H_1
  have hcH := H_2.out.2.2
  have hlH := H_2.out.2.1
  go_wp2_with fail
  refine (awake11_any _).mono ?_
  rintro e u3 ⟨rfl, b3⟩
  clear hcH hlH
  have B_3 := Lib.hid (bl B_2.out b3)
  have H_3 := Lib.hid (H_2.out.call b3)
  clear b3 B_2 H_2
  have hcH := H_3.out.2.2
  have hlH := H_3.out.2.1
  go_wp2_with fail
  go_ret
  exact ⟨rfl, B_3.out⟩
set_option maxRecDepth 100000 in
theorem giftsGive_big2 (x : Wd) (p : Wp) (a item q : Int) (w : World) (h : WorldAt w p x) (hf : fitsB x = true) (h1 : ¬ item < 0) (h2 : ¬ 1073741824 < item) (h3 : ¬ q < 0) (h4 : 1073741824 < q) : Calls Try.prog 5 #[.agg #[.slice p.d.ex x.d.exits.length p.d.exc, .slice p.d.pl x.d.players.length p.d.plc, .slice p.d.co x.d.coins.length p.d.coc, .slice p.d.it x.d.items.length p.d.itc, .slice p.d.bo x.d.boxes.length p.d.boc, .int .i64 x.d.room, .int .i64 x.d.player, .int .i64 x.d.box, .slice p.at_ x.at_.length p.atc, .slice p.co x.coins.length p.coc, .slice p.wh x.wher.length p.whc], .int .u8 a, .int .i64 item, .int .i64 q] w fun e w' => e = .returned (.bool true) ∧ Below w.heap.size w w' := by
  have H_0 := Lib.hid (Holds.new w #[.slice p.d.ex x.d.exits.length p.d.exc, .slice p.d.pl x.d.players.length p.d.plc, .slice p.d.co x.d.coins.length p.d.coc, .slice p.d.it x.d.items.length p.d.itc, .slice p.d.bo x.d.boxes.length p.d.boc, .int .i64 x.d.room, .int .i64 x.d.player, .int .i64 x.d.box, .slice p.at_ x.at_.length p.atc, .slice p.co x.coins.length p.coc, .slice p.wh x.wher.length p.whc] 29)
  have HF := Lib.hid hf
  have HWA := Lib.hid h
  clear hf h
  go_enter Try.func5, Try.ntmps5
  go_wp2_with fail
  generalize w.alloc (.cells #[.slice p.d.ex x.d.exits.length p.d.exc, .slice p.d.pl x.d.players.length p.d.plc, .slice p.d.co x.d.coins.length p.d.coc, .slice p.d.it x.d.items.length p.d.itc, .slice p.d.bo x.d.boxes.length p.d.boc, .int .i64 x.d.room, .int .i64 x.d.player, .int .i64 x.d.box, .slice p.at_ x.at_.length p.atc, .slice p.co x.coins.length p.coc, .slice p.wh x.wher.length p.whc] 29) = V0 at *
  have B_0 := Lib.hid H_0.out.1
  refine (awake11_any _).mono ?_
  rintro e u1 ⟨rfl, b1⟩
  have B_1 := Lib.hid (bl B_0.out b1)
  have H_1 := Lib.hid (H_0.out.call b1)
  clear b1 B_0 H_0
  have hcH := H_1.out.2.2
  have hlH := H_1.out.2.1
  go_wp2_with fail
  refine (fits11_any x p _ (HWA.out.below H_1.out.1 (Nat.le_refl _))).mono ?_
  rintro e u2 ⟨rfl, b2⟩
  rw [HF.out]
  clear hcH hlH
  have B_2 := Lib.hid (bl B_1.out b2)
  have H_2 := Lib.hid (H_1.out.call b2)
  clear b2 B_1 H_1
  have hcH := H_2.out.2.2
  have hlH := H_2.out.2.1
  go_wp2_with fail
  refine (awake11_any _).mono ?_
  rintro e u3 ⟨rfl, b3⟩
  clear hcH hlH
  have B_3 := Lib.hid (bl B_2.out b3)
  have H_3 := Lib.hid (H_2.out.call b3)
  clear b3 B_2 H_2
  have hcH := H_3.out.2.2
  have hlH := H_3.out.2.1
  go_wp2_with fail
  go_ret
  exact ⟨rfl, B_3.out⟩
theorem trade_one_as {x u : Wd} (hs : Shape x u) (p : Wp) (i : Nat) (w : World) (hu : rightW u = true) (h : WorldAt w p u) (hi : i < u.at_.length) {y : Wd} {e : Int} (item q : Int) (ga : Option Addr) (gc : Nat) (hg : IntsIn w ga [item]) (hR : tradeW u i q [item] [] 0 0 = (y, e)) :
    Calls Try.prog 13 #[.agg #[.slice p.d.ex x.d.exits.length p.d.exc, .slice p.d.pl x.d.players.length p.d.plc, .slice p.d.co x.d.coins.length p.d.coc, .slice p.d.it x.d.items.length p.d.itc, .slice p.d.bo x.d.boxes.length p.d.boc, .int .i64 x.d.room, .int .i64 x.d.player, .int .i64 x.d.box, .slice p.at_ x.at_.length p.atc, .slice p.co x.coins.length p.coc, .slice p.wh x.wher.length p.whc], .int .i64 (i : Int), .agg #[.int .i64 8, .int .i64 0, .int .i64 0, .int .i64 0, .int .i64 q, .slice ga 1 gc, .int .i64 0, .slice none 0 0, .int .i64 0]] w fun e' w' => ∃ q : Wp, e' = .returned (.tuple #[.agg #[.slice q.d.ex x.d.exits.length q.d.exc, .slice q.d.pl x.d.players.length q.d.plc, .slice q.d.co x.d.coins.length q.d.coc, .slice q.d.it x.d.items.length q.d.itc, .slice q.d.bo x.d.boxes.length q.d.boc, .int .i64 x.d.room, .int .i64 x.d.player, .int .i64 x.d.box, .slice q.at_ x.at_.length q.atc, .slice q.co x.coins.length q.coc, .slice q.wh x.wher.length q.whc], .int .i64 e]) ∧ WorldAt w' q y ∧ Below w.heap.size w w' :=
  trade_as hs p i w hu h hi 8 0 0 0 q 0 0 [item] [] ga none gc 0 hg (IntsAt.nil _ _) (by simp) (by simp) hR
theorem others_one {x y : Wd} (hs : Shape x y) (p q : Wp) (n : Nat) (ga : Option Addr) (gc : Nat) (w : World) (hf : FewW x) (h : WorldAt w p x) (hy : WorldAt w q y) (hL : IntsIn w ga ([n].map fun (k : Nat) => (k : Int))) (hl : n < x.wher.length) :
    Calls Try.prog 19 #[.agg #[.slice p.d.ex x.d.exits.length p.d.exc, .slice p.d.pl x.d.players.length p.d.plc, .slice p.d.co x.d.coins.length p.d.coc, .slice p.d.it x.d.items.length p.d.itc, .slice p.d.bo x.d.boxes.length p.d.boc, .int .i64 x.d.room, .int .i64 x.d.player, .int .i64 x.d.box, .slice p.at_ x.at_.length p.atc, .slice p.co x.coins.length p.coc, .slice p.wh x.wher.length p.whc], .agg #[.slice q.d.ex x.d.exits.length q.d.exc, .slice q.d.pl x.d.players.length q.d.plc, .slice q.d.co x.d.coins.length q.d.coc, .slice q.d.it x.d.items.length q.d.itc, .slice q.d.bo x.d.boxes.length q.d.boc, .int .i64 x.d.room, .int .i64 x.d.player, .int .i64 x.d.box, .slice q.at_ x.at_.length q.atc, .slice q.co x.coins.length q.coc, .slice q.wh x.wher.length q.whc], .slice ga 1 gc] w fun e w' => e = .returned (.bool (decide (putAll x y [n] = y))) ∧ Below w.heap.size w w' :=
  others_any x y p q [n] ga gc w hs hf h hy hL (by simpa using hl) (by simp)
set_option maxRecDepth 100000 in
set_option maxHeartbeats 4000000 in
theorem giftsGive_err (x : Wd) (p : Wp) (a i : Nat) (item q : Int) (haa : a ≤ 255) (hi : a % x.at_.length = i) (w : World) (h : WorldAt w p x) (hf : fitsB x = true) (h1 : ¬ item < 0) (h2 : ¬ 1073741824 < item) (h3 : ¬ q < 0) (h4 : ¬ 1073741824 < q) (e : Int) (hR : giveW x i item q = (x, e)) (hne : (e != 0) = true) : Calls Try.prog 5 #[.agg #[.slice p.d.ex x.d.exits.length p.d.exc, .slice p.d.pl x.d.players.length p.d.plc, .slice p.d.co x.d.coins.length p.d.coc, .slice p.d.it x.d.items.length p.d.itc, .slice p.d.bo x.d.boxes.length p.d.boc, .int .i64 x.d.room, .int .i64 x.d.player, .int .i64 x.d.box, .slice p.at_ x.at_.length p.atc, .slice p.co x.coins.length p.coc, .slice p.wh x.wher.length p.whc], .int .u8 (a : Int), .int .i64 item, .int .i64 q] w fun e w' => e = .returned (.bool true) ∧ Below w.heap.size w w' := by
  have r1 := run_tmod7 a x.at_.length
  have m1 := run_mod7 a x.at_.length
  rw [hi] at r1 m1
  have FT := Lib.hid (fits_fit hf)
  have hlp : 0 < x.at_.length := (right_lens FT.out.right).1
  have hne : ¬ x.at_ = [] := List.length_pos_iff.1 hlp
  have hil : i < x.at_.length := by rw [← hi]; exact Nat.mod_lt _ hlp
  have hlen6 := (right_lens FT.out.right).2.1
  have HR := Lib.hid hR
  have HT := Lib.hid (show tradeW x i q [item] [] 0 0 = (x, e) by rw [← give_trade FT.out.right hil]; exact hR)
  have he2 : ((e : Int) != (e : Int)) = false := by simp
  clear hi hlp hR
  have H_0 := Lib.hid (Holds.new w #[.slice p.d.ex x.d.exits.length p.d.exc, .slice p.d.pl x.d.players.length p.d.plc, .slice p.d.co x.d.coins.length p.d.coc, .slice p.d.it x.d.items.length p.d.itc, .slice p.d.bo x.d.boxes.length p.d.boc, .int .i64 x.d.room, .int .i64 x.d.player, .int .i64 x.d.box, .slice p.at_ x.at_.length p.atc, .slice p.co x.coins.length p.coc, .slice p.wh x.wher.length p.whc] 29)
  have HF := Lib.hid hf
  have HWA := Lib.hid h
  clear hf h
  go_enter Try.func5, Try.ntmps5
  go_wp2_with fail
  generalize w.alloc (.cells #[.slice p.d.ex x.d.exits.length p.d.exc, .slice p.d.pl x.d.players.length p.d.plc, .slice p.d.co x.d.coins.length p.d.coc, .slice p.d.it x.d.items.length p.d.itc, .slice p.d.bo x.d.boxes.length p.d.boc, .int .i64 x.d.room, .int .i64 x.d.player, .int .i64 x.d.box, .slice p.at_ x.at_.length p.atc, .slice p.co x.coins.length p.coc, .slice p.wh x.wher.length p.whc] 29) = V0 at *
  have B_0 := Lib.hid H_0.out.1
  refine (awake11_any _).mono ?_
  rintro e u1 ⟨rfl, b1⟩
  have B_1 := Lib.hid (bl B_0.out b1)
  have H_1 := Lib.hid (H_0.out.call b1)
  clear b1 B_0 H_0
  have hcH := H_1.out.2.2
  have hlH := H_1.out.2.1
  go_wp2_with fail
  refine (fits11_any x p _ (HWA.out.below H_1.out.1 (Nat.le_refl _))).mono ?_
  rintro e u2 ⟨rfl, b2⟩
  rw [HF.out]
  clear hcH hlH
  have B_2 := Lib.hid (bl B_1.out b2)
  have H_2 := Lib.hid (H_1.out.call b2)
  clear b2 B_1 H_1
  have hcH := H_2.out.2.2
  have hlH := H_2.out.2.1
  go_wp2_with fail
  refine (give_as (Shape.refl x) p i _ FT.out.right (HWA.out.below B_2.out (Nat.le_refl _)) hil item q HR.out).mono ?_
  rintro e u3 ⟨q3, rfl, g3, b3⟩
  clear hcH hlH
  have B_3 := Lib.hid (bl B_2.out b3)
  have H_3 := Lib.hid (H_2.out.call b3)
  have YA_3 := Lib.hid g3
  clear b3 B_2 H_2 g3
  have hcH := H_3.out.2.2
  have hlH := H_3.out.2.1
  go_wp2_with fail
  clear hcH hlH
  have s4 : (u3.alloc (.cells #[.slice q3.d.ex x.d.exits.length q3.d.exc, .slice q3.d.pl x.d.players.length q3.d.plc, .slice q3.d.co x.d.coins.length q3.d.coc, .slice q3.d.it x.d.items.length q3.d.itc, .slice q3.d.bo x.d.boxes.length q3.d.boc, .int .i64 x.d.room, .int .i64 x.d.player, .int .i64 x.d.box, .slice q3.at_ x.at_.length q3.atc, .slice q3.co x.coins.length q3.coc, .slice q3.wh x.wher.length q3.whc] 29)).heap.size = u3.heap.size + 1 := by simp
  have B_4 := Lib.hid (B_3.out.alloc B_3.out.size (.cells #[.slice q3.d.ex x.d.exits.length q3.d.exc, .slice q3.d.pl x.d.players.length q3.d.plc, .slice q3.d.co x.d.coins.length q3.d.coc, .slice q3.d.it x.d.items.length q3.d.itc, .slice q3.d.bo x.d.boxes.length q3.d.boc, .int .i64 x.d.room, .int .i64 x.d.player, .int .i64 x.d.box, .slice q3.at_ x.at_.length q3.atc, .slice q3.co x.coins.length q3.coc, .slice q3.wh x.wher.length q3.whc] 29))
  have H_4 := Lib.hid (H_3.out.alloc (.cells #[.slice q3.d.ex x.d.exits.length q3.d.exc, .slice q3.d.pl x.d.players.length q3.d.plc, .slice q3.d.co x.d.coins.length q3.d.coc, .slice q3.d.it x.d.items.length q3.d.itc, .slice q3.d.bo x.d.boxes.length q3.d.boc, .int .i64 x.d.room, .int .i64 x.d.player, .int .i64 x.d.box, .slice q3.at_ x.at_.length q3.atc, .slice q3.co x.coins.length q3.coc, .slice q3.wh x.wher.length q3.whc] 29))
  have YA_4 := Lib.hid (YA_3.out.call ((Below.refl _ _).alloc (Nat.le_refl _) (.cells #[.slice q3.d.ex x.d.exits.length q3.d.exc, .slice q3.d.pl x.d.players.length q3.d.plc, .slice q3.d.co x.d.coins.length q3.d.coc, .slice q3.d.it x.d.items.length q3.d.itc, .slice q3.d.bo x.d.boxes.length q3.d.boc, .int .i64 x.d.room, .int .i64 x.d.player, .int .i64 x.d.box, .slice q3.at_ x.at_.length q3.atc, .slice q3.co x.coins.length q3.coc, .slice q3.wh x.wher.length q3.whc] 29)))
  have A_4 := Lib.hid (Holds.newb (w := w) (A := #[.slice q3.d.ex x.d.exits.length q3.d.exc, .slice q3.d.pl x.d.players.length q3.d.plc, .slice q3.d.co x.d.coins.length q3.d.coc, .slice q3.d.it x.d.items.length q3.d.itc, .slice q3.d.bo x.d.boxes.length q3.d.boc, .int .i64 x.d.room, .int .i64 x.d.player, .int .i64 x.d.box, .slice q3.at_ x.at_.length q3.atc, .slice q3.co x.coins.length q3.coc, .slice q3.wh x.wher.length q3.whc]) (t := 29) (n := u3.heap.size) B_3.out rfl)
  clear B_3 H_3 YA_3
  generalize u3.alloc (.cells #[.slice q3.d.ex x.d.exits.length q3.d.exc, .slice q3.d.pl x.d.players.length q3.d.plc, .slice q3.d.co x.d.coins.length q3.d.coc, .slice q3.d.it x.d.items.length q3.d.itc, .slice q3.d.bo x.d.boxes.length q3.d.boc, .int .i64 x.d.room, .int .i64 x.d.player, .int .i64 x.d.box, .slice q3.at_ x.at_.length q3.atc, .slice q3.co x.coins.length q3.coc, .slice q3.wh x.wher.length q3.whc] 29) = V4 at *
  have hcH := H_4.out.2.2
  have hlH := H_4.out.2.1
  have hcA := A_4.out.2.2
  have hlA := A_4.out.2.1
  clear hcH hlH hcA hlA
  have s5 : (V4.alloc (.cells #[.int .i64 item] 3)).heap.size = V4.heap.size + 1 := by simp
  have B_5 := Lib.hid (B_4.out.alloc B_4.out.size (.cells #[.int .i64 item] 3))
  have H_5 := Lib.hid (H_4.out.alloc (.cells #[.int .i64 item] 3))
  have A_5 := Lib.hid (A_4.out.alloc (.cells #[.int .i64 item] 3))
  have YA_5 := Lib.hid (YA_4.out.call ((Below.refl _ _).alloc (Nat.le_refl _) (.cells #[.int .i64 item] 3)))
  have IA_5 := Lib.hid (show IntsIn (V4.alloc (.cells #[.int .i64 item] 3)) (some ⟨u3.heap.size + 1, 0, none⟩) [item] from ints_of (Blk.newn V4 3 #[.int .i64 item] (n := u3.heap.size + 1) (by omega)) rfl (by simp))
  clear B_4 H_4 A_4 YA_4
  generalize V4.alloc (.cells #[.int .i64 item] 3) = V5 at *
  have hcH := H_5.out.2.2
  have hlH := H_5.out.2.1
  have hcA := A_5.out.2.2
  have hlA := A_5.out.2.1
  refine (trade_one_as (Shape.refl x) p i _ FT.out.right (HWA.out.below B_5.out (Nat.le_refl _)) hil item q (some ⟨u3.heap.size + 1, 0, none⟩) 1 IA_5.out HT.out).mono ?_
  rintro e u6 ⟨r, rfl, gr, b6⟩
  clear hcH hlH hcA hlA
  have B_6 := Lib.hid (bl B_5.out b6)
  have H_6 := Lib.hid (H_5.out.call b6)
  have A_6 := Lib.hid (A_5.out.call b6)
  have YA_6 := Lib.hid (YA_5.out.call b6)
  have IA_6 := Lib.hid (IA_5.out.call b6)
  have YB_6 := Lib.hid gr
  clear b6 B_5 H_5 A_5 YA_5 IA_5 gr
  have hcH := H_6.out.2.2
  have hlH := H_6.out.2.1
  have hcA := A_6.out.2.2
  have hlA := A_6.out.2.1
  go_wp2_with fail
  clear hcH hlH hcA hlA
  have s7 : (u6.alloc (.cells #[.slice r.d.ex x.d.exits.length r.d.exc, .slice r.d.pl x.d.players.length r.d.plc, .slice r.d.co x.d.coins.length r.d.coc, .slice r.d.it x.d.items.length r.d.itc, .slice r.d.bo x.d.boxes.length r.d.boc, .int .i64 x.d.room, .int .i64 x.d.player, .int .i64 x.d.box, .slice r.at_ x.at_.length r.atc, .slice r.co x.coins.length r.coc, .slice r.wh x.wher.length r.whc] 29)).heap.size = u6.heap.size + 1 := by simp
  have B_7 := Lib.hid (B_6.out.alloc B_6.out.size (.cells #[.slice r.d.ex x.d.exits.length r.d.exc, .slice r.d.pl x.d.players.length r.d.plc, .slice r.d.co x.d.coins.length r.d.coc, .slice r.d.it x.d.items.length r.d.itc, .slice r.d.bo x.d.boxes.length r.d.boc, .int .i64 x.d.room, .int .i64 x.d.player, .int .i64 x.d.box, .slice r.at_ x.at_.length r.atc, .slice r.co x.coins.length r.coc, .slice r.wh x.wher.length r.whc] 29))
  have H_7 := Lib.hid (H_6.out.alloc (.cells #[.slice r.d.ex x.d.exits.length r.d.exc, .slice r.d.pl x.d.players.length r.d.plc, .slice r.d.co x.d.coins.length r.d.coc, .slice r.d.it x.d.items.length r.d.itc, .slice r.d.bo x.d.boxes.length r.d.boc, .int .i64 x.d.room, .int .i64 x.d.player, .int .i64 x.d.box, .slice r.at_ x.at_.length r.atc, .slice r.co x.coins.length r.coc, .slice r.wh x.wher.length r.whc] 29))
  have A_7 := Lib.hid (A_6.out.alloc (.cells #[.slice r.d.ex x.d.exits.length r.d.exc, .slice r.d.pl x.d.players.length r.d.plc, .slice r.d.co x.d.coins.length r.d.coc, .slice r.d.it x.d.items.length r.d.itc, .slice r.d.bo x.d.boxes.length r.d.boc, .int .i64 x.d.room, .int .i64 x.d.player, .int .i64 x.d.box, .slice r.at_ x.at_.length r.atc, .slice r.co x.coins.length r.coc, .slice r.wh x.wher.length r.whc] 29))
  have YA_7 := Lib.hid (YA_6.out.call ((Below.refl _ _).alloc (Nat.le_refl _) (.cells #[.slice r.d.ex x.d.exits.length r.d.exc, .slice r.d.pl x.d.players.length r.d.plc, .slice r.d.co x.d.coins.length r.d.coc, .slice r.d.it x.d.items.length r.d.itc, .slice r.d.bo x.d.boxes.length r.d.boc, .int .i64 x.d.room, .int .i64 x.d.player, .int .i64 x.d.box, .slice r.at_ x.at_.length r.atc, .slice r.co x.coins.length r.coc, .slice r.wh x.wher.length r.whc] 29)))
  have IA_7 := Lib.hid (IA_6.out.call ((Below.refl _ _).alloc (Nat.le_refl _) (.cells #[.slice r.d.ex x.d.exits.length r.d.exc, .slice r.d.pl x.d.players.length r.d.plc, .slice r.d.co x.d.coins.length r.d.coc, .slice r.d.it x.d.items.length r.d.itc, .slice r.d.bo x.d.boxes.length r.d.boc, .int .i64 x.d.room, .int .i64 x.d.player, .int .i64 x.d.box, .slice r.at_ x.at_.length r.atc, .slice r.co x.coins.length r.coc, .slice r.wh x.wher.length r.whc] 29)))
  have YB_7 := Lib.hid (YB_6.out.call ((Below.refl _ _).alloc (Nat.le_refl _) (.cells #[.slice r.d.ex x.d.exits.length r.d.exc, .slice r.d.pl x.d.players.length r.d.plc, .slice r.d.co x.d.coins.length r.d.coc, .slice r.d.it x.d.items.length r.d.itc, .slice r.d.bo x.d.boxes.length r.d.boc, .int .i64 x.d.room, .int .i64 x.d.player, .int .i64 x.d.box, .slice r.at_ x.at_.length r.atc, .slice r.co x.coins.length r.coc, .slice r.wh x.wher.length r.whc] 29)))
  have D_7 := Lib.hid (Holds.newb (w := w) (A := #[.slice r.d.ex x.d.exits.length r.d.exc, .slice r.d.pl x.d.players.length r.d.plc, .slice r.d.co x.d.coins.length r.d.coc, .slice r.d.it x.d.items.length r.d.itc, .slice r.d.bo x.d.boxes.length r.d.boc, .int .i64 x.d.room, .int .i64 x.d.player, .int .i64 x.d.box, .slice r.at_ x.at_.length r.atc, .slice r.co x.coins.length r.coc, .slice r.wh x.wher.length r.whc]) (t := 29) (n := u6.heap.size) B_6.out rfl)
  clear B_6 H_6 A_6 YA_6 IA_6 YB_6
  generalize u6.alloc (.cells #[.slice r.d.ex x.d.exits.length r.d.exc, .slice r.d.pl x.d.players.length r.d.plc, .slice r.d.co x.d.coins.length r.d.coc, .slice r.d.it x.d.items.length r.d.itc, .slice r.d.bo x.d.boxes.length r.d.boc, .int .i64 x.d.room, .int .i64 x.d.player, .int .i64 x.d.box, .slice r.at_ x.at_.length r.atc, .slice r.co x.coins.length r.coc, .slice r.wh x.wher.length r.whc] 29) = V7 at *
  have hcH := H_7.out.2.2
  have hlH := H_7.out.2.1
  have hcA := A_7.out.2.2
  have hlA := A_7.out.2.1
  have hcD := D_7.out.2.2
  have hlD := D_7.out.2.1
  refine (rsame_yes (Shape.refl x) (Shape.refl x) rfl _ _ _ YA_7.out YB_7.out).mono ?_
  rintro e u8 ⟨rfl, b8⟩
  clear hcH hlH hcA hlA hcD hlD
  have B_8 := Lib.hid (bl B_7.out b8)
  have H_8 := Lib.hid (H_7.out.call b8)
  have A_8 := Lib.hid (A_7.out.call b8)
  have D_8 := Lib.hid (D_7.out.call b8)
  have YA_8 := Lib.hid (YA_7.out.call b8)
  have IA_8 := Lib.hid (IA_7.out.call b8)
  have YB_8 := Lib.hid (YB_7.out.call b8)
  clear b8 B_7 H_7 A_7 D_7 YA_7 IA_7 YB_7
  have hcH := H_8.out.2.2
  have hlH := H_8.out.2.1
  have hcA := A_8.out.2.2
  have hlA := A_8.out.2.1
  have hcD := D_8.out.2.2
  have hlD := D_8.out.2.1
  go_wp2_with fail
  refine (rsame_yes (Shape.refl x) (Shape.refl x) rfl _ p _ YA_8.out (HWA.out.below B_8.out (Nat.le_refl _))).mono ?_
  rintro e u9 ⟨rfl, b9⟩
  clear hcH hlH hcA hlA hcD hlD
  have B_9 := Lib.hid (bl B_8.out b9)
  have H_9 := Lib.hid (H_8.out.call b9)
  have A_9 := Lib.hid (A_8.out.call b9)
  have D_9 := Lib.hid (D_8.out.call b9)
  have YA_9 := Lib.hid (YA_8.out.call b9)
  have IA_9 := Lib.hid (IA_8.out.call b9)
  have YB_9 := Lib.hid (YB_8.out.call b9)
  clear b9 B_8 H_8 A_8 D_8 YA_8 IA_8 YB_8
  go_wp2_with fail
  go_ret
  exact ⟨rfl, B_9.out⟩
set_option maxRecDepth 100000 in
set_option maxHeartbeats 4000000 in
theorem giftsGive_ok (x : Wd) (p : Wp) (a i : Nat) (item q : Int) (haa : a ≤ 255) (hi : a % x.at_.length = i) (w : World) (h : WorldAt w p x) (hf : fitsB x = true) (h1 : ¬ item < 0) (h2 : ¬ 1073741824 < item) (h3 : ¬ q < 0) (h4 : ¬ 1073741824 < q) (y : Wd) (hR : giveW x i item q = (y, 0)) : Calls Try.prog 5 #[.agg #[.slice p.d.ex x.d.exits.length p.d.exc, .slice p.d.pl x.d.players.length p.d.plc, .slice p.d.co x.d.coins.length p.d.coc, .slice p.d.it x.d.items.length p.d.itc, .slice p.d.bo x.d.boxes.length p.d.boc, .int .i64 x.d.room, .int .i64 x.d.player, .int .i64 x.d.box, .slice p.at_ x.at_.length p.atc, .slice p.co x.coins.length p.coc, .slice p.wh x.wher.length p.whc], .int .u8 (a : Int), .int .i64 item, .int .i64 q] w fun e w' => e = .returned (.bool true) ∧ Below w.heap.size w w' := by
  have r1 := run_tmod7 a x.at_.length
  have m1 := run_mod7 a x.at_.length
  rw [hi] at r1 m1
  have FT := Lib.hid (fits_fit hf)
  have hlp : 0 < x.at_.length := (right_lens FT.out.right).1
  have hne : ¬ x.at_ = [] := List.length_pos_iff.1 hlp
  have hil : i < x.at_.length := by rw [← hi]; exact Nat.mod_lt _ hlp
  have hlen6 := (right_lens FT.out.right).2.1
  have HR := Lib.hid hR
  obtain ⟨n, k, rfl, rfl, hn, hk, SY, RY, GB, hky, PA⟩ := give_got FT.out.right hil hR
  have HT := Lib.hid (show tradeW x i k [(n : Int)] [] 0 0 = (y, 0) by rw [← give_trade FT.out.right hil]; exact hR)
  have SY := Lib.hid SY
  have RY := Lib.hid RY
  have GB := Lib.hid GB
  have HKY := Lib.hid hky
  have PA := Lib.hid (show decide (putAll x y [n] = y) = true from decide_eq_true PA)
  have HN := Lib.hid hn
  have HIL := Lib.hid hil
  clear hi hlp hR hn hk hky
  have H_0 := Lib.hid (Holds.new w #[.slice p.d.ex x.d.exits.length p.d.exc, .slice p.d.pl x.d.players.length p.d.plc, .slice p.d.co x.d.coins.length p.d.coc, .slice p.d.it x.d.items.length p.d.itc, .slice p.d.bo x.d.boxes.length p.d.boc, .int .i64 x.d.room, .int .i64 x.d.player, .int .i64 x.d.box, .slice p.at_ x.at_.length p.atc, .slice p.co x.coins.length p.coc, .slice p.wh x.wher.length p.whc] 29)
  have HF := Lib.hid hf
  have HWA := Lib.hid h
  clear hf h
  go_enter Try.func5, Try.ntmps5
  go_wp2_with fail
  generalize w.alloc (.cells #[.slice p.d.ex x.d.exits.length p.d.exc, .slice p.d.pl x.d.players.length p.d.plc, .slice p.d.co x.d.coins.length p.d.coc, .slice p.d.it x.d.items.length p.d.itc, .slice p.d.bo x.d.boxes.length p.d.boc, .int .i64 x.d.room, .int .i64 x.d.player, .int .i64 x.d.box, .slice p.at_ x.at_.length p.atc, .slice p.co x.coins.length p.coc, .slice p.wh x.wher.length p.whc] 29) = V0 at *
  have B_0 := Lib.hid H_0.out.1
  refine (awake11_any _).mono ?_
  rintro e u1 ⟨rfl, b1⟩
  have B_1 := Lib.hid (bl B_0.out b1)
  have H_1 := Lib.hid (H_0.out.call b1)
  clear b1 B_0 H_0
  have hcH := H_1.out.2.2
  have hlH := H_1.out.2.1
  go_wp2_with fail
  refine (fits11_any x p _ (HWA.out.below H_1.out.1 (Nat.le_refl _))).mono ?_
  rintro e u2 ⟨rfl, b2⟩
  rw [HF.out]
  clear hcH hlH
  have B_2 := Lib.hid (bl B_1.out b2)
  have H_2 := Lib.hid (H_1.out.call b2)
  clear b2 B_1 H_1
  have hcH := H_2.out.2.2
  have hlH := H_2.out.2.1
  go_wp2_with fail
  refine (give_as (Shape.refl x) p i _ FT.out.right (HWA.out.below B_2.out (Nat.le_refl _)) hil (n : Int) (k : Int) HR.out).mono ?_
  rintro e u3 ⟨q3, rfl, g3, b3⟩
  clear hcH hlH
  have B_3 := Lib.hid (bl B_2.out b3)
  have H_3 := Lib.hid (H_2.out.call b3)
  have YA_3 := Lib.hid g3
  clear b3 B_2 H_2 g3
  have hcH := H_3.out.2.2
  have hlH := H_3.out.2.1
  go_wp2_with fail
  clear hcH hlH
  have s4 : (u3.alloc (.cells #[.slice q3.d.ex x.d.exits.length q3.d.exc, .slice q3.d.pl x.d.players.length q3.d.plc, .slice q3.d.co x.d.coins.length q3.d.coc, .slice q3.d.it x.d.items.length q3.d.itc, .slice q3.d.bo x.d.boxes.length q3.d.boc, .int .i64 x.d.room, .int .i64 x.d.player, .int .i64 x.d.box, .slice q3.at_ x.at_.length q3.atc, .slice q3.co x.coins.length q3.coc, .slice q3.wh x.wher.length q3.whc] 29)).heap.size = u3.heap.size + 1 := by simp
  have B_4 := Lib.hid (B_3.out.alloc B_3.out.size (.cells #[.slice q3.d.ex x.d.exits.length q3.d.exc, .slice q3.d.pl x.d.players.length q3.d.plc, .slice q3.d.co x.d.coins.length q3.d.coc, .slice q3.d.it x.d.items.length q3.d.itc, .slice q3.d.bo x.d.boxes.length q3.d.boc, .int .i64 x.d.room, .int .i64 x.d.player, .int .i64 x.d.box, .slice q3.at_ x.at_.length q3.atc, .slice q3.co x.coins.length q3.coc, .slice q3.wh x.wher.length q3.whc] 29))
  have H_4 := Lib.hid (H_3.out.alloc (.cells #[.slice q3.d.ex x.d.exits.length q3.d.exc, .slice q3.d.pl x.d.players.length q3.d.plc, .slice q3.d.co x.d.coins.length q3.d.coc, .slice q3.d.it x.d.items.length q3.d.itc, .slice q3.d.bo x.d.boxes.length q3.d.boc, .int .i64 x.d.room, .int .i64 x.d.player, .int .i64 x.d.box, .slice q3.at_ x.at_.length q3.atc, .slice q3.co x.coins.length q3.coc, .slice q3.wh x.wher.length q3.whc] 29))
  have YA_4 := Lib.hid (YA_3.out.call ((Below.refl _ _).alloc (Nat.le_refl _) (.cells #[.slice q3.d.ex x.d.exits.length q3.d.exc, .slice q3.d.pl x.d.players.length q3.d.plc, .slice q3.d.co x.d.coins.length q3.d.coc, .slice q3.d.it x.d.items.length q3.d.itc, .slice q3.d.bo x.d.boxes.length q3.d.boc, .int .i64 x.d.room, .int .i64 x.d.player, .int .i64 x.d.box, .slice q3.at_ x.at_.length q3.atc, .slice q3.co x.coins.length q3.coc, .slice q3.wh x.wher.length q3.whc] 29)))
  have A_4 := Lib.hid (Holds.newb (w := w) (A := #[.slice q3.d.ex x.d.exits.length q3.d.exc, .slice q3.d.pl x.d.players.length q3.d.plc, .slice q3.d.co x.d.coins.length q3.d.coc, .slice q3.d.it x.d.items.length q3.d.itc, .slice q3.d.bo x.d.boxes.length q3.d.boc, .int .i64 x.d.room, .int .i64 x.d.player, .int .i64 x.d.box, .slice q3.at_ x.at_.length q3.atc, .slice q3.co x.coins.length q3.coc, .slice q3.wh x.wher.length q3.whc]) (t := 29) (n := u3.heap.size) B_3.out rfl)
  clear B_3 H_3 YA_3
  generalize u3.alloc (.cells #[.slice q3.d.ex x.d.exits.length q3.d.exc, .slice q3.d.pl x.d.players.length q3.d.plc, .slice q3.d.co x.d.coins.length q3.d.coc, .slice q3.d.it x.d.items.length q3.d.itc, .slice q3.d.bo x.d.boxes.length q3.d.boc, .int .i64 x.d.room, .int .i64 x.d.player, .int .i64 x.d.box, .slice q3.at_ x.at_.length q3.atc, .slice q3.co x.coins.length q3.coc, .slice q3.wh x.wher.length q3.whc] 29) = V4 at *
  have hcH := H_4.out.2.2
  have hlH := H_4.out.2.1
  have hcA := A_4.out.2.2
  have hlA := A_4.out.2.1
  clear hcH hlH hcA hlA
  have s5 : (V4.alloc (.cells #[.int .i64 (n : Int)] 3)).heap.size = V4.heap.size + 1 := by simp
  have B_5 := Lib.hid (B_4.out.alloc B_4.out.size (.cells #[.int .i64 (n : Int)] 3))
  have H_5 := Lib.hid (H_4.out.alloc (.cells #[.int .i64 (n : Int)] 3))
  have A_5 := Lib.hid (A_4.out.alloc (.cells #[.int .i64 (n : Int)] 3))
  have YA_5 := Lib.hid (YA_4.out.call ((Below.refl _ _).alloc (Nat.le_refl _) (.cells #[.int .i64 (n : Int)] 3)))
  have IA_5 := Lib.hid (show IntsIn (V4.alloc (.cells #[.int .i64 (n : Int)] 3)) (some ⟨u3.heap.size + 1, 0, none⟩) [(n : Int)] from ints_of (Blk.newn V4 3 #[.int .i64 (n : Int)] (n := u3.heap.size + 1) (by omega)) rfl (by simp))
  clear B_4 H_4 A_4 YA_4
  generalize V4.alloc (.cells #[.int .i64 (n : Int)] 3) = V5 at *
  have hcH := H_5.out.2.2
  have hlH := H_5.out.2.1
  have hcA := A_5.out.2.2
  have hlA := A_5.out.2.1
  refine (trade_one_as (Shape.refl x) p i _ FT.out.right (HWA.out.below B_5.out (Nat.le_refl _)) hil (n : Int) (k : Int) (some ⟨u3.heap.size + 1, 0, none⟩) 1 IA_5.out HT.out).mono ?_
  rintro e u6 ⟨r, rfl, gr, b6⟩
  clear hcH hlH hcA hlA
  have B_6 := Lib.hid (bl B_5.out b6)
  have H_6 := Lib.hid (H_5.out.call b6)
  have A_6 := Lib.hid (A_5.out.call b6)
  have YA_6 := Lib.hid (YA_5.out.call b6)
  have IA_6 := Lib.hid (IA_5.out.call b6)
  have YB_6 := Lib.hid gr
  clear b6 B_5 H_5 A_5 YA_5 IA_5 gr
  have hcH := H_6.out.2.2
  have hlH := H_6.out.2.1
  have hcA := A_6.out.2.2
  have hlA := A_6.out.2.1
  go_wp2_with fail
  clear hcH hlH hcA hlA
  have s7 : (u6.alloc (.cells #[.slice r.d.ex x.d.exits.length r.d.exc, .slice r.d.pl x.d.players.length r.d.plc, .slice r.d.co x.d.coins.length r.d.coc, .slice r.d.it x.d.items.length r.d.itc, .slice r.d.bo x.d.boxes.length r.d.boc, .int .i64 x.d.room, .int .i64 x.d.player, .int .i64 x.d.box, .slice r.at_ x.at_.length r.atc, .slice r.co x.coins.length r.coc, .slice r.wh x.wher.length r.whc] 29)).heap.size = u6.heap.size + 1 := by simp
  have B_7 := Lib.hid (B_6.out.alloc B_6.out.size (.cells #[.slice r.d.ex x.d.exits.length r.d.exc, .slice r.d.pl x.d.players.length r.d.plc, .slice r.d.co x.d.coins.length r.d.coc, .slice r.d.it x.d.items.length r.d.itc, .slice r.d.bo x.d.boxes.length r.d.boc, .int .i64 x.d.room, .int .i64 x.d.player, .int .i64 x.d.box, .slice r.at_ x.at_.length r.atc, .slice r.co x.coins.length r.coc, .slice r.wh x.wher.length r.whc] 29))
  have H_7 := Lib.hid (H_6.out.alloc (.cells #[.slice r.d.ex x.d.exits.length r.d.exc, .slice r.d.pl x.d.players.length r.d.plc, .slice r.d.co x.d.coins.length r.d.coc, .slice r.d.it x.d.items.length r.d.itc, .slice r.d.bo x.d.boxes.length r.d.boc, .int .i64 x.d.room, .int .i64 x.d.player, .int .i64 x.d.box, .slice r.at_ x.at_.length r.atc, .slice r.co x.coins.length r.coc, .slice r.wh x.wher.length r.whc] 29))
  have A_7 := Lib.hid (A_6.out.alloc (.cells #[.slice r.d.ex x.d.exits.length r.d.exc, .slice r.d.pl x.d.players.length r.d.plc, .slice r.d.co x.d.coins.length r.d.coc, .slice r.d.it x.d.items.length r.d.itc, .slice r.d.bo x.d.boxes.length r.d.boc, .int .i64 x.d.room, .int .i64 x.d.player, .int .i64 x.d.box, .slice r.at_ x.at_.length r.atc, .slice r.co x.coins.length r.coc, .slice r.wh x.wher.length r.whc] 29))
  have YA_7 := Lib.hid (YA_6.out.call ((Below.refl _ _).alloc (Nat.le_refl _) (.cells #[.slice r.d.ex x.d.exits.length r.d.exc, .slice r.d.pl x.d.players.length r.d.plc, .slice r.d.co x.d.coins.length r.d.coc, .slice r.d.it x.d.items.length r.d.itc, .slice r.d.bo x.d.boxes.length r.d.boc, .int .i64 x.d.room, .int .i64 x.d.player, .int .i64 x.d.box, .slice r.at_ x.at_.length r.atc, .slice r.co x.coins.length r.coc, .slice r.wh x.wher.length r.whc] 29)))
  have IA_7 := Lib.hid (IA_6.out.call ((Below.refl _ _).alloc (Nat.le_refl _) (.cells #[.slice r.d.ex x.d.exits.length r.d.exc, .slice r.d.pl x.d.players.length r.d.plc, .slice r.d.co x.d.coins.length r.d.coc, .slice r.d.it x.d.items.length r.d.itc, .slice r.d.bo x.d.boxes.length r.d.boc, .int .i64 x.d.room, .int .i64 x.d.player, .int .i64 x.d.box, .slice r.at_ x.at_.length r.atc, .slice r.co x.coins.length r.coc, .slice r.wh x.wher.length r.whc] 29)))
  have YB_7 := Lib.hid (YB_6.out.call ((Below.refl _ _).alloc (Nat.le_refl _) (.cells #[.slice r.d.ex x.d.exits.length r.d.exc, .slice r.d.pl x.d.players.length r.d.plc, .slice r.d.co x.d.coins.length r.d.coc, .slice r.d.it x.d.items.length r.d.itc, .slice r.d.bo x.d.boxes.length r.d.boc, .int .i64 x.d.room, .int .i64 x.d.player, .int .i64 x.d.box, .slice r.at_ x.at_.length r.atc, .slice r.co x.coins.length r.coc, .slice r.wh x.wher.length r.whc] 29)))
  have D_7 := Lib.hid (Holds.newb (w := w) (A := #[.slice r.d.ex x.d.exits.length r.d.exc, .slice r.d.pl x.d.players.length r.d.plc, .slice r.d.co x.d.coins.length r.d.coc, .slice r.d.it x.d.items.length r.d.itc, .slice r.d.bo x.d.boxes.length r.d.boc, .int .i64 x.d.room, .int .i64 x.d.player, .int .i64 x.d.box, .slice r.at_ x.at_.length r.atc, .slice r.co x.coins.length r.coc, .slice r.wh x.wher.length r.whc]) (t := 29) (n := u6.heap.size) B_6.out rfl)
  clear B_6 H_6 A_6 YA_6 IA_6 YB_6
  generalize u6.alloc (.cells #[.slice r.d.ex x.d.exits.length r.d.exc, .slice r.d.pl x.d.players.length r.d.plc, .slice r.d.co x.d.coins.length r.d.coc, .slice r.d.it x.d.items.length r.d.itc, .slice r.d.bo x.d.boxes.length r.d.boc, .int .i64 x.d.room, .int .i64 x.d.player, .int .i64 x.d.box, .slice r.at_ x.at_.length r.atc, .slice r.co x.coins.length r.coc, .slice r.wh x.wher.length r.whc] 29) = V7 at *
  have hcH := H_7.out.2.2
  have hlH := H_7.out.2.1
  have hcA := A_7.out.2.2
  have hlA := A_7.out.2.1
  have hcD := D_7.out.2.2
  have hlD := D_7.out.2.1
  refine (rsame_yes SY.out SY.out rfl _ _ _ YA_7.out YB_7.out).mono ?_
  rintro e u8 ⟨rfl, b8⟩
  clear hcH hlH hcA hlA hcD hlD
  have B_8 := Lib.hid (bl B_7.out b8)
  have H_8 := Lib.hid (H_7.out.call b8)
  have A_8 := Lib.hid (A_7.out.call b8)
  have D_8 := Lib.hid (D_7.out.call b8)
  have YA_8 := Lib.hid (YA_7.out.call b8)
  have IA_8 := Lib.hid (IA_7.out.call b8)
  have YB_8 := Lib.hid (YB_7.out.call b8)
  clear b8 B_7 H_7 A_7 D_7 YA_7 IA_7 YB_7
  have hcH := H_8.out.2.2
  have hlH := H_8.out.2.1
  have hcA := A_8.out.2.2
  have hlA := A_8.out.2.1
  have hcD := D_8.out.2.2
  have hlD := D_8.out.2.1
  go_wp2_with fail
  refine (give_as SY.out _ k _ RY.out YA_8.out HKY.out (n : Int) (i : Int) GB.out).mono ?_
  rintro e u9 ⟨r2, rfl, gr, b9⟩
  clear hcH hlH hcA hlA hcD hlD
  have B_9 := Lib.hid (bl B_8.out b9)
  have H_9 := Lib.hid (H_8.out.call b9)
  have A_9 := Lib.hid (A_8.out.call b9)
  have D_9 := Lib.hid (D_8.out.call b9)
  have YA_9 := Lib.hid (YA_8.out.call b9)
  have IA_9 := Lib.hid (IA_8.out.call b9)
  have YB_9 := Lib.hid (YB_8.out.call b9)
  have YC_9 := Lib.hid gr
  clear b9 B_8 H_8 A_8 D_8 YA_8 IA_8 YB_8 gr
  have hcH := H_9.out.2.2
  have hlH := H_9.out.2.1
  have hcA := A_9.out.2.2
  have hlA := A_9.out.2.1
  have hcD := D_9.out.2.2
  have hlD := D_9.out.2.1
  go_wp2_with fail
  clear hcH hlH hcA hlA hcD hlD
  have s10 : (u9.alloc (.cells #[.slice r2.d.ex x.d.exits.length r2.d.exc, .slice r2.d.pl x.d.players.length r2.d.plc, .slice r2.d.co x.d.coins.length r2.d.coc, .slice r2.d.it x.d.items.length r2.d.itc, .slice r2.d.bo x.d.boxes.length r2.d.boc, .int .i64 x.d.room, .int .i64 x.d.player, .int .i64 x.d.box, .slice r2.at_ x.at_.length r2.atc, .slice r2.co x.coins.length r2.coc, .slice r2.wh x.wher.length r2.whc] 29)).heap.size = u9.heap.size + 1 := by simp
  have B_10 := Lib.hid (B_9.out.alloc B_9.out.size (.cells #[.slice r2.d.ex x.d.exits.length r2.d.exc, .slice r2.d.pl x.d.players.length r2.d.plc, .slice r2.d.co x.d.coins.length r2.d.coc, .slice r2.d.it x.d.items.length r2.d.itc, .slice r2.d.bo x.d.boxes.length r2.d.boc, .int .i64 x.d.room, .int .i64 x.d.player, .int .i64 x.d.box, .slice r2.at_ x.at_.length r2.atc, .slice r2.co x.coins.length r2.coc, .slice r2.wh x.wher.length r2.whc] 29))
  have H_10 := Lib.hid (H_9.out.alloc (.cells #[.slice r2.d.ex x.d.exits.length r2.d.exc, .slice r2.d.pl x.d.players.length r2.d.plc, .slice r2.d.co x.d.coins.length r2.d.coc, .slice r2.d.it x.d.items.length r2.d.itc, .slice r2.d.bo x.d.boxes.length r2.d.boc, .int .i64 x.d.room, .int .i64 x.d.player, .int .i64 x.d.box, .slice r2.at_ x.at_.length r2.atc, .slice r2.co x.coins.length r2.coc, .slice r2.wh x.wher.length r2.whc] 29))
  have A_10 := Lib.hid (A_9.out.alloc (.cells #[.slice r2.d.ex x.d.exits.length r2.d.exc, .slice r2.d.pl x.d.players.length r2.d.plc, .slice r2.d.co x.d.coins.length r2.d.coc, .slice r2.d.it x.d.items.length r2.d.itc, .slice r2.d.bo x.d.boxes.length r2.d.boc, .int .i64 x.d.room, .int .i64 x.d.player, .int .i64 x.d.box, .slice r2.at_ x.at_.length r2.atc, .slice r2.co x.coins.length r2.coc, .slice r2.wh x.wher.length r2.whc] 29))
  have D_10 := Lib.hid (D_9.out.alloc (.cells #[.slice r2.d.ex x.d.exits.length r2.d.exc, .slice r2.d.pl x.d.players.length r2.d.plc, .slice r2.d.co x.d.coins.length r2.d.coc, .slice r2.d.it x.d.items.length r2.d.itc, .slice r2.d.bo x.d.boxes.length r2.d.boc, .int .i64 x.d.room, .int .i64 x.d.player, .int .i64 x.d.box, .slice r2.at_ x.at_.length r2.atc, .slice r2.co x.coins.length r2.coc, .slice r2.wh x.wher.length r2.whc] 29))
  have YA_10 := Lib.hid (YA_9.out.call ((Below.refl _ _).alloc (Nat.le_refl _) (.cells #[.slice r2.d.ex x.d.exits.length r2.d.exc, .slice r2.d.pl x.d.players.length r2.d.plc, .slice r2.d.co x.d.coins.length r2.d.coc, .slice r2.d.it x.d.items.length r2.d.itc, .slice r2.d.bo x.d.boxes.length r2.d.boc, .int .i64 x.d.room, .int .i64 x.d.player, .int .i64 x.d.box, .slice r2.at_ x.at_.length r2.atc, .slice r2.co x.coins.length r2.coc, .slice r2.wh x.wher.length r2.whc] 29)))
  have IA_10 := Lib.hid (IA_9.out.call ((Below.refl _ _).alloc (Nat.le_refl _) (.cells #[.slice r2.d.ex x.d.exits.length r2.d.exc, .slice r2.d.pl x.d.players.length r2.d.plc, .slice r2.d.co x.d.coins.length r2.d.coc, .slice r2.d.it x.d.items.length r2.d.itc, .slice r2.d.bo x.d.boxes.length r2.d.boc, .int .i64 x.d.room, .int .i64 x.d.player, .int .i64 x.d.box, .slice r2.at_ x.at_.length r2.atc, .slice r2.co x.coins.length r2.coc, .slice r2.wh x.wher.length r2.whc] 29)))
  have YB_10 := Lib.hid (YB_9.out.call ((Below.refl _ _).alloc (Nat.le_refl _) (.cells #[.slice r2.d.ex x.d.exits.length r2.d.exc, .slice r2.d.pl x.d.players.length r2.d.plc, .slice r2.d.co x.d.coins.length r2.d.coc, .slice r2.d.it x.d.items.length r2.d.itc, .slice r2.d.bo x.d.boxes.length r2.d.boc, .int .i64 x.d.room, .int .i64 x.d.player, .int .i64 x.d.box, .slice r2.at_ x.at_.length r2.atc, .slice r2.co x.coins.length r2.coc, .slice r2.wh x.wher.length r2.whc] 29)))
  have YC_10 := Lib.hid (YC_9.out.call ((Below.refl _ _).alloc (Nat.le_refl _) (.cells #[.slice r2.d.ex x.d.exits.length r2.d.exc, .slice r2.d.pl x.d.players.length r2.d.plc, .slice r2.d.co x.d.coins.length r2.d.coc, .slice r2.d.it x.d.items.length r2.d.itc, .slice r2.d.bo x.d.boxes.length r2.d.boc, .int .i64 x.d.room, .int .i64 x.d.player, .int .i64 x.d.box, .slice r2.at_ x.at_.length r2.atc, .slice r2.co x.coins.length r2.coc, .slice r2.wh x.wher.length r2.whc] 29)))
  have E_10 := Lib.hid (Holds.newb (w := w) (A := #[.slice r2.d.ex x.d.exits.length r2.d.exc, .slice r2.d.pl x.d.players.length r2.d.plc, .slice r2.d.co x.d.coins.length r2.d.coc, .slice r2.d.it x.d.items.length r2.d.itc, .slice r2.d.bo x.d.boxes.length r2.d.boc, .int .i64 x.d.room, .int .i64 x.d.player, .int .i64 x.d.box, .slice r2.at_ x.at_.length r2.atc, .slice r2.co x.coins.length r2.coc, .slice r2.wh x.wher.length r2.whc]) (t := 29) (n := u9.heap.size) B_9.out rfl)
  clear B_9 H_9 A_9 D_9 YA_9 IA_9 YB_9 YC_9
  generalize u9.alloc (.cells #[.slice r2.d.ex x.d.exits.length r2.d.exc, .slice r2.d.pl x.d.players.length r2.d.plc, .slice r2.d.co x.d.coins.length r2.d.coc, .slice r2.d.it x.d.items.length r2.d.itc, .slice r2.d.bo x.d.boxes.length r2.d.boc, .int .i64 x.d.room, .int .i64 x.d.player, .int .i64 x.d.box, .slice r2.at_ x.at_.length r2.atc, .slice r2.co x.coins.length r2.coc, .slice r2.wh x.wher.length r2.whc] 29) = V10 at *
  have hcH := H_10.out.2.2
  have hlH := H_10.out.2.1
  have hcA := A_10.out.2.2
  have hlA := A_10.out.2.1
  have hcD := D_10.out.2.2
  have hlD := D_10.out.2.1
  have hcE := E_10.out.2.2
  have hlE := E_10.out.2.1
  refine (rsame_yes (Shape.refl x) (Shape.refl x) rfl _ p _ YC_10.out (HWA.out.below B_10.out (Nat.le_refl _))).mono ?_
  rintro e u11 ⟨rfl, b11⟩
  clear hcH hlH hcA hlA hcD hlD hcE hlE
  have B_11 := Lib.hid (bl B_10.out b11)
  have H_11 := Lib.hid (H_10.out.call b11)
  have A_11 := Lib.hid (A_10.out.call b11)
  have D_11 := Lib.hid (D_10.out.call b11)
  have E_11 := Lib.hid (E_10.out.call b11)
  have YA_11 := Lib.hid (YA_10.out.call b11)
  have IA_11 := Lib.hid (IA_10.out.call b11)
  have YB_11 := Lib.hid (YB_10.out.call b11)
  have YC_11 := Lib.hid (YC_10.out.call b11)
  clear b11 B_10 H_10 A_10 D_10 E_10 YA_10 IA_10 YB_10 YC_10
  have hcH := H_11.out.2.2
  have hlH := H_11.out.2.1
  have hcA := A_11.out.2.2
  have hlA := A_11.out.2.1
  have hcD := D_11.out.2.2
  have hlD := D_11.out.2.1
  have hcE := E_11.out.2.2
  have hlE := E_11.out.2.1
  go_wp2_with fail
  refine (rright_as SY.out _ _ YA_11.out).mono ?_
  rintro e u12 ⟨rfl, b12⟩
  rw [RY.out]
  clear hcH hlH hcA hlA hcD hlD hcE hlE
  have B_12 := Lib.hid (bl B_11.out b12)
  have H_12 := Lib.hid (H_11.out.call b12)
  have A_12 := Lib.hid (A_11.out.call b12)
  have D_12 := Lib.hid (D_11.out.call b12)
  have E_12 := Lib.hid (E_11.out.call b12)
  have YA_12 := Lib.hid (YA_11.out.call b12)
  have IA_12 := Lib.hid (IA_11.out.call b12)
  have YB_12 := Lib.hid (YB_11.out.call b12)
  have YC_12 := Lib.hid (YC_11.out.call b12)
  clear b12 B_11 H_11 A_11 D_11 E_11 YA_11 IA_11 YB_11 YC_11
  have hcH := H_12.out.2.2
  have hlH := H_12.out.2.1
  have hcA := A_12.out.2.2
  have hlA := A_12.out.2.1
  have hcD := D_12.out.2.2
  have hlD := D_12.out.2.1
  have hcE := E_12.out.2.2
  have hlE := E_12.out.2.1
  go_wp2_with fail
  clear hcH hlH hcA hlA hcD hlD hcE hlE
  have s13 : (u12.alloc (.cells #[.int .i64 (n : Int)] 3)).heap.size = u12.heap.size + 1 := by simp
  have B_13 := Lib.hid (B_12.out.alloc B_12.out.size (.cells #[.int .i64 (n : Int)] 3))
  have H_13 := Lib.hid (H_12.out.alloc (.cells #[.int .i64 (n : Int)] 3))
  have A_13 := Lib.hid (A_12.out.alloc (.cells #[.int .i64 (n : Int)] 3))
  have D_13 := Lib.hid (D_12.out.alloc (.cells #[.int .i64 (n : Int)] 3))
  have E_13 := Lib.hid (E_12.out.alloc (.cells #[.int .i64 (n : Int)] 3))
  have YA_13 := Lib.hid (YA_12.out.call ((Below.refl _ _).alloc (Nat.le_refl _) (.cells #[.int .i64 (n : Int)] 3)))
  have IA_13 := Lib.hid (IA_12.out.call ((Below.refl _ _).alloc (Nat.le_refl _) (.cells #[.int .i64 (n : Int)] 3)))
  have YB_13 := Lib.hid (YB_12.out.call ((Below.refl _ _).alloc (Nat.le_refl _) (.cells #[.int .i64 (n : Int)] 3)))
  have YC_13 := Lib.hid (YC_12.out.call ((Below.refl _ _).alloc (Nat.le_refl _) (.cells #[.int .i64 (n : Int)] 3)))
  have IO_13 := Lib.hid (show IntsIn (u12.alloc (.cells #[.int .i64 (n : Int)] 3)) (some ⟨u12.heap.size, 0, none⟩) ([n].map fun (k : Nat) => (k : Int)) from ints_of (Blk.newn u12 3 #[.int .i64 (n : Int)] (n := u12.heap.size) rfl) rfl (by simp))
  clear B_12 H_12 A_12 D_12 E_12 YA_12 IA_12 YB_12 YC_12
  generalize u12.alloc (.cells #[.int .i64 (n : Int)] 3) = V13 at *
  have hcH := H_13.out.2.2
  have hlH := H_13.out.2.1
  have hcA := A_13.out.2.2
  have hlA := A_13.out.2.1
  have hcD := D_13.out.2.2
  have hlD := D_13.out.2.1
  have hcE := E_13.out.2.2
  have hlE := E_13.out.2.1
  clear hcH hlH hcA hlA hcD hlD hcE hlE
  refine ((others_one SY.out p _ n (some ⟨u12.heap.size, 0, none⟩) 1 _ (right_fewW9 FT.out.right) (HWA.out.below B_13.out (Nat.le_refl _)) YA_13.out IO_13.out HN.out)).mono ?_
  rintro e u14 ⟨rfl, b14⟩
  rw [PA.out]
  have B_14 := Lib.hid (bl B_13.out b14)
  have H_14 := Lib.hid (H_13.out.call b14)
  have A_14 := Lib.hid (A_13.out.call b14)
  have D_14 := Lib.hid (D_13.out.call b14)
  have E_14 := Lib.hid (E_13.out.call b14)
  have YA_14 := Lib.hid (YA_13.out.call b14)
  have IA_14 := Lib.hid (IA_13.out.call b14)
  have YB_14 := Lib.hid (YB_13.out.call b14)
  have YC_14 := Lib.hid (YC_13.out.call b14)
  have IO_14 := Lib.hid (IO_13.out.call b14)
  clear b14 B_13 H_13 A_13 D_13 E_13 YA_13 IA_13 YB_13 YC_13 IO_13
  go_wp2_with fail
  go_ret
  exact ⟨rfl, B_14.out⟩
theorem walk_giftsGive (x : Wd) (p : Wp) (a item q : Int) (w : World) (ha : (Lit.int .u8 a).wf = true) (hq : (Lit.int .i64 item).wf = true) (hq2 : (Lit.int .i64 q).wf = true) (h : WorldAt w p x) : Calls Try.prog 5 #[.agg #[.slice p.d.ex x.d.exits.length p.d.exc, .slice p.d.pl x.d.players.length p.d.plc, .slice p.d.co x.d.coins.length p.d.coc, .slice p.d.it x.d.items.length p.d.itc, .slice p.d.bo x.d.boxes.length p.d.boc, .int .i64 x.d.room, .int .i64 x.d.player, .int .i64 x.d.box, .slice p.at_ x.at_.length p.atc, .slice p.co x.coins.length p.coc, .slice p.wh x.wher.length p.whc], .int .u8 a, .int .i64 item, .int .i64 q] w fun e w' => e = .returned (.bool true) ∧ Below w.heap.size w w' := by
  cases hf : fitsB x
  · exact giftsGive_no x p a item q w h hf
  by_cases h1 : item < 0
  · exact giftsGive_neg x p a item q w h hf h1
  by_cases h2 : 1073741824 < item
  · exact giftsGive_big x p a item q w h hf h1 h2
  by_cases h3 : q < 0
  · exact giftsGive_neg2 x p a item q w h hf h1 h2 h3
  by_cases h4 : 1073741824 < q
  · exact giftsGive_big2 x p a item q w h hf h1 h2 h3 h4
  have h9 := wf_u8 ha
  obtain ⟨m1, rfl⟩ : ∃ m : Nat, a = m := ⟨a.toNat, by omega⟩
  obtain ⟨⟨y, e⟩, hR⟩ : ∃ R, giveW x (m1 % x.at_.length) item q = R := ⟨_, rfl⟩
  by_cases he : e = 0
  · subst he
    exact giftsGive_ok x p m1 _ item q (by omega) rfl w h hf h1 h2 h3 h4 y hR
  · obtain rfl := give_stays hR he
    exact giftsGive_err _ p m1 _ item q (by omega) rfl w h hf h1 h2 h3 h4 e hR (by simpa using he)
set_option maxRecDepth 100000 in
theorem lifted_giftsGive (os : Os) (started : os.Started) (H : Type) (enc : TypeId × Value → H) :
    ReturnsInHanded {} Try.checked os 5 .any (Rows.giftsGiveSpec.pre6 enc Try.prog Try.f5 Rows.giftsGiveRow.domain false) (Rows.giftsGiveSpec.post enc Try.prog Try.f5 false true false false) := by
  refine returnsInHanded_of_change (C := Try.checked) (by kernel_rfl) started (by kernel_rfl) Try.func5
    (ChangeSpec.witness6 (enc := enc) (C := Try.checked) false ⟨#[], #[.agg #[.slice none 0 0, .slice none 0 0, .slice none 0 0, .slice none 0 0, .slice none 0 0, .int .i64 0, .int .i64 0, .int .i64 0, .slice none 0 0, .slice none 0 0, .slice none 0 0], .int .u8 0, .int .i64 0, .int .i64 0], []⟩ 8 (by kernel_rfl) (by kernel_rfl) (by kernel_rfl) (by kernel_rfl)) ?_
  intro W base args ds gs before hval0 hW hcnd _
  have hval : ∀ (j : Nat) t v, Try.f5.params[j]? = some t → args[j]? = some v → Value.okWide Try.prog W .any base t v := hval0
  have hW' := hW
  obtain ⟨p, q, hA0, hV, rfl, hfz, hnd⟩ := hW
  have hA : DataW.TrodAll enc Try.prog W 0 (fun _ => true) true Try.f5.params.toList args.toList ds p := hA0
  rw [Try.params5] at hA hval
  obtain ⟨v0, vs0, d0, ds0, p0, q0, hargs, rfl, rfl, h0, r0⟩ := trodAll_cons hA
  obtain ⟨v1, vs1, d1, ds1, p1, q1, rfl, rfl, rfl, h1, r1⟩ := trodAll_cons r0
  obtain ⟨v2, vs2, d2, ds2, p2, q2, rfl, rfl, rfl, h2, r2⟩ := trodAll_cons r1
  obtain ⟨v3, vs3, d3, ds3, p3, q3, rfl, rfl, rfl, h3, r3⟩ := trodAll_cons r2
  obtain ⟨rfl, rfl, rfl⟩ := trodAll_nil r3
  obtain rfl : args = #[v0, v1, v2, v3] := by cases args; simp_all
  obtain ⟨rfl, rfl⟩ := trodVars_none hV
  obtain ⟨wx0, wp0, rfl, m0⟩ := read_world (hval 0 29 v0 rfl rfl) h0
  obtain ⟨a1, rfl, rfl, rfl, w1⟩ := open_int Try.underlying5 (hval 1 5 v1 rfl rfl) h1
  obtain ⟨a2, rfl, rfl, rfl, w2⟩ := open_int Try.underlying3 (hval 2 3 v2 rfl rfl) h2
  obtain ⟨a3, rfl, rfl, rfl, w3⟩ := open_int Try.underlying3 (hval 3 3 v3 rfl rfl) h3
  clear hA0 hval0
  simp only [List.append_nil] at hW'
  refine (walk_giftsGive wx0 wp0 a1 a2 a3 W w1 w2 w3 m0).mono fun e W' ⟨he, hg⟩ => ?_
  subst he
  exact ⟨_, rfl, law_post (by kernel_rfl) rfl (by rw [Try.params5]; decide +kernel) rfl rfl Try.underlying4 hW' hg⟩

/-- ████ THE STATEMENT ████ -/
theorem proved_giftsGive : Rows.GiftsGiveSaid :=
  OpenClaim.holds_of_wide 5 Try.f5 rfl rfl rfl rfl rfl rfl rfl ⟨rfl, rfl, rfl, rfl, rfl⟩ rfl rfl rfl rfl rfl (by kernel_rfl) Try.func5 (by kernel_rfl)
    (of_decide_eq_true (by kernel_rfl)) (by unfold Func.isWrapper; first | (rw [if_pos (by decide +kernel)]; kernel_rfl) | (rw [if_neg (by decide +kernel)]; exact ⟨rfl, rfl⟩))
    (fun os started H enc _ => lifted_giftsGive os started H enc)
#print axioms proved_giftsGive
end Go.Proofs.Ytcigbliilmonfaa
