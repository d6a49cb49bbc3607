/- DescMakes: of whatever description: whether it may be, and the new world; of whatever worlds: whether one is right, whether two are the same. -/
import Derived.Test.YtniblphklgbpnaaRows
import Derived.Test.YtniblphklgbpnaaKit
import Derived.Test.YtniblphklgbpnaaSlices
import Derived.Test.YtniblphklgbpnaaStrs
import Derived.Test.YtniblphklgbpnaaCoin
import Derived.Test.YtniblphklgbpnaaBlk
import Derived.Test.YtniblphklgbpnaaHolds
import Derived.Test.YtniblphklgbpnaaWorldMath
import Derived.Test.YtniblphklgbpnaaWorldAt
import Derived.Test.YtniblphklgbpnaaDescNest
import Derived.Test.YtniblphklgbpnaaDescNest2
import Derived.Test.YtniblphklgbpnaaDescMay
import Derived.Test.YtniblphklgbpnaaDescMay2
import Derived.Test.YtniblphklgbpnaaDescRight
import Derived.Test.YtniblphklgbpnaaDescCopy
import Derived.Test.YtniblphklgbpnaaDescCopy2
import Derived.Test.YtniblphklgbpnaaDescNew
import Derived.Test.YtniblphklgbpnaaDescSame
import Derived.Test.YtniblphklgbpnaaRefDescA
import Derived.Test.YtniblphklgbpnaaRefDepth
import Derived.Test.YtniblphklgbpnaaRefMayA
import Derived.Test.YtniblphklgbpnaaRefMay
import Derived.Test.YtniblphklgbpnaaRefRight
import Derived.Test.YtniblphklgbpnaaRefSame
import Derived.Test.YtniblphklgbpnaaRefCopied
import Derived.Test.YtniblphklgbpnaaDescStore
import Derived.Test.YtniblphklgbpnaaDescAs
import Derived.Test.YtniblphklgbpnaaDescCapsMath
import Derived.Test.YtniblphklgbpnaaRefNew
import Derived.Test.YtniblphklgbpnaaRefNew2
import Derived.Test.YtniblphklgbpnaaRefNew3
import Derived.Test.YtniblphklgbpnaaDescAwake
import Derived.Test.YtniblphklgbpnaaWorldArg
import Derived.Deep.QuietTactic
import Derived.BigQuiet
import Derived.Deep.RegionHeld3
import Derived.WalkKit
import Derived.ProofKit
import Derived.OpenShut
import Derived.IntWalk
namespace Go.Proofs.Ytniblphklgbpnaa
open Go.ChangeShapes Go.WideShapes Go.ChangeAt Go.RowKit
set_option linter.unusedVariables false
open Go.RowKit
theorem refsame_yes (a b : Wd) (h : a = b) (p q : Wp) (w : World) (h1 : WorldAt w p a) (h2 : WorldAt w q b) : Calls Try.prog 16 #[.agg #[.slice p.d.ex a.d.exits.length p.d.exc, .slice p.d.pl a.d.players.length p.d.plc, .slice p.d.co a.d.coins.length p.d.coc, .slice p.d.it a.d.items.length p.d.itc, .slice p.d.bo a.d.boxes.length p.d.boc, .int .i64 a.d.room, .int .i64 a.d.player, .int .i64 a.d.box, .slice p.at_ a.at_.length p.atc, .slice p.co a.coins.length p.coc, .slice p.wh a.wher.length p.whc], .agg #[.slice q.d.ex b.d.exits.length q.d.exc, .slice q.d.pl b.d.players.length q.d.plc, .slice q.d.co b.d.coins.length q.d.coc, .slice q.d.it b.d.items.length q.d.itc, .slice q.d.bo b.d.boxes.length q.d.boc, .int .i64 b.d.room, .int .i64 b.d.player, .int .i64 b.d.box, .slice q.at_ b.at_.length q.atc, .slice q.co b.coins.length q.coc, .slice q.wh b.wher.length q.whc]] w fun e w' => e = .returned (.bool true) ∧ Below w.heap.size w w' := by
  have := refsame_any a b p q w h1 h2
  rwa [decide_eq_true h] at this
theorem refsame_zero (w : World) : Calls Try.prog 16 #[.agg #[.slice none 0 0, .slice none 0 0, .slice none 0 0, .slice none 0 0, .slice none 0 0, .int .i64 0, .int .i64 0, .int .i64 0, .slice none 0 0, .slice none 0 0, .slice none 0 0], .agg #[.slice none 0 0, .slice none 0 0, .slice none 0 0, .slice none 0 0, .slice none 0 0, .int .i64 0, .int .i64 0, .int .i64 0, .slice none 0 0, .slice none 0 0, .slice none 0 0]] w fun e w' => e = .returned (.bool true) ∧ Below w.heap.size w w' :=
  refsame_yes zeroW zeroW rfl zeroWp zeroWp w (zero_worldAt w) (zero_worldAt w)
set_option maxRecDepth 100000 in
set_option maxHeartbeats 1000000 in
theorem descMakes_few0 (d : Ds) (dp : Dp) (x y : Wd) (p q : Wp) (w : World) (hd : DescAt w dp d) (hx : WorldAt w p x) (hy : WorldAt w q y) (f0 : fewB ⟨d, [], [], []⟩ = false) : Calls Try.prog 3 #[.agg #[.slice dp.ex d.exits.length dp.exc, .slice dp.pl d.players.length dp.plc, .slice dp.co d.coins.length dp.coc, .slice dp.it d.items.length dp.itc, .slice dp.bo d.boxes.length dp.boc, .int .i64 d.room, .int .i64 d.player, .int .i64 d.box], .agg #[.slice p.d.ex x.d.exits.length p.d.exc, .slice p.d.pl x.d.players.length p.d.plc, .slice p.d.co x.d.coins.length p.d.coc, .slice p.d.it x.d.items.length p.d.itc, .slice p.d.bo x.d.boxes.length p.d.boc, .int .i64 x.d.room, .int .i64 x.d.player, .int .i64 x.d.box, .slice p.at_ x.at_.length p.atc, .slice p.co x.coins.length p.coc, .slice p.wh x.wher.length p.whc], .agg #[.slice q.d.ex y.d.exits.length q.d.exc, .slice q.d.pl y.d.players.length q.d.plc, .slice q.d.co y.d.coins.length q.d.coc, .slice q.d.it y.d.items.length q.d.itc, .slice q.d.bo y.d.boxes.length q.d.boc, .int .i64 y.d.room, .int .i64 y.d.player, .int .i64 y.d.box, .slice q.at_ y.at_.length q.atc, .slice q.co y.coins.length q.coc, .slice q.wh y.wher.length q.whc]] w fun e w' => e = .returned (.bool true) ∧ Below w.heap.size w w' := by
  have F0 := Lib.hid f0
  clear hd hx hy f0
  have h0 := ((Holds.new w #[.slice dp.ex d.exits.length dp.exc, .slice dp.pl d.players.length dp.plc, .slice dp.co d.coins.length dp.coc, .slice dp.it d.items.length dp.itc, .slice dp.bo d.boxes.length dp.boc, .int .i64 d.room, .int .i64 d.player, .int .i64 d.box] 26).alloc (.cells #[.slice p.d.ex x.d.exits.length p.d.exc, .slice p.d.pl x.d.players.length p.d.plc, .slice p.d.co x.d.coins.length p.d.coc, .slice p.d.it x.d.items.length p.d.itc, .slice p.d.bo x.d.boxes.length p.d.boc, .int .i64 x.d.room, .int .i64 x.d.player, .int .i64 x.d.box, .slice p.at_ x.at_.length p.atc, .slice p.co x.coins.length p.coc, .slice p.wh x.wher.length p.whc] 29)).alloc (.cells #[.slice q.d.ex y.d.exits.length q.d.exc, .slice q.d.pl y.d.players.length q.d.plc, .slice q.d.co y.d.coins.length q.d.coc, .slice q.d.it y.d.items.length q.d.itc, .slice q.d.bo y.d.boxes.length q.d.boc, .int .i64 y.d.room, .int .i64 y.d.player, .int .i64 y.d.box, .slice q.at_ y.at_.length q.atc, .slice q.co y.coins.length q.coc, .slice q.wh y.wher.length q.whc] 29)
  have h1 := (Holds.newb (w := w) (A := #[.slice p.d.ex x.d.exits.length p.d.exc, .slice p.d.pl x.d.players.length p.d.plc, .slice p.d.co x.d.coins.length p.d.coc, .slice p.d.it x.d.items.length p.d.itc, .slice p.d.bo x.d.boxes.length p.d.boc, .int .i64 x.d.room, .int .i64 x.d.player, .int .i64 x.d.box, .slice p.at_ x.at_.length p.atc, .slice p.co x.coins.length p.coc, .slice p.wh x.wher.length p.whc]) (t := 29) (n := w.heap.size + 1) (Holds.new w #[.slice dp.ex d.exits.length dp.exc, .slice dp.pl d.players.length dp.plc, .slice dp.co d.coins.length dp.coc, .slice dp.it d.items.length dp.itc, .slice dp.bo d.boxes.length dp.boc, .int .i64 d.room, .int .i64 d.player, .int .i64 d.box] 26).1 (by simp)).alloc (.cells #[.slice q.d.ex y.d.exits.length q.d.exc, .slice q.d.pl y.d.players.length q.d.plc, .slice q.d.co y.d.coins.length q.d.coc, .slice q.d.it y.d.items.length q.d.itc, .slice q.d.bo y.d.boxes.length q.d.boc, .int .i64 y.d.room, .int .i64 y.d.player, .int .i64 y.d.box, .slice q.at_ y.at_.length q.atc, .slice q.co y.coins.length q.coc, .slice q.wh y.wher.length q.whc] 29)
  have h2 := Holds.newb (w := w) (A := #[.slice q.d.ex y.d.exits.length q.d.exc, .slice q.d.pl y.d.players.length q.d.plc, .slice q.d.co y.d.coins.length q.d.coc, .slice q.d.it y.d.items.length q.d.itc, .slice q.d.bo y.d.boxes.length q.d.boc, .int .i64 y.d.room, .int .i64 y.d.player, .int .i64 y.d.box, .slice q.at_ y.at_.length q.atc, .slice q.co y.coins.length q.coc, .slice q.wh y.wher.length q.whc]) (t := 29) (n := w.heap.size + 1 + 1) ((Holds.new w #[.slice dp.ex d.exits.length dp.exc, .slice dp.pl d.players.length dp.plc, .slice dp.co d.coins.length dp.coc, .slice dp.it d.items.length dp.itc, .slice dp.bo d.boxes.length dp.boc, .int .i64 d.room, .int .i64 d.player, .int .i64 d.box] 26).alloc (.cells #[.slice p.d.ex x.d.exits.length p.d.exc, .slice p.d.pl x.d.players.length p.d.plc, .slice p.d.co x.d.coins.length p.d.coc, .slice p.d.it x.d.items.length p.d.itc, .slice p.d.bo x.d.boxes.length p.d.boc, .int .i64 x.d.room, .int .i64 x.d.player, .int .i64 x.d.box, .slice p.at_ x.at_.length p.atc, .slice p.co x.coins.length p.coc, .slice p.wh x.wher.length p.whc] 29)).1 (by simp)
  have H0 := Lib.hid h0
  have H1 := Lib.hid h1
  have H2 := Lib.hid h2
  clear h0 h1 h2
  go_enter Try.func3, Try.ntmps3
  go_wp2_with fail
  have t0 : w.heap.size + 3 = (((w.alloc (.cells #[.slice dp.ex d.exits.length dp.exc, .slice dp.pl d.players.length dp.plc, .slice dp.co d.coins.length dp.coc, .slice dp.it d.items.length dp.itc, .slice dp.bo d.boxes.length dp.boc, .int .i64 d.room, .int .i64 d.player, .int .i64 d.box] 26)).alloc (.cells #[.slice p.d.ex x.d.exits.length p.d.exc, .slice p.d.pl x.d.players.length p.d.plc, .slice p.d.co x.d.coins.length p.d.coc, .slice p.d.it x.d.items.length p.d.itc, .slice p.d.bo x.d.boxes.length p.d.boc, .int .i64 x.d.room, .int .i64 x.d.player, .int .i64 x.d.box, .slice p.at_ x.at_.length p.atc, .slice p.co x.coins.length p.coc, .slice p.wh x.wher.length p.whc] 29)).alloc (.cells #[.slice q.d.ex y.d.exits.length q.d.exc, .slice q.d.pl y.d.players.length q.d.plc, .slice q.d.co y.d.coins.length q.d.coc, .slice q.d.it y.d.items.length q.d.itc, .slice q.d.bo y.d.boxes.length q.d.boc, .int .i64 y.d.room, .int .i64 y.d.player, .int .i64 y.d.box, .slice q.at_ y.at_.length q.atc, .slice q.co y.coins.length q.coc, .slice q.wh y.wher.length q.whc] 29)).heap.size := by simp
  generalize (((w.alloc (.cells #[.slice dp.ex d.exits.length dp.exc, .slice dp.pl d.players.length dp.plc, .slice dp.co d.coins.length dp.coc, .slice dp.it d.items.length dp.itc, .slice dp.bo d.boxes.length dp.boc, .int .i64 d.room, .int .i64 d.player, .int .i64 d.box] 26)).alloc (.cells #[.slice p.d.ex x.d.exits.length p.d.exc, .slice p.d.pl x.d.players.length p.d.plc, .slice p.d.co x.d.coins.length p.d.coc, .slice p.d.it x.d.items.length p.d.itc, .slice p.d.bo x.d.boxes.length p.d.boc, .int .i64 x.d.room, .int .i64 x.d.player, .int .i64 x.d.box, .slice p.at_ x.at_.length p.atc, .slice p.co x.coins.length p.coc, .slice p.wh x.wher.length p.whc] 29)).alloc (.cells #[.slice q.d.ex y.d.exits.length q.d.exc, .slice q.d.pl y.d.players.length q.d.plc, .slice q.d.co y.d.coins.length q.d.coc, .slice q.d.it y.d.items.length q.d.itc, .slice q.d.bo y.d.boxes.length q.d.boc, .int .i64 y.d.room, .int .i64 y.d.player, .int .i64 y.d.box, .slice q.at_ y.at_.length q.atc, .slice q.co y.coins.length q.coc, .slice q.wh y.wher.length q.whc] 29)) = V0 at *
  refine (awake_any _).mono ?_
  rintro e w1 ⟨rfl, b1⟩
  have HD_1 := Lib.hid (H0.out.call b1)
  have HX_1 := Lib.hid (H1.out.call b1)
  have HY_1 := Lib.hid (H2.out.call b1)
  have s1 := b1.size
  clear b1 H0 H1 H2
  have c0 := HD_1.out.2.2
  have c1 := HX_1.out.2.2
  have c2 := HY_1.out.2.2
  go_wp2_with fail
  clear c0 c1 c2
  refine (few_any ⟨d, [], [], []⟩ ⟨dp, none, 0, none, 0, none, 0⟩ w1).mono ?_
  rintro e w2 ⟨rfl, b2⟩
  rw [F0.out]
  have HD_2 := Lib.hid (HD_1.out.call b2)
  have HX_2 := Lib.hid (HX_1.out.call b2)
  have HY_2 := Lib.hid (HY_1.out.call b2)
  have s2 := b2.size
  clear b2 HD_1 HX_1 HY_1
  have c0 := HD_2.out.2.2
  have c1 := HX_2.out.2.2
  have c2 := HY_2.out.2.2
  go_wp2_with fail
  clear c0 c1 c2
  refine (awake_any _).mono ?_
  rintro e w9 ⟨rfl, b9⟩
  have HD_3 := Lib.hid (HD_2.out.call b9)
  have HX_3 := Lib.hid (HX_2.out.call b9)
  have HY_3 := Lib.hid (HY_2.out.call b9)
  have s3 := b9.size
  clear b9 HD_2 HX_2 HY_2
  go_wp2_with fail
  go_ret
  exact ⟨rfl, HD_3.out.1⟩
set_option maxRecDepth 100000 in
set_option maxHeartbeats 1000000 in
theorem descMakes_few1 (d : Ds) (dp : Dp) (x y : Wd) (p q : Wp) (w : World) (hd : DescAt w dp d) (hx : WorldAt w p x) (hy : WorldAt w q y) (f0 : fewB ⟨d, [], [], []⟩ = true) (f1 : fewB x = false) : Calls Try.prog 3 #[.agg #[.slice dp.ex d.exits.length dp.exc, .slice dp.pl d.players.length dp.plc, .slice dp.co d.coins.length dp.coc, .slice dp.it d.items.length dp.itc, .slice dp.bo d.boxes.length dp.boc, .int .i64 d.room, .int .i64 d.player, .int .i64 d.box], .agg #[.slice p.d.ex x.d.exits.length p.d.exc, .slice p.d.pl x.d.players.length p.d.plc, .slice p.d.co x.d.coins.length p.d.coc, .slice p.d.it x.d.items.length p.d.itc, .slice p.d.bo x.d.boxes.length p.d.boc, .int .i64 x.d.room, .int .i64 x.d.player, .int .i64 x.d.box, .slice p.at_ x.at_.length p.atc, .slice p.co x.coins.length p.coc, .slice p.wh x.wher.length p.whc], .agg #[.slice q.d.ex y.d.exits.length q.d.exc, .slice q.d.pl y.d.players.length q.d.plc, .slice q.d.co y.d.coins.length q.d.coc, .slice q.d.it y.d.items.length q.d.itc, .slice q.d.bo y.d.boxes.length q.d.boc, .int .i64 y.d.room, .int .i64 y.d.player, .int .i64 y.d.box, .slice q.at_ y.at_.length q.atc, .slice q.co y.coins.length q.coc, .slice q.wh y.wher.length q.whc]] w fun e w' => e = .returned (.bool true) ∧ Below w.heap.size w w' := by
  have F0 := Lib.hid f0
  have F1 := Lib.hid f1
  clear hd hx hy f0 f1
  have h0 := ((Holds.new w #[.slice dp.ex d.exits.length dp.exc, .slice dp.pl d.players.length dp.plc, .slice dp.co d.coins.length dp.coc, .slice dp.it d.items.length dp.itc, .slice dp.bo d.boxes.length dp.boc, .int .i64 d.room, .int .i64 d.player, .int .i64 d.box] 26).alloc (.cells #[.slice p.d.ex x.d.exits.length p.d.exc, .slice p.d.pl x.d.players.length p.d.plc, .slice p.d.co x.d.coins.length p.d.coc, .slice p.d.it x.d.items.length p.d.itc, .slice p.d.bo x.d.boxes.length p.d.boc, .int .i64 x.d.room, .int .i64 x.d.player, .int .i64 x.d.box, .slice p.at_ x.at_.length p.atc, .slice p.co x.coins.length p.coc, .slice p.wh x.wher.length p.whc] 29)).alloc (.cells #[.slice q.d.ex y.d.exits.length q.d.exc, .slice q.d.pl y.d.players.length q.d.plc, .slice q.d.co y.d.coins.length q.d.coc, .slice q.d.it y.d.items.length q.d.itc, .slice q.d.bo y.d.boxes.length q.d.boc, .int .i64 y.d.room, .int .i64 y.d.player, .int .i64 y.d.box, .slice q.at_ y.at_.length q.atc, .slice q.co y.coins.length q.coc, .slice q.wh y.wher.length q.whc] 29)
  have h1 := (Holds.newb (w := w) (A := #[.slice p.d.ex x.d.exits.length p.d.exc, .slice p.d.pl x.d.players.length p.d.plc, .slice p.d.co x.d.coins.length p.d.coc, .slice p.d.it x.d.items.length p.d.itc, .slice p.d.bo x.d.boxes.length p.d.boc, .int .i64 x.d.room, .int .i64 x.d.player, .int .i64 x.d.box, .slice p.at_ x.at_.length p.atc, .slice p.co x.coins.length p.coc, .slice p.wh x.wher.length p.whc]) (t := 29) (n := w.heap.size + 1) (Holds.new w #[.slice dp.ex d.exits.length dp.exc, .slice dp.pl d.players.length dp.plc, .slice dp.co d.coins.length dp.coc, .slice dp.it d.items.length dp.itc, .slice dp.bo d.boxes.length dp.boc, .int .i64 d.room, .int .i64 d.player, .int .i64 d.box] 26).1 (by simp)).alloc (.cells #[.slice q.d.ex y.d.exits.length q.d.exc, .slice q.d.pl y.d.players.length q.d.plc, .slice q.d.co y.d.coins.length q.d.coc, .slice q.d.it y.d.items.length q.d.itc, .slice q.d.bo y.d.boxes.length q.d.boc, .int .i64 y.d.room, .int .i64 y.d.player, .int .i64 y.d.box, .slice q.at_ y.at_.length q.atc, .slice q.co y.coins.length q.coc, .slice q.wh y.wher.length q.whc] 29)
  have h2 := Holds.newb (w := w) (A := #[.slice q.d.ex y.d.exits.length q.d.exc, .slice q.d.pl y.d.players.length q.d.plc, .slice q.d.co y.d.coins.length q.d.coc, .slice q.d.it y.d.items.length q.d.itc, .slice q.d.bo y.d.boxes.length q.d.boc, .int .i64 y.d.room, .int .i64 y.d.player, .int .i64 y.d.box, .slice q.at_ y.at_.length q.atc, .slice q.co y.coins.length q.coc, .slice q.wh y.wher.length q.whc]) (t := 29) (n := w.heap.size + 1 + 1) ((Holds.new w #[.slice dp.ex d.exits.length dp.exc, .slice dp.pl d.players.length dp.plc, .slice dp.co d.coins.length dp.coc, .slice dp.it d.items.length dp.itc, .slice dp.bo d.boxes.length dp.boc, .int .i64 d.room, .int .i64 d.player, .int .i64 d.box] 26).alloc (.cells #[.slice p.d.ex x.d.exits.length p.d.exc, .slice p.d.pl x.d.players.length p.d.plc, .slice p.d.co x.d.coins.length p.d.coc, .slice p.d.it x.d.items.length p.d.itc, .slice p.d.bo x.d.boxes.length p.d.boc, .int .i64 x.d.room, .int .i64 x.d.player, .int .i64 x.d.box, .slice p.at_ x.at_.length p.atc, .slice p.co x.coins.length p.coc, .slice p.wh x.wher.length p.whc] 29)).1 (by simp)
  have H0 := Lib.hid h0
  have H1 := Lib.hid h1
  have H2 := Lib.hid h2
  clear h0 h1 h2
  go_enter Try.func3, Try.ntmps3
  go_wp2_with fail
  have t0 : w.heap.size + 3 = (((w.alloc (.cells #[.slice dp.ex d.exits.length dp.exc, .slice dp.pl d.players.length dp.plc, .slice dp.co d.coins.length dp.coc, .slice dp.it d.items.length dp.itc, .slice dp.bo d.boxes.length dp.boc, .int .i64 d.room, .int .i64 d.player, .int .i64 d.box] 26)).alloc (.cells #[.slice p.d.ex x.d.exits.length p.d.exc, .slice p.d.pl x.d.players.length p.d.plc, .slice p.d.co x.d.coins.length p.d.coc, .slice p.d.it x.d.items.length p.d.itc, .slice p.d.bo x.d.boxes.length p.d.boc, .int .i64 x.d.room, .int .i64 x.d.player, .int .i64 x.d.box, .slice p.at_ x.at_.length p.atc, .slice p.co x.coins.length p.coc, .slice p.wh x.wher.length p.whc] 29)).alloc (.cells #[.slice q.d.ex y.d.exits.length q.d.exc, .slice q.d.pl y.d.players.length q.d.plc, .slice q.d.co y.d.coins.length q.d.coc, .slice q.d.it y.d.items.length q.d.itc, .slice q.d.bo y.d.boxes.length q.d.boc, .int .i64 y.d.room, .int .i64 y.d.player, .int .i64 y.d.box, .slice q.at_ y.at_.length q.atc, .slice q.co y.coins.length q.coc, .slice q.wh y.wher.length q.whc] 29)).heap.size := by simp
  generalize (((w.alloc (.cells #[.slice dp.ex d.exits.length dp.exc, .slice dp.pl d.players.length dp.plc, .slice dp.co d.coins.length dp.coc, .slice dp.it d.items.length dp.itc, .slice dp.bo d.boxes.length dp.boc, .int .i64 d.room, .int .i64 d.player, .int .i64 d.box] 26)).alloc (.cells #[.slice p.d.ex x.d.exits.length p.d.exc, .slice p.d.pl x.d.players.length p.d.plc, .slice p.d.co x.d.coins.length p.d.coc, .slice p.d.it x.d.items.length p.d.itc, .slice p.d.bo x.d.boxes.length p.d.boc, .int .i64 x.d.room, .int .i64 x.d.player, .int .i64 x.d.box, .slice p.at_ x.at_.length p.atc, .slice p.co x.coins.length p.coc, .slice p.wh x.wher.length p.whc] 29)).alloc (.cells #[.slice q.d.ex y.d.exits.length q.d.exc, .slice q.d.pl y.d.players.length q.d.plc, .slice q.d.co y.d.coins.length q.d.coc, .slice q.d.it y.d.items.length q.d.itc, .slice q.d.bo y.d.boxes.length q.d.boc, .int .i64 y.d.room, .int .i64 y.d.player, .int .i64 y.d.box, .slice q.at_ y.at_.length q.atc, .slice q.co y.coins.length q.coc, .slice q.wh y.wher.length q.whc] 29)) = V0 at *
  refine (awake_any _).mono ?_
  rintro e w1 ⟨rfl, b1⟩
  have HD_1 := Lib.hid (H0.out.call b1)
  have HX_1 := Lib.hid (H1.out.call b1)
  have HY_1 := Lib.hid (H2.out.call b1)
  have s1 := b1.size
  clear b1 H0 H1 H2
  have c0 := HD_1.out.2.2
  have c1 := HX_1.out.2.2
  have c2 := HY_1.out.2.2
  go_wp2_with fail
  clear c0 c1 c2
  refine (few_any ⟨d, [], [], []⟩ ⟨dp, none, 0, none, 0, none, 0⟩ w1).mono ?_
  rintro e w2 ⟨rfl, b2⟩
  rw [F0.out]
  have HD_2 := Lib.hid (HD_1.out.call b2)
  have HX_2 := Lib.hid (HX_1.out.call b2)
  have HY_2 := Lib.hid (HY_1.out.call b2)
  have s2 := b2.size
  clear b2 HD_1 HX_1 HY_1
  have c0 := HD_2.out.2.2
  have c1 := HX_2.out.2.2
  have c2 := HY_2.out.2.2
  go_wp2_with fail
  clear c0 c1 c2
  refine (few_any x p w2).mono ?_
  rintro e w3 ⟨rfl, b3⟩
  rw [F1.out]
  have HD_3 := Lib.hid (HD_2.out.call b3)
  have HX_3 := Lib.hid (HX_2.out.call b3)
  have HY_3 := Lib.hid (HY_2.out.call b3)
  have s3 := b3.size
  clear b3 HD_2 HX_2 HY_2
  have c0 := HD_3.out.2.2
  have c1 := HX_3.out.2.2
  have c2 := HY_3.out.2.2
  go_wp2_with fail
  clear c0 c1 c2
  refine (awake_any _).mono ?_
  rintro e w9 ⟨rfl, b9⟩
  have HD_4 := Lib.hid (HD_3.out.call b9)
  have HX_4 := Lib.hid (HX_3.out.call b9)
  have HY_4 := Lib.hid (HY_3.out.call b9)
  have s4 := b9.size
  clear b9 HD_3 HX_3 HY_3
  go_wp2_with fail
  go_ret
  exact ⟨rfl, HD_4.out.1⟩
set_option maxRecDepth 100000 in
set_option maxHeartbeats 1000000 in
theorem descMakes_few2 (d : Ds) (dp : Dp) (x y : Wd) (p q : Wp) (w : World) (hd : DescAt w dp d) (hx : WorldAt w p x) (hy : WorldAt w q y) (f0 : fewB ⟨d, [], [], []⟩ = true) (f1 : fewB x = true) (f2 : fewB y = false) : Calls Try.prog 3 #[.agg #[.slice dp.ex d.exits.length dp.exc, .slice dp.pl d.players.length dp.plc, .slice dp.co d.coins.length dp.coc, .slice dp.it d.items.length dp.itc, .slice dp.bo d.boxes.length dp.boc, .int .i64 d.room, .int .i64 d.player, .int .i64 d.box], .agg #[.slice p.d.ex x.d.exits.length p.d.exc, .slice p.d.pl x.d.players.length p.d.plc, .slice p.d.co x.d.coins.length p.d.coc, .slice p.d.it x.d.items.length p.d.itc, .slice p.d.bo x.d.boxes.length p.d.boc, .int .i64 x.d.room, .int .i64 x.d.player, .int .i64 x.d.box, .slice p.at_ x.at_.length p.atc, .slice p.co x.coins.length p.coc, .slice p.wh x.wher.length p.whc], .agg #[.slice q.d.ex y.d.exits.length q.d.exc, .slice q.d.pl y.d.players.length q.d.plc, .slice q.d.co y.d.coins.length q.d.coc, .slice q.d.it y.d.items.length q.d.itc, .slice q.d.bo y.d.boxes.length q.d.boc, .int .i64 y.d.room, .int .i64 y.d.player, .int .i64 y.d.box, .slice q.at_ y.at_.length q.atc, .slice q.co y.coins.length q.coc, .slice q.wh y.wher.length q.whc]] w fun e w' => e = .returned (.bool true) ∧ Below w.heap.size w w' := by
  have F0 := Lib.hid f0
  have F1 := Lib.hid f1
  have F2 := Lib.hid f2
  clear hd hx hy f0 f1 f2
  have h0 := ((Holds.new w #[.slice dp.ex d.exits.length dp.exc, .slice dp.pl d.players.length dp.plc, .slice dp.co d.coins.length dp.coc, .slice dp.it d.items.length dp.itc, .slice dp.bo d.boxes.length dp.boc, .int .i64 d.room, .int .i64 d.player, .int .i64 d.box] 26).alloc (.cells #[.slice p.d.ex x.d.exits.length p.d.exc, .slice p.d.pl x.d.players.length p.d.plc, .slice p.d.co x.d.coins.length p.d.coc, .slice p.d.it x.d.items.length p.d.itc, .slice p.d.bo x.d.boxes.length p.d.boc, .int .i64 x.d.room, .int .i64 x.d.player, .int .i64 x.d.box, .slice p.at_ x.at_.length p.atc, .slice p.co x.coins.length p.coc, .slice p.wh x.wher.length p.whc] 29)).alloc (.cells #[.slice q.d.ex y.d.exits.length q.d.exc, .slice q.d.pl y.d.players.length q.d.plc, .slice q.d.co y.d.coins.length q.d.coc, .slice q.d.it y.d.items.length q.d.itc, .slice q.d.bo y.d.boxes.length q.d.boc, .int .i64 y.d.room, .int .i64 y.d.player, .int .i64 y.d.box, .slice q.at_ y.at_.length q.atc, .slice q.co y.coins.length q.coc, .slice q.wh y.wher.length q.whc] 29)
  have h1 := (Holds.newb (w := w) (A := #[.slice p.d.ex x.d.exits.length p.d.exc, .slice p.d.pl x.d.players.length p.d.plc, .slice p.d.co x.d.coins.length p.d.coc, .slice p.d.it x.d.items.length p.d.itc, .slice p.d.bo x.d.boxes.length p.d.boc, .int .i64 x.d.room, .int .i64 x.d.player, .int .i64 x.d.box, .slice p.at_ x.at_.length p.atc, .slice p.co x.coins.length p.coc, .slice p.wh x.wher.length p.whc]) (t := 29) (n := w.heap.size + 1) (Holds.new w #[.slice dp.ex d.exits.length dp.exc, .slice dp.pl d.players.length dp.plc, .slice dp.co d.coins.length dp.coc, .slice dp.it d.items.length dp.itc, .slice dp.bo d.boxes.length dp.boc, .int .i64 d.room, .int .i64 d.player, .int .i64 d.box] 26).1 (by simp)).alloc (.cells #[.slice q.d.ex y.d.exits.length q.d.exc, .slice q.d.pl y.d.players.length q.d.plc, .slice q.d.co y.d.coins.length q.d.coc, .slice q.d.it y.d.items.length q.d.itc, .slice q.d.bo y.d.boxes.length q.d.boc, .int .i64 y.d.room, .int .i64 y.d.player, .int .i64 y.d.box, .slice q.at_ y.at_.length q.atc, .slice q.co y.coins.length q.coc, .slice q.wh y.wher.length q.whc] 29)
  have h2 := Holds.newb (w := w) (A := #[.slice q.d.ex y.d.exits.length q.d.exc, .slice q.d.pl y.d.players.length q.d.plc, .slice q.d.co y.d.coins.length q.d.coc, .slice q.d.it y.d.items.length q.d.itc, .slice q.d.bo y.d.boxes.length q.d.boc, .int .i64 y.d.room, .int .i64 y.d.player, .int .i64 y.d.box, .slice q.at_ y.at_.length q.atc, .slice q.co y.coins.length q.coc, .slice q.wh y.wher.length q.whc]) (t := 29) (n := w.heap.size + 1 + 1) ((Holds.new w #[.slice dp.ex d.exits.length dp.exc, .slice dp.pl d.players.length dp.plc, .slice dp.co d.coins.length dp.coc, .slice dp.it d.items.length dp.itc, .slice dp.bo d.boxes.length dp.boc, .int .i64 d.room, .int .i64 d.player, .int .i64 d.box] 26).alloc (.cells #[.slice p.d.ex x.d.exits.length p.d.exc, .slice p.d.pl x.d.players.length p.d.plc, .slice p.d.co x.d.coins.length p.d.coc, .slice p.d.it x.d.items.length p.d.itc, .slice p.d.bo x.d.boxes.length p.d.boc, .int .i64 x.d.room, .int .i64 x.d.player, .int .i64 x.d.box, .slice p.at_ x.at_.length p.atc, .slice p.co x.coins.length p.coc, .slice p.wh x.wher.length p.whc] 29)).1 (by simp)
  have H0 := Lib.hid h0
  have H1 := Lib.hid h1
  have H2 := Lib.hid h2
  clear h0 h1 h2
  go_enter Try.func3, Try.ntmps3
  go_wp2_with fail
  have t0 : w.heap.size + 3 = (((w.alloc (.cells #[.slice dp.ex d.exits.length dp.exc, .slice dp.pl d.players.length dp.plc, .slice dp.co d.coins.length dp.coc, .slice dp.it d.items.length dp.itc, .slice dp.bo d.boxes.length dp.boc, .int .i64 d.room, .int .i64 d.player, .int .i64 d.box] 26)).alloc (.cells #[.slice p.d.ex x.d.exits.length p.d.exc, .slice p.d.pl x.d.players.length p.d.plc, .slice p.d.co x.d.coins.length p.d.coc, .slice p.d.it x.d.items.length p.d.itc, .slice p.d.bo x.d.boxes.length p.d.boc, .int .i64 x.d.room, .int .i64 x.d.player, .int .i64 x.d.box, .slice p.at_ x.at_.length p.atc, .slice p.co x.coins.length p.coc, .slice p.wh x.wher.length p.whc] 29)).alloc (.cells #[.slice q.d.ex y.d.exits.length q.d.exc, .slice q.d.pl y.d.players.length q.d.plc, .slice q.d.co y.d.coins.length q.d.coc, .slice q.d.it y.d.items.length q.d.itc, .slice q.d.bo y.d.boxes.length q.d.boc, .int .i64 y.d.room, .int .i64 y.d.player, .int .i64 y.d.box, .slice q.at_ y.at_.length q.atc, .slice q.co y.coins.length q.coc, .slice q.wh y.wher.length q.whc] 29)).heap.size := by simp
  generalize (((w.alloc (.cells #[.slice dp.ex d.exits.length dp.exc, .slice dp.pl d.players.length dp.plc, .slice dp.co d.coins.length dp.coc, .slice dp.it d.items.length dp.itc, .slice dp.bo d.boxes.length dp.boc, .int .i64 d.room, .int .i64 d.player, .int .i64 d.box] 26)).alloc (.cells #[.slice p.d.ex x.d.exits.length p.d.exc, .slice p.d.pl x.d.players.length p.d.plc, .slice p.d.co x.d.coins.length p.d.coc, .slice p.d.it x.d.items.length p.d.itc, .slice p.d.bo x.d.boxes.length p.d.boc, .int .i64 x.d.room, .int .i64 x.d.player, .int .i64 x.d.box, .slice p.at_ x.at_.length p.atc, .slice p.co x.coins.length p.coc, .slice p.wh x.wher.length p.whc] 29)).alloc (.cells #[.slice q.d.ex y.d.exits.length q.d.exc, .slice q.d.pl y.d.players.length q.d.plc, .slice q.d.co y.d.coins.length q.d.coc, .slice q.d.it y.d.items.length q.d.itc, .slice q.d.bo y.d.boxes.length q.d.boc, .int .i64 y.d.room, .int .i64 y.d.player, .int .i64 y.d.box, .slice q.at_ y.at_.length q.atc, .slice q.co y.coins.length q.coc, .slice q.wh y.wher.length q.whc] 29)) = V0 at *
  refine (awake_any _).mono ?_
  rintro e w1 ⟨rfl, b1⟩
  have HD_1 := Lib.hid (H0.out.call b1)
  have HX_1 := Lib.hid (H1.out.call b1)
  have HY_1 := Lib.hid (H2.out.call b1)
  have s1 := b1.size
  clear b1 H0 H1 H2
  have c0 := HD_1.out.2.2
  have c1 := HX_1.out.2.2
  have c2 := HY_1.out.2.2
  go_wp2_with fail
  clear c0 c1 c2
  refine (few_any ⟨d, [], [], []⟩ ⟨dp, none, 0, none, 0, none, 0⟩ w1).mono ?_
  rintro e w2 ⟨rfl, b2⟩
  rw [F0.out]
  have HD_2 := Lib.hid (HD_1.out.call b2)
  have HX_2 := Lib.hid (HX_1.out.call b2)
  have HY_2 := Lib.hid (HY_1.out.call b2)
  have s2 := b2.size
  clear b2 HD_1 HX_1 HY_1
  have c0 := HD_2.out.2.2
  have c1 := HX_2.out.2.2
  have c2 := HY_2.out.2.2
  go_wp2_with fail
  clear c0 c1 c2
  refine (few_any x p w2).mono ?_
  rintro e w3 ⟨rfl, b3⟩
  rw [F1.out]
  have HD_3 := Lib.hid (HD_2.out.call b3)
  have HX_3 := Lib.hid (HX_2.out.call b3)
  have HY_3 := Lib.hid (HY_2.out.call b3)
  have s3 := b3.size
  clear b3 HD_2 HX_2 HY_2
  have c0 := HD_3.out.2.2
  have c1 := HX_3.out.2.2
  have c2 := HY_3.out.2.2
  go_wp2_with fail
  clear c0 c1 c2
  refine (few_any y q w3).mono ?_
  rintro e w4 ⟨rfl, b4⟩
  rw [F2.out]
  have HD_4 := Lib.hid (HD_3.out.call b4)
  have HX_4 := Lib.hid (HX_3.out.call b4)
  have HY_4 := Lib.hid (HY_3.out.call b4)
  have s4 := b4.size
  clear b4 HD_3 HX_3 HY_3
  have c0 := HD_4.out.2.2
  have c1 := HX_4.out.2.2
  have c2 := HY_4.out.2.2
  go_wp2_with fail
  clear c0 c1 c2
  refine (awake_any _).mono ?_
  rintro e w9 ⟨rfl, b9⟩
  have HD_5 := Lib.hid (HD_4.out.call b9)
  have HX_5 := Lib.hid (HX_4.out.call b9)
  have HY_5 := Lib.hid (HY_4.out.call b9)
  have s5 := b9.size
  clear b9 HD_4 HX_4 HY_4
  go_wp2_with fail
  go_ret
  exact ⟨rfl, HD_5.out.1⟩
set_option maxRecDepth 100000 in
set_option maxHeartbeats 3000000 in
theorem descMakes_yes (d : Ds) (dp : Dp) (x y : Wd) (p q : Wp) (w : World) (hd : DescAt w dp d) (hx : WorldAt w p x) (hy : WorldAt w q y) (f0 : fewB ⟨d, [], [], []⟩ = true) (f1 : fewB x = true) (f2 : fewB y = true) (hm : mayD d = true) : Calls Try.prog 3 #[.agg #[.slice dp.ex d.exits.length dp.exc, .slice dp.pl d.players.length dp.plc, .slice dp.co d.coins.length dp.coc, .slice dp.it d.items.length dp.itc, .slice dp.bo d.boxes.length dp.boc, .int .i64 d.room, .int .i64 d.player, .int .i64 d.box], .agg #[.slice p.d.ex x.d.exits.length p.d.exc, .slice p.d.pl x.d.players.length p.d.plc, .slice p.d.co x.d.coins.length p.d.coc, .slice p.d.it x.d.items.length p.d.itc, .slice p.d.bo x.d.boxes.length p.d.boc, .int .i64 x.d.room, .int .i64 x.d.player, .int .i64 x.d.box, .slice p.at_ x.at_.length p.atc, .slice p.co x.coins.length p.coc, .slice p.wh x.wher.length p.whc], .agg #[.slice q.d.ex y.d.exits.length q.d.exc, .slice q.d.pl y.d.players.length q.d.plc, .slice q.d.co y.d.coins.length q.d.coc, .slice q.d.it y.d.items.length q.d.itc, .slice q.d.bo y.d.boxes.length q.d.boc, .int .i64 y.d.room, .int .i64 y.d.player, .int .i64 y.d.box, .slice q.at_ y.at_.length q.atc, .slice q.co y.coins.length q.coc, .slice q.wh y.wher.length q.whc]] w fun e w' => e = .returned (.bool true) ∧ Below w.heap.size w w' := by
  have F0 := Lib.hid f0
  have F1 := Lib.hid f1
  have F2 := Lib.hid f2
  have FX := Lib.hid (few_few f1)
  have HM := Lib.hid hm
  have ID := Lib.hid hd
  have IX := Lib.hid hx
  have IY := Lib.hid hy
  clear f0 f1 f2 hm hd hx hy
  have h0 := ((Holds.new w #[.slice dp.ex d.exits.length dp.exc, .slice dp.pl d.players.length dp.plc, .slice dp.co d.coins.length dp.coc, .slice dp.it d.items.length dp.itc, .slice dp.bo d.boxes.length dp.boc, .int .i64 d.room, .int .i64 d.player, .int .i64 d.box] 26).alloc (.cells #[.slice p.d.ex x.d.exits.length p.d.exc, .slice p.d.pl x.d.players.length p.d.plc, .slice p.d.co x.d.coins.length p.d.coc, .slice p.d.it x.d.items.length p.d.itc, .slice p.d.bo x.d.boxes.length p.d.boc, .int .i64 x.d.room, .int .i64 x.d.player, .int .i64 x.d.box, .slice p.at_ x.at_.length p.atc, .slice p.co x.coins.length p.coc, .slice p.wh x.wher.length p.whc] 29)).alloc (.cells #[.slice q.d.ex y.d.exits.length q.d.exc, .slice q.d.pl y.d.players.length q.d.plc, .slice q.d.co y.d.coins.length q.d.coc, .slice q.d.it y.d.items.length q.d.itc, .slice q.d.bo y.d.boxes.length q.d.boc, .int .i64 y.d.room, .int .i64 y.d.player, .int .i64 y.d.box, .slice q.at_ y.at_.length q.atc, .slice q.co y.coins.length q.coc, .slice q.wh y.wher.length q.whc] 29)
  have h1 := (Holds.newb (w := w) (A := #[.slice p.d.ex x.d.exits.length p.d.exc, .slice p.d.pl x.d.players.length p.d.plc, .slice p.d.co x.d.coins.length p.d.coc, .slice p.d.it x.d.items.length p.d.itc, .slice p.d.bo x.d.boxes.length p.d.boc, .int .i64 x.d.room, .int .i64 x.d.player, .int .i64 x.d.box, .slice p.at_ x.at_.length p.atc, .slice p.co x.coins.length p.coc, .slice p.wh x.wher.length p.whc]) (t := 29) (n := w.heap.size + 1) (Holds.new w #[.slice dp.ex d.exits.length dp.exc, .slice dp.pl d.players.length dp.plc, .slice dp.co d.coins.length dp.coc, .slice dp.it d.items.length dp.itc, .slice dp.bo d.boxes.length dp.boc, .int .i64 d.room, .int .i64 d.player, .int .i64 d.box] 26).1 (by simp)).alloc (.cells #[.slice q.d.ex y.d.exits.length q.d.exc, .slice q.d.pl y.d.players.length q.d.plc, .slice q.d.co y.d.coins.length q.d.coc, .slice q.d.it y.d.items.length q.d.itc, .slice q.d.bo y.d.boxes.length q.d.boc, .int .i64 y.d.room, .int .i64 y.d.player, .int .i64 y.d.box, .slice q.at_ y.at_.length q.atc, .slice q.co y.coins.length q.coc, .slice q.wh y.wher.length q.whc] 29)
  have h2 := Holds.newb (w := w) (A := #[.slice q.d.ex y.d.exits.length q.d.exc, .slice q.d.pl y.d.players.length q.d.plc, .slice q.d.co y.d.coins.length q.d.coc, .slice q.d.it y.d.items.length q.d.itc, .slice q.d.bo y.d.boxes.length q.d.boc, .int .i64 y.d.room, .int .i64 y.d.player, .int .i64 y.d.box, .slice q.at_ y.at_.length q.atc, .slice q.co y.coins.length q.coc, .slice q.wh y.wher.length q.whc]) (t := 29) (n := w.heap.size + 1 + 1) ((Holds.new w #[.slice dp.ex d.exits.length dp.exc, .slice dp.pl d.players.length dp.plc, .slice dp.co d.coins.length dp.coc, .slice dp.it d.items.length dp.itc, .slice dp.bo d.boxes.length dp.boc, .int .i64 d.room, .int .i64 d.player, .int .i64 d.box] 26).alloc (.cells #[.slice p.d.ex x.d.exits.length p.d.exc, .slice p.d.pl x.d.players.length p.d.plc, .slice p.d.co x.d.coins.length p.d.coc, .slice p.d.it x.d.items.length p.d.itc, .slice p.d.bo x.d.boxes.length p.d.boc, .int .i64 x.d.room, .int .i64 x.d.player, .int .i64 x.d.box, .slice p.at_ x.at_.length p.atc, .slice p.co x.coins.length p.coc, .slice p.wh x.wher.length p.whc] 29)).1 (by simp)
  have H0 := Lib.hid h0
  have H1 := Lib.hid h1
  have H2 := Lib.hid h2
  clear h0 h1 h2
  go_enter Try.func3, Try.ntmps3
  go_wp2_with fail
  have t0 : w.heap.size + 3 = (((w.alloc (.cells #[.slice dp.ex d.exits.length dp.exc, .slice dp.pl d.players.length dp.plc, .slice dp.co d.coins.length dp.coc, .slice dp.it d.items.length dp.itc, .slice dp.bo d.boxes.length dp.boc, .int .i64 d.room, .int .i64 d.player, .int .i64 d.box] 26)).alloc (.cells #[.slice p.d.ex x.d.exits.length p.d.exc, .slice p.d.pl x.d.players.length p.d.plc, .slice p.d.co x.d.coins.length p.d.coc, .slice p.d.it x.d.items.length p.d.itc, .slice p.d.bo x.d.boxes.length p.d.boc, .int .i64 x.d.room, .int .i64 x.d.player, .int .i64 x.d.box, .slice p.at_ x.at_.length p.atc, .slice p.co x.coins.length p.coc, .slice p.wh x.wher.length p.whc] 29)).alloc (.cells #[.slice q.d.ex y.d.exits.length q.d.exc, .slice q.d.pl y.d.players.length q.d.plc, .slice q.d.co y.d.coins.length q.d.coc, .slice q.d.it y.d.items.length q.d.itc, .slice q.d.bo y.d.boxes.length q.d.boc, .int .i64 y.d.room, .int .i64 y.d.player, .int .i64 y.d.box, .slice q.at_ y.at_.length q.atc, .slice q.co y.coins.length q.coc, .slice q.wh y.wher.length q.whc] 29)).heap.size := by simp
  generalize (((w.alloc (.cells #[.slice dp.ex d.exits.length dp.exc, .slice dp.pl d.players.length dp.plc, .slice dp.co d.coins.length dp.coc, .slice dp.it d.items.length dp.itc, .slice dp.bo d.boxes.length dp.boc, .int .i64 d.room, .int .i64 d.player, .int .i64 d.box] 26)).alloc (.cells #[.slice p.d.ex x.d.exits.length p.d.exc, .slice p.d.pl x.d.players.length p.d.plc, .slice p.d.co x.d.coins.length p.d.coc, .slice p.d.it x.d.items.length p.d.itc, .slice p.d.bo x.d.boxes.length p.d.boc, .int .i64 x.d.room, .int .i64 x.d.player, .int .i64 x.d.box, .slice p.at_ x.at_.length p.atc, .slice p.co x.coins.length p.coc, .slice p.wh x.wher.length p.whc] 29)).alloc (.cells #[.slice q.d.ex y.d.exits.length q.d.exc, .slice q.d.pl y.d.players.length q.d.plc, .slice q.d.co y.d.coins.length q.d.coc, .slice q.d.it y.d.items.length q.d.itc, .slice q.d.bo y.d.boxes.length q.d.boc, .int .i64 y.d.room, .int .i64 y.d.player, .int .i64 y.d.box, .slice q.at_ y.at_.length q.atc, .slice q.co y.coins.length q.coc, .slice q.wh y.wher.length q.whc] 29)) = V0 at *
  refine (awake_any _).mono ?_
  rintro e w1 ⟨rfl, b1⟩
  have HD_1 := Lib.hid (H0.out.call b1)
  have HX_1 := Lib.hid (H1.out.call b1)
  have HY_1 := Lib.hid (H2.out.call b1)
  have s1 := b1.size
  clear b1 H0 H1 H2
  have c0 := HD_1.out.2.2
  have c1 := HX_1.out.2.2
  have c2 := HY_1.out.2.2
  go_wp2_with fail
  clear c0 c1 c2
  refine (few_any ⟨d, [], [], []⟩ ⟨dp, none, 0, none, 0, none, 0⟩ w1).mono ?_
  rintro e w2 ⟨rfl, b2⟩
  rw [F0.out]
  have HD_2 := Lib.hid (HD_1.out.call b2)
  have HX_2 := Lib.hid (HX_1.out.call b2)
  have HY_2 := Lib.hid (HY_1.out.call b2)
  have s2 := b2.size
  clear b2 HD_1 HX_1 HY_1
  have c0 := HD_2.out.2.2
  have c1 := HX_2.out.2.2
  have c2 := HY_2.out.2.2
  go_wp2_with fail
  clear c0 c1 c2
  refine (few_any x p w2).mono ?_
  rintro e w3 ⟨rfl, b3⟩
  rw [F1.out]
  have HD_3 := Lib.hid (HD_2.out.call b3)
  have HX_3 := Lib.hid (HX_2.out.call b3)
  have HY_3 := Lib.hid (HY_2.out.call b3)
  have s3 := b3.size
  clear b3 HD_2 HX_2 HY_2
  have c0 := HD_3.out.2.2
  have c1 := HX_3.out.2.2
  have c2 := HY_3.out.2.2
  go_wp2_with fail
  clear c0 c1 c2
  refine (few_any y q w3).mono ?_
  rintro e w4 ⟨rfl, b4⟩
  rw [F2.out]
  have HD_4 := Lib.hid (HD_3.out.call b4)
  have HX_4 := Lib.hid (HX_3.out.call b4)
  have HY_4 := Lib.hid (HY_3.out.call b4)
  have s4 := b4.size
  clear b4 HD_3 HX_3 HY_3
  have c0 := HD_4.out.2.2
  have c1 := HX_4.out.2.2
  have c2 := HY_4.out.2.2
  go_wp2_with fail
  clear c0 c1 c2
  refine (new_yes d dp w4 (ID.out.below HD_4.out.1 (Nat.le_refl _)) HM.out).mono ?_
  rintro e w5 ⟨n, ⟨d5, a5, ac5, k5, kc5, p5, wc5⟩, hn, rfl, own5, b5⟩
  have HN := Lib.hid hn
  have ON := Lib.hid own5.world
  clear hn own5
  have HD_5 := Lib.hid (HD_4.out.call b5)
  have HX_5 := Lib.hid (HX_4.out.call b5)
  have HY_5 := Lib.hid (HY_4.out.call b5)
  have s5 := b5.size
  clear b5 HD_4 HX_4 HY_4
  have B0 := Lib.hid (Below.refl w5.heap.size w5)
  have l0 : w.heap.size < w5.heap.size := by omega
  have l1 : w.heap.size + 1 < w5.heap.size := by omega
  have l2 : w.heap.size + 1 + 1 < w5.heap.size := by omega
  have z6 : w5.heap.size = w5.heap.size := rfl
  have HA_6 := Lib.hid (Holds.newb (w := w) (A := #[.slice d5.ex n.d.exits.length d5.exc, .slice d5.pl n.d.players.length d5.plc, .slice d5.co n.d.coins.length d5.coc, .slice d5.it n.d.items.length d5.itc, .slice d5.bo n.d.boxes.length d5.boc, .int .i64 n.d.room, .int .i64 n.d.player, .int .i64 n.d.box, .slice a5 n.at_.length ac5, .slice k5 n.coins.length kc5, .slice p5 n.wher.length wc5]) (t := 29) (n := w5.heap.size) HD_5.out.1 (by exact z6))
  have HD_6 := Lib.hid ((HD_5.out.alloc (.cells #[.slice d5.ex n.d.exits.length d5.exc, .slice d5.pl n.d.players.length d5.plc, .slice d5.co n.d.coins.length d5.coc, .slice d5.it n.d.items.length d5.itc, .slice d5.bo n.d.boxes.length d5.boc, .int .i64 n.d.room, .int .i64 n.d.player, .int .i64 n.d.box, .slice a5 n.at_.length ac5, .slice k5 n.coins.length kc5, .slice p5 n.wher.length wc5] 29)))
  have HX_6 := Lib.hid ((HX_5.out.alloc (.cells #[.slice d5.ex n.d.exits.length d5.exc, .slice d5.pl n.d.players.length d5.plc, .slice d5.co n.d.coins.length d5.coc, .slice d5.it n.d.items.length d5.itc, .slice d5.bo n.d.boxes.length d5.boc, .int .i64 n.d.room, .int .i64 n.d.player, .int .i64 n.d.box, .slice a5 n.at_.length ac5, .slice k5 n.coins.length kc5, .slice p5 n.wher.length wc5] 29)))
  have HY_6 := Lib.hid ((HY_5.out.alloc (.cells #[.slice d5.ex n.d.exits.length d5.exc, .slice d5.pl n.d.players.length d5.plc, .slice d5.co n.d.coins.length d5.coc, .slice d5.it n.d.items.length d5.itc, .slice d5.bo n.d.boxes.length d5.boc, .int .i64 n.d.room, .int .i64 n.d.player, .int .i64 n.d.box, .slice a5 n.at_.length ac5, .slice k5 n.coins.length kc5, .slice p5 n.wher.length wc5] 29)))
  have BN_6 := Lib.hid ((B0.out.alloc (by rw [z6]; omega) (.cells #[.slice d5.ex n.d.exits.length d5.exc, .slice d5.pl n.d.players.length d5.plc, .slice d5.co n.d.coins.length d5.coc, .slice d5.it n.d.items.length d5.itc, .slice d5.bo n.d.boxes.length d5.boc, .int .i64 n.d.room, .int .i64 n.d.player, .int .i64 n.d.box, .slice a5 n.at_.length ac5, .slice k5 n.coins.length kc5, .slice p5 n.wher.length wc5] 29)))
  have t6 : w5.heap.size + 1 = (w5.alloc (.cells #[.slice d5.ex n.d.exits.length d5.exc, .slice d5.pl n.d.players.length d5.plc, .slice d5.co n.d.coins.length d5.coc, .slice d5.it n.d.items.length d5.itc, .slice d5.bo n.d.boxes.length d5.boc, .int .i64 n.d.room, .int .i64 n.d.player, .int .i64 n.d.box, .slice a5 n.at_.length ac5, .slice k5 n.coins.length kc5, .slice p5 n.wher.length wc5] 29)).heap.size := by simp [World.setCell]
  clear HD_5 HX_5 HY_5 B0
  have c0 := HD_6.out.2.2
  have c1 := HX_6.out.2.2
  have c2 := HY_6.out.2.2
  go_wp2_with fail
  clear c0 c1 c2
  generalize (w5.alloc (.cells #[.slice d5.ex n.d.exits.length d5.exc, .slice d5.pl n.d.players.length d5.plc, .slice d5.co n.d.coins.length d5.coc, .slice d5.it n.d.items.length d5.itc, .slice d5.bo n.d.boxes.length d5.boc, .int .i64 n.d.room, .int .i64 n.d.player, .int .i64 n.d.box, .slice a5 n.at_.length ac5, .slice k5 n.coins.length kc5, .slice p5 n.wher.length wc5] 29)) = V5 at *
  have DV := Lib.hid (ID.out.below HD_6.out.1 (Nat.le_refl _))
  have XV := Lib.hid (IX.out.below HD_6.out.1 (Nat.le_refl _))
  have YV := Lib.hid (IY.out.below HD_6.out.1 (Nat.le_refl _))
  have KS : Hid (∀ w', Below V5.heap.size V5 w' → Below V5.heap.size V5 w' ∧ (∀ i, w'.cell? ⟨w.heap.size, i, none⟩ = (#[.slice dp.ex d.exits.length dp.exc, .slice dp.pl d.players.length dp.plc, .slice dp.co d.coins.length dp.coc, .slice dp.it d.items.length dp.itc, .slice dp.bo d.boxes.length dp.boc, .int .i64 d.room, .int .i64 d.player, .int .i64 d.box][i]? : Option Value)) ∧ (∀ i, w'.cell? ⟨w.heap.size + 1, i, none⟩ = (#[.slice p.d.ex x.d.exits.length p.d.exc, .slice p.d.pl x.d.players.length p.d.plc, .slice p.d.co x.d.coins.length p.d.coc, .slice p.d.it x.d.items.length p.d.itc, .slice p.d.bo x.d.boxes.length p.d.boc, .int .i64 x.d.room, .int .i64 x.d.player, .int .i64 x.d.box, .slice p.at_ x.at_.length p.atc, .slice p.co x.coins.length p.coc, .slice p.wh x.wher.length p.whc][i]? : Option Value)) ∧ (∀ i, w'.cell? ⟨w.heap.size + 1 + 1, i, none⟩ = (#[.slice q.d.ex y.d.exits.length q.d.exc, .slice q.d.pl y.d.players.length q.d.plc, .slice q.d.co y.d.coins.length q.d.coc, .slice q.d.it y.d.items.length q.d.itc, .slice q.d.bo y.d.boxes.length q.d.boc, .int .i64 y.d.room, .int .i64 y.d.player, .int .i64 y.d.box, .slice q.at_ y.at_.length q.atc, .slice q.co y.coins.length q.coc, .slice q.wh y.wher.length q.whc][i]? : Option Value))) := Lib.hid (fun w' hb => ⟨hb, fun i => (hb.cell (p := ⟨w.heap.size, i, none⟩) HD_6.out.2.1).trans (HD_6.out.2.2 i), fun i => (hb.cell (p := ⟨w.heap.size + 1, i, none⟩) HX_6.out.2.1).trans (HX_6.out.2.2 i), fun i => (hb.cell (p := ⟨w.heap.size + 1 + 1, i, none⟩) HY_6.out.2.1).trans (HY_6.out.2.2 i)⟩)
  obtain ⟨br, hbr⟩ : ∃ b, rightW x = b := ⟨_, rfl⟩
  obtain ⟨bs, hbs⟩ : ∃ b, decide (x = y) = b := ⟨_, rfl⟩
  have RB := Lib.hid hbr
  have SB := Lib.hid hbs
  clear hbr hbs
  generalize (Value.agg #[.slice dp.ex d.exits.length dp.exc, .slice dp.pl d.players.length dp.plc, .slice dp.co d.coins.length dp.coc, .slice dp.it d.items.length dp.itc, .slice dp.bo d.boxes.length dp.boc, .int .i64 d.room, .int .i64 d.player, .int .i64 d.box]) = g0
  generalize (Value.agg #[.slice p.d.ex x.d.exits.length p.d.exc, .slice p.d.pl x.d.players.length p.d.plc, .slice p.d.co x.d.coins.length p.d.coc, .slice p.d.it x.d.items.length p.d.itc, .slice p.d.bo x.d.boxes.length p.d.boc, .int .i64 x.d.room, .int .i64 x.d.player, .int .i64 x.d.box, .slice p.at_ x.at_.length p.atc, .slice p.co x.coins.length p.coc, .slice p.wh x.wher.length p.whc]) = g1
  generalize (Value.agg #[.slice q.d.ex y.d.exits.length q.d.exc, .slice q.d.pl y.d.players.length q.d.plc, .slice q.d.co y.d.coins.length q.d.coc, .slice q.d.it y.d.items.length q.d.itc, .slice q.d.bo y.d.boxes.length q.d.boc, .int .i64 y.d.room, .int .i64 y.d.player, .int .i64 y.d.box, .slice q.at_ y.at_.length q.atc, .slice q.co y.coins.length q.coc, .slice q.wh y.wher.length q.whc]) = g2
  refine wp_region_noPanic ?_
  refine wp_region_held_drew (S := (fun w' => Below V5.heap.size V5 w' ∧ (∀ i, w'.cell? ⟨w.heap.size, i, none⟩ = (#[.slice dp.ex d.exits.length dp.exc, .slice dp.pl d.players.length dp.plc, .slice dp.co d.coins.length dp.coc, .slice dp.it d.items.length dp.itc, .slice dp.bo d.boxes.length dp.boc, .int .i64 d.room, .int .i64 d.player, .int .i64 d.box][i]? : Option Value)) ∧ (∀ i, w'.cell? ⟨w.heap.size + 1, i, none⟩ = (#[.slice p.d.ex x.d.exits.length p.d.exc, .slice p.d.pl x.d.players.length p.d.plc, .slice p.d.co x.d.coins.length p.d.coc, .slice p.d.it x.d.items.length p.d.itc, .slice p.d.bo x.d.boxes.length p.d.boc, .int .i64 x.d.room, .int .i64 x.d.player, .int .i64 x.d.box, .slice p.at_ x.at_.length p.atc, .slice p.co x.coins.length p.coc, .slice p.wh x.wher.length p.whc][i]? : Option Value)) ∧ (∀ i, w'.cell? ⟨w.heap.size + 1 + 1, i, none⟩ = (#[.slice q.d.ex y.d.exits.length q.d.exc, .slice q.d.pl y.d.players.length q.d.plc, .slice q.d.co y.d.coins.length q.d.coc, .slice q.d.it y.d.items.length q.d.itc, .slice q.d.bo y.d.boxes.length q.d.boc, .int .i64 y.d.room, .int .i64 y.d.player, .int .i64 y.d.box, .slice q.at_ y.at_.length q.atc, .slice q.co y.coins.length q.coc, .slice q.wh y.wher.length q.whc][i]? : Option Value)))) (by kernel_rfl) (by (first | (with_reducible exact KS.out _ (bdrew1 (Below.refl _ _))) | (with_reducible exact KS.out _ (below_call hHeld.1 hHeld.1.size hb9)) | (with_reducible exact hHeld))) (fun hHeld => ?_)
  first
    | (refine wpAnyH_take (i := 0) (v := undef) (by simp only [List.getElem?_toArray, List.getElem?_cons_succ, List.getElem?_cons_zero]; rfl) (by kernel_rfl) (by kernel_rfl) (by kernel_rfl) (fun _ _ _ h => h) (Or.inr ⟨by rfl, rfl⟩) (by assumption) ?_; try simp only [Act.put, List.setIfInBounds_toArray, List.set_cons_zero, List.set_cons_succ])
    | (refine wpAnyH_take (i := 0) (v := ?_) (by simp only [List.getElem?_toArray, List.getElem?_cons_succ, List.getElem?_cons_zero]; rfl) (by kernel_rfl) (by kernel_rfl) (by kernel_rfl) (fun _ _ _ h => h) (Or.inl ⟨by rfl, ?_⟩) (by assumption) ?_
       rotate_left
       · (intro ww hSw; (try dsimp only at hSw); go_simp; (try with_reducible rfl))
       try simp only [Act.put, List.setIfInBounds_toArray, List.set_cons_zero, List.set_cons_succ])
    | (refine wpAnyH_ready (rs := [0]) (by kernel_rfl) (by simp) (AllReadyH.cons (by simp only [List.getElem?_toArray, List.getElem?_cons_succ, List.getElem?_cons_zero]; rfl) (fun K hK => ?_) AllReadyH.nil)
       go_simp
       first
         | (fail)
       try go_wp2_with fail
       refine hK.out _ _ (by (first | (with_reducible exact KS.out _ (bdrew1 (Below.refl _ _))) | (with_reducible exact KS.out _ (below_call hHeld.1 hHeld.1.size hb9)) | (with_reducible exact hHeld))) (fun hHeld => ?_)
       clear hK K
       try simp only [Act.put, List.setIfInBounds_toArray, List.set_cons_zero, List.set_cons_succ])
  first
    | (refine wpAnyH_take (i := 2) (v := undef) (by simp only [List.getElem?_toArray, List.getElem?_cons_succ, List.getElem?_cons_zero]; rfl) (by kernel_rfl) (by kernel_rfl) (by kernel_rfl) (fun _ _ _ h => h) (Or.inr ⟨by rfl, rfl⟩) (by assumption) ?_; try simp only [Act.put, List.setIfInBounds_toArray, List.set_cons_zero, List.set_cons_succ])
    | (refine wpAnyH_take (i := 2) (v := ?_) (by simp only [List.getElem?_toArray, List.getElem?_cons_succ, List.getElem?_cons_zero]; rfl) (by kernel_rfl) (by kernel_rfl) (by kernel_rfl) (fun _ _ _ h => h) (Or.inl ⟨by rfl, ?_⟩) (by assumption) ?_
       rotate_left
       · (intro ww hSw; (try dsimp only at hSw); go_simp; (try with_reducible rfl))
       try simp only [Act.put, List.setIfInBounds_toArray, List.set_cons_zero, List.set_cons_succ])
    | (refine wpAnyH_ready (rs := [2]) (by kernel_rfl) (by simp) (AllReadyH.cons (by simp only [List.getElem?_toArray, List.getElem?_cons_succ, List.getElem?_cons_zero]; rfl) (fun K hK => ?_) AllReadyH.nil)
       go_simp
       first
         | (fail)
       try go_wp2_with fail
       refine hK.out _ _ (by (first | (with_reducible exact KS.out _ (bdrew1 (Below.refl _ _))) | (with_reducible exact KS.out _ (below_call hHeld.1 hHeld.1.size hb9)) | (with_reducible exact hHeld))) (fun hHeld => ?_)
       clear hK K
       try simp only [Act.put, List.setIfInBounds_toArray, List.set_cons_zero, List.set_cons_succ])
  refine wpAnyH_ready (rs := [1]) (by kernel_rfl) (by simp) (AllReadyH.cons (by simp only [List.getElem?_toArray, List.getElem?_cons_succ, List.getElem?_cons_zero]; rfl) (fun K hK => ?_) AllReadyH.nil)
  go_simp; refine (may_any d dp _ (DV.out.below hHeld.1 (Nat.le_refl _))).mono ?_; rintro e w9 ⟨rfl, hb9⟩; rw [HM.out]; try go_wp2_with fail
  refine hK.out _ _ (by (first | (with_reducible exact KS.out _ (bdrew1 (Below.refl _ _))) | (with_reducible exact KS.out _ (below_call hHeld.1 hHeld.1.size hb9)) | (with_reducible exact hHeld))) (fun hHeld => ?_)
  clear hK K
  try simp only [Act.put, List.setIfInBounds_toArray, List.set_cons_zero, List.set_cons_succ]
  refine wpAnyH_ready (rs := [3]) (by kernel_rfl) (by simp) (AllReadyH.cons (by simp only [List.getElem?_toArray, List.getElem?_cons_succ, List.getElem?_cons_zero]; rfl) (fun K hK => ?_) AllReadyH.nil)
  go_simp; refine (refmay_any d dp _ (DV.out.below hHeld.1 (Nat.le_refl _))).mono ?_; rintro e w9 ⟨rfl, hb9⟩; rw [HM.out]; try go_wp2_with fail
  refine hK.out _ _ (by (first | (with_reducible exact KS.out _ (bdrew1 (Below.refl _ _))) | (with_reducible exact KS.out _ (below_call hHeld.1 hHeld.1.size hb9)) | (with_reducible exact hHeld))) (fun hHeld => ?_)
  clear hK K
  try simp only [Act.put, List.setIfInBounds_toArray, List.set_cons_zero, List.set_cons_succ]
  first
    | (refine wpAnyH_take (i := 4) (v := undef) (by simp only [List.getElem?_toArray, List.getElem?_cons_succ, List.getElem?_cons_zero]; rfl) (by kernel_rfl) (by kernel_rfl) (by kernel_rfl) (fun _ _ _ h => h) (Or.inr ⟨by rfl, rfl⟩) (by assumption) ?_; try simp only [Act.put, List.setIfInBounds_toArray, List.set_cons_zero, List.set_cons_succ])
    | (refine wpAnyH_take (i := 4) (v := ?_) (by simp only [List.getElem?_toArray, List.getElem?_cons_succ, List.getElem?_cons_zero]; rfl) (by kernel_rfl) (by kernel_rfl) (by kernel_rfl) (fun _ _ _ h => h) (Or.inl ⟨by rfl, ?_⟩) (by assumption) ?_
       rotate_left
       · (intro ww hSw; (try dsimp only at hSw); go_simp; (try with_reducible rfl))
       try simp only [Act.put, List.setIfInBounds_toArray, List.set_cons_zero, List.set_cons_succ])
    | (refine wpAnyH_ready (rs := [4]) (by kernel_rfl) (by simp) (AllReadyH.cons (by simp only [List.getElem?_toArray, List.getElem?_cons_succ, List.getElem?_cons_zero]; rfl) (fun K hK => ?_) AllReadyH.nil)
       go_simp
       first
         | (fail)
       try go_wp2_with fail
       refine hK.out _ _ (by (first | (with_reducible exact KS.out _ (bdrew1 (Below.refl _ _))) | (with_reducible exact KS.out _ (below_call hHeld.1 hHeld.1.size hb9)) | (with_reducible exact hHeld))) (fun hHeld => ?_)
       clear hK K
       try simp only [Act.put, List.setIfInBounds_toArray, List.set_cons_zero, List.set_cons_succ])
  first
    | (refine wpAnyH_take (i := 5) (v := undef) (by simp only [List.getElem?_toArray, List.getElem?_cons_succ, List.getElem?_cons_zero]; rfl) (by kernel_rfl) (by kernel_rfl) (by kernel_rfl) (fun _ _ _ h => h) (Or.inr ⟨by rfl, rfl⟩) (by assumption) ?_; try simp only [Act.put, List.setIfInBounds_toArray, List.set_cons_zero, List.set_cons_succ])
    | (refine wpAnyH_take (i := 5) (v := ?_) (by simp only [List.getElem?_toArray, List.getElem?_cons_succ, List.getElem?_cons_zero]; rfl) (by kernel_rfl) (by kernel_rfl) (by kernel_rfl) (fun _ _ _ h => h) (Or.inl ⟨by rfl, ?_⟩) (by assumption) ?_
       rotate_left
       · (intro ww hSw; (try dsimp only at hSw); go_simp; (try with_reducible rfl))
       try simp only [Act.put, List.setIfInBounds_toArray, List.set_cons_zero, List.set_cons_succ])
    | (refine wpAnyH_ready (rs := [5]) (by kernel_rfl) (by simp) (AllReadyH.cons (by simp only [List.getElem?_toArray, List.getElem?_cons_succ, List.getElem?_cons_zero]; rfl) (fun K hK => ?_) AllReadyH.nil)
       go_simp
       first
         | (fail)
       try go_wp2_with fail
       refine hK.out _ _ (by (first | (with_reducible exact KS.out _ (bdrew1 (Below.refl _ _))) | (with_reducible exact KS.out _ (below_call hHeld.1 hHeld.1.size hb9)) | (with_reducible exact hHeld))) (fun hHeld => ?_)
       clear hK K
       try simp only [Act.put, List.setIfInBounds_toArray, List.set_cons_zero, List.set_cons_succ])
  first
    | (refine wpAnyH_take (i := 6) (v := undef) (by simp only [List.getElem?_toArray, List.getElem?_cons_succ, List.getElem?_cons_zero]; rfl) (by kernel_rfl) (by kernel_rfl) (by kernel_rfl) (fun _ _ _ h => h) (Or.inr ⟨by rfl, rfl⟩) (by assumption) ?_; try simp only [Act.put, List.setIfInBounds_toArray, List.set_cons_zero, List.set_cons_succ])
    | (refine wpAnyH_take (i := 6) (v := ?_) (by simp only [List.getElem?_toArray, List.getElem?_cons_succ, List.getElem?_cons_zero]; rfl) (by kernel_rfl) (by kernel_rfl) (by kernel_rfl) (fun _ _ _ h => h) (Or.inl ⟨by rfl, ?_⟩) (by assumption) ?_
       rotate_left
       · (intro ww hSw; (try dsimp only at hSw); go_simp; (try with_reducible rfl))
       try simp only [Act.put, List.setIfInBounds_toArray, List.set_cons_zero, List.set_cons_succ])
    | (refine wpAnyH_ready (rs := [6]) (by kernel_rfl) (by simp) (AllReadyH.cons (by simp only [List.getElem?_toArray, List.getElem?_cons_succ, List.getElem?_cons_zero]; rfl) (fun K hK => ?_) AllReadyH.nil)
       go_simp
       first
         | (fail)
       try go_wp2_with fail
       refine hK.out _ _ (by (first | (with_reducible exact KS.out _ (bdrew1 (Below.refl _ _))) | (with_reducible exact KS.out _ (below_call hHeld.1 hHeld.1.size hb9)) | (with_reducible exact hHeld))) (fun hHeld => ?_)
       clear hK K
       try simp only [Act.put, List.setIfInBounds_toArray, List.set_cons_zero, List.set_cons_succ])
  first
    | (refine wpAnyH_take (i := 8) (v := undef) (by simp only [List.getElem?_toArray, List.getElem?_cons_succ, List.getElem?_cons_zero]; rfl) (by kernel_rfl) (by kernel_rfl) (by kernel_rfl) (fun _ _ _ h => h) (Or.inr ⟨by rfl, rfl⟩) (by assumption) ?_; try simp only [Act.put, List.setIfInBounds_toArray, List.set_cons_zero, List.set_cons_succ])
    | (refine wpAnyH_take (i := 8) (v := ?_) (by simp only [List.getElem?_toArray, List.getElem?_cons_succ, List.getElem?_cons_zero]; rfl) (by kernel_rfl) (by kernel_rfl) (by kernel_rfl) (fun _ _ _ h => h) (Or.inl ⟨by rfl, ?_⟩) (by assumption) ?_
       rotate_left
       · (intro ww hSw; (try dsimp only at hSw); go_simp; (try with_reducible rfl))
       try simp only [Act.put, List.setIfInBounds_toArray, List.set_cons_zero, List.set_cons_succ])
    | (refine wpAnyH_ready (rs := [8]) (by kernel_rfl) (by simp) (AllReadyH.cons (by simp only [List.getElem?_toArray, List.getElem?_cons_succ, List.getElem?_cons_zero]; rfl) (fun K hK => ?_) AllReadyH.nil)
       go_simp
       first
         | (fail)
       try go_wp2_with fail
       refine hK.out _ _ (by (first | (with_reducible exact KS.out _ (bdrew1 (Below.refl _ _))) | (with_reducible exact KS.out _ (below_call hHeld.1 hHeld.1.size hb9)) | (with_reducible exact hHeld))) (fun hHeld => ?_)
       clear hK K
       try simp only [Act.put, List.setIfInBounds_toArray, List.set_cons_zero, List.set_cons_succ])
  refine wpAnyH_ready (rs := [7]) (by kernel_rfl) (by simp) (AllReadyH.cons (by simp only [List.getElem?_toArray, List.getElem?_cons_succ, List.getElem?_cons_zero]; rfl) (fun K hK => ?_) AllReadyH.nil)
  go_simp; refine (right_any x p _ (XV.out.below hHeld.1 (Nat.le_refl _))).mono ?_; rintro e w9 ⟨rfl, hb9⟩; rw [RB.out]; try go_wp2_with fail
  refine hK.out _ _ (by (first | (with_reducible exact KS.out _ (bdrew1 (Below.refl _ _))) | (with_reducible exact KS.out _ (below_call hHeld.1 hHeld.1.size hb9)) | (with_reducible exact hHeld))) (fun hHeld => ?_)
  clear hK K
  try simp only [Act.put, List.setIfInBounds_toArray, List.set_cons_zero, List.set_cons_succ]
  refine wpAnyH_ready (rs := [9]) (by kernel_rfl) (by simp) (AllReadyH.cons (by simp only [List.getElem?_toArray, List.getElem?_cons_succ, List.getElem?_cons_zero]; rfl) (fun K hK => ?_) AllReadyH.nil)
  go_simp; refine (refright_any x p _ (XV.out.below hHeld.1 (Nat.le_refl _))).mono ?_; rintro e w9 ⟨rfl, hb9⟩; rw [RB.out]; try go_wp2_with fail
  refine hK.out _ _ (by (first | (with_reducible exact KS.out _ (bdrew1 (Below.refl _ _))) | (with_reducible exact KS.out _ (below_call hHeld.1 hHeld.1.size hb9)) | (with_reducible exact hHeld))) (fun hHeld => ?_)
  clear hK K
  try simp only [Act.put, List.setIfInBounds_toArray, List.set_cons_zero, List.set_cons_succ]
  first
    | (refine wpAnyH_take (i := 10) (v := undef) (by simp only [List.getElem?_toArray, List.getElem?_cons_succ, List.getElem?_cons_zero]; rfl) (by kernel_rfl) (by kernel_rfl) (by kernel_rfl) (fun _ _ _ h => h) (Or.inr ⟨by rfl, rfl⟩) (by assumption) ?_; try simp only [Act.put, List.setIfInBounds_toArray, List.set_cons_zero, List.set_cons_succ])
    | (refine wpAnyH_take (i := 10) (v := ?_) (by simp only [List.getElem?_toArray, List.getElem?_cons_succ, List.getElem?_cons_zero]; rfl) (by kernel_rfl) (by kernel_rfl) (by kernel_rfl) (fun _ _ _ h => h) (Or.inl ⟨by rfl, ?_⟩) (by assumption) ?_
       rotate_left
       · (intro ww hSw; (try dsimp only at hSw); go_simp; (try with_reducible rfl))
       try simp only [Act.put, List.setIfInBounds_toArray, List.set_cons_zero, List.set_cons_succ])
    | (refine wpAnyH_ready (rs := [10]) (by kernel_rfl) (by simp) (AllReadyH.cons (by simp only [List.getElem?_toArray, List.getElem?_cons_succ, List.getElem?_cons_zero]; rfl) (fun K hK => ?_) AllReadyH.nil)
       go_simp
       first
         | (fail)
       try go_wp2_with fail
       refine hK.out _ _ (by (first | (with_reducible exact KS.out _ (bdrew1 (Below.refl _ _))) | (with_reducible exact KS.out _ (below_call hHeld.1 hHeld.1.size hb9)) | (with_reducible exact hHeld))) (fun hHeld => ?_)
       clear hK K
       try simp only [Act.put, List.setIfInBounds_toArray, List.set_cons_zero, List.set_cons_succ])
  first
    | (refine wpAnyH_take (i := 11) (v := undef) (by simp only [List.getElem?_toArray, List.getElem?_cons_succ, List.getElem?_cons_zero]; rfl) (by kernel_rfl) (by kernel_rfl) (by kernel_rfl) (fun _ _ _ h => h) (Or.inr ⟨by rfl, rfl⟩) (by assumption) ?_; try simp only [Act.put, List.setIfInBounds_toArray, List.set_cons_zero, List.set_cons_succ])
    | (refine wpAnyH_take (i := 11) (v := ?_) (by simp only [List.getElem?_toArray, List.getElem?_cons_succ, List.getElem?_cons_zero]; rfl) (by kernel_rfl) (by kernel_rfl) (by kernel_rfl) (fun _ _ _ h => h) (Or.inl ⟨by rfl, ?_⟩) (by assumption) ?_
       rotate_left
       · (intro ww hSw; (try dsimp only at hSw); go_simp; (try with_reducible rfl))
       try simp only [Act.put, List.setIfInBounds_toArray, List.set_cons_zero, List.set_cons_succ])
    | (refine wpAnyH_ready (rs := [11]) (by kernel_rfl) (by simp) (AllReadyH.cons (by simp only [List.getElem?_toArray, List.getElem?_cons_succ, List.getElem?_cons_zero]; rfl) (fun K hK => ?_) AllReadyH.nil)
       go_simp
       first
         | (fail)
       try go_wp2_with fail
       refine hK.out _ _ (by (first | (with_reducible exact KS.out _ (bdrew1 (Below.refl _ _))) | (with_reducible exact KS.out _ (below_call hHeld.1 hHeld.1.size hb9)) | (with_reducible exact hHeld))) (fun hHeld => ?_)
       clear hK K
       try simp only [Act.put, List.setIfInBounds_toArray, List.set_cons_zero, List.set_cons_succ])
  first
    | (refine wpAnyH_take (i := 12) (v := undef) (by simp only [List.getElem?_toArray, List.getElem?_cons_succ, List.getElem?_cons_zero]; rfl) (by kernel_rfl) (by kernel_rfl) (by kernel_rfl) (fun _ _ _ h => h) (Or.inr ⟨by rfl, rfl⟩) (by assumption) ?_; try simp only [Act.put, List.setIfInBounds_toArray, List.set_cons_zero, List.set_cons_succ])
    | (refine wpAnyH_take (i := 12) (v := ?_) (by simp only [List.getElem?_toArray, List.getElem?_cons_succ, List.getElem?_cons_zero]; rfl) (by kernel_rfl) (by kernel_rfl) (by kernel_rfl) (fun _ _ _ h => h) (Or.inl ⟨by rfl, ?_⟩) (by assumption) ?_
       rotate_left
       · (intro ww hSw; (try dsimp only at hSw); go_simp; (try with_reducible rfl))
       try simp only [Act.put, List.setIfInBounds_toArray, List.set_cons_zero, List.set_cons_succ])
    | (refine wpAnyH_ready (rs := [12]) (by kernel_rfl) (by simp) (AllReadyH.cons (by simp only [List.getElem?_toArray, List.getElem?_cons_succ, List.getElem?_cons_zero]; rfl) (fun K hK => ?_) AllReadyH.nil)
       go_simp
       first
         | (fail)
       try go_wp2_with fail
       refine hK.out _ _ (by (first | (with_reducible exact KS.out _ (bdrew1 (Below.refl _ _))) | (with_reducible exact KS.out _ (below_call hHeld.1 hHeld.1.size hb9)) | (with_reducible exact hHeld))) (fun hHeld => ?_)
       clear hK K
       try simp only [Act.put, List.setIfInBounds_toArray, List.set_cons_zero, List.set_cons_succ])
  first
    | (refine wpAnyH_take (i := 13) (v := undef) (by simp only [List.getElem?_toArray, List.getElem?_cons_succ, List.getElem?_cons_zero]; rfl) (by kernel_rfl) (by kernel_rfl) (by kernel_rfl) (fun _ _ _ h => h) (Or.inr ⟨by rfl, rfl⟩) (by assumption) ?_; try simp only [Act.put, List.setIfInBounds_toArray, List.set_cons_zero, List.set_cons_succ])
    | (refine wpAnyH_take (i := 13) (v := ?_) (by simp only [List.getElem?_toArray, List.getElem?_cons_succ, List.getElem?_cons_zero]; rfl) (by kernel_rfl) (by kernel_rfl) (by kernel_rfl) (fun _ _ _ h => h) (Or.inl ⟨by rfl, ?_⟩) (by assumption) ?_
       rotate_left
       · (intro ww hSw; (try dsimp only at hSw); go_simp; (try with_reducible rfl))
       try simp only [Act.put, List.setIfInBounds_toArray, List.set_cons_zero, List.set_cons_succ])
    | (refine wpAnyH_ready (rs := [13]) (by kernel_rfl) (by simp) (AllReadyH.cons (by simp only [List.getElem?_toArray, List.getElem?_cons_succ, List.getElem?_cons_zero]; rfl) (fun K hK => ?_) AllReadyH.nil)
       go_simp
       first
         | (fail)
       try go_wp2_with fail
       refine hK.out _ _ (by (first | (with_reducible exact KS.out _ (bdrew1 (Below.refl _ _))) | (with_reducible exact KS.out _ (below_call hHeld.1 hHeld.1.size hb9)) | (with_reducible exact hHeld))) (fun hHeld => ?_)
       clear hK K
       try simp only [Act.put, List.setIfInBounds_toArray, List.set_cons_zero, List.set_cons_succ])
  first
    | (refine wpAnyH_take (i := 14) (v := undef) (by simp only [List.getElem?_toArray, List.getElem?_cons_succ, List.getElem?_cons_zero]; rfl) (by kernel_rfl) (by kernel_rfl) (by kernel_rfl) (fun _ _ _ h => h) (Or.inr ⟨by rfl, rfl⟩) (by assumption) ?_; try simp only [Act.put, List.setIfInBounds_toArray, List.set_cons_zero, List.set_cons_succ])
    | (refine wpAnyH_take (i := 14) (v := ?_) (by simp only [List.getElem?_toArray, List.getElem?_cons_succ, List.getElem?_cons_zero]; rfl) (by kernel_rfl) (by kernel_rfl) (by kernel_rfl) (fun _ _ _ h => h) (Or.inl ⟨by rfl, ?_⟩) (by assumption) ?_
       rotate_left
       · (intro ww hSw; (try dsimp only at hSw); go_simp; (try with_reducible rfl))
       try simp only [Act.put, List.setIfInBounds_toArray, List.set_cons_zero, List.set_cons_succ])
    | (refine wpAnyH_ready (rs := [14]) (by kernel_rfl) (by simp) (AllReadyH.cons (by simp only [List.getElem?_toArray, List.getElem?_cons_succ, List.getElem?_cons_zero]; rfl) (fun K hK => ?_) AllReadyH.nil)
       go_simp
       first
         | (fail)
       try go_wp2_with fail
       refine hK.out _ _ (by (first | (with_reducible exact KS.out _ (bdrew1 (Below.refl _ _))) | (with_reducible exact KS.out _ (below_call hHeld.1 hHeld.1.size hb9)) | (with_reducible exact hHeld))) (fun hHeld => ?_)
       clear hK K
       try simp only [Act.put, List.setIfInBounds_toArray, List.set_cons_zero, List.set_cons_succ])
  first
    | (refine wpAnyH_take (i := 16) (v := undef) (by simp only [List.getElem?_toArray, List.getElem?_cons_succ, List.getElem?_cons_zero]; rfl) (by kernel_rfl) (by kernel_rfl) (by kernel_rfl) (fun _ _ _ h => h) (Or.inr ⟨by rfl, rfl⟩) (by assumption) ?_; try simp only [Act.put, List.setIfInBounds_toArray, List.set_cons_zero, List.set_cons_succ])
    | (refine wpAnyH_take (i := 16) (v := ?_) (by simp only [List.getElem?_toArray, List.getElem?_cons_succ, List.getElem?_cons_zero]; rfl) (by kernel_rfl) (by kernel_rfl) (by kernel_rfl) (fun _ _ _ h => h) (Or.inl ⟨by rfl, ?_⟩) (by assumption) ?_
       rotate_left
       · (intro ww hSw; (try dsimp only at hSw); go_simp; (try with_reducible rfl))
       try simp only [Act.put, List.setIfInBounds_toArray, List.set_cons_zero, List.set_cons_succ])
    | (refine wpAnyH_ready (rs := [16]) (by kernel_rfl) (by simp) (AllReadyH.cons (by simp only [List.getElem?_toArray, List.getElem?_cons_succ, List.getElem?_cons_zero]; rfl) (fun K hK => ?_) AllReadyH.nil)
       go_simp
       first
         | (fail)
       try go_wp2_with fail
       refine hK.out _ _ (by (first | (with_reducible exact KS.out _ (bdrew1 (Below.refl _ _))) | (with_reducible exact KS.out _ (below_call hHeld.1 hHeld.1.size hb9)) | (with_reducible exact hHeld))) (fun hHeld => ?_)
       clear hK K
       try simp only [Act.put, List.setIfInBounds_toArray, List.set_cons_zero, List.set_cons_succ])
  first
    | (refine wpAnyH_take (i := 17) (v := undef) (by simp only [List.getElem?_toArray, List.getElem?_cons_succ, List.getElem?_cons_zero]; rfl) (by kernel_rfl) (by kernel_rfl) (by kernel_rfl) (fun _ _ _ h => h) (Or.inr ⟨by rfl, rfl⟩) (by assumption) ?_; try simp only [Act.put, List.setIfInBounds_toArray, List.set_cons_zero, List.set_cons_succ])
    | (refine wpAnyH_take (i := 17) (v := ?_) (by simp only [List.getElem?_toArray, List.getElem?_cons_succ, List.getElem?_cons_zero]; rfl) (by kernel_rfl) (by kernel_rfl) (by kernel_rfl) (fun _ _ _ h => h) (Or.inl ⟨by rfl, ?_⟩) (by assumption) ?_
       rotate_left
       · (intro ww hSw; (try dsimp only at hSw); go_simp; (try with_reducible rfl))
       try simp only [Act.put, List.setIfInBounds_toArray, List.set_cons_zero, List.set_cons_succ])
    | (refine wpAnyH_ready (rs := [17]) (by kernel_rfl) (by simp) (AllReadyH.cons (by simp only [List.getElem?_toArray, List.getElem?_cons_succ, List.getElem?_cons_zero]; rfl) (fun K hK => ?_) AllReadyH.nil)
       go_simp
       first
         | (fail)
       try go_wp2_with fail
       refine hK.out _ _ (by (first | (with_reducible exact KS.out _ (bdrew1 (Below.refl _ _))) | (with_reducible exact KS.out _ (below_call hHeld.1 hHeld.1.size hb9)) | (with_reducible exact hHeld))) (fun hHeld => ?_)
       clear hK K
       try simp only [Act.put, List.setIfInBounds_toArray, List.set_cons_zero, List.set_cons_succ])
  refine wpAnyH_ready (rs := [15]) (by kernel_rfl) (by simp) (AllReadyH.cons (by simp only [List.getElem?_toArray, List.getElem?_cons_succ, List.getElem?_cons_zero]; rfl) (fun K hK => ?_) AllReadyH.nil)
  go_simp; refine (same_any x y p q _ (XV.out.below hHeld.1 (Nat.le_refl _)) (YV.out.below hHeld.1 (Nat.le_refl _))).mono ?_; rintro e w9 ⟨rfl, hb9⟩; rw [SB.out]; try go_wp2_with fail
  refine hK.out _ _ (by (first | (with_reducible exact KS.out _ (bdrew1 (Below.refl _ _))) | (with_reducible exact KS.out _ (below_call hHeld.1 hHeld.1.size hb9)) | (with_reducible exact hHeld))) (fun hHeld => ?_)
  clear hK K
  try simp only [Act.put, List.setIfInBounds_toArray, List.set_cons_zero, List.set_cons_succ]
  refine wpAnyH_ready (rs := [18]) (by kernel_rfl) (by simp) (AllReadyH.cons (by simp only [List.getElem?_toArray, List.getElem?_cons_succ, List.getElem?_cons_zero]; rfl) (fun K hK => ?_) AllReadyH.nil)
  go_simp; refine (refsame_any x y p q _ (XV.out.below hHeld.1 (Nat.le_refl _)) (YV.out.below hHeld.1 (Nat.le_refl _))).mono ?_; rintro e w9 ⟨rfl, hb9⟩; rw [SB.out]; try go_wp2_with fail
  refine hK.out _ _ (by (first | (with_reducible exact KS.out _ (bdrew1 (Below.refl _ _))) | (with_reducible exact KS.out _ (below_call hHeld.1 hHeld.1.size hb9)) | (with_reducible exact hHeld))) (fun hHeld => ?_)
  clear hK K
  try simp only [Act.put, List.setIfInBounds_toArray, List.set_cons_zero, List.set_cons_succ]
  first
    | (refine wpAnyH_take (i := 19) (v := undef) (by simp only [List.getElem?_toArray, List.getElem?_cons_succ, List.getElem?_cons_zero]; rfl) (by kernel_rfl) (by kernel_rfl) (by kernel_rfl) (fun _ _ _ h => h) (Or.inr ⟨by rfl, rfl⟩) (by assumption) ?_; try simp only [Act.put, List.setIfInBounds_toArray, List.set_cons_zero, List.set_cons_succ])
    | (refine wpAnyH_take (i := 19) (v := ?_) (by simp only [List.getElem?_toArray, List.getElem?_cons_succ, List.getElem?_cons_zero]; rfl) (by kernel_rfl) (by kernel_rfl) (by kernel_rfl) (fun _ _ _ h => h) (Or.inl ⟨by rfl, ?_⟩) (by assumption) ?_
       rotate_left
       · (intro ww hSw; (try dsimp only at hSw); go_simp; (try with_reducible rfl))
       try simp only [Act.put, List.setIfInBounds_toArray, List.set_cons_zero, List.set_cons_succ])
    | (refine wpAnyH_ready (rs := [19]) (by kernel_rfl) (by simp) (AllReadyH.cons (by simp only [List.getElem?_toArray, List.getElem?_cons_succ, List.getElem?_cons_zero]; rfl) (fun K hK => ?_) AllReadyH.nil)
       go_simp
       first
         | (fail)
       try go_wp2_with fail
       refine hK.out _ _ (by (first | (with_reducible exact KS.out _ (bdrew1 (Below.refl _ _))) | (with_reducible exact KS.out _ (below_call hHeld.1 hHeld.1.size hb9)) | (with_reducible exact hHeld))) (fun hHeld => ?_)
       clear hK K
       try simp only [Act.put, List.setIfInBounds_toArray, List.set_cons_zero, List.set_cons_succ])
  first
    | (refine wpAnyH_take (i := 20) (v := undef) (by simp only [List.getElem?_toArray, List.getElem?_cons_succ, List.getElem?_cons_zero]; rfl) (by kernel_rfl) (by kernel_rfl) (by kernel_rfl) (fun _ _ _ h => h) (Or.inr ⟨by rfl, rfl⟩) (by assumption) ?_; try simp only [Act.put, List.setIfInBounds_toArray, List.set_cons_zero, List.set_cons_succ])
    | (refine wpAnyH_take (i := 20) (v := ?_) (by simp only [List.getElem?_toArray, List.getElem?_cons_succ, List.getElem?_cons_zero]; rfl) (by kernel_rfl) (by kernel_rfl) (by kernel_rfl) (fun _ _ _ h => h) (Or.inl ⟨by rfl, ?_⟩) (by assumption) ?_
       rotate_left
       · (intro ww hSw; (try dsimp only at hSw); go_simp; (try with_reducible rfl))
       try simp only [Act.put, List.setIfInBounds_toArray, List.set_cons_zero, List.set_cons_succ])
    | (refine wpAnyH_ready (rs := [20]) (by kernel_rfl) (by simp) (AllReadyH.cons (by simp only [List.getElem?_toArray, List.getElem?_cons_succ, List.getElem?_cons_zero]; rfl) (fun K hK => ?_) AllReadyH.nil)
       go_simp
       first
         | (fail)
       try go_wp2_with fail
       refine hK.out _ _ (by (first | (with_reducible exact KS.out _ (bdrew1 (Below.refl _ _))) | (with_reducible exact KS.out _ (below_call hHeld.1 hHeld.1.size hb9)) | (with_reducible exact hHeld))) (fun hHeld => ?_)
       clear hK K
       try simp only [Act.put, List.setIfInBounds_toArray, List.set_cons_zero, List.set_cons_succ])
  first
    | (refine wpAnyH_take (i := 21) (v := undef) (by simp only [List.getElem?_toArray, List.getElem?_cons_succ, List.getElem?_cons_zero]; rfl) (by kernel_rfl) (by kernel_rfl) (by kernel_rfl) (fun _ _ _ h => h) (Or.inr ⟨by rfl, rfl⟩) (by assumption) ?_; try simp only [Act.put, List.setIfInBounds_toArray, List.set_cons_zero, List.set_cons_succ])
    | (refine wpAnyH_take (i := 21) (v := ?_) (by simp only [List.getElem?_toArray, List.getElem?_cons_succ, List.getElem?_cons_zero]; rfl) (by kernel_rfl) (by kernel_rfl) (by kernel_rfl) (fun _ _ _ h => h) (Or.inl ⟨by rfl, ?_⟩) (by assumption) ?_
       rotate_left
       · (intro ww hSw; (try dsimp only at hSw); go_simp; (try with_reducible rfl))
       try simp only [Act.put, List.setIfInBounds_toArray, List.set_cons_zero, List.set_cons_succ])
    | (refine wpAnyH_ready (rs := [21]) (by kernel_rfl) (by simp) (AllReadyH.cons (by simp only [List.getElem?_toArray, List.getElem?_cons_succ, List.getElem?_cons_zero]; rfl) (fun K hK => ?_) AllReadyH.nil)
       go_simp
       first
         | (fail)
       try go_wp2_with fail
       refine hK.out _ _ (by (first | (with_reducible exact KS.out _ (bdrew1 (Below.refl _ _))) | (with_reducible exact KS.out _ (below_call hHeld.1 hHeld.1.size hb9)) | (with_reducible exact hHeld))) (fun hHeld => ?_)
       clear hK K
       try simp only [Act.put, List.setIfInBounds_toArray, List.set_cons_zero, List.set_cons_succ])
  first
    | (refine wpAnyH_take (i := 22) (v := undef) (by simp only [List.getElem?_toArray, List.getElem?_cons_succ, List.getElem?_cons_zero]; rfl) (by kernel_rfl) (by kernel_rfl) (by kernel_rfl) (fun _ _ _ h => h) (Or.inr ⟨by rfl, rfl⟩) (by assumption) ?_; try simp only [Act.put, List.setIfInBounds_toArray, List.set_cons_zero, List.set_cons_succ])
    | (refine wpAnyH_take (i := 22) (v := ?_) (by simp only [List.getElem?_toArray, List.getElem?_cons_succ, List.getElem?_cons_zero]; rfl) (by kernel_rfl) (by kernel_rfl) (by kernel_rfl) (fun _ _ _ h => h) (Or.inl ⟨by rfl, ?_⟩) (by assumption) ?_
       rotate_left
       · (intro ww hSw; (try dsimp only at hSw); go_simp; (try with_reducible rfl))
       try simp only [Act.put, List.setIfInBounds_toArray, List.set_cons_zero, List.set_cons_succ])
    | (refine wpAnyH_ready (rs := [22]) (by kernel_rfl) (by simp) (AllReadyH.cons (by simp only [List.getElem?_toArray, List.getElem?_cons_succ, List.getElem?_cons_zero]; rfl) (fun K hK => ?_) AllReadyH.nil)
       go_simp
       first
         | (fail)
       try go_wp2_with fail
       refine hK.out _ _ (by (first | (with_reducible exact KS.out _ (bdrew1 (Below.refl _ _))) | (with_reducible exact KS.out _ (below_call hHeld.1 hHeld.1.size hb9)) | (with_reducible exact hHeld))) (fun hHeld => ?_)
       clear hK K
       try simp only [Act.put, List.setIfInBounds_toArray, List.set_cons_zero, List.set_cons_succ])
  first
    | (refine wpAnyH_take (i := 24) (v := undef) (by simp only [List.getElem?_toArray, List.getElem?_cons_succ, List.getElem?_cons_zero]; rfl) (by kernel_rfl) (by kernel_rfl) (by kernel_rfl) (fun _ _ _ h => h) (Or.inr ⟨by rfl, rfl⟩) (by assumption) ?_; try simp only [Act.put, List.setIfInBounds_toArray, List.set_cons_zero, List.set_cons_succ])
    | (refine wpAnyH_take (i := 24) (v := ?_) (by simp only [List.getElem?_toArray, List.getElem?_cons_succ, List.getElem?_cons_zero]; rfl) (by kernel_rfl) (by kernel_rfl) (by kernel_rfl) (fun _ _ _ h => h) (Or.inl ⟨by rfl, ?_⟩) (by assumption) ?_
       rotate_left
       · (intro ww hSw; (try dsimp only at hSw); go_simp; (try with_reducible rfl))
       try simp only [Act.put, List.setIfInBounds_toArray, List.set_cons_zero, List.set_cons_succ])
    | (refine wpAnyH_ready (rs := [24]) (by kernel_rfl) (by simp) (AllReadyH.cons (by simp only [List.getElem?_toArray, List.getElem?_cons_succ, List.getElem?_cons_zero]; rfl) (fun K hK => ?_) AllReadyH.nil)
       go_simp
       first
         | (fail)
       try go_wp2_with fail
       refine hK.out _ _ (by (first | (with_reducible exact KS.out _ (bdrew1 (Below.refl _ _))) | (with_reducible exact KS.out _ (below_call hHeld.1 hHeld.1.size hb9)) | (with_reducible exact hHeld))) (fun hHeld => ?_)
       clear hK K
       try simp only [Act.put, List.setIfInBounds_toArray, List.set_cons_zero, List.set_cons_succ])
  refine wpAnyH_ready (rs := [23]) (by kernel_rfl) (by simp) (AllReadyH.cons (by simp only [List.getElem?_toArray, List.getElem?_cons_succ, List.getElem?_cons_zero]; rfl) (fun K hK => ?_) AllReadyH.nil)
  go_simp; refine (copy_any x p _ (XV.out.below hHeld.1 (Nat.le_refl _)) FX.out).mono ?_; rintro e w9 ⟨q9, rfl, ow9, hb9⟩; try go_wp2_with fail
  refine hK.out _ _ (by (first | (with_reducible exact KS.out _ (bdrew1 (Below.refl _ _))) | (with_reducible exact KS.out _ (below_call hHeld.1 hHeld.1.size hb9)) | (with_reducible exact hHeld))) (fun hHeld => ?_)
  clear hK K
  try simp only [Act.put, List.setIfInBounds_toArray, List.set_cons_zero, List.set_cons_succ]
  refine wpAnyH_ready (rs := [25]) (by kernel_rfl) (by simp) (AllReadyH.cons (by simp only [List.getElem?_toArray, List.getElem?_cons_succ, List.getElem?_cons_zero]; rfl) (fun K hK => ?_) AllReadyH.nil)
  go_simp; refine (same_yes (Shape.refl x) (Shape.refl x) rfl q9 p _ ow9.world (XV.out.below hHeld.1 (Nat.le_refl _))).mono ?_; rintro e w9 ⟨rfl, hb9⟩; try go_wp2_with fail
  refine hK.out _ _ (by (first | (with_reducible exact KS.out _ (bdrew1 (Below.refl _ _))) | (with_reducible exact KS.out _ (below_call hHeld.1 hHeld.1.size hb9)) | (with_reducible exact hHeld))) (fun hHeld => ?_)
  clear hK K
  try simp only [Act.put, List.setIfInBounds_toArray, List.set_cons_zero, List.set_cons_succ]
  first
    | (refine wpAnyH_take (i := 26) (v := undef) (by simp only [List.getElem?_toArray, List.getElem?_cons_succ, List.getElem?_cons_zero]; rfl) (by kernel_rfl) (by kernel_rfl) (by kernel_rfl) (fun _ _ _ h => h) (Or.inr ⟨by rfl, rfl⟩) (by assumption) ?_; try simp only [Act.put, List.setIfInBounds_toArray, List.set_cons_zero, List.set_cons_succ])
    | (refine wpAnyH_take (i := 26) (v := ?_) (by simp only [List.getElem?_toArray, List.getElem?_cons_succ, List.getElem?_cons_zero]; rfl) (by kernel_rfl) (by kernel_rfl) (by kernel_rfl) (fun _ _ _ h => h) (Or.inl ⟨by rfl, ?_⟩) (by assumption) ?_
       rotate_left
       · (intro ww hSw; (try dsimp only at hSw); go_simp; (try with_reducible rfl))
       try simp only [Act.put, List.setIfInBounds_toArray, List.set_cons_zero, List.set_cons_succ])
    | (refine wpAnyH_ready (rs := [26]) (by kernel_rfl) (by simp) (AllReadyH.cons (by simp only [List.getElem?_toArray, List.getElem?_cons_succ, List.getElem?_cons_zero]; rfl) (fun K hK => ?_) AllReadyH.nil)
       go_simp
       first
         | (fail)
       try go_wp2_with fail
       refine hK.out _ _ (by (first | (with_reducible exact KS.out _ (bdrew1 (Below.refl _ _))) | (with_reducible exact KS.out _ (below_call hHeld.1 hHeld.1.size hb9)) | (with_reducible exact hHeld))) (fun hHeld => ?_)
       clear hK K
       try simp only [Act.put, List.setIfInBounds_toArray, List.set_cons_zero, List.set_cons_succ])
  first
    | (refine wpAnyH_take (i := 27) (v := undef) (by simp only [List.getElem?_toArray, List.getElem?_cons_succ, List.getElem?_cons_zero]; rfl) (by kernel_rfl) (by kernel_rfl) (by kernel_rfl) (fun _ _ _ h => h) (Or.inr ⟨by rfl, rfl⟩) (by assumption) ?_; try simp only [Act.put, List.setIfInBounds_toArray, List.set_cons_zero, List.set_cons_succ])
    | (refine wpAnyH_take (i := 27) (v := ?_) (by simp only [List.getElem?_toArray, List.getElem?_cons_succ, List.getElem?_cons_zero]; rfl) (by kernel_rfl) (by kernel_rfl) (by kernel_rfl) (fun _ _ _ h => h) (Or.inl ⟨by rfl, ?_⟩) (by assumption) ?_
       rotate_left
       · (intro ww hSw; (try dsimp only at hSw); go_simp; (try with_reducible rfl))
       try simp only [Act.put, List.setIfInBounds_toArray, List.set_cons_zero, List.set_cons_succ])
    | (refine wpAnyH_ready (rs := [27]) (by kernel_rfl) (by simp) (AllReadyH.cons (by simp only [List.getElem?_toArray, List.getElem?_cons_succ, List.getElem?_cons_zero]; rfl) (fun K hK => ?_) AllReadyH.nil)
       go_simp
       first
         | (fail)
       try go_wp2_with fail
       refine hK.out _ _ (by (first | (with_reducible exact KS.out _ (bdrew1 (Below.refl _ _))) | (with_reducible exact KS.out _ (below_call hHeld.1 hHeld.1.size hb9)) | (with_reducible exact hHeld))) (fun hHeld => ?_)
       clear hK K
       try simp only [Act.put, List.setIfInBounds_toArray, List.set_cons_zero, List.set_cons_succ])
  refine wpAnyH_done (by kernel_rfl) ?_ _
  refine NoPanic.normal ?_
  have BR := Lib.hid hHeld.1
  have c0 := hHeld.2.1
  have HA6 := Lib.hid (HA_6.out.call hHeld.1)
  have ca := HA6.out.2.2
  have BN6 := Lib.hid (below_call BN_6.out (by omega) hHeld.1)
  have HD6 := Lib.hid (HD_6.out.call hHeld.1)
  clear hHeld
  go_wp2_with fail
  refine (refmay_any d dp _ (ID.out.below HD6.out.1 (Nat.le_refl _))).mono ?_
  rintro e w7 ⟨rfl, b7⟩
  rw [HM.out]
  have HD7 := Lib.hid (HD6.out.call b7)
  have HA7 := Lib.hid (HA6.out.call b7)
  clear c0 ca
  have c0 := HD7.out.2.2
  have ca := HA7.out.2.2
  have s6 := BR.out.size
  have BN7 := Lib.hid (below_call BN6.out (by omega) b7)
  clear b7
  go_wp2_with fail
  have KS2 : Hid (∀ w', Below w7.heap.size w7 w' → Below w7.heap.size w7 w' ∧ (∀ i, w'.cell? ⟨w.heap.size, i, none⟩ = (#[.slice dp.ex d.exits.length dp.exc, .slice dp.pl d.players.length dp.plc, .slice dp.co d.coins.length dp.coc, .slice dp.it d.items.length dp.itc, .slice dp.bo d.boxes.length dp.boc, .int .i64 d.room, .int .i64 d.player, .int .i64 d.box][i]? : Option Value)) ∧ (∀ i, w'.cell? ⟨w5.heap.size, i, none⟩ = (#[.slice d5.ex n.d.exits.length d5.exc, .slice d5.pl n.d.players.length d5.plc, .slice d5.co n.d.coins.length d5.coc, .slice d5.it n.d.items.length d5.itc, .slice d5.bo n.d.boxes.length d5.boc, .int .i64 n.d.room, .int .i64 n.d.player, .int .i64 n.d.box, .slice a5 n.at_.length ac5, .slice k5 n.coins.length kc5, .slice p5 n.wher.length wc5][i]? : Option Value))) := Lib.hid (fun w' hb => ⟨hb, fun i => (hb.cell (p := ⟨w.heap.size, i, none⟩) HD7.out.2.1).trans (HD7.out.2.2 i), fun i => (hb.cell (p := ⟨w5.heap.size, i, none⟩) HA7.out.2.1).trans (HA7.out.2.2 i)⟩)
  have AV := Lib.hid (ON.out.below BN7.out (Nat.le_refl _))
  have DV7 := Lib.hid (ID.out.below HD7.out.1 (Nat.le_refl _))
  have HB7 := Lib.hid HD7.out.1
  clear c0 ca
  refine wp_region_noPanic ?_
  refine wp_region_held_drew (S := (fun w' => Below w7.heap.size w7 w' ∧ (∀ i, w'.cell? ⟨w.heap.size, i, none⟩ = (#[.slice dp.ex d.exits.length dp.exc, .slice dp.pl d.players.length dp.plc, .slice dp.co d.coins.length dp.coc, .slice dp.it d.items.length dp.itc, .slice dp.bo d.boxes.length dp.boc, .int .i64 d.room, .int .i64 d.player, .int .i64 d.box][i]? : Option Value)) ∧ (∀ i, w'.cell? ⟨w5.heap.size, i, none⟩ = (#[.slice d5.ex n.d.exits.length d5.exc, .slice d5.pl n.d.players.length d5.plc, .slice d5.co n.d.coins.length d5.coc, .slice d5.it n.d.items.length d5.itc, .slice d5.bo n.d.boxes.length d5.boc, .int .i64 n.d.room, .int .i64 n.d.player, .int .i64 n.d.box, .slice a5 n.at_.length ac5, .slice k5 n.coins.length kc5, .slice p5 n.wher.length wc5][i]? : Option Value)))) (by kernel_rfl) (by (first | (with_reducible exact KS2.out _ (bdrew1 (Below.refl _ _))) | (with_reducible exact KS2.out _ (below_call hHeld.1 hHeld.1.size hb9)) | (with_reducible exact hHeld))) (fun hHeld => ?_)
  first
    | (refine wpAnyH_take (i := 0) (v := undef) (by simp only [List.getElem?_toArray, List.getElem?_cons_succ, List.getElem?_cons_zero]; rfl) (by kernel_rfl) (by kernel_rfl) (by kernel_rfl) (fun _ _ _ h => h) (Or.inr ⟨by rfl, rfl⟩) (by assumption) ?_; try simp only [Act.put, List.setIfInBounds_toArray, List.set_cons_zero, List.set_cons_succ])
    | (refine wpAnyH_take (i := 0) (v := ?_) (by simp only [List.getElem?_toArray, List.getElem?_cons_succ, List.getElem?_cons_zero]; rfl) (by kernel_rfl) (by kernel_rfl) (by kernel_rfl) (fun _ _ _ h => h) (Or.inl ⟨by rfl, ?_⟩) (by assumption) ?_
       rotate_left
       · (intro ww hSw; (try dsimp only at hSw); go_simp; (try with_reducible rfl))
       try simp only [Act.put, List.setIfInBounds_toArray, List.set_cons_zero, List.set_cons_succ])
    | (refine wpAnyH_ready (rs := [0]) (by kernel_rfl) (by simp) (AllReadyH.cons (by simp only [List.getElem?_toArray, List.getElem?_cons_succ, List.getElem?_cons_zero]; rfl) (fun K hK => ?_) AllReadyH.nil)
       go_simp
       first
         | (fail)
       try go_wp2_with fail
       refine hK.out _ _ (by (first | (with_reducible exact KS2.out _ (bdrew1 (Below.refl _ _))) | (with_reducible exact KS2.out _ (below_call hHeld.1 hHeld.1.size hb9)) | (with_reducible exact hHeld))) (fun hHeld => ?_)
       clear hK K
       try simp only [Act.put, List.setIfInBounds_toArray, List.set_cons_zero, List.set_cons_succ])
  first
    | (refine wpAnyH_take (i := 1) (v := undef) (by simp only [List.getElem?_toArray, List.getElem?_cons_succ, List.getElem?_cons_zero]; rfl) (by kernel_rfl) (by kernel_rfl) (by kernel_rfl) (fun _ _ _ h => h) (Or.inr ⟨by rfl, rfl⟩) (by assumption) ?_; try simp only [Act.put, List.setIfInBounds_toArray, List.set_cons_zero, List.set_cons_succ])
    | (refine wpAnyH_take (i := 1) (v := ?_) (by simp only [List.getElem?_toArray, List.getElem?_cons_succ, List.getElem?_cons_zero]; rfl) (by kernel_rfl) (by kernel_rfl) (by kernel_rfl) (fun _ _ _ h => h) (Or.inl ⟨by rfl, ?_⟩) (by assumption) ?_
       rotate_left
       · (intro ww hSw; (try dsimp only at hSw); go_simp; (try with_reducible rfl))
       try simp only [Act.put, List.setIfInBounds_toArray, List.set_cons_zero, List.set_cons_succ])
    | (refine wpAnyH_ready (rs := [1]) (by kernel_rfl) (by simp) (AllReadyH.cons (by simp only [List.getElem?_toArray, List.getElem?_cons_succ, List.getElem?_cons_zero]; rfl) (fun K hK => ?_) AllReadyH.nil)
       go_simp
       first
         | (fail)
       try go_wp2_with fail
       refine hK.out _ _ (by (first | (with_reducible exact KS2.out _ (bdrew1 (Below.refl _ _))) | (with_reducible exact KS2.out _ (below_call hHeld.1 hHeld.1.size hb9)) | (with_reducible exact hHeld))) (fun hHeld => ?_)
       clear hK K
       try simp only [Act.put, List.setIfInBounds_toArray, List.set_cons_zero, List.set_cons_succ])
  first
    | (refine wpAnyH_take (i := 2) (v := undef) (by simp only [List.getElem?_toArray, List.getElem?_cons_succ, List.getElem?_cons_zero]; rfl) (by kernel_rfl) (by kernel_rfl) (by kernel_rfl) (fun _ _ _ h => h) (Or.inr ⟨by rfl, rfl⟩) (by assumption) ?_; try simp only [Act.put, List.setIfInBounds_toArray, List.set_cons_zero, List.set_cons_succ])
    | (refine wpAnyH_take (i := 2) (v := ?_) (by simp only [List.getElem?_toArray, List.getElem?_cons_succ, List.getElem?_cons_zero]; rfl) (by kernel_rfl) (by kernel_rfl) (by kernel_rfl) (fun _ _ _ h => h) (Or.inl ⟨by rfl, ?_⟩) (by assumption) ?_
       rotate_left
       · (intro ww hSw; (try dsimp only at hSw); go_simp; (try with_reducible rfl))
       try simp only [Act.put, List.setIfInBounds_toArray, List.set_cons_zero, List.set_cons_succ])
    | (refine wpAnyH_ready (rs := [2]) (by kernel_rfl) (by simp) (AllReadyH.cons (by simp only [List.getElem?_toArray, List.getElem?_cons_succ, List.getElem?_cons_zero]; rfl) (fun K hK => ?_) AllReadyH.nil)
       go_simp
       first
         | (fail)
       try go_wp2_with fail
       refine hK.out _ _ (by (first | (with_reducible exact KS2.out _ (bdrew1 (Below.refl _ _))) | (with_reducible exact KS2.out _ (below_call hHeld.1 hHeld.1.size hb9)) | (with_reducible exact hHeld))) (fun hHeld => ?_)
       clear hK K
       try simp only [Act.put, List.setIfInBounds_toArray, List.set_cons_zero, List.set_cons_succ])
  first
    | (refine wpAnyH_take (i := 3) (v := undef) (by simp only [List.getElem?_toArray, List.getElem?_cons_succ, List.getElem?_cons_zero]; rfl) (by kernel_rfl) (by kernel_rfl) (by kernel_rfl) (fun _ _ _ h => h) (Or.inr ⟨by rfl, rfl⟩) (by assumption) ?_; try simp only [Act.put, List.setIfInBounds_toArray, List.set_cons_zero, List.set_cons_succ])
    | (refine wpAnyH_take (i := 3) (v := ?_) (by simp only [List.getElem?_toArray, List.getElem?_cons_succ, List.getElem?_cons_zero]; rfl) (by kernel_rfl) (by kernel_rfl) (by kernel_rfl) (fun _ _ _ h => h) (Or.inl ⟨by rfl, ?_⟩) (by assumption) ?_
       rotate_left
       · (intro ww hSw; (try dsimp only at hSw); go_simp; (try with_reducible rfl))
       try simp only [Act.put, List.setIfInBounds_toArray, List.set_cons_zero, List.set_cons_succ])
    | (refine wpAnyH_ready (rs := [3]) (by kernel_rfl) (by simp) (AllReadyH.cons (by simp only [List.getElem?_toArray, List.getElem?_cons_succ, List.getElem?_cons_zero]; rfl) (fun K hK => ?_) AllReadyH.nil)
       go_simp
       first
         | (fail)
       try go_wp2_with fail
       refine hK.out _ _ (by (first | (with_reducible exact KS2.out _ (bdrew1 (Below.refl _ _))) | (with_reducible exact KS2.out _ (below_call hHeld.1 hHeld.1.size hb9)) | (with_reducible exact hHeld))) (fun hHeld => ?_)
       clear hK K
       try simp only [Act.put, List.setIfInBounds_toArray, List.set_cons_zero, List.set_cons_succ])
  first
    | (refine wpAnyH_take (i := 4) (v := undef) (by simp only [List.getElem?_toArray, List.getElem?_cons_succ, List.getElem?_cons_zero]; rfl) (by kernel_rfl) (by kernel_rfl) (by kernel_rfl) (fun _ _ _ h => h) (Or.inr ⟨by rfl, rfl⟩) (by assumption) ?_; try simp only [Act.put, List.setIfInBounds_toArray, List.set_cons_zero, List.set_cons_succ])
    | (refine wpAnyH_take (i := 4) (v := ?_) (by simp only [List.getElem?_toArray, List.getElem?_cons_succ, List.getElem?_cons_zero]; rfl) (by kernel_rfl) (by kernel_rfl) (by kernel_rfl) (fun _ _ _ h => h) (Or.inl ⟨by rfl, ?_⟩) (by assumption) ?_
       rotate_left
       · (intro ww hSw; (try dsimp only at hSw); go_simp; (try with_reducible rfl))
       try simp only [Act.put, List.setIfInBounds_toArray, List.set_cons_zero, List.set_cons_succ])
    | (refine wpAnyH_ready (rs := [4]) (by kernel_rfl) (by simp) (AllReadyH.cons (by simp only [List.getElem?_toArray, List.getElem?_cons_succ, List.getElem?_cons_zero]; rfl) (fun K hK => ?_) AllReadyH.nil)
       go_simp
       first
         | (fail)
       try go_wp2_with fail
       refine hK.out _ _ (by (first | (with_reducible exact KS2.out _ (bdrew1 (Below.refl _ _))) | (with_reducible exact KS2.out _ (below_call hHeld.1 hHeld.1.size hb9)) | (with_reducible exact hHeld))) (fun hHeld => ?_)
       clear hK K
       try simp only [Act.put, List.setIfInBounds_toArray, List.set_cons_zero, List.set_cons_succ])
  refine wpAnyH_ready (rs := [5]) (by kernel_rfl) (by simp) (AllReadyH.cons (by simp only [List.getElem?_toArray, List.getElem?_cons_succ, List.getElem?_cons_zero]; rfl) (fun K hK => ?_) AllReadyH.nil)
  go_simp; refine (refnew_any d dp _ (DV7.out.below hHeld.1 (Nat.le_refl _)) HM.out).mono ?_; rintro e w9 ⟨x9, q9, hx9, rfl, ow9, hb9⟩; have HX9 := Lib.hid hx9; clear hx9; try go_wp2_with fail
  refine hK.out _ _ (by (first | (with_reducible exact KS2.out _ (bdrew1 (Below.refl _ _))) | (with_reducible exact KS2.out _ (below_call hHeld.1 hHeld.1.size hb9)) | (with_reducible exact hHeld))) (fun hHeld => ?_)
  clear hK K
  try simp only [Act.put, List.setIfInBounds_toArray, List.set_cons_zero, List.set_cons_succ]
  refine wpAnyH_ready (rs := [6]) (by kernel_rfl) (by simp) (AllReadyH.cons (by simp only [List.getElem?_toArray, List.getElem?_cons_succ, List.getElem?_cons_zero]; rfl) (fun K hK => ?_) AllReadyH.nil)
  go_simp; refine (refsame_yes n x9 (by rw [HN.out, HX9.out]) ⟨d5, a5, ac5, k5, kc5, p5, wc5⟩ q9 _ (AV.out.below hHeld.1 (Nat.le_refl _)) ow9).mono ?_; rintro e w9 ⟨rfl, hb9⟩; try go_wp2_with fail
  refine hK.out _ _ (by (first | (with_reducible exact KS2.out _ (bdrew1 (Below.refl _ _))) | (with_reducible exact KS2.out _ (below_call hHeld.1 hHeld.1.size hb9)) | (with_reducible exact hHeld))) (fun hHeld => ?_)
  clear hK K
  try simp only [Act.put, List.setIfInBounds_toArray, List.set_cons_zero, List.set_cons_succ]
  first
    | (refine wpAnyH_take (i := 7) (v := undef) (by simp only [List.getElem?_toArray, List.getElem?_cons_succ, List.getElem?_cons_zero]; rfl) (by kernel_rfl) (by kernel_rfl) (by kernel_rfl) (fun _ _ _ h => h) (Or.inr ⟨by rfl, rfl⟩) (by assumption) ?_; try simp only [Act.put, List.setIfInBounds_toArray, List.set_cons_zero, List.set_cons_succ])
    | (refine wpAnyH_take (i := 7) (v := ?_) (by simp only [List.getElem?_toArray, List.getElem?_cons_succ, List.getElem?_cons_zero]; rfl) (by kernel_rfl) (by kernel_rfl) (by kernel_rfl) (fun _ _ _ h => h) (Or.inl ⟨by rfl, ?_⟩) (by assumption) ?_
       rotate_left
       · (intro ww hSw; (try dsimp only at hSw); go_simp; (try with_reducible rfl))
       try simp only [Act.put, List.setIfInBounds_toArray, List.set_cons_zero, List.set_cons_succ])
    | (refine wpAnyH_ready (rs := [7]) (by kernel_rfl) (by simp) (AllReadyH.cons (by simp only [List.getElem?_toArray, List.getElem?_cons_succ, List.getElem?_cons_zero]; rfl) (fun K hK => ?_) AllReadyH.nil)
       go_simp
       first
         | (fail)
       try go_wp2_with fail
       refine hK.out _ _ (by (first | (with_reducible exact KS2.out _ (bdrew1 (Below.refl _ _))) | (with_reducible exact KS2.out _ (below_call hHeld.1 hHeld.1.size hb9)) | (with_reducible exact hHeld))) (fun hHeld => ?_)
       clear hK K
       try simp only [Act.put, List.setIfInBounds_toArray, List.set_cons_zero, List.set_cons_succ])
  first
    | (refine wpAnyH_take (i := 8) (v := undef) (by simp only [List.getElem?_toArray, List.getElem?_cons_succ, List.getElem?_cons_zero]; rfl) (by kernel_rfl) (by kernel_rfl) (by kernel_rfl) (fun _ _ _ h => h) (Or.inr ⟨by rfl, rfl⟩) (by assumption) ?_; try simp only [Act.put, List.setIfInBounds_toArray, List.set_cons_zero, List.set_cons_succ])
    | (refine wpAnyH_take (i := 8) (v := ?_) (by simp only [List.getElem?_toArray, List.getElem?_cons_succ, List.getElem?_cons_zero]; rfl) (by kernel_rfl) (by kernel_rfl) (by kernel_rfl) (fun _ _ _ h => h) (Or.inl ⟨by rfl, ?_⟩) (by assumption) ?_
       rotate_left
       · (intro ww hSw; (try dsimp only at hSw); go_simp; (try with_reducible rfl))
       try simp only [Act.put, List.setIfInBounds_toArray, List.set_cons_zero, List.set_cons_succ])
    | (refine wpAnyH_ready (rs := [8]) (by kernel_rfl) (by simp) (AllReadyH.cons (by simp only [List.getElem?_toArray, List.getElem?_cons_succ, List.getElem?_cons_zero]; rfl) (fun K hK => ?_) AllReadyH.nil)
       go_simp
       first
         | (fail)
       try go_wp2_with fail
       refine hK.out _ _ (by (first | (with_reducible exact KS2.out _ (bdrew1 (Below.refl _ _))) | (with_reducible exact KS2.out _ (below_call hHeld.1 hHeld.1.size hb9)) | (with_reducible exact hHeld))) (fun hHeld => ?_)
       clear hK K
       try simp only [Act.put, List.setIfInBounds_toArray, List.set_cons_zero, List.set_cons_succ])
  refine wpAnyH_done (by kernel_rfl) ?_ _
  refine NoPanic.normal ?_
  have HE := Lib.hid hHeld.1
  clear hHeld
  go_wp2_with fail
  go_ret
  exact ⟨rfl, below_call HB7.out HB7.out.size HE.out⟩
set_option maxRecDepth 100000 in
set_option maxHeartbeats 3000000 in
theorem descMakes_no (d : Ds) (dp : Dp) (x y : Wd) (p q : Wp) (w : World) (hd : DescAt w dp d) (hx : WorldAt w p x) (hy : WorldAt w q y) (f0 : fewB ⟨d, [], [], []⟩ = true) (f1 : fewB x = true) (f2 : fewB y = true) (hm : mayD d = false) : Calls Try.prog 3 #[.agg #[.slice dp.ex d.exits.length dp.exc, .slice dp.pl d.players.length dp.plc, .slice dp.co d.coins.length dp.coc, .slice dp.it d.items.length dp.itc, .slice dp.bo d.boxes.length dp.boc, .int .i64 d.room, .int .i64 d.player, .int .i64 d.box], .agg #[.slice p.d.ex x.d.exits.length p.d.exc, .slice p.d.pl x.d.players.length p.d.plc, .slice p.d.co x.d.coins.length p.d.coc, .slice p.d.it x.d.items.length p.d.itc, .slice p.d.bo x.d.boxes.length p.d.boc, .int .i64 x.d.room, .int .i64 x.d.player, .int .i64 x.d.box, .slice p.at_ x.at_.length p.atc, .slice p.co x.coins.length p.coc, .slice p.wh x.wher.length p.whc], .agg #[.slice q.d.ex y.d.exits.length q.d.exc, .slice q.d.pl y.d.players.length q.d.plc, .slice q.d.co y.d.coins.length q.d.coc, .slice q.d.it y.d.items.length q.d.itc, .slice q.d.bo y.d.boxes.length q.d.boc, .int .i64 y.d.room, .int .i64 y.d.player, .int .i64 y.d.box, .slice q.at_ y.at_.length q.atc, .slice q.co y.coins.length q.coc, .slice q.wh y.wher.length q.whc]] w fun e w' => e = .returned (.bool true) ∧ Below w.heap.size w w' := by
  have F0 := Lib.hid f0
  have F1 := Lib.hid f1
  have F2 := Lib.hid f2
  have FX := Lib.hid (few_few f1)
  have HM := Lib.hid hm
  have ID := Lib.hid hd
  have IX := Lib.hid hx
  have IY := Lib.hid hy
  clear f0 f1 f2 hm hd hx hy
  have h0 := ((Holds.new w #[.slice dp.ex d.exits.length dp.exc, .slice dp.pl d.players.length dp.plc, .slice dp.co d.coins.length dp.coc, .slice dp.it d.items.length dp.itc, .slice dp.bo d.boxes.length dp.boc, .int .i64 d.room, .int .i64 d.player, .int .i64 d.box] 26).alloc (.cells #[.slice p.d.ex x.d.exits.length p.d.exc, .slice p.d.pl x.d.players.length p.d.plc, .slice p.d.co x.d.coins.length p.d.coc, .slice p.d.it x.d.items.length p.d.itc, .slice p.d.bo x.d.boxes.length p.d.boc, .int .i64 x.d.room, .int .i64 x.d.player, .int .i64 x.d.box, .slice p.at_ x.at_.length p.atc, .slice p.co x.coins.length p.coc, .slice p.wh x.wher.length p.whc] 29)).alloc (.cells #[.slice q.d.ex y.d.exits.length q.d.exc, .slice q.d.pl y.d.players.length q.d.plc, .slice q.d.co y.d.coins.length q.d.coc, .slice q.d.it y.d.items.length q.d.itc, .slice q.d.bo y.d.boxes.length q.d.boc, .int .i64 y.d.room, .int .i64 y.d.player, .int .i64 y.d.box, .slice q.at_ y.at_.length q.atc, .slice q.co y.coins.length q.coc, .slice q.wh y.wher.length q.whc] 29)
  have h1 := (Holds.newb (w := w) (A := #[.slice p.d.ex x.d.exits.length p.d.exc, .slice p.d.pl x.d.players.length p.d.plc, .slice p.d.co x.d.coins.length p.d.coc, .slice p.d.it x.d.items.length p.d.itc, .slice p.d.bo x.d.boxes.length p.d.boc, .int .i64 x.d.room, .int .i64 x.d.player, .int .i64 x.d.box, .slice p.at_ x.at_.length p.atc, .slice p.co x.coins.length p.coc, .slice p.wh x.wher.length p.whc]) (t := 29) (n := w.heap.size + 1) (Holds.new w #[.slice dp.ex d.exits.length dp.exc, .slice dp.pl d.players.length dp.plc, .slice dp.co d.coins.length dp.coc, .slice dp.it d.items.length dp.itc, .slice dp.bo d.boxes.length dp.boc, .int .i64 d.room, .int .i64 d.player, .int .i64 d.box] 26).1 (by simp)).alloc (.cells #[.slice q.d.ex y.d.exits.length q.d.exc, .slice q.d.pl y.d.players.length q.d.plc, .slice q.d.co y.d.coins.length q.d.coc, .slice q.d.it y.d.items.length q.d.itc, .slice q.d.bo y.d.boxes.length q.d.boc, .int .i64 y.d.room, .int .i64 y.d.player, .int .i64 y.d.box, .slice q.at_ y.at_.length q.atc, .slice q.co y.coins.length q.coc, .slice q.wh y.wher.length q.whc] 29)
  have h2 := Holds.newb (w := w) (A := #[.slice q.d.ex y.d.exits.length q.d.exc, .slice q.d.pl y.d.players.length q.d.plc, .slice q.d.co y.d.coins.length q.d.coc, .slice q.d.it y.d.items.length q.d.itc, .slice q.d.bo y.d.boxes.length q.d.boc, .int .i64 y.d.room, .int .i64 y.d.player, .int .i64 y.d.box, .slice q.at_ y.at_.length q.atc, .slice q.co y.coins.length q.coc, .slice q.wh y.wher.length q.whc]) (t := 29) (n := w.heap.size + 1 + 1) ((Holds.new w #[.slice dp.ex d.exits.length dp.exc, .slice dp.pl d.players.length dp.plc, .slice dp.co d.coins.length dp.coc, .slice dp.it d.items.length dp.itc, .slice dp.bo d.boxes.length dp.boc, .int .i64 d.room, .int .i64 d.player, .int .i64 d.box] 26).alloc (.cells #[.slice p.d.ex x.d.exits.length p.d.exc, .slice p.d.pl x.d.players.length p.d.plc, .slice p.d.co x.d.coins.length p.d.coc, .slice p.d.it x.d.items.length p.d.itc, .slice p.d.bo x.d.boxes.length p.d.boc, .int .i64 x.d.room, .int .i64 x.d.player, .int .i64 x.d.box, .slice p.at_ x.at_.length p.atc, .slice p.co x.coins.length p.coc, .slice p.wh x.wher.length p.whc] 29)).1 (by simp)
  have H0 := Lib.hid h0
  have H1 := Lib.hid h1
  have H2 := Lib.hid h2
  clear h0 h1 h2
  go_enter Try.func3, Try.ntmps3
  go_wp2_with fail
  have t0 : w.heap.size + 3 = (((w.alloc (.cells #[.slice dp.ex d.exits.length dp.exc, .slice dp.pl d.players.length dp.plc, .slice dp.co d.coins.length dp.coc, .slice dp.it d.items.length dp.itc, .slice dp.bo d.boxes.length dp.boc, .int .i64 d.room, .int .i64 d.player, .int .i64 d.box] 26)).alloc (.cells #[.slice p.d.ex x.d.exits.length p.d.exc, .slice p.d.pl x.d.players.length p.d.plc, .slice p.d.co x.d.coins.length p.d.coc, .slice p.d.it x.d.items.length p.d.itc, .slice p.d.bo x.d.boxes.length p.d.boc, .int .i64 x.d.room, .int .i64 x.d.player, .int .i64 x.d.box, .slice p.at_ x.at_.length p.atc, .slice p.co x.coins.length p.coc, .slice p.wh x.wher.length p.whc] 29)).alloc (.cells #[.slice q.d.ex y.d.exits.length q.d.exc, .slice q.d.pl y.d.players.length q.d.plc, .slice q.d.co y.d.coins.length q.d.coc, .slice q.d.it y.d.items.length q.d.itc, .slice q.d.bo y.d.boxes.length q.d.boc, .int .i64 y.d.room, .int .i64 y.d.player, .int .i64 y.d.box, .slice q.at_ y.at_.length q.atc, .slice q.co y.coins.length q.coc, .slice q.wh y.wher.length q.whc] 29)).heap.size := by simp
  generalize (((w.alloc (.cells #[.slice dp.ex d.exits.length dp.exc, .slice dp.pl d.players.length dp.plc, .slice dp.co d.coins.length dp.coc, .slice dp.it d.items.length dp.itc, .slice dp.bo d.boxes.length dp.boc, .int .i64 d.room, .int .i64 d.player, .int .i64 d.box] 26)).alloc (.cells #[.slice p.d.ex x.d.exits.length p.d.exc, .slice p.d.pl x.d.players.length p.d.plc, .slice p.d.co x.d.coins.length p.d.coc, .slice p.d.it x.d.items.length p.d.itc, .slice p.d.bo x.d.boxes.length p.d.boc, .int .i64 x.d.room, .int .i64 x.d.player, .int .i64 x.d.box, .slice p.at_ x.at_.length p.atc, .slice p.co x.coins.length p.coc, .slice p.wh x.wher.length p.whc] 29)).alloc (.cells #[.slice q.d.ex y.d.exits.length q.d.exc, .slice q.d.pl y.d.players.length q.d.plc, .slice q.d.co y.d.coins.length q.d.coc, .slice q.d.it y.d.items.length q.d.itc, .slice q.d.bo y.d.boxes.length q.d.boc, .int .i64 y.d.room, .int .i64 y.d.player, .int .i64 y.d.box, .slice q.at_ y.at_.length q.atc, .slice q.co y.coins.length q.coc, .slice q.wh y.wher.length q.whc] 29)) = V0 at *
  refine (awake_any _).mono ?_
  rintro e w1 ⟨rfl, b1⟩
  have HD_1 := Lib.hid (H0.out.call b1)
  have HX_1 := Lib.hid (H1.out.call b1)
  have HY_1 := Lib.hid (H2.out.call b1)
  have s1 := b1.size
  clear b1 H0 H1 H2
  have c0 := HD_1.out.2.2
  have c1 := HX_1.out.2.2
  have c2 := HY_1.out.2.2
  go_wp2_with fail
  clear c0 c1 c2
  refine (few_any ⟨d, [], [], []⟩ ⟨dp, none, 0, none, 0, none, 0⟩ w1).mono ?_
  rintro e w2 ⟨rfl, b2⟩
  rw [F0.out]
  have HD_2 := Lib.hid (HD_1.out.call b2)
  have HX_2 := Lib.hid (HX_1.out.call b2)
  have HY_2 := Lib.hid (HY_1.out.call b2)
  have s2 := b2.size
  clear b2 HD_1 HX_1 HY_1
  have c0 := HD_2.out.2.2
  have c1 := HX_2.out.2.2
  have c2 := HY_2.out.2.2
  go_wp2_with fail
  clear c0 c1 c2
  refine (few_any x p w2).mono ?_
  rintro e w3 ⟨rfl, b3⟩
  rw [F1.out]
  have HD_3 := Lib.hid (HD_2.out.call b3)
  have HX_3 := Lib.hid (HX_2.out.call b3)
  have HY_3 := Lib.hid (HY_2.out.call b3)
  have s3 := b3.size
  clear b3 HD_2 HX_2 HY_2
  have c0 := HD_3.out.2.2
  have c1 := HX_3.out.2.2
  have c2 := HY_3.out.2.2
  go_wp2_with fail
  clear c0 c1 c2
  refine (few_any y q w3).mono ?_
  rintro e w4 ⟨rfl, b4⟩
  rw [F2.out]
  have HD_4 := Lib.hid (HD_3.out.call b4)
  have HX_4 := Lib.hid (HX_3.out.call b4)
  have HY_4 := Lib.hid (HY_3.out.call b4)
  have s4 := b4.size
  clear b4 HD_3 HX_3 HY_3
  have c0 := HD_4.out.2.2
  have c1 := HX_4.out.2.2
  have c2 := HY_4.out.2.2
  go_wp2_with fail
  clear c0 c1 c2
  refine (new_no d dp w4 (ID.out.below HD_4.out.1 (Nat.le_refl _)) HM.out).mono ?_
  rintro e w5 ⟨rfl, b5⟩
  have HD_5 := Lib.hid (HD_4.out.call b5)
  have HX_5 := Lib.hid (HX_4.out.call b5)
  have HY_5 := Lib.hid (HY_4.out.call b5)
  have s5 := b5.size
  clear b5 HD_4 HX_4 HY_4
  have l0 : w.heap.size < w5.heap.size := by omega
  have l1 : w.heap.size + 1 < w5.heap.size := by omega
  have l2 : w.heap.size + 1 + 1 < w5.heap.size := by omega
  have z6 : w5.heap.size = w5.heap.size := rfl
  have HA_6 := Lib.hid (Holds.newb (w := w) (A := #[.slice none 0 0, .slice none 0 0, .slice none 0 0, .slice none 0 0, .slice none 0 0, .int .i64 0, .int .i64 0, .int .i64 0, .slice none 0 0, .slice none 0 0, .slice none 0 0]) (t := 29) (n := w5.heap.size) HD_5.out.1 (by exact z6))
  have HD_6 := Lib.hid ((HD_5.out.alloc (.cells #[.slice none 0 0, .slice none 0 0, .slice none 0 0, .slice none 0 0, .slice none 0 0, .int .i64 0, .int .i64 0, .int .i64 0, .slice none 0 0, .slice none 0 0, .slice none 0 0] 29)))
  have HX_6 := Lib.hid ((HX_5.out.alloc (.cells #[.slice none 0 0, .slice none 0 0, .slice none 0 0, .slice none 0 0, .slice none 0 0, .int .i64 0, .int .i64 0, .int .i64 0, .slice none 0 0, .slice none 0 0, .slice none 0 0] 29)))
  have HY_6 := Lib.hid ((HY_5.out.alloc (.cells #[.slice none 0 0, .slice none 0 0, .slice none 0 0, .slice none 0 0, .slice none 0 0, .int .i64 0, .int .i64 0, .int .i64 0, .slice none 0 0, .slice none 0 0, .slice none 0 0] 29)))
  have t6 : w5.heap.size + 1 = (w5.alloc (.cells #[.slice none 0 0, .slice none 0 0, .slice none 0 0, .slice none 0 0, .slice none 0 0, .int .i64 0, .int .i64 0, .int .i64 0, .slice none 0 0, .slice none 0 0, .slice none 0 0] 29)).heap.size := by simp [World.setCell]
  clear HD_5 HX_5 HY_5
  have c0 := HD_6.out.2.2
  have c1 := HX_6.out.2.2
  have c2 := HY_6.out.2.2
  go_wp2_with fail
  clear c0 c1 c2
  generalize (w5.alloc (.cells #[.slice none 0 0, .slice none 0 0, .slice none 0 0, .slice none 0 0, .slice none 0 0, .int .i64 0, .int .i64 0, .int .i64 0, .slice none 0 0, .slice none 0 0, .slice none 0 0] 29)) = V5 at *
  have DV := Lib.hid (ID.out.below HD_6.out.1 (Nat.le_refl _))
  have XV := Lib.hid (IX.out.below HD_6.out.1 (Nat.le_refl _))
  have YV := Lib.hid (IY.out.below HD_6.out.1 (Nat.le_refl _))
  have KS : Hid (∀ w', Below V5.heap.size V5 w' → Below V5.heap.size V5 w' ∧ (∀ i, w'.cell? ⟨w.heap.size, i, none⟩ = (#[.slice dp.ex d.exits.length dp.exc, .slice dp.pl d.players.length dp.plc, .slice dp.co d.coins.length dp.coc, .slice dp.it d.items.length dp.itc, .slice dp.bo d.boxes.length dp.boc, .int .i64 d.room, .int .i64 d.player, .int .i64 d.box][i]? : Option Value)) ∧ (∀ i, w'.cell? ⟨w.heap.size + 1, i, none⟩ = (#[.slice p.d.ex x.d.exits.length p.d.exc, .slice p.d.pl x.d.players.length p.d.plc, .slice p.d.co x.d.coins.length p.d.coc, .slice p.d.it x.d.items.length p.d.itc, .slice p.d.bo x.d.boxes.length p.d.boc, .int .i64 x.d.room, .int .i64 x.d.player, .int .i64 x.d.box, .slice p.at_ x.at_.length p.atc, .slice p.co x.coins.length p.coc, .slice p.wh x.wher.length p.whc][i]? : Option Value)) ∧ (∀ i, w'.cell? ⟨w.heap.size + 1 + 1, i, none⟩ = (#[.slice q.d.ex y.d.exits.length q.d.exc, .slice q.d.pl y.d.players.length q.d.plc, .slice q.d.co y.d.coins.length q.d.coc, .slice q.d.it y.d.items.length q.d.itc, .slice q.d.bo y.d.boxes.length q.d.boc, .int .i64 y.d.room, .int .i64 y.d.player, .int .i64 y.d.box, .slice q.at_ y.at_.length q.atc, .slice q.co y.coins.length q.coc, .slice q.wh y.wher.length q.whc][i]? : Option Value))) := Lib.hid (fun w' hb => ⟨hb, fun i => (hb.cell (p := ⟨w.heap.size, i, none⟩) HD_6.out.2.1).trans (HD_6.out.2.2 i), fun i => (hb.cell (p := ⟨w.heap.size + 1, i, none⟩) HX_6.out.2.1).trans (HX_6.out.2.2 i), fun i => (hb.cell (p := ⟨w.heap.size + 1 + 1, i, none⟩) HY_6.out.2.1).trans (HY_6.out.2.2 i)⟩)
  obtain ⟨br, hbr⟩ : ∃ b, rightW x = b := ⟨_, rfl⟩
  obtain ⟨bs, hbs⟩ : ∃ b, decide (x = y) = b := ⟨_, rfl⟩
  have RB := Lib.hid hbr
  have SB := Lib.hid hbs
  clear hbr hbs
  generalize (Value.agg #[.slice dp.ex d.exits.length dp.exc, .slice dp.pl d.players.length dp.plc, .slice dp.co d.coins.length dp.coc, .slice dp.it d.items.length dp.itc, .slice dp.bo d.boxes.length dp.boc, .int .i64 d.room, .int .i64 d.player, .int .i64 d.box]) = g0
  generalize (Value.agg #[.slice p.d.ex x.d.exits.length p.d.exc, .slice p.d.pl x.d.players.length p.d.plc, .slice p.d.co x.d.coins.length p.d.coc, .slice p.d.it x.d.items.length p.d.itc, .slice p.d.bo x.d.boxes.length p.d.boc, .int .i64 x.d.room, .int .i64 x.d.player, .int .i64 x.d.box, .slice p.at_ x.at_.length p.atc, .slice p.co x.coins.length p.coc, .slice p.wh x.wher.length p.whc]) = g1
  generalize (Value.agg #[.slice q.d.ex y.d.exits.length q.d.exc, .slice q.d.pl y.d.players.length q.d.plc, .slice q.d.co y.d.coins.length q.d.coc, .slice q.d.it y.d.items.length q.d.itc, .slice q.d.bo y.d.boxes.length q.d.boc, .int .i64 y.d.room, .int .i64 y.d.player, .int .i64 y.d.box, .slice q.at_ y.at_.length q.atc, .slice q.co y.coins.length q.coc, .slice q.wh y.wher.length q.whc]) = g2
  refine wp_region_noPanic ?_
  refine wp_region_held_drew (S := (fun w' => Below V5.heap.size V5 w' ∧ (∀ i, w'.cell? ⟨w.heap.size, i, none⟩ = (#[.slice dp.ex d.exits.length dp.exc, .slice dp.pl d.players.length dp.plc, .slice dp.co d.coins.length dp.coc, .slice dp.it d.items.length dp.itc, .slice dp.bo d.boxes.length dp.boc, .int .i64 d.room, .int .i64 d.player, .int .i64 d.box][i]? : Option Value)) ∧ (∀ i, w'.cell? ⟨w.heap.size + 1, i, none⟩ = (#[.slice p.d.ex x.d.exits.length p.d.exc, .slice p.d.pl x.d.players.length p.d.plc, .slice p.d.co x.d.coins.length p.d.coc, .slice p.d.it x.d.items.length p.d.itc, .slice p.d.bo x.d.boxes.length p.d.boc, .int .i64 x.d.room, .int .i64 x.d.player, .int .i64 x.d.box, .slice p.at_ x.at_.length p.atc, .slice p.co x.coins.length p.coc, .slice p.wh x.wher.length p.whc][i]? : Option Value)) ∧ (∀ i, w'.cell? ⟨w.heap.size + 1 + 1, i, none⟩ = (#[.slice q.d.ex y.d.exits.length q.d.exc, .slice q.d.pl y.d.players.length q.d.plc, .slice q.d.co y.d.coins.length q.d.coc, .slice q.d.it y.d.items.length q.d.itc, .slice q.d.bo y.d.boxes.length q.d.boc, .int .i64 y.d.room, .int .i64 y.d.player, .int .i64 y.d.box, .slice q.at_ y.at_.length q.atc, .slice q.co y.coins.length q.coc, .slice q.wh y.wher.length q.whc][i]? : Option Value)))) (by kernel_rfl) (by (first | (with_reducible exact KS.out _ (bdrew1 (Below.refl _ _))) | (with_reducible exact KS.out _ (below_call hHeld.1 hHeld.1.size hb9)) | (with_reducible exact hHeld))) (fun hHeld => ?_)
  first
    | (refine wpAnyH_take (i := 0) (v := undef) (by simp only [List.getElem?_toArray, List.getElem?_cons_succ, List.getElem?_cons_zero]; rfl) (by kernel_rfl) (by kernel_rfl) (by kernel_rfl) (fun _ _ _ h => h) (Or.inr ⟨by rfl, rfl⟩) (by assumption) ?_; try simp only [Act.put, List.setIfInBounds_toArray, List.set_cons_zero, List.set_cons_succ])
    | (refine wpAnyH_take (i := 0) (v := ?_) (by simp only [List.getElem?_toArray, List.getElem?_cons_succ, List.getElem?_cons_zero]; rfl) (by kernel_rfl) (by kernel_rfl) (by kernel_rfl) (fun _ _ _ h => h) (Or.inl ⟨by rfl, ?_⟩) (by assumption) ?_
       rotate_left
       · (intro ww hSw; (try dsimp only at hSw); go_simp; (try with_reducible rfl))
       try simp only [Act.put, List.setIfInBounds_toArray, List.set_cons_zero, List.set_cons_succ])
    | (refine wpAnyH_ready (rs := [0]) (by kernel_rfl) (by simp) (AllReadyH.cons (by simp only [List.getElem?_toArray, List.getElem?_cons_succ, List.getElem?_cons_zero]; rfl) (fun K hK => ?_) AllReadyH.nil)
       go_simp
       first
         | (fail)
       try go_wp2_with fail
       refine hK.out _ _ (by (first | (with_reducible exact KS.out _ (bdrew1 (Below.refl _ _))) | (with_reducible exact KS.out _ (below_call hHeld.1 hHeld.1.size hb9)) | (with_reducible exact hHeld))) (fun hHeld => ?_)
       clear hK K
       try simp only [Act.put, List.setIfInBounds_toArray, List.set_cons_zero, List.set_cons_succ])
  first
    | (refine wpAnyH_take (i := 2) (v := undef) (by simp only [List.getElem?_toArray, List.getElem?_cons_succ, List.getElem?_cons_zero]; rfl) (by kernel_rfl) (by kernel_rfl) (by kernel_rfl) (fun _ _ _ h => h) (Or.inr ⟨by rfl, rfl⟩) (by assumption) ?_; try simp only [Act.put, List.setIfInBounds_toArray, List.set_cons_zero, List.set_cons_succ])
    | (refine wpAnyH_take (i := 2) (v := ?_) (by simp only [List.getElem?_toArray, List.getElem?_cons_succ, List.getElem?_cons_zero]; rfl) (by kernel_rfl) (by kernel_rfl) (by kernel_rfl) (fun _ _ _ h => h) (Or.inl ⟨by rfl, ?_⟩) (by assumption) ?_
       rotate_left
       · (intro ww hSw; (try dsimp only at hSw); go_simp; (try with_reducible rfl))
       try simp only [Act.put, List.setIfInBounds_toArray, List.set_cons_zero, List.set_cons_succ])
    | (refine wpAnyH_ready (rs := [2]) (by kernel_rfl) (by simp) (AllReadyH.cons (by simp only [List.getElem?_toArray, List.getElem?_cons_succ, List.getElem?_cons_zero]; rfl) (fun K hK => ?_) AllReadyH.nil)
       go_simp
       first
         | (fail)
       try go_wp2_with fail
       refine hK.out _ _ (by (first | (with_reducible exact KS.out _ (bdrew1 (Below.refl _ _))) | (with_reducible exact KS.out _ (below_call hHeld.1 hHeld.1.size hb9)) | (with_reducible exact hHeld))) (fun hHeld => ?_)
       clear hK K
       try simp only [Act.put, List.setIfInBounds_toArray, List.set_cons_zero, List.set_cons_succ])
  refine wpAnyH_ready (rs := [1]) (by kernel_rfl) (by simp) (AllReadyH.cons (by simp only [List.getElem?_toArray, List.getElem?_cons_succ, List.getElem?_cons_zero]; rfl) (fun K hK => ?_) AllReadyH.nil)
  go_simp; refine (may_any d dp _ (DV.out.below hHeld.1 (Nat.le_refl _))).mono ?_; rintro e w9 ⟨rfl, hb9⟩; rw [HM.out]; try go_wp2_with fail
  refine hK.out _ _ (by (first | (with_reducible exact KS.out _ (bdrew1 (Below.refl _ _))) | (with_reducible exact KS.out _ (below_call hHeld.1 hHeld.1.size hb9)) | (with_reducible exact hHeld))) (fun hHeld => ?_)
  clear hK K
  try simp only [Act.put, List.setIfInBounds_toArray, List.set_cons_zero, List.set_cons_succ]
  refine wpAnyH_ready (rs := [3]) (by kernel_rfl) (by simp) (AllReadyH.cons (by simp only [List.getElem?_toArray, List.getElem?_cons_succ, List.getElem?_cons_zero]; rfl) (fun K hK => ?_) AllReadyH.nil)
  go_simp; refine (refmay_any d dp _ (DV.out.below hHeld.1 (Nat.le_refl _))).mono ?_; rintro e w9 ⟨rfl, hb9⟩; rw [HM.out]; try go_wp2_with fail
  refine hK.out _ _ (by (first | (with_reducible exact KS.out _ (bdrew1 (Below.refl _ _))) | (with_reducible exact KS.out _ (below_call hHeld.1 hHeld.1.size hb9)) | (with_reducible exact hHeld))) (fun hHeld => ?_)
  clear hK K
  try simp only [Act.put, List.setIfInBounds_toArray, List.set_cons_zero, List.set_cons_succ]
  first
    | (refine wpAnyH_take (i := 4) (v := undef) (by simp only [List.getElem?_toArray, List.getElem?_cons_succ, List.getElem?_cons_zero]; rfl) (by kernel_rfl) (by kernel_rfl) (by kernel_rfl) (fun _ _ _ h => h) (Or.inr ⟨by rfl, rfl⟩) (by assumption) ?_; try simp only [Act.put, List.setIfInBounds_toArray, List.set_cons_zero, List.set_cons_succ])
    | (refine wpAnyH_take (i := 4) (v := ?_) (by simp only [List.getElem?_toArray, List.getElem?_cons_succ, List.getElem?_cons_zero]; rfl) (by kernel_rfl) (by kernel_rfl) (by kernel_rfl) (fun _ _ _ h => h) (Or.inl ⟨by rfl, ?_⟩) (by assumption) ?_
       rotate_left
       · (intro ww hSw; (try dsimp only at hSw); go_simp; (try with_reducible rfl))
       try simp only [Act.put, List.setIfInBounds_toArray, List.set_cons_zero, List.set_cons_succ])
    | (refine wpAnyH_ready (rs := [4]) (by kernel_rfl) (by simp) (AllReadyH.cons (by simp only [List.getElem?_toArray, List.getElem?_cons_succ, List.getElem?_cons_zero]; rfl) (fun K hK => ?_) AllReadyH.nil)
       go_simp
       first
         | (fail)
       try go_wp2_with fail
       refine hK.out _ _ (by (first | (with_reducible exact KS.out _ (bdrew1 (Below.refl _ _))) | (with_reducible exact KS.out _ (below_call hHeld.1 hHeld.1.size hb9)) | (with_reducible exact hHeld))) (fun hHeld => ?_)
       clear hK K
       try simp only [Act.put, List.setIfInBounds_toArray, List.set_cons_zero, List.set_cons_succ])
  first
    | (refine wpAnyH_take (i := 5) (v := undef) (by simp only [List.getElem?_toArray, List.getElem?_cons_succ, List.getElem?_cons_zero]; rfl) (by kernel_rfl) (by kernel_rfl) (by kernel_rfl) (fun _ _ _ h => h) (Or.inr ⟨by rfl, rfl⟩) (by assumption) ?_; try simp only [Act.put, List.setIfInBounds_toArray, List.set_cons_zero, List.set_cons_succ])
    | (refine wpAnyH_take (i := 5) (v := ?_) (by simp only [List.getElem?_toArray, List.getElem?_cons_succ, List.getElem?_cons_zero]; rfl) (by kernel_rfl) (by kernel_rfl) (by kernel_rfl) (fun _ _ _ h => h) (Or.inl ⟨by rfl, ?_⟩) (by assumption) ?_
       rotate_left
       · (intro ww hSw; (try dsimp only at hSw); go_simp; (try with_reducible rfl))
       try simp only [Act.put, List.setIfInBounds_toArray, List.set_cons_zero, List.set_cons_succ])
    | (refine wpAnyH_ready (rs := [5]) (by kernel_rfl) (by simp) (AllReadyH.cons (by simp only [List.getElem?_toArray, List.getElem?_cons_succ, List.getElem?_cons_zero]; rfl) (fun K hK => ?_) AllReadyH.nil)
       go_simp
       first
         | (fail)
       try go_wp2_with fail
       refine hK.out _ _ (by (first | (with_reducible exact KS.out _ (bdrew1 (Below.refl _ _))) | (with_reducible exact KS.out _ (below_call hHeld.1 hHeld.1.size hb9)) | (with_reducible exact hHeld))) (fun hHeld => ?_)
       clear hK K
       try simp only [Act.put, List.setIfInBounds_toArray, List.set_cons_zero, List.set_cons_succ])
  first
    | (refine wpAnyH_take (i := 6) (v := undef) (by simp only [List.getElem?_toArray, List.getElem?_cons_succ, List.getElem?_cons_zero]; rfl) (by kernel_rfl) (by kernel_rfl) (by kernel_rfl) (fun _ _ _ h => h) (Or.inr ⟨by rfl, rfl⟩) (by assumption) ?_; try simp only [Act.put, List.setIfInBounds_toArray, List.set_cons_zero, List.set_cons_succ])
    | (refine wpAnyH_take (i := 6) (v := ?_) (by simp only [List.getElem?_toArray, List.getElem?_cons_succ, List.getElem?_cons_zero]; rfl) (by kernel_rfl) (by kernel_rfl) (by kernel_rfl) (fun _ _ _ h => h) (Or.inl ⟨by rfl, ?_⟩) (by assumption) ?_
       rotate_left
       · (intro ww hSw; (try dsimp only at hSw); go_simp; (try with_reducible rfl))
       try simp only [Act.put, List.setIfInBounds_toArray, List.set_cons_zero, List.set_cons_succ])
    | (refine wpAnyH_ready (rs := [6]) (by kernel_rfl) (by simp) (AllReadyH.cons (by simp only [List.getElem?_toArray, List.getElem?_cons_succ, List.getElem?_cons_zero]; rfl) (fun K hK => ?_) AllReadyH.nil)
       go_simp
       first
         | (fail)
       try go_wp2_with fail
       refine hK.out _ _ (by (first | (with_reducible exact KS.out _ (bdrew1 (Below.refl _ _))) | (with_reducible exact KS.out _ (below_call hHeld.1 hHeld.1.size hb9)) | (with_reducible exact hHeld))) (fun hHeld => ?_)
       clear hK K
       try simp only [Act.put, List.setIfInBounds_toArray, List.set_cons_zero, List.set_cons_succ])
  first
    | (refine wpAnyH_take (i := 8) (v := undef) (by simp only [List.getElem?_toArray, List.getElem?_cons_succ, List.getElem?_cons_zero]; rfl) (by kernel_rfl) (by kernel_rfl) (by kernel_rfl) (fun _ _ _ h => h) (Or.inr ⟨by rfl, rfl⟩) (by assumption) ?_; try simp only [Act.put, List.setIfInBounds_toArray, List.set_cons_zero, List.set_cons_succ])
    | (refine wpAnyH_take (i := 8) (v := ?_) (by simp only [List.getElem?_toArray, List.getElem?_cons_succ, List.getElem?_cons_zero]; rfl) (by kernel_rfl) (by kernel_rfl) (by kernel_rfl) (fun _ _ _ h => h) (Or.inl ⟨by rfl, ?_⟩) (by assumption) ?_
       rotate_left
       · (intro ww hSw; (try dsimp only at hSw); go_simp; (try with_reducible rfl))
       try simp only [Act.put, List.setIfInBounds_toArray, List.set_cons_zero, List.set_cons_succ])
    | (refine wpAnyH_ready (rs := [8]) (by kernel_rfl) (by simp) (AllReadyH.cons (by simp only [List.getElem?_toArray, List.getElem?_cons_succ, List.getElem?_cons_zero]; rfl) (fun K hK => ?_) AllReadyH.nil)
       go_simp
       first
         | (fail)
       try go_wp2_with fail
       refine hK.out _ _ (by (first | (with_reducible exact KS.out _ (bdrew1 (Below.refl _ _))) | (with_reducible exact KS.out _ (below_call hHeld.1 hHeld.1.size hb9)) | (with_reducible exact hHeld))) (fun hHeld => ?_)
       clear hK K
       try simp only [Act.put, List.setIfInBounds_toArray, List.set_cons_zero, List.set_cons_succ])
  refine wpAnyH_ready (rs := [7]) (by kernel_rfl) (by simp) (AllReadyH.cons (by simp only [List.getElem?_toArray, List.getElem?_cons_succ, List.getElem?_cons_zero]; rfl) (fun K hK => ?_) AllReadyH.nil)
  go_simp; refine (right_any x p _ (XV.out.below hHeld.1 (Nat.le_refl _))).mono ?_; rintro e w9 ⟨rfl, hb9⟩; rw [RB.out]; try go_wp2_with fail
  refine hK.out _ _ (by (first | (with_reducible exact KS.out _ (bdrew1 (Below.refl _ _))) | (with_reducible exact KS.out _ (below_call hHeld.1 hHeld.1.size hb9)) | (with_reducible exact hHeld))) (fun hHeld => ?_)
  clear hK K
  try simp only [Act.put, List.setIfInBounds_toArray, List.set_cons_zero, List.set_cons_succ]
  refine wpAnyH_ready (rs := [9]) (by kernel_rfl) (by simp) (AllReadyH.cons (by simp only [List.getElem?_toArray, List.getElem?_cons_succ, List.getElem?_cons_zero]; rfl) (fun K hK => ?_) AllReadyH.nil)
  go_simp; refine (refright_any x p _ (XV.out.below hHeld.1 (Nat.le_refl _))).mono ?_; rintro e w9 ⟨rfl, hb9⟩; rw [RB.out]; try go_wp2_with fail
  refine hK.out _ _ (by (first | (with_reducible exact KS.out _ (bdrew1 (Below.refl _ _))) | (with_reducible exact KS.out _ (below_call hHeld.1 hHeld.1.size hb9)) | (with_reducible exact hHeld))) (fun hHeld => ?_)
  clear hK K
  try simp only [Act.put, List.setIfInBounds_toArray, List.set_cons_zero, List.set_cons_succ]
  first
    | (refine wpAnyH_take (i := 10) (v := undef) (by simp only [List.getElem?_toArray, List.getElem?_cons_succ, List.getElem?_cons_zero]; rfl) (by kernel_rfl) (by kernel_rfl) (by kernel_rfl) (fun _ _ _ h => h) (Or.inr ⟨by rfl, rfl⟩) (by assumption) ?_; try simp only [Act.put, List.setIfInBounds_toArray, List.set_cons_zero, List.set_cons_succ])
    | (refine wpAnyH_take (i := 10) (v := ?_) (by simp only [List.getElem?_toArray, List.getElem?_cons_succ, List.getElem?_cons_zero]; rfl) (by kernel_rfl) (by kernel_rfl) (by kernel_rfl) (fun _ _ _ h => h) (Or.inl ⟨by rfl, ?_⟩) (by assumption) ?_
       rotate_left
       · (intro ww hSw; (try dsimp only at hSw); go_simp; (try with_reducible rfl))
       try simp only [Act.put, List.setIfInBounds_toArray, List.set_cons_zero, List.set_cons_succ])
    | (refine wpAnyH_ready (rs := [10]) (by kernel_rfl) (by simp) (AllReadyH.cons (by simp only [List.getElem?_toArray, List.getElem?_cons_succ, List.getElem?_cons_zero]; rfl) (fun K hK => ?_) AllReadyH.nil)
       go_simp
       first
         | (fail)
       try go_wp2_with fail
       refine hK.out _ _ (by (first | (with_reducible exact KS.out _ (bdrew1 (Below.refl _ _))) | (with_reducible exact KS.out _ (below_call hHeld.1 hHeld.1.size hb9)) | (with_reducible exact hHeld))) (fun hHeld => ?_)
       clear hK K
       try simp only [Act.put, List.setIfInBounds_toArray, List.set_cons_zero, List.set_cons_succ])
  first
    | (refine wpAnyH_take (i := 11) (v := undef) (by simp only [List.getElem?_toArray, List.getElem?_cons_succ, List.getElem?_cons_zero]; rfl) (by kernel_rfl) (by kernel_rfl) (by kernel_rfl) (fun _ _ _ h => h) (Or.inr ⟨by rfl, rfl⟩) (by assumption) ?_; try simp only [Act.put, List.setIfInBounds_toArray, List.set_cons_zero, List.set_cons_succ])
    | (refine wpAnyH_take (i := 11) (v := ?_) (by simp only [List.getElem?_toArray, List.getElem?_cons_succ, List.getElem?_cons_zero]; rfl) (by kernel_rfl) (by kernel_rfl) (by kernel_rfl) (fun _ _ _ h => h) (Or.inl ⟨by rfl, ?_⟩) (by assumption) ?_
       rotate_left
       · (intro ww hSw; (try dsimp only at hSw); go_simp; (try with_reducible rfl))
       try simp only [Act.put, List.setIfInBounds_toArray, List.set_cons_zero, List.set_cons_succ])
    | (refine wpAnyH_ready (rs := [11]) (by kernel_rfl) (by simp) (AllReadyH.cons (by simp only [List.getElem?_toArray, List.getElem?_cons_succ, List.getElem?_cons_zero]; rfl) (fun K hK => ?_) AllReadyH.nil)
       go_simp
       first
         | (fail)
       try go_wp2_with fail
       refine hK.out _ _ (by (first | (with_reducible exact KS.out _ (bdrew1 (Below.refl _ _))) | (with_reducible exact KS.out _ (below_call hHeld.1 hHeld.1.size hb9)) | (with_reducible exact hHeld))) (fun hHeld => ?_)
       clear hK K
       try simp only [Act.put, List.setIfInBounds_toArray, List.set_cons_zero, List.set_cons_succ])
  first
    | (refine wpAnyH_take (i := 12) (v := undef) (by simp only [List.getElem?_toArray, List.getElem?_cons_succ, List.getElem?_cons_zero]; rfl) (by kernel_rfl) (by kernel_rfl) (by kernel_rfl) (fun _ _ _ h => h) (Or.inr ⟨by rfl, rfl⟩) (by assumption) ?_; try simp only [Act.put, List.setIfInBounds_toArray, List.set_cons_zero, List.set_cons_succ])
    | (refine wpAnyH_take (i := 12) (v := ?_) (by simp only [List.getElem?_toArray, List.getElem?_cons_succ, List.getElem?_cons_zero]; rfl) (by kernel_rfl) (by kernel_rfl) (by kernel_rfl) (fun _ _ _ h => h) (Or.inl ⟨by rfl, ?_⟩) (by assumption) ?_
       rotate_left
       · (intro ww hSw; (try dsimp only at hSw); go_simp; (try with_reducible rfl))
       try simp only [Act.put, List.setIfInBounds_toArray, List.set_cons_zero, List.set_cons_succ])
    | (refine wpAnyH_ready (rs := [12]) (by kernel_rfl) (by simp) (AllReadyH.cons (by simp only [List.getElem?_toArray, List.getElem?_cons_succ, List.getElem?_cons_zero]; rfl) (fun K hK => ?_) AllReadyH.nil)
       go_simp
       first
         | (fail)
       try go_wp2_with fail
       refine hK.out _ _ (by (first | (with_reducible exact KS.out _ (bdrew1 (Below.refl _ _))) | (with_reducible exact KS.out _ (below_call hHeld.1 hHeld.1.size hb9)) | (with_reducible exact hHeld))) (fun hHeld => ?_)
       clear hK K
       try simp only [Act.put, List.setIfInBounds_toArray, List.set_cons_zero, List.set_cons_succ])
  first
    | (refine wpAnyH_take (i := 13) (v := undef) (by simp only [List.getElem?_toArray, List.getElem?_cons_succ, List.getElem?_cons_zero]; rfl) (by kernel_rfl) (by kernel_rfl) (by kernel_rfl) (fun _ _ _ h => h) (Or.inr ⟨by rfl, rfl⟩) (by assumption) ?_; try simp only [Act.put, List.setIfInBounds_toArray, List.set_cons_zero, List.set_cons_succ])
    | (refine wpAnyH_take (i := 13) (v := ?_) (by simp only [List.getElem?_toArray, List.getElem?_cons_succ, List.getElem?_cons_zero]; rfl) (by kernel_rfl) (by kernel_rfl) (by kernel_rfl) (fun _ _ _ h => h) (Or.inl ⟨by rfl, ?_⟩) (by assumption) ?_
       rotate_left
       · (intro ww hSw; (try dsimp only at hSw); go_simp; (try with_reducible rfl))
       try simp only [Act.put, List.setIfInBounds_toArray, List.set_cons_zero, List.set_cons_succ])
    | (refine wpAnyH_ready (rs := [13]) (by kernel_rfl) (by simp) (AllReadyH.cons (by simp only [List.getElem?_toArray, List.getElem?_cons_succ, List.getElem?_cons_zero]; rfl) (fun K hK => ?_) AllReadyH.nil)
       go_simp
       first
         | (fail)
       try go_wp2_with fail
       refine hK.out _ _ (by (first | (with_reducible exact KS.out _ (bdrew1 (Below.refl _ _))) | (with_reducible exact KS.out _ (below_call hHeld.1 hHeld.1.size hb9)) | (with_reducible exact hHeld))) (fun hHeld => ?_)
       clear hK K
       try simp only [Act.put, List.setIfInBounds_toArray, List.set_cons_zero, List.set_cons_succ])
  first
    | (refine wpAnyH_take (i := 14) (v := undef) (by simp only [List.getElem?_toArray, List.getElem?_cons_succ, List.getElem?_cons_zero]; rfl) (by kernel_rfl) (by kernel_rfl) (by kernel_rfl) (fun _ _ _ h => h) (Or.inr ⟨by rfl, rfl⟩) (by assumption) ?_; try simp only [Act.put, List.setIfInBounds_toArray, List.set_cons_zero, List.set_cons_succ])
    | (refine wpAnyH_take (i := 14) (v := ?_) (by simp only [List.getElem?_toArray, List.getElem?_cons_succ, List.getElem?_cons_zero]; rfl) (by kernel_rfl) (by kernel_rfl) (by kernel_rfl) (fun _ _ _ h => h) (Or.inl ⟨by rfl, ?_⟩) (by assumption) ?_
       rotate_left
       · (intro ww hSw; (try dsimp only at hSw); go_simp; (try with_reducible rfl))
       try simp only [Act.put, List.setIfInBounds_toArray, List.set_cons_zero, List.set_cons_succ])
    | (refine wpAnyH_ready (rs := [14]) (by kernel_rfl) (by simp) (AllReadyH.cons (by simp only [List.getElem?_toArray, List.getElem?_cons_succ, List.getElem?_cons_zero]; rfl) (fun K hK => ?_) AllReadyH.nil)
       go_simp
       first
         | (fail)
       try go_wp2_with fail
       refine hK.out _ _ (by (first | (with_reducible exact KS.out _ (bdrew1 (Below.refl _ _))) | (with_reducible exact KS.out _ (below_call hHeld.1 hHeld.1.size hb9)) | (with_reducible exact hHeld))) (fun hHeld => ?_)
       clear hK K
       try simp only [Act.put, List.setIfInBounds_toArray, List.set_cons_zero, List.set_cons_succ])
  first
    | (refine wpAnyH_take (i := 16) (v := undef) (by simp only [List.getElem?_toArray, List.getElem?_cons_succ, List.getElem?_cons_zero]; rfl) (by kernel_rfl) (by kernel_rfl) (by kernel_rfl) (fun _ _ _ h => h) (Or.inr ⟨by rfl, rfl⟩) (by assumption) ?_; try simp only [Act.put, List.setIfInBounds_toArray, List.set_cons_zero, List.set_cons_succ])
    | (refine wpAnyH_take (i := 16) (v := ?_) (by simp only [List.getElem?_toArray, List.getElem?_cons_succ, List.getElem?_cons_zero]; rfl) (by kernel_rfl) (by kernel_rfl) (by kernel_rfl) (fun _ _ _ h => h) (Or.inl ⟨by rfl, ?_⟩) (by assumption) ?_
       rotate_left
       · (intro ww hSw; (try dsimp only at hSw); go_simp; (try with_reducible rfl))
       try simp only [Act.put, List.setIfInBounds_toArray, List.set_cons_zero, List.set_cons_succ])
    | (refine wpAnyH_ready (rs := [16]) (by kernel_rfl) (by simp) (AllReadyH.cons (by simp only [List.getElem?_toArray, List.getElem?_cons_succ, List.getElem?_cons_zero]; rfl) (fun K hK => ?_) AllReadyH.nil)
       go_simp
       first
         | (fail)
       try go_wp2_with fail
       refine hK.out _ _ (by (first | (with_reducible exact KS.out _ (bdrew1 (Below.refl _ _))) | (with_reducible exact KS.out _ (below_call hHeld.1 hHeld.1.size hb9)) | (with_reducible exact hHeld))) (fun hHeld => ?_)
       clear hK K
       try simp only [Act.put, List.setIfInBounds_toArray, List.set_cons_zero, List.set_cons_succ])
  first
    | (refine wpAnyH_take (i := 17) (v := undef) (by simp only [List.getElem?_toArray, List.getElem?_cons_succ, List.getElem?_cons_zero]; rfl) (by kernel_rfl) (by kernel_rfl) (by kernel_rfl) (fun _ _ _ h => h) (Or.inr ⟨by rfl, rfl⟩) (by assumption) ?_; try simp only [Act.put, List.setIfInBounds_toArray, List.set_cons_zero, List.set_cons_succ])
    | (refine wpAnyH_take (i := 17) (v := ?_) (by simp only [List.getElem?_toArray, List.getElem?_cons_succ, List.getElem?_cons_zero]; rfl) (by kernel_rfl) (by kernel_rfl) (by kernel_rfl) (fun _ _ _ h => h) (Or.inl ⟨by rfl, ?_⟩) (by assumption) ?_
       rotate_left
       · (intro ww hSw; (try dsimp only at hSw); go_simp; (try with_reducible rfl))
       try simp only [Act.put, List.setIfInBounds_toArray, List.set_cons_zero, List.set_cons_succ])
    | (refine wpAnyH_ready (rs := [17]) (by kernel_rfl) (by simp) (AllReadyH.cons (by simp only [List.getElem?_toArray, List.getElem?_cons_succ, List.getElem?_cons_zero]; rfl) (fun K hK => ?_) AllReadyH.nil)
       go_simp
       first
         | (fail)
       try go_wp2_with fail
       refine hK.out _ _ (by (first | (with_reducible exact KS.out _ (bdrew1 (Below.refl _ _))) | (with_reducible exact KS.out _ (below_call hHeld.1 hHeld.1.size hb9)) | (with_reducible exact hHeld))) (fun hHeld => ?_)
       clear hK K
       try simp only [Act.put, List.setIfInBounds_toArray, List.set_cons_zero, List.set_cons_succ])
  refine wpAnyH_ready (rs := [15]) (by kernel_rfl) (by simp) (AllReadyH.cons (by simp only [List.getElem?_toArray, List.getElem?_cons_succ, List.getElem?_cons_zero]; rfl) (fun K hK => ?_) AllReadyH.nil)
  go_simp; refine (same_any x y p q _ (XV.out.below hHeld.1 (Nat.le_refl _)) (YV.out.below hHeld.1 (Nat.le_refl _))).mono ?_; rintro e w9 ⟨rfl, hb9⟩; rw [SB.out]; try go_wp2_with fail
  refine hK.out _ _ (by (first | (with_reducible exact KS.out _ (bdrew1 (Below.refl _ _))) | (with_reducible exact KS.out _ (below_call hHeld.1 hHeld.1.size hb9)) | (with_reducible exact hHeld))) (fun hHeld => ?_)
  clear hK K
  try simp only [Act.put, List.setIfInBounds_toArray, List.set_cons_zero, List.set_cons_succ]
  refine wpAnyH_ready (rs := [18]) (by kernel_rfl) (by simp) (AllReadyH.cons (by simp only [List.getElem?_toArray, List.getElem?_cons_succ, List.getElem?_cons_zero]; rfl) (fun K hK => ?_) AllReadyH.nil)
  go_simp; refine (refsame_any x y p q _ (XV.out.below hHeld.1 (Nat.le_refl _)) (YV.out.below hHeld.1 (Nat.le_refl _))).mono ?_; rintro e w9 ⟨rfl, hb9⟩; rw [SB.out]; try go_wp2_with fail
  refine hK.out _ _ (by (first | (with_reducible exact KS.out _ (bdrew1 (Below.refl _ _))) | (with_reducible exact KS.out _ (below_call hHeld.1 hHeld.1.size hb9)) | (with_reducible exact hHeld))) (fun hHeld => ?_)
  clear hK K
  try simp only [Act.put, List.setIfInBounds_toArray, List.set_cons_zero, List.set_cons_succ]
  first
    | (refine wpAnyH_take (i := 19) (v := undef) (by simp only [List.getElem?_toArray, List.getElem?_cons_succ, List.getElem?_cons_zero]; rfl) (by kernel_rfl) (by kernel_rfl) (by kernel_rfl) (fun _ _ _ h => h) (Or.inr ⟨by rfl, rfl⟩) (by assumption) ?_; try simp only [Act.put, List.setIfInBounds_toArray, List.set_cons_zero, List.set_cons_succ])
    | (refine wpAnyH_take (i := 19) (v := ?_) (by simp only [List.getElem?_toArray, List.getElem?_cons_succ, List.getElem?_cons_zero]; rfl) (by kernel_rfl) (by kernel_rfl) (by kernel_rfl) (fun _ _ _ h => h) (Or.inl ⟨by rfl, ?_⟩) (by assumption) ?_
       rotate_left
       · (intro ww hSw; (try dsimp only at hSw); go_simp; (try with_reducible rfl))
       try simp only [Act.put, List.setIfInBounds_toArray, List.set_cons_zero, List.set_cons_succ])
    | (refine wpAnyH_ready (rs := [19]) (by kernel_rfl) (by simp) (AllReadyH.cons (by simp only [List.getElem?_toArray, List.getElem?_cons_succ, List.getElem?_cons_zero]; rfl) (fun K hK => ?_) AllReadyH.nil)
       go_simp
       first
         | (fail)
       try go_wp2_with fail
       refine hK.out _ _ (by (first | (with_reducible exact KS.out _ (bdrew1 (Below.refl _ _))) | (with_reducible exact KS.out _ (below_call hHeld.1 hHeld.1.size hb9)) | (with_reducible exact hHeld))) (fun hHeld => ?_)
       clear hK K
       try simp only [Act.put, List.setIfInBounds_toArray, List.set_cons_zero, List.set_cons_succ])
  first
    | (refine wpAnyH_take (i := 20) (v := undef) (by simp only [List.getElem?_toArray, List.getElem?_cons_succ, List.getElem?_cons_zero]; rfl) (by kernel_rfl) (by kernel_rfl) (by kernel_rfl) (fun _ _ _ h => h) (Or.inr ⟨by rfl, rfl⟩) (by assumption) ?_; try simp only [Act.put, List.setIfInBounds_toArray, List.set_cons_zero, List.set_cons_succ])
    | (refine wpAnyH_take (i := 20) (v := ?_) (by simp only [List.getElem?_toArray, List.getElem?_cons_succ, List.getElem?_cons_zero]; rfl) (by kernel_rfl) (by kernel_rfl) (by kernel_rfl) (fun _ _ _ h => h) (Or.inl ⟨by rfl, ?_⟩) (by assumption) ?_
       rotate_left
       · (intro ww hSw; (try dsimp only at hSw); go_simp; (try with_reducible rfl))
       try simp only [Act.put, List.setIfInBounds_toArray, List.set_cons_zero, List.set_cons_succ])
    | (refine wpAnyH_ready (rs := [20]) (by kernel_rfl) (by simp) (AllReadyH.cons (by simp only [List.getElem?_toArray, List.getElem?_cons_succ, List.getElem?_cons_zero]; rfl) (fun K hK => ?_) AllReadyH.nil)
       go_simp
       first
         | (fail)
       try go_wp2_with fail
       refine hK.out _ _ (by (first | (with_reducible exact KS.out _ (bdrew1 (Below.refl _ _))) | (with_reducible exact KS.out _ (below_call hHeld.1 hHeld.1.size hb9)) | (with_reducible exact hHeld))) (fun hHeld => ?_)
       clear hK K
       try simp only [Act.put, List.setIfInBounds_toArray, List.set_cons_zero, List.set_cons_succ])
  first
    | (refine wpAnyH_take (i := 21) (v := undef) (by simp only [List.getElem?_toArray, List.getElem?_cons_succ, List.getElem?_cons_zero]; rfl) (by kernel_rfl) (by kernel_rfl) (by kernel_rfl) (fun _ _ _ h => h) (Or.inr ⟨by rfl, rfl⟩) (by assumption) ?_; try simp only [Act.put, List.setIfInBounds_toArray, List.set_cons_zero, List.set_cons_succ])
    | (refine wpAnyH_take (i := 21) (v := ?_) (by simp only [List.getElem?_toArray, List.getElem?_cons_succ, List.getElem?_cons_zero]; rfl) (by kernel_rfl) (by kernel_rfl) (by kernel_rfl) (fun _ _ _ h => h) (Or.inl ⟨by rfl, ?_⟩) (by assumption) ?_
       rotate_left
       · (intro ww hSw; (try dsimp only at hSw); go_simp; (try with_reducible rfl))
       try simp only [Act.put, List.setIfInBounds_toArray, List.set_cons_zero, List.set_cons_succ])
    | (refine wpAnyH_ready (rs := [21]) (by kernel_rfl) (by simp) (AllReadyH.cons (by simp only [List.getElem?_toArray, List.getElem?_cons_succ, List.getElem?_cons_zero]; rfl) (fun K hK => ?_) AllReadyH.nil)
       go_simp
       first
         | (fail)
       try go_wp2_with fail
       refine hK.out _ _ (by (first | (with_reducible exact KS.out _ (bdrew1 (Below.refl _ _))) | (with_reducible exact KS.out _ (below_call hHeld.1 hHeld.1.size hb9)) | (with_reducible exact hHeld))) (fun hHeld => ?_)
       clear hK K
       try simp only [Act.put, List.setIfInBounds_toArray, List.set_cons_zero, List.set_cons_succ])
  first
    | (refine wpAnyH_take (i := 22) (v := undef) (by simp only [List.getElem?_toArray, List.getElem?_cons_succ, List.getElem?_cons_zero]; rfl) (by kernel_rfl) (by kernel_rfl) (by kernel_rfl) (fun _ _ _ h => h) (Or.inr ⟨by rfl, rfl⟩) (by assumption) ?_; try simp only [Act.put, List.setIfInBounds_toArray, List.set_cons_zero, List.set_cons_succ])
    | (refine wpAnyH_take (i := 22) (v := ?_) (by simp only [List.getElem?_toArray, List.getElem?_cons_succ, List.getElem?_cons_zero]; rfl) (by kernel_rfl) (by kernel_rfl) (by kernel_rfl) (fun _ _ _ h => h) (Or.inl ⟨by rfl, ?_⟩) (by assumption) ?_
       rotate_left
       · (intro ww hSw; (try dsimp only at hSw); go_simp; (try with_reducible rfl))
       try simp only [Act.put, List.setIfInBounds_toArray, List.set_cons_zero, List.set_cons_succ])
    | (refine wpAnyH_ready (rs := [22]) (by kernel_rfl) (by simp) (AllReadyH.cons (by simp only [List.getElem?_toArray, List.getElem?_cons_succ, List.getElem?_cons_zero]; rfl) (fun K hK => ?_) AllReadyH.nil)
       go_simp
       first
         | (fail)
       try go_wp2_with fail
       refine hK.out _ _ (by (first | (with_reducible exact KS.out _ (bdrew1 (Below.refl _ _))) | (with_reducible exact KS.out _ (below_call hHeld.1 hHeld.1.size hb9)) | (with_reducible exact hHeld))) (fun hHeld => ?_)
       clear hK K
       try simp only [Act.put, List.setIfInBounds_toArray, List.set_cons_zero, List.set_cons_succ])
  first
    | (refine wpAnyH_take (i := 24) (v := undef) (by simp only [List.getElem?_toArray, List.getElem?_cons_succ, List.getElem?_cons_zero]; rfl) (by kernel_rfl) (by kernel_rfl) (by kernel_rfl) (fun _ _ _ h => h) (Or.inr ⟨by rfl, rfl⟩) (by assumption) ?_; try simp only [Act.put, List.setIfInBounds_toArray, List.set_cons_zero, List.set_cons_succ])
    | (refine wpAnyH_take (i := 24) (v := ?_) (by simp only [List.getElem?_toArray, List.getElem?_cons_succ, List.getElem?_cons_zero]; rfl) (by kernel_rfl) (by kernel_rfl) (by kernel_rfl) (fun _ _ _ h => h) (Or.inl ⟨by rfl, ?_⟩) (by assumption) ?_
       rotate_left
       · (intro ww hSw; (try dsimp only at hSw); go_simp; (try with_reducible rfl))
       try simp only [Act.put, List.setIfInBounds_toArray, List.set_cons_zero, List.set_cons_succ])
    | (refine wpAnyH_ready (rs := [24]) (by kernel_rfl) (by simp) (AllReadyH.cons (by simp only [List.getElem?_toArray, List.getElem?_cons_succ, List.getElem?_cons_zero]; rfl) (fun K hK => ?_) AllReadyH.nil)
       go_simp
       first
         | (fail)
       try go_wp2_with fail
       refine hK.out _ _ (by (first | (with_reducible exact KS.out _ (bdrew1 (Below.refl _ _))) | (with_reducible exact KS.out _ (below_call hHeld.1 hHeld.1.size hb9)) | (with_reducible exact hHeld))) (fun hHeld => ?_)
       clear hK K
       try simp only [Act.put, List.setIfInBounds_toArray, List.set_cons_zero, List.set_cons_succ])
  refine wpAnyH_ready (rs := [23]) (by kernel_rfl) (by simp) (AllReadyH.cons (by simp only [List.getElem?_toArray, List.getElem?_cons_succ, List.getElem?_cons_zero]; rfl) (fun K hK => ?_) AllReadyH.nil)
  go_simp; refine (copy_any x p _ (XV.out.below hHeld.1 (Nat.le_refl _)) FX.out).mono ?_; rintro e w9 ⟨q9, rfl, ow9, hb9⟩; try go_wp2_with fail
  refine hK.out _ _ (by (first | (with_reducible exact KS.out _ (bdrew1 (Below.refl _ _))) | (with_reducible exact KS.out _ (below_call hHeld.1 hHeld.1.size hb9)) | (with_reducible exact hHeld))) (fun hHeld => ?_)
  clear hK K
  try simp only [Act.put, List.setIfInBounds_toArray, List.set_cons_zero, List.set_cons_succ]
  refine wpAnyH_ready (rs := [25]) (by kernel_rfl) (by simp) (AllReadyH.cons (by simp only [List.getElem?_toArray, List.getElem?_cons_succ, List.getElem?_cons_zero]; rfl) (fun K hK => ?_) AllReadyH.nil)
  go_simp; refine (same_yes (Shape.refl x) (Shape.refl x) rfl q9 p _ ow9.world (XV.out.below hHeld.1 (Nat.le_refl _))).mono ?_; rintro e w9 ⟨rfl, hb9⟩; try go_wp2_with fail
  refine hK.out _ _ (by (first | (with_reducible exact KS.out _ (bdrew1 (Below.refl _ _))) | (with_reducible exact KS.out _ (below_call hHeld.1 hHeld.1.size hb9)) | (with_reducible exact hHeld))) (fun hHeld => ?_)
  clear hK K
  try simp only [Act.put, List.setIfInBounds_toArray, List.set_cons_zero, List.set_cons_succ]
  first
    | (refine wpAnyH_take (i := 26) (v := undef) (by simp only [List.getElem?_toArray, List.getElem?_cons_succ, List.getElem?_cons_zero]; rfl) (by kernel_rfl) (by kernel_rfl) (by kernel_rfl) (fun _ _ _ h => h) (Or.inr ⟨by rfl, rfl⟩) (by assumption) ?_; try simp only [Act.put, List.setIfInBounds_toArray, List.set_cons_zero, List.set_cons_succ])
    | (refine wpAnyH_take (i := 26) (v := ?_) (by simp only [List.getElem?_toArray, List.getElem?_cons_succ, List.getElem?_cons_zero]; rfl) (by kernel_rfl) (by kernel_rfl) (by kernel_rfl) (fun _ _ _ h => h) (Or.inl ⟨by rfl, ?_⟩) (by assumption) ?_
       rotate_left
       · (intro ww hSw; (try dsimp only at hSw); go_simp; (try with_reducible rfl))
       try simp only [Act.put, List.setIfInBounds_toArray, List.set_cons_zero, List.set_cons_succ])
    | (refine wpAnyH_ready (rs := [26]) (by kernel_rfl) (by simp) (AllReadyH.cons (by simp only [List.getElem?_toArray, List.getElem?_cons_succ, List.getElem?_cons_zero]; rfl) (fun K hK => ?_) AllReadyH.nil)
       go_simp
       first
         | (fail)
       try go_wp2_with fail
       refine hK.out _ _ (by (first | (with_reducible exact KS.out _ (bdrew1 (Below.refl _ _))) | (with_reducible exact KS.out _ (below_call hHeld.1 hHeld.1.size hb9)) | (with_reducible exact hHeld))) (fun hHeld => ?_)
       clear hK K
       try simp only [Act.put, List.setIfInBounds_toArray, List.set_cons_zero, List.set_cons_succ])
  first
    | (refine wpAnyH_take (i := 27) (v := undef) (by simp only [List.getElem?_toArray, List.getElem?_cons_succ, List.getElem?_cons_zero]; rfl) (by kernel_rfl) (by kernel_rfl) (by kernel_rfl) (fun _ _ _ h => h) (Or.inr ⟨by rfl, rfl⟩) (by assumption) ?_; try simp only [Act.put, List.setIfInBounds_toArray, List.set_cons_zero, List.set_cons_succ])
    | (refine wpAnyH_take (i := 27) (v := ?_) (by simp only [List.getElem?_toArray, List.getElem?_cons_succ, List.getElem?_cons_zero]; rfl) (by kernel_rfl) (by kernel_rfl) (by kernel_rfl) (fun _ _ _ h => h) (Or.inl ⟨by rfl, ?_⟩) (by assumption) ?_
       rotate_left
       · (intro ww hSw; (try dsimp only at hSw); go_simp; (try with_reducible rfl))
       try simp only [Act.put, List.setIfInBounds_toArray, List.set_cons_zero, List.set_cons_succ])
    | (refine wpAnyH_ready (rs := [27]) (by kernel_rfl) (by simp) (AllReadyH.cons (by simp only [List.getElem?_toArray, List.getElem?_cons_succ, List.getElem?_cons_zero]; rfl) (fun K hK => ?_) AllReadyH.nil)
       go_simp
       first
         | (fail)
       try go_wp2_with fail
       refine hK.out _ _ (by (first | (with_reducible exact KS.out _ (bdrew1 (Below.refl _ _))) | (with_reducible exact KS.out _ (below_call hHeld.1 hHeld.1.size hb9)) | (with_reducible exact hHeld))) (fun hHeld => ?_)
       clear hK K
       try simp only [Act.put, List.setIfInBounds_toArray, List.set_cons_zero, List.set_cons_succ])
  refine wpAnyH_done (by kernel_rfl) ?_ _
  refine NoPanic.normal ?_
  have BR := Lib.hid hHeld.1
  have c0 := hHeld.2.1
  have HA6 := Lib.hid (HA_6.out.call hHeld.1)
  have ca := HA6.out.2.2
  have HD6 := Lib.hid (HD_6.out.call hHeld.1)
  clear hHeld
  go_wp2_with fail
  refine (refmay_any d dp _ (ID.out.below HD6.out.1 (Nat.le_refl _))).mono ?_
  rintro e w7 ⟨rfl, b7⟩
  rw [HM.out]
  have HD7 := Lib.hid (HD6.out.call b7)
  have HA7 := Lib.hid (HA6.out.call b7)
  clear c0 ca
  have c0 := HD7.out.2.2
  have ca := HA7.out.2.2
  clear b7
  go_wp2_with fail
  refine (refsame_zero _).mono ?_
  rintro e w8 ⟨rfl, b8⟩
  go_wp2_with fail
  go_ret
  exact ⟨rfl, (HD7.out.call b8).1⟩
theorem walk_descMakes (d : Ds) (dp : Dp) (x : Wd) (p : Wp) (y : Wd) (q : Wp) (w : World) (hd : DescAt w dp d) (hx : WorldAt w p x) (hy : WorldAt w q y) : Calls Try.prog 3 #[.agg #[.slice dp.ex d.exits.length dp.exc, .slice dp.pl d.players.length dp.plc, .slice dp.co d.coins.length dp.coc, .slice dp.it d.items.length dp.itc, .slice dp.bo d.boxes.length dp.boc, .int .i64 d.room, .int .i64 d.player, .int .i64 d.box], .agg #[.slice p.d.ex x.d.exits.length p.d.exc, .slice p.d.pl x.d.players.length p.d.plc, .slice p.d.co x.d.coins.length p.d.coc, .slice p.d.it x.d.items.length p.d.itc, .slice p.d.bo x.d.boxes.length p.d.boc, .int .i64 x.d.room, .int .i64 x.d.player, .int .i64 x.d.box, .slice p.at_ x.at_.length p.atc, .slice p.co x.coins.length p.coc, .slice p.wh x.wher.length p.whc], .agg #[.slice q.d.ex y.d.exits.length q.d.exc, .slice q.d.pl y.d.players.length q.d.plc, .slice q.d.co y.d.coins.length q.d.coc, .slice q.d.it y.d.items.length q.d.itc, .slice q.d.bo y.d.boxes.length q.d.boc, .int .i64 y.d.room, .int .i64 y.d.player, .int .i64 y.d.box, .slice q.at_ y.at_.length q.atc, .slice q.co y.coins.length q.coc, .slice q.wh y.wher.length q.whc]] w fun e w' => e = .returned (.bool true) ∧ Below w.heap.size w w' := by
  cases f0 : fewB ⟨d, [], [], []⟩
  · exact descMakes_few0 d dp x y p q w hd hx hy f0
  cases f1 : fewB x
  · exact descMakes_few1 d dp x y p q w hd hx hy f0 f1
  cases f2 : fewB y
  · exact descMakes_few2 d dp x y p q w hd hx hy f0 f1 f2
  cases hm : mayD d
  · exact descMakes_no d dp x y p q w hd hx hy f0 f1 f2 hm
  · exact descMakes_yes d dp x y p q w hd hx hy f0 f1 f2 hm
set_option maxRecDepth 100000 in
theorem lifted_descMakes (os : Os) (started : os.Started) (H : Type) (enc : TypeId × Value → H) :
    ReturnsInHanded {} Try.checked os 3 .any (Rows.descMakesSpec.pre6 enc Try.prog Try.f3 Rows.descMakesRow.domain false) (Rows.descMakesSpec.post enc Try.prog Try.f3 false true false false) := by
  refine returnsInHanded_of_change (C := Try.checked) (by kernel_rfl) started (by kernel_rfl) Try.func3
    (ChangeSpec.witness6 (enc := enc) (C := Try.checked) false ⟨#[], #[.agg #[.slice none 0 0, .slice none 0 0, .slice none 0 0, .slice none 0 0, .slice none 0 0, .int .i64 0, .int .i64 0, .int .i64 0], .agg #[.slice none 0 0, .slice none 0 0, .slice none 0 0, .slice none 0 0, .slice none 0 0, .int .i64 0, .int .i64 0, .int .i64 0, .slice none 0 0, .slice none 0 0, .slice none 0 0], .agg #[.slice none 0 0, .slice none 0 0, .slice none 0 0, .slice none 0 0, .slice none 0 0, .int .i64 0, .int .i64 0, .int .i64 0, .slice none 0 0, .slice none 0 0, .slice none 0 0]], []⟩ 8 (by kernel_rfl) (by kernel_rfl) (by kernel_rfl) (by kernel_rfl)) ?_
  intro W base args ds gs before hval0 hW hcnd _
  have hval : ∀ (j : Nat) t v, Try.f3.params[j]? = some t → args[j]? = some v → Value.okWide Try.prog W .any base t v := hval0
  have hW' := hW
  obtain ⟨p, q, hA0, hV, rfl, hfz, hnd⟩ := hW
  have hA : DataW.TrodAll enc Try.prog W 0 (fun _ => true) true Try.f3.params.toList args.toList ds p := hA0
  rw [Try.params3] at hA hval
  obtain ⟨v0, vs0, d0, ds0, p0, q0, hargs, rfl, rfl, h0, r0⟩ := trodAll_cons hA
  obtain ⟨v1, vs1, d1, ds1, p1, q1, rfl, rfl, rfl, h1, r1⟩ := trodAll_cons r0
  obtain ⟨v2, vs2, d2, ds2, p2, q2, rfl, rfl, rfl, h2, r2⟩ := trodAll_cons r1
  obtain ⟨rfl, rfl, rfl⟩ := trodAll_nil r2
  obtain rfl : args = #[v0, v1, v2] := by cases args; simp_all
  obtain ⟨rfl, rfl⟩ := trodVars_none hV
  obtain ⟨wx0, wp0, rfl, m0⟩ := read_desc (hval 0 26 v0 rfl rfl) h0
  obtain ⟨wx1, wp1, rfl, m1⟩ := read_world (hval 1 29 v1 rfl rfl) h1
  obtain ⟨wx2, wp2, rfl, m2⟩ := read_world (hval 2 29 v2 rfl rfl) h2
  clear hA0 hval0
  simp only [List.append_nil] at hW'
  refine (walk_descMakes wx0 wp0 wx1 wp1 wx2 wp2 W m0 m1 m2).mono fun e W' ⟨he, hg⟩ => ?_
  subst he
  exact ⟨_, rfl, law_post (by kernel_rfl) rfl (by rw [Try.params3]; decide +kernel) rfl rfl Try.underlying4 hW' hg⟩

/-- ████ THE STATEMENT ████ -/
theorem proved_descMakes : Rows.DescMakesSaid :=
  OpenClaim.holds_of_wide 3 Try.f3 rfl rfl rfl rfl rfl rfl rfl ⟨rfl, rfl, rfl, rfl, rfl⟩ rfl rfl rfl rfl rfl (by kernel_rfl) Try.func3 (by kernel_rfl)
    (of_decide_eq_true (by kernel_rfl)) (by unfold Func.isWrapper; first | (rw [if_pos (by decide +kernel)]; kernel_rfl) | (rw [if_neg (by decide +kernel)]; exact ⟨rfl, rfl⟩))
    (fun os started H enc _ => lifted_descMakes os started H enc)
#print axioms proved_descMakes
end Go.Proofs.Ytniblphklgbpnaa
