/- DescCaps: a right world stays right with more room anywhere; and without any items it is right, whatever the room. -/
import Derived.Test.YtniblphklgbpnaaRows
import Derived.Test.YtniblphklgbpnaaKit
import Derived.Test.YtniblphklgbpnaaSlices
import Derived.Test.YtniblphklgbpnaaStrs
import Derived.Test.YtniblphklgbpnaaCoin
import Derived.Test.YtniblphklgbpnaaBlk
import Derived.Test.YtniblphklgbpnaaHolds
import Derived.Test.YtniblphklgbpnaaWorldMath
import Derived.Test.YtniblphklgbpnaaWorldAt
import Derived.Test.YtniblphklgbpnaaDescNest
import Derived.Test.YtniblphklgbpnaaDescNest2
import Derived.Test.YtniblphklgbpnaaDescMay
import Derived.Test.YtniblphklgbpnaaDescMay2
import Derived.Test.YtniblphklgbpnaaDescRight
import Derived.Test.YtniblphklgbpnaaDescCopy
import Derived.Test.YtniblphklgbpnaaDescCopy2
import Derived.Test.YtniblphklgbpnaaDescNew
import Derived.Test.YtniblphklgbpnaaDescSame
import Derived.Test.YtniblphklgbpnaaRefDescA
import Derived.Test.YtniblphklgbpnaaRefDepth
import Derived.Test.YtniblphklgbpnaaRefMayA
import Derived.Test.YtniblphklgbpnaaRefMay
import Derived.Test.YtniblphklgbpnaaRefRight
import Derived.Test.YtniblphklgbpnaaRefSame
import Derived.Test.YtniblphklgbpnaaRefCopied
import Derived.Test.YtniblphklgbpnaaDescStore
import Derived.Test.YtniblphklgbpnaaDescAs
import Derived.Test.YtniblphklgbpnaaDescAwake
import Derived.Test.YtniblphklgbpnaaWorldArg
import Derived.Test.YtniblphklgbpnaaDescCapsMath
import Derived.Deep.QuietTactic
import Derived.BigQuiet
import Derived.Deep.RegionHeld3
import Derived.WalkKit
import Derived.ProofKit
import Derived.OpenShut
import Derived.IntWalk
namespace Go.Proofs.Ytniblphklgbpnaa
open Go.ChangeShapes Go.WideShapes Go.ChangeAt Go.RowKit
set_option linter.unusedVariables false
open Go.RowKit
set_option maxRecDepth 100000 in
theorem descCaps_few (x : Wd) (p : Wp) (c1 c2 c3 : Int) (w : World) (h : WorldAt w p x) (hf : fewB x = false) : Calls Try.prog 6 #[.agg #[.slice p.d.ex x.d.exits.length p.d.exc, .slice p.d.pl x.d.players.length p.d.plc, .slice p.d.co x.d.coins.length p.d.coc, .slice p.d.it x.d.items.length p.d.itc, .slice p.d.bo x.d.boxes.length p.d.boc, .int .i64 x.d.room, .int .i64 x.d.player, .int .i64 x.d.box, .slice p.at_ x.at_.length p.atc, .slice p.co x.coins.length p.coc, .slice p.wh x.wher.length p.whc], .int .u8 c1, .int .u8 c2, .int .u8 c3] w fun e w' => e = .returned (.bool true) ∧ Below w.heap.size w w' := by
  have HN := Lib.hid (Holds.new w #[.slice p.d.ex x.d.exits.length p.d.exc, .slice p.d.pl x.d.players.length p.d.plc, .slice p.d.co x.d.coins.length p.d.coc, .slice p.d.it x.d.items.length p.d.itc, .slice p.d.bo x.d.boxes.length p.d.boc, .int .i64 x.d.room, .int .i64 x.d.player, .int .i64 x.d.box, .slice p.at_ x.at_.length p.atc, .slice p.co x.coins.length p.coc, .slice p.wh x.wher.length p.whc] 29)
  have HF := Lib.hid hf
  clear hf
  go_enter Try.func6, Try.ntmps6
  go_wp2_with fail
  have t0 : w.heap.size + 1 = (w.alloc (.cells #[.slice p.d.ex x.d.exits.length p.d.exc, .slice p.d.pl x.d.players.length p.d.plc, .slice p.d.co x.d.coins.length p.d.coc, .slice p.d.it x.d.items.length p.d.itc, .slice p.d.bo x.d.boxes.length p.d.boc, .int .i64 x.d.room, .int .i64 x.d.player, .int .i64 x.d.box, .slice p.at_ x.at_.length p.atc, .slice p.co x.coins.length p.coc, .slice p.wh x.wher.length p.whc] 29)).heap.size := by simp
  generalize w.alloc (.cells #[.slice p.d.ex x.d.exits.length p.d.exc, .slice p.d.pl x.d.players.length p.d.plc, .slice p.d.co x.d.coins.length p.d.coc, .slice p.d.it x.d.items.length p.d.itc, .slice p.d.bo x.d.boxes.length p.d.boc, .int .i64 x.d.room, .int .i64 x.d.player, .int .i64 x.d.box, .slice p.at_ x.at_.length p.atc, .slice p.co x.coins.length p.coc, .slice p.wh x.wher.length p.whc] 29) = V0 at *
  refine (awake_any _).mono ?_
  rintro e w1 ⟨rfl, b1⟩
  have H_1 := Lib.hid (HN.out.call b1)
  have s1 := b1.size
  clear b1 HN
  have hc := H_1.out.2.2
  go_wp2_with fail
  clear hc
  refine (few_any x p w1).mono ?_
  rintro e w2 ⟨rfl, b2⟩
  rw [HF.out]
  have H_2 := Lib.hid (H_1.out.call b2)
  have s2 := b2.size
  clear b2 H_1
  have hc := H_2.out.2.2
  go_wp2_with fail
  clear hc
  refine (awake_any _).mono ?_
  rintro e w9 ⟨rfl, b9⟩
  have H_3 := Lib.hid (H_2.out.call b9)
  have s3 := b9.size
  clear b9 H_2
  go_wp2_with fail
  go_ret
  exact ⟨rfl, H_3.out.1⟩
set_option maxRecDepth 100000 in
theorem descCaps_wrong (x : Wd) (p : Wp) (c1 c2 c3 : Int) (w : World) (h : WorldAt w p x) (hf : fewB x = true) (hr : rightW x = false) : Calls Try.prog 6 #[.agg #[.slice p.d.ex x.d.exits.length p.d.exc, .slice p.d.pl x.d.players.length p.d.plc, .slice p.d.co x.d.coins.length p.d.coc, .slice p.d.it x.d.items.length p.d.itc, .slice p.d.bo x.d.boxes.length p.d.boc, .int .i64 x.d.room, .int .i64 x.d.player, .int .i64 x.d.box, .slice p.at_ x.at_.length p.atc, .slice p.co x.coins.length p.coc, .slice p.wh x.wher.length p.whc], .int .u8 c1, .int .u8 c2, .int .u8 c3] w fun e w' => e = .returned (.bool true) ∧ Below w.heap.size w w' := by
  have HN := Lib.hid (Holds.new w #[.slice p.d.ex x.d.exits.length p.d.exc, .slice p.d.pl x.d.players.length p.d.plc, .slice p.d.co x.d.coins.length p.d.coc, .slice p.d.it x.d.items.length p.d.itc, .slice p.d.bo x.d.boxes.length p.d.boc, .int .i64 x.d.room, .int .i64 x.d.player, .int .i64 x.d.box, .slice p.at_ x.at_.length p.atc, .slice p.co x.coins.length p.coc, .slice p.wh x.wher.length p.whc] 29)
  have HF := Lib.hid hf
  have HR := Lib.hid hr
  clear hf hr
  go_enter Try.func6, Try.ntmps6
  go_wp2_with fail
  have t0 : w.heap.size + 1 = (w.alloc (.cells #[.slice p.d.ex x.d.exits.length p.d.exc, .slice p.d.pl x.d.players.length p.d.plc, .slice p.d.co x.d.coins.length p.d.coc, .slice p.d.it x.d.items.length p.d.itc, .slice p.d.bo x.d.boxes.length p.d.boc, .int .i64 x.d.room, .int .i64 x.d.player, .int .i64 x.d.box, .slice p.at_ x.at_.length p.atc, .slice p.co x.coins.length p.coc, .slice p.wh x.wher.length p.whc] 29)).heap.size := by simp
  generalize w.alloc (.cells #[.slice p.d.ex x.d.exits.length p.d.exc, .slice p.d.pl x.d.players.length p.d.plc, .slice p.d.co x.d.coins.length p.d.coc, .slice p.d.it x.d.items.length p.d.itc, .slice p.d.bo x.d.boxes.length p.d.boc, .int .i64 x.d.room, .int .i64 x.d.player, .int .i64 x.d.box, .slice p.at_ x.at_.length p.atc, .slice p.co x.coins.length p.coc, .slice p.wh x.wher.length p.whc] 29) = V0 at *
  refine (awake_any _).mono ?_
  rintro e w1 ⟨rfl, b1⟩
  have H_1 := Lib.hid (HN.out.call b1)
  have s1 := b1.size
  clear b1 HN
  have hc := H_1.out.2.2
  go_wp2_with fail
  clear hc
  refine (few_any x p w1).mono ?_
  rintro e w2 ⟨rfl, b2⟩
  rw [HF.out]
  have H_2 := Lib.hid (H_1.out.call b2)
  have s2 := b2.size
  clear b2 H_1
  have hc := H_2.out.2.2
  go_wp2_with fail
  clear hc
  refine (refright_any x p w2 (h.below H_2.out.1 (Nat.le_refl _))).mono ?_
  rintro e w3 ⟨rfl, b3⟩
  rw [HR.out]
  have H_3 := Lib.hid (H_2.out.call b3)
  have s3 := b3.size
  clear b3 H_2
  have hc := H_3.out.2.2
  go_wp2_with fail
  clear hc
  refine (awake_any _).mono ?_
  rintro e w9 ⟨rfl, b9⟩
  have H_4 := Lib.hid (H_3.out.call b9)
  have s4 := b9.size
  clear b9 H_3
  go_wp2_with fail
  go_ret
  exact ⟨rfl, H_4.out.1⟩
set_option maxRecDepth 100000 in
set_option maxHeartbeats 2000000 in
theorem descCaps_go (x : Wd) (p : Wp) (m1 m2 m3 : Nat) (hm1 : m1 ≤ 255) (hm2 : m2 ≤ 255) (hm3 : m3 ≤ 255) (v1 v2 v3 : Int) (g1 : x.d.room ≤ v1 ∧ v1 ≤ 64) (g2 : x.d.player ≤ v2 ∧ v2 ≤ 64) (g3 : x.d.box ≤ v3 ∧ v3 ≤ 64)
    (n1 : ∀ W, (Builtin.min_ #[3, 3] 3 #[.int .i64 64, .int .i64 (x.d.room + (m1 : Int) % 64)]).run Try.prog W = .ok (.int .i64 v1) W) (n2 : ∀ W, (Builtin.min_ #[3, 3] 3 #[.int .i64 64, .int .i64 (x.d.player + (m2 : Int) % 64)]).run Try.prog W = .ok (.int .i64 v2) W) (n3 : ∀ W, (Builtin.min_ #[3, 3] 3 #[.int .i64 64, .int .i64 (x.d.box + (m3 : Int) % 64)]).run Try.prog W = .ok (.int .i64 v3) W) (w : World) (h : WorldAt w p x) (hf : fewB x = true) (hr : rightW x = true) : Calls Try.prog 6 #[.agg #[.slice p.d.ex x.d.exits.length p.d.exc, .slice p.d.pl x.d.players.length p.d.plc, .slice p.d.co x.d.coins.length p.d.coc, .slice p.d.it x.d.items.length p.d.itc, .slice p.d.bo x.d.boxes.length p.d.boc, .int .i64 x.d.room, .int .i64 x.d.player, .int .i64 x.d.box, .slice p.at_ x.at_.length p.atc, .slice p.co x.coins.length p.coc, .slice p.wh x.wher.length p.whc], .int .u8 (m1 : Int), .int .u8 (m2 : Int), .int .u8 (m3 : Int)] w fun e w' => e = .returned (.bool true) ∧ Below w.heap.size w w' := by
  have HLN := Lib.hid (right_lens hr)
  have FW := Lib.hid (few_few hf)
  have HN := Lib.hid (Holds.new w #[.slice p.d.ex x.d.exits.length p.d.exc, .slice p.d.pl x.d.players.length p.d.plc, .slice p.d.co x.d.coins.length p.d.coc, .slice p.d.it x.d.items.length p.d.itc, .slice p.d.bo x.d.boxes.length p.d.boc, .int .i64 x.d.room, .int .i64 x.d.player, .int .i64 x.d.box, .slice p.at_ x.at_.length p.atc, .slice p.co x.coins.length p.coc, .slice p.wh x.wher.length p.whc] 29)
  have HF := Lib.hid hf
  have HR := Lib.hid hr
  have HWA := Lib.hid h
  clear hf hr h
  go_enter Try.func6, Try.ntmps6
  go_wp2_with fail
  have t0 : w.heap.size + 1 = (w.alloc (.cells #[.slice p.d.ex x.d.exits.length p.d.exc, .slice p.d.pl x.d.players.length p.d.plc, .slice p.d.co x.d.coins.length p.d.coc, .slice p.d.it x.d.items.length p.d.itc, .slice p.d.bo x.d.boxes.length p.d.boc, .int .i64 x.d.room, .int .i64 x.d.player, .int .i64 x.d.box, .slice p.at_ x.at_.length p.atc, .slice p.co x.coins.length p.coc, .slice p.wh x.wher.length p.whc] 29)).heap.size := by simp
  generalize w.alloc (.cells #[.slice p.d.ex x.d.exits.length p.d.exc, .slice p.d.pl x.d.players.length p.d.plc, .slice p.d.co x.d.coins.length p.d.coc, .slice p.d.it x.d.items.length p.d.itc, .slice p.d.bo x.d.boxes.length p.d.boc, .int .i64 x.d.room, .int .i64 x.d.player, .int .i64 x.d.box, .slice p.at_ x.at_.length p.atc, .slice p.co x.coins.length p.coc, .slice p.wh x.wher.length p.whc] 29) = V0 at *
  refine (awake_any _).mono ?_
  rintro e w1 ⟨rfl, b1⟩
  have H_1 := Lib.hid (HN.out.call b1)
  have s1 := b1.size
  clear b1 HN
  have hc := H_1.out.2.2
  go_wp2_with fail
  clear hc
  refine (few_any x p w1).mono ?_
  rintro e w2 ⟨rfl, b2⟩
  rw [HF.out]
  have H_2 := Lib.hid (H_1.out.call b2)
  have s2 := b2.size
  clear b2 H_1
  have hc := H_2.out.2.2
  go_wp2_with fail
  clear hc
  refine (refright_any x p w2 (HWA.out.below H_2.out.1 (Nat.le_refl _))).mono ?_
  rintro e w3 ⟨rfl, b3⟩
  rw [HR.out]
  have H_3 := Lib.hid (H_2.out.call b3)
  have s3 := b3.size
  clear b3 H_2
  have hc := H_3.out.2.2
  go_wp2_with fail
  clear hc
  refine (copy_any x p w3 (HWA.out.below H_3.out.1 (Nat.le_refl _)) FW.out).mono ?_
  rintro e w4 ⟨⟨d4, a4, ac4, k4, kc4, p4, wc4⟩, rfl, own4, b4⟩
  have H_4 := Lib.hid (H_3.out.call b4)
  have s4 := b4.size
  clear b4 H_3
  have hcp := caps_in HLN.out.2.2.2.2.2
  have hc := H_4.out.2.2
  have hlt4 : w.heap.size < w4.heap.size := by omega
  have RX := Lib.hid (caps_more HR.out g1.1 g1.2 g2.1 g2.2 g3.1 g3.2)
  have RY := Lib.hid (caps_none HR.out (r := (m1 : Int) % 65) (q := (m2 : Int) % 65) (b := (m3 : Int) % 65) (by omega) (by omega) (by omega) (by omega) (by omega) (by omega))
  have OX := Lib.hid (show WorldAt w4 ⟨d4, a4, ac4, k4, kc4, p4, wc4⟩ ⟨⟨x.d.exits, x.d.players, x.d.coins, x.d.items, x.d.boxes, v1, v2, v3⟩, x.at_, x.coins, x.wher⟩ from ⟨⟨own4.world.d.ex, own4.world.d.pl, own4.world.d.co, own4.world.d.it, own4.world.d.bo⟩, own4.world.at_, own4.world.co, own4.world.wh⟩)
  have B0 := Lib.hid (Below.refl w4.heap.size w4)
  clear own4
  have z5 : w4.heap.size = w4.heap.size := rfl
  have HX_5 := Lib.hid (Holds.newb (w := w) (A := #[.slice d4.ex x.d.exits.length d4.exc, .slice d4.pl x.d.players.length d4.plc, .slice d4.co x.d.coins.length d4.coc, .slice d4.it x.d.items.length d4.itc, .slice d4.bo x.d.boxes.length d4.boc, .int .i64 v1, .int .i64 v2, .int .i64 v3, .slice a4 x.at_.length ac4, .slice k4 x.coins.length kc4, .slice p4 x.wher.length wc4]) (t := 29) (n := w4.heap.size) H_4.out.1 (by exact z5))
  have H_5 := Lib.hid ((H_4.out.alloc (.cells #[.slice d4.ex x.d.exits.length d4.exc, .slice d4.pl x.d.players.length d4.plc, .slice d4.co x.d.coins.length d4.coc, .slice d4.it x.d.items.length d4.itc, .slice d4.bo x.d.boxes.length d4.boc, .int .i64 v1, .int .i64 v2, .int .i64 v3, .slice a4 x.at_.length ac4, .slice k4 x.coins.length kc4, .slice p4 x.wher.length wc4] 29)))
  have BX_5 := Lib.hid ((B0.out.alloc (by rw [z5]; omega) (.cells #[.slice d4.ex x.d.exits.length d4.exc, .slice d4.pl x.d.players.length d4.plc, .slice d4.co x.d.coins.length d4.coc, .slice d4.it x.d.items.length d4.itc, .slice d4.bo x.d.boxes.length d4.boc, .int .i64 v1, .int .i64 v2, .int .i64 v3, .slice a4 x.at_.length ac4, .slice k4 x.coins.length kc4, .slice p4 x.wher.length wc4] 29)))
  have t5 : w4.heap.size + 1 = (w4.alloc (.cells #[.slice d4.ex x.d.exits.length d4.exc, .slice d4.pl x.d.players.length d4.plc, .slice d4.co x.d.coins.length d4.coc, .slice d4.it x.d.items.length d4.itc, .slice d4.bo x.d.boxes.length d4.boc, .int .i64 v1, .int .i64 v2, .int .i64 v3, .slice a4 x.at_.length ac4, .slice k4 x.coins.length kc4, .slice p4 x.wher.length wc4] 29)).heap.size := by simp [World.setCell]
  clear H_4 B0
  go_wp2_with fail
  clear hc
  generalize (w4.alloc (.cells #[.slice d4.ex x.d.exits.length d4.exc, .slice d4.pl x.d.players.length d4.plc, .slice d4.co x.d.coins.length d4.coc, .slice d4.it x.d.items.length d4.itc, .slice d4.bo x.d.boxes.length d4.boc, .int .i64 v1, .int .i64 v2, .int .i64 v3, .slice a4 x.at_.length ac4, .slice k4 x.coins.length kc4, .slice p4 x.wher.length wc4] 29)) = V4 at *
  clear n1 n2 n3
  refine (copy_any x p V4 (HWA.out.below H_5.out.1 (Nat.le_refl _)) FW.out).mono ?_
  rintro e w5 ⟨⟨d5, a5, ac5, k5, kc5, p5, wc5⟩, rfl, own5, b5⟩
  have H_6 := Lib.hid (H_5.out.call b5)
  have HX_6 := Lib.hid (HX_5.out.call b5)
  have BX_6 := Lib.hid (below_call BX_5.out (by omega) b5)
  have s6 := b5.size
  clear b5 H_5 HX_5 BX_5
  have OY := Lib.hid (show WorldAt w5 ⟨⟨d5.ex, d5.exc, d5.pl, d5.plc, d5.co, d5.coc, none, 0, none, 0⟩, a5, ac5, k5, kc5, none, 0⟩ ⟨⟨x.d.exits, x.d.players, x.d.coins, [], [], (m1 : Int) % 65, (m2 : Int) % 65, (m3 : Int) % 65⟩, x.at_, x.coins, []⟩ from ⟨⟨own5.world.d.ex, own5.world.d.pl, own5.world.d.co, IntsAt.nil _ _, RowAt.nil _ _⟩, own5.world.at_, own5.world.co, RowAt.nil _ _⟩)
  have B1 := Lib.hid (Below.refl w5.heap.size w5)
  clear own5
  have hc := HX_6.out.2.2
  have hlt5 : w4.heap.size < w5.heap.size := by omega
  have z7 : w5.heap.size = w5.heap.size := rfl
  have HY_7 := Lib.hid (Holds.newb (w := w) (A := #[.slice d5.ex x.d.exits.length d5.exc, .slice d5.pl x.d.players.length d5.plc, .slice d5.co x.d.coins.length d5.coc, .slice none 0 0, .slice none 0 0, .int .i64 ((m1 : Int) % 65), .int .i64 ((m2 : Int) % 65), .int .i64 ((m3 : Int) % 65), .slice a5 x.at_.length ac5, .slice k5 x.coins.length kc5, .slice none 0 0]) (t := 29) (n := w5.heap.size) H_6.out.1 (by exact z7))
  have H_7 := Lib.hid ((H_6.out.alloc (.cells #[.slice d5.ex x.d.exits.length d5.exc, .slice d5.pl x.d.players.length d5.plc, .slice d5.co x.d.coins.length d5.coc, .slice none 0 0, .slice none 0 0, .int .i64 ((m1 : Int) % 65), .int .i64 ((m2 : Int) % 65), .int .i64 ((m3 : Int) % 65), .slice a5 x.at_.length ac5, .slice k5 x.coins.length kc5, .slice none 0 0] 29)))
  have HX_7 := Lib.hid ((HX_6.out.alloc (.cells #[.slice d5.ex x.d.exits.length d5.exc, .slice d5.pl x.d.players.length d5.plc, .slice d5.co x.d.coins.length d5.coc, .slice none 0 0, .slice none 0 0, .int .i64 ((m1 : Int) % 65), .int .i64 ((m2 : Int) % 65), .int .i64 ((m3 : Int) % 65), .slice a5 x.at_.length ac5, .slice k5 x.coins.length kc5, .slice none 0 0] 29)))
  have BX_7 := Lib.hid ((BX_6.out.alloc (by rw [z7]; omega) (.cells #[.slice d5.ex x.d.exits.length d5.exc, .slice d5.pl x.d.players.length d5.plc, .slice d5.co x.d.coins.length d5.coc, .slice none 0 0, .slice none 0 0, .int .i64 ((m1 : Int) % 65), .int .i64 ((m2 : Int) % 65), .int .i64 ((m3 : Int) % 65), .slice a5 x.at_.length ac5, .slice k5 x.coins.length kc5, .slice none 0 0] 29)))
  have BY_7 := Lib.hid ((B1.out.alloc (by rw [z7]; omega) (.cells #[.slice d5.ex x.d.exits.length d5.exc, .slice d5.pl x.d.players.length d5.plc, .slice d5.co x.d.coins.length d5.coc, .slice none 0 0, .slice none 0 0, .int .i64 ((m1 : Int) % 65), .int .i64 ((m2 : Int) % 65), .int .i64 ((m3 : Int) % 65), .slice a5 x.at_.length ac5, .slice k5 x.coins.length kc5, .slice none 0 0] 29)))
  have t7 : w5.heap.size + 1 = (w5.alloc (.cells #[.slice d5.ex x.d.exits.length d5.exc, .slice d5.pl x.d.players.length d5.plc, .slice d5.co x.d.coins.length d5.coc, .slice none 0 0, .slice none 0 0, .int .i64 ((m1 : Int) % 65), .int .i64 ((m2 : Int) % 65), .int .i64 ((m3 : Int) % 65), .slice a5 x.at_.length ac5, .slice k5 x.coins.length kc5, .slice none 0 0] 29)).heap.size := by simp [World.setCell]
  clear H_6 HX_6 BX_6 B1
  go_wp2_with fail
  clear hc
  generalize (w5.alloc (.cells #[.slice d5.ex x.d.exits.length d5.exc, .slice d5.pl x.d.players.length d5.plc, .slice d5.co x.d.coins.length d5.coc, .slice none 0 0, .slice none 0 0, .int .i64 ((m1 : Int) % 65), .int .i64 ((m2 : Int) % 65), .int .i64 ((m3 : Int) % 65), .slice a5 x.at_.length ac5, .slice k5 x.coins.length kc5, .slice none 0 0] 29)) = V5 at *
  refine (right_yes (Shape.refl ⟨⟨x.d.exits, x.d.players, x.d.coins, x.d.items, x.d.boxes, v1, v2, v3⟩, x.at_, x.coins, x.wher⟩) RX.out ⟨d4, a4, ac4, k4, kc4, p4, wc4⟩ V5 (OX.out.below BX_7.out (Nat.le_refl _))).mono ?_
  rintro e w6 ⟨rfl, b6⟩
  have H_8 := Lib.hid (H_7.out.call b6)
  have HX_8 := Lib.hid (HX_7.out.call b6)
  have HY_8 := Lib.hid (HY_7.out.call b6)
  have BX_8 := Lib.hid (below_call BX_7.out (by omega) b6)
  have BY_8 := Lib.hid (below_call BY_7.out (by omega) b6)
  have s8 := b6.size
  clear b6 H_7 HX_7 HY_7 BX_7 BY_7
  have hc := HY_8.out.2.2
  go_wp2_with fail
  clear hc
  refine (right_yes (Shape.refl ⟨⟨x.d.exits, x.d.players, x.d.coins, [], [], (m1 : Int) % 65, (m2 : Int) % 65, (m3 : Int) % 65⟩, x.at_, x.coins, []⟩) RY.out ⟨⟨d5.ex, d5.exc, d5.pl, d5.plc, d5.co, d5.coc, none, 0, none, 0⟩, a5, ac5, k5, kc5, none, 0⟩ w6 (OY.out.below BY_8.out (Nat.le_refl _))).mono ?_
  rintro e w7 ⟨rfl, b7⟩
  have H_9 := Lib.hid (H_8.out.call b7)
  have HX_9 := Lib.hid (HX_8.out.call b7)
  have HY_9 := Lib.hid (HY_8.out.call b7)
  have BX_9 := Lib.hid (below_call BX_8.out (by omega) b7)
  have BY_9 := Lib.hid (below_call BY_8.out (by omega) b7)
  have s9 := b7.size
  clear b7 H_8 HX_8 HY_8 BX_8 BY_8
  go_wp2_with fail
  go_ret
  exact ⟨rfl, H_9.out.1⟩
theorem run_min64 (s : Int) : ∃ v, (∀ W, (Builtin.min_ #[3, 3] 3 #[.int .i64 64, .int .i64 s]).run Try.prog W = .ok (.int .i64 v) W) ∧ (64 ≤ s → v = 64) ∧ (s ≤ 64 → v = s) := by
  by_cases h : s < 64
  · exact ⟨s, fun W => by go_simp, fun h2 => by omega, fun _ => rfl⟩
  · exact ⟨64, fun W => by go_simp, fun _ => rfl, fun h2 => by omega⟩
theorem walk_descCaps (x : Wd) (p : Wp) (c1 c2 c3 : Int) (w : World) (hc1 : (Lit.int .u8 c1).wf = true) (hc2 : (Lit.int .u8 c2).wf = true) (hc3 : (Lit.int .u8 c3).wf = true) (h : WorldAt w p x) : Calls Try.prog 6 #[.agg #[.slice p.d.ex x.d.exits.length p.d.exc, .slice p.d.pl x.d.players.length p.d.plc, .slice p.d.co x.d.coins.length p.d.coc, .slice p.d.it x.d.items.length p.d.itc, .slice p.d.bo x.d.boxes.length p.d.boc, .int .i64 x.d.room, .int .i64 x.d.player, .int .i64 x.d.box, .slice p.at_ x.at_.length p.atc, .slice p.co x.coins.length p.coc, .slice p.wh x.wher.length p.whc], .int .u8 c1, .int .u8 c2, .int .u8 c3] w fun e w' => e = .returned (.bool true) ∧ Below w.heap.size w w' := by
  cases hf : fewB x
  · exact descCaps_few x p c1 c2 c3 w h hf
  cases hr : rightW x
  · exact descCaps_wrong x p c1 c2 c3 w h hf hr
  · have hb1 := wf_u8 hc1
    have hb2 := wf_u8 hc2
    have hb3 := wf_u8 hc3
    obtain ⟨m1, rfl⟩ : ∃ m : Nat, c1 = m := ⟨c1.toNat, by omega⟩
    obtain ⟨m2, rfl⟩ : ∃ m : Nat, c2 = m := ⟨c2.toNat, by omega⟩
    obtain ⟨m3, rfl⟩ : ∃ m : Nat, c3 = m := ⟨c3.toNat, by omega⟩
    have hci := caps_in (right_lens hr).2.2.2.2.2
    obtain ⟨v1, n1, a1, b1⟩ := run_min64 (x.d.room + (m1 : Int) % 64)
    obtain ⟨v2, n2, a2, b2⟩ := run_min64 (x.d.player + (m2 : Int) % 64)
    obtain ⟨v3, n3, a3, b3⟩ := run_min64 (x.d.box + (m3 : Int) % 64)
    exact descCaps_go x p m1 m2 m3 (by omega) (by omega) (by omega) v1 v2 v3 (by omega) (by omega) (by omega) n1 n2 n3 w h hf hr
set_option maxRecDepth 100000 in
theorem lifted_descCaps (os : Os) (started : os.Started) (H : Type) (enc : TypeId × Value → H) :
    ReturnsInHanded {} Try.checked os 6 .any (Rows.descCapsSpec.pre6 enc Try.prog Try.f6 Rows.descCapsRow.domain false) (Rows.descCapsSpec.post enc Try.prog Try.f6 false true false false) := by
  refine returnsInHanded_of_change (C := Try.checked) (by kernel_rfl) started (by kernel_rfl) Try.func6
    (ChangeSpec.witness6 (enc := enc) (C := Try.checked) false ⟨#[], #[.agg #[.slice none 0 0, .slice none 0 0, .slice none 0 0, .slice none 0 0, .slice none 0 0, .int .i64 0, .int .i64 0, .int .i64 0, .slice none 0 0, .slice none 0 0, .slice none 0 0], .int .u8 0, .int .u8 0, .int .u8 0], []⟩ 8 (by kernel_rfl) (by kernel_rfl) (by kernel_rfl) (by kernel_rfl)) ?_
  intro W base args ds gs before hval0 hW hcnd _
  have hval : ∀ (j : Nat) t v, Try.f6.params[j]? = some t → args[j]? = some v → Value.okWide Try.prog W .any base t v := hval0
  have hW' := hW
  obtain ⟨p, q, hA0, hV, rfl, hfz, hnd⟩ := hW
  have hA : DataW.TrodAll enc Try.prog W 0 (fun _ => true) true Try.f6.params.toList args.toList ds p := hA0
  rw [Try.params6] at hA hval
  obtain ⟨v0, vs0, d0, ds0, p0, q0, hargs, rfl, rfl, h0, r0⟩ := trodAll_cons hA
  obtain ⟨v1, vs1, d1, ds1, p1, q1, rfl, rfl, rfl, h1, r1⟩ := trodAll_cons r0
  obtain ⟨v2, vs2, d2, ds2, p2, q2, rfl, rfl, rfl, h2, r2⟩ := trodAll_cons r1
  obtain ⟨v3, vs3, d3, ds3, p3, q3, rfl, rfl, rfl, h3, r3⟩ := trodAll_cons r2
  obtain ⟨rfl, rfl, rfl⟩ := trodAll_nil r3
  obtain rfl : args = #[v0, v1, v2, v3] := by cases args; simp_all
  obtain ⟨rfl, rfl⟩ := trodVars_none hV
  obtain ⟨wx0, wp0, rfl, m0⟩ := read_world (hval 0 29 v0 rfl rfl) h0
  obtain ⟨a1, rfl, rfl, rfl, w1⟩ := open_int Try.underlying5 (hval 1 5 v1 rfl rfl) h1
  obtain ⟨a2, rfl, rfl, rfl, w2⟩ := open_int Try.underlying5 (hval 2 5 v2 rfl rfl) h2
  obtain ⟨a3, rfl, rfl, rfl, w3⟩ := open_int Try.underlying5 (hval 3 5 v3 rfl rfl) h3
  clear hA0 hval0
  simp only [List.append_nil] at hW'
  refine (walk_descCaps wx0 wp0 a1 a2 a3 W w1 w2 w3 m0).mono fun e W' ⟨he, hg⟩ => ?_
  subst he
  exact ⟨_, rfl, law_post (by kernel_rfl) rfl (by rw [Try.params6]; decide +kernel) rfl rfl Try.underlying4 hW' hg⟩

/-- ████ THE STATEMENT ████ -/
theorem proved_descCaps : Rows.DescCapsSaid :=
  OpenClaim.holds_of_wide 6 Try.f6 rfl rfl rfl rfl rfl rfl rfl ⟨rfl, rfl, rfl, rfl, rfl⟩ rfl rfl rfl rfl rfl (by kernel_rfl) Try.func6 (by kernel_rfl)
    (of_decide_eq_true (by kernel_rfl)) (by unfold Func.isWrapper; first | (rw [if_pos (by decide +kernel)]; kernel_rfl) | (rw [if_neg (by decide +kernel)]; exact ⟨rfl, rfl⟩))
    (fun os started H enc _ => lifted_descCaps os started H enc)
#print axioms proved_descCaps
end Go.Proofs.Ytniblphklgbpnaa
