/- GiftsDo: of whatever right world, player, item, other one and trade: what is given, and traded. -/
import Derived.Test.YtcigbliilmonfaaRows
import Derived.Test.YtcigbliilmonfaaKit
import Derived.Test.YtcigbliilmonfaaGMem
import Derived.Test.YtcigbliilmonfaaCoin
import Derived.Test.YtcigbliilmonfaaGWorld
import Derived.Test.YtcigbliilmonfaaDescMay
import Derived.Test.YtcigbliilmonfaaGDescN
import Derived.Test.YtcigbliilmonfaaGRight
import Derived.Test.YtcigbliilmonfaaGCopy
import Derived.Test.YtcigbliilmonfaaGRefD
import Derived.Test.YtcigbliilmonfaaGAs
import Derived.Test.YtcigbliilmonfaaGEq
import Derived.Test.YtcigbliilmonfaaGNew
import Derived.Test.YtcigbliilmonfaaRefRight
import Derived.Test.YtcigbliilmonfaaGTreeL
import Derived.Test.YtcigbliilmonfaaTreeRefA
import Derived.Test.YtcigbliilmonfaaGHoldA
import Derived.Test.YtcigbliilmonfaaHoldD
import Derived.Test.YtcigbliilmonfaaHoldE
import Derived.Test.YtcigbliilmonfaaGiftMath
import Derived.Test.YtcigbliilmonfaaGiftMath2
import Derived.Test.YtcigbliilmonfaaGiftMath4
import Derived.Test.YtcigbliilmonfaaGiftD
import Derived.Test.YtcigbliilmonfaaGiftH
import Derived.Test.YtcigbliilmonfaaGiftAwake
import Derived.Test.YtcigbliilmonfaaGiftE
import Derived.Test.YtcigbliilmonfaaGiftF0
import Derived.Test.YtcigbliilmonfaaGiftF
import Derived.Test.YtcigbliilmonfaaCmdMath
import Derived.Test.YtcigbliilmonfaaCmdRefSame
import Derived.Test.YtcigbliilmonfaaCmdRefMay
import Derived.Test.YtcigbliilmonfaaCmdRead
import Derived.Deep.QuietTactic
import Derived.BigQuiet
import Derived.Deep.RegionHeld3
import Derived.WalkKit
import Derived.ProofKit
import Derived.OpenShut
import Derived.IntWalk
namespace Go.Proofs.Ytcigbliilmonfaa
open Go.ChangeShapes Go.WideShapes Go.ChangeAt Go.RowKit
set_option linter.unusedVariables false
open Go.RowKit
theorem may_sides {c : Cm} (h : refMayB c = true) (hk : c.kind = 8) : c.gives.length ≤ 16 ∧ c.wants.length ≤ 16 := by
  simp only [refMayB, hk, has, rowB, Bool.and_eq_true] at h
  obtain ⟨⟨_, h1⟩, h2⟩ := h
  simp at h1 h2
  exact ⟨h1.2, h2.2⟩
section
variable {x u : Wd} (hs : Shape x u) (p : Wp) (i : Nat) (w : World) (hu : rightW u = true) (h : WorldAt w p u) (hi : i < u.at_.length) {y : Wd} {e : Int}
include hs hu h hi
theorem rgive_as (item b : Int) (hR : giveW u i item b = (y, e)) : Calls Try.prog 12 #[.agg #[.slice p.d.ex x.d.exits.length p.d.exc, .slice p.d.pl x.d.players.length p.d.plc, .slice p.d.co x.d.coins.length p.d.coc, .slice p.d.it x.d.items.length p.d.itc, .slice p.d.bo x.d.boxes.length p.d.boc, .int .i64 x.d.room, .int .i64 x.d.player, .int .i64 x.d.box, .slice p.at_ x.at_.length p.atc, .slice p.co x.coins.length p.coc, .slice p.wh x.wher.length p.whc], .int .i64 (i : Int), .int .i64 item, .int .i64 b] w fun e' w' => ∃ q : Wp, e' = .returned (.tuple #[.agg #[.slice q.d.ex x.d.exits.length q.d.exc, .slice q.d.pl x.d.players.length q.d.plc, .slice q.d.co x.d.coins.length q.d.coc, .slice q.d.it x.d.items.length q.d.itc, .slice q.d.bo x.d.boxes.length q.d.boc, .int .i64 x.d.room, .int .i64 x.d.player, .int .i64 x.d.box, .slice q.at_ x.at_.length q.atc, .slice q.co x.coins.length q.coc, .slice q.wh x.wher.length q.whc], .int .i64 e]) ∧ WorldAt w' q y ∧ Below w.heap.size w w' := by
  have := refgive_any u p i item b w hu h hi
  rw [hs.val, hR] at this
  refine this.mono fun e' w' ⟨q, he, hq, hb⟩ => ⟨q, by rw [← hs.val]; exact he, hq.world h hb, hb⟩
theorem rtrade_as (kd di it bx who pay fee : Int) (gl wl : List Int) (ga wa : Option Addr) (gc wc : Nat) (hg : IntsAt w ga gl) (hw : IntsAt w wa wl) (hgl : gl.length ≤ 16) (hwl : wl.length ≤ 16) (hR : tradeW u i who gl wl pay fee = (y, e)) :
    Calls Try.prog 14 #[.agg #[.slice p.d.ex x.d.exits.length p.d.exc, .slice p.d.pl x.d.players.length p.d.plc, .slice p.d.co x.d.coins.length p.d.coc, .slice p.d.it x.d.items.length p.d.itc, .slice p.d.bo x.d.boxes.length p.d.boc, .int .i64 x.d.room, .int .i64 x.d.player, .int .i64 x.d.box, .slice p.at_ x.at_.length p.atc, .slice p.co x.coins.length p.coc, .slice p.wh x.wher.length p.whc], .int .i64 (i : Int), .agg #[.int .i64 kd, .int .i64 di, .int .i64 it, .int .i64 bx, .int .i64 who, .slice ga gl.length gc, .int .i64 pay, .slice wa wl.length wc, .int .i64 fee]] w fun e' w' => ∃ q : Wp, e' = .returned (.tuple #[.agg #[.slice q.d.ex x.d.exits.length q.d.exc, .slice q.d.pl x.d.players.length q.d.plc, .slice q.d.co x.d.coins.length q.d.coc, .slice q.d.it x.d.items.length q.d.itc, .slice q.d.bo x.d.boxes.length q.d.boc, .int .i64 x.d.room, .int .i64 x.d.player, .int .i64 x.d.box, .slice q.at_ x.at_.length q.atc, .slice q.co x.coins.length q.coc, .slice q.wh x.wher.length q.whc], .int .i64 e]) ∧ WorldAt w' q y ∧ Below w.heap.size w w' := by
  have := reftrade_any u p i kd di it bx who pay fee gl wl ga wa gc wc w hu h hi hg hw hgl hwl
  rw [hs.val, hR] at this
  refine this.mono fun e' w' ⟨q, he, hq, hb⟩ => ⟨q, by rw [← hs.val]; exact he, hq.world h hb, hb⟩
end
set_option maxRecDepth 100000 in
theorem giftsDo_no (x : Wd) (p : Wp) (a item q : Int) (kd di it bx who pay fee : Int) (gl wl : List Int) (ga wa : Option Addr) (gc wc : Nat) (w : World) (h : WorldAt w p x) (hg : IntsAt w ga gl) (hw : IntsAt w wa wl) (hf : fitsB x = false) : Calls Try.prog 3 #[.agg #[.slice p.d.ex x.d.exits.length p.d.exc, .slice p.d.pl x.d.players.length p.d.plc, .slice p.d.co x.d.coins.length p.d.coc, .slice p.d.it x.d.items.length p.d.itc, .slice p.d.bo x.d.boxes.length p.d.boc, .int .i64 x.d.room, .int .i64 x.d.player, .int .i64 x.d.box, .slice p.at_ x.at_.length p.atc, .slice p.co x.coins.length p.coc, .slice p.wh x.wher.length p.whc], .int .u8 a, .int .i64 item, .int .i64 q, .agg #[.int .i64 kd, .int .i64 di, .int .i64 it, .int .i64 bx, .int .i64 who, .slice ga gl.length gc, .int .i64 pay, .slice wa wl.length wc, .int .i64 fee]] w fun e w' => e = .returned (.bool true) ∧ Below w.heap.size w w' := by
  have HP0 := Lib.hid (Holds.pair w #[.slice p.d.ex x.d.exits.length p.d.exc, .slice p.d.pl x.d.players.length p.d.plc, .slice p.d.co x.d.coins.length p.d.coc, .slice p.d.it x.d.items.length p.d.itc, .slice p.d.bo x.d.boxes.length p.d.boc, .int .i64 x.d.room, .int .i64 x.d.player, .int .i64 x.d.box, .slice p.at_ x.at_.length p.atc, .slice p.co x.coins.length p.coc, .slice p.wh x.wher.length p.whc] #[.int .i64 kd, .int .i64 di, .int .i64 it, .int .i64 bx, .int .i64 who, .slice ga gl.length gc, .int .i64 pay, .slice wa wl.length wc, .int .i64 fee] 29 31)
  have HF := Lib.hid hf
  have HWA := Lib.hid h
  have HG := Lib.hid hg
  have HW := Lib.hid hw
  clear hf h hg hw
  go_enter Try.func3, Try.ntmps3
  go_wp2_with fail
  generalize (w.alloc (.cells #[.slice p.d.ex x.d.exits.length p.d.exc, .slice p.d.pl x.d.players.length p.d.plc, .slice p.d.co x.d.coins.length p.d.coc, .slice p.d.it x.d.items.length p.d.itc, .slice p.d.bo x.d.boxes.length p.d.boc, .int .i64 x.d.room, .int .i64 x.d.player, .int .i64 x.d.box, .slice p.at_ x.at_.length p.atc, .slice p.co x.coins.length p.coc, .slice p.wh x.wher.length p.whc] 29)).alloc (.cells #[.int .i64 kd, .int .i64 di, .int .i64 it, .int .i64 bx, .int .i64 who, .slice ga gl.length gc, .int .i64 pay, .slice wa wl.length wc, .int .i64 fee] 31) = V0 at *
  have H_0 := Lib.hid HP0.out.1
  have C_0 := Lib.hid HP0.out.2
  have B_0 := Lib.hid H_0.out.1
  clear HP0
  refine (awake11_any _).mono ?_
  rintro e u1 ⟨rfl, b1⟩
  have B_1 := Lib.hid (bl B_0.out b1)
  have H_1 := Lib.hid (H_0.out.call b1)
  have C_1 := Lib.hid (C_0.out.call b1)
  clear b1 B_0 H_0 C_0
  have hcH := H_1.out.2.2
  have hlH := H_1.out.2.1
  have hcC := C_1.out.2.2
  have hlC := C_1.out.2.1
  go_wp2_with fail
  refine (fits11_any x p _ (HWA.out.below B_1.out (Nat.le_refl _))).mono ?_
  rintro e u2 ⟨rfl, b2⟩
  rw [HF.out]
  clear hcH hlH hcC hlC
  have B_2 := Lib.hid (bl B_1.out b2)
  have H_2 := Lib.hid (H_1.out.call b2)
  have C_2 := Lib.hid (C_1.out.call b2)
  clear b2 B_1 H_1 C_1
  have hcH := H_2.out.2.2
  have hlH := H_2.out.2.1
  have hcC := C_2.out.2.2
  have hlC := C_2.out.2.1
  go_wp2_with fail
  refine (awake11_any _).mono ?_
  rintro e u3 ⟨rfl, b3⟩
  clear hcH hlH hcC hlC
  have B_3 := Lib.hid (bl B_2.out b3)
  have H_3 := Lib.hid (H_2.out.call b3)
  have C_3 := Lib.hid (C_2.out.call b3)
  clear b3 B_2 H_2 C_2
  have hcH := H_3.out.2.2
  have hlH := H_3.out.2.1
  have hcC := C_3.out.2.2
  have hlC := C_3.out.2.1
  go_wp2_with fail
  go_ret
  exact ⟨rfl, B_3.out⟩
set_option maxRecDepth 100000 in
theorem giftsDo_nofew (x : Wd) (p : Wp) (a item q : Int) (kd di it bx who pay fee : Int) (gl wl : List Int) (ga wa : Option Addr) (gc wc : Nat) (w : World) (h : WorldAt w p x) (hg : IntsAt w ga gl) (hw : IntsAt w wa wl) (hf : fitsB x = true) (hfw : cfewB ⟨kd, di, it, bx, who, gl, pay, wl, fee⟩ = false) : Calls Try.prog 3 #[.agg #[.slice p.d.ex x.d.exits.length p.d.exc, .slice p.d.pl x.d.players.length p.d.plc, .slice p.d.co x.d.coins.length p.d.coc, .slice p.d.it x.d.items.length p.d.itc, .slice p.d.bo x.d.boxes.length p.d.boc, .int .i64 x.d.room, .int .i64 x.d.player, .int .i64 x.d.box, .slice p.at_ x.at_.length p.atc, .slice p.co x.coins.length p.coc, .slice p.wh x.wher.length p.whc], .int .u8 a, .int .i64 item, .int .i64 q, .agg #[.int .i64 kd, .int .i64 di, .int .i64 it, .int .i64 bx, .int .i64 who, .slice ga gl.length gc, .int .i64 pay, .slice wa wl.length wc, .int .i64 fee]] w fun e w' => e = .returned (.bool true) ∧ Below w.heap.size w w' := by
  have HP0 := Lib.hid (Holds.pair w #[.slice p.d.ex x.d.exits.length p.d.exc, .slice p.d.pl x.d.players.length p.d.plc, .slice p.d.co x.d.coins.length p.d.coc, .slice p.d.it x.d.items.length p.d.itc, .slice p.d.bo x.d.boxes.length p.d.boc, .int .i64 x.d.room, .int .i64 x.d.player, .int .i64 x.d.box, .slice p.at_ x.at_.length p.atc, .slice p.co x.coins.length p.coc, .slice p.wh x.wher.length p.whc] #[.int .i64 kd, .int .i64 di, .int .i64 it, .int .i64 bx, .int .i64 who, .slice ga gl.length gc, .int .i64 pay, .slice wa wl.length wc, .int .i64 fee] 29 31)
  have HF := Lib.hid hf
  have HWA := Lib.hid h
  have HG := Lib.hid hg
  have HW := Lib.hid hw
  have HFW := Lib.hid hfw
  clear hf h hg hw hfw
  go_enter Try.func3, Try.ntmps3
  go_wp2_with fail
  generalize (w.alloc (.cells #[.slice p.d.ex x.d.exits.length p.d.exc, .slice p.d.pl x.d.players.length p.d.plc, .slice p.d.co x.d.coins.length p.d.coc, .slice p.d.it x.d.items.length p.d.itc, .slice p.d.bo x.d.boxes.length p.d.boc, .int .i64 x.d.room, .int .i64 x.d.player, .int .i64 x.d.box, .slice p.at_ x.at_.length p.atc, .slice p.co x.coins.length p.coc, .slice p.wh x.wher.length p.whc] 29)).alloc (.cells #[.int .i64 kd, .int .i64 di, .int .i64 it, .int .i64 bx, .int .i64 who, .slice ga gl.length gc, .int .i64 pay, .slice wa wl.length wc, .int .i64 fee] 31) = V0 at *
  have H_0 := Lib.hid HP0.out.1
  have C_0 := Lib.hid HP0.out.2
  have B_0 := Lib.hid H_0.out.1
  clear HP0
  refine (awake11_any _).mono ?_
  rintro e u1 ⟨rfl, b1⟩
  have B_1 := Lib.hid (bl B_0.out b1)
  have H_1 := Lib.hid (H_0.out.call b1)
  have C_1 := Lib.hid (C_0.out.call b1)
  clear b1 B_0 H_0 C_0
  have hcH := H_1.out.2.2
  have hlH := H_1.out.2.1
  have hcC := C_1.out.2.2
  have hlC := C_1.out.2.1
  go_wp2_with fail
  refine (fits11_any x p _ (HWA.out.below B_1.out (Nat.le_refl _))).mono ?_
  rintro e u2 ⟨rfl, b2⟩
  rw [HF.out]
  clear hcH hlH hcC hlC
  have B_2 := Lib.hid (bl B_1.out b2)
  have H_2 := Lib.hid (H_1.out.call b2)
  have C_2 := Lib.hid (C_1.out.call b2)
  clear b2 B_1 H_1 C_1
  have hcH := H_2.out.2.2
  have hlH := H_2.out.2.1
  have hcC := C_2.out.2.2
  have hlC := C_2.out.2.1
  go_wp2_with fail
  refine (cfew_any ⟨kd, di, it, bx, who, gl, pay, wl, fee⟩ ga wa gc wc _ (HG.out.below B_2.out (Nat.le_refl _)) (HW.out.below B_2.out (Nat.le_refl _))).mono ?_
  rintro e u3 ⟨rfl, b3⟩
  rw [HFW.out]
  clear hcH hlH hcC hlC
  have B_3 := Lib.hid (bl B_2.out b3)
  have H_3 := Lib.hid (H_2.out.call b3)
  have C_3 := Lib.hid (C_2.out.call b3)
  clear b3 B_2 H_2 C_2
  have hcH := H_3.out.2.2
  have hlH := H_3.out.2.1
  have hcC := C_3.out.2.2
  have hlC := C_3.out.2.1
  go_wp2_with fail
  refine (awake11_any _).mono ?_
  rintro e u4 ⟨rfl, b4⟩
  clear hcH hlH hcC hlC
  have B_4 := Lib.hid (bl B_3.out b4)
  have H_4 := Lib.hid (H_3.out.call b4)
  have C_4 := Lib.hid (C_3.out.call b4)
  clear b4 B_3 H_3 C_3
  have hcH := H_4.out.2.2
  have hlH := H_4.out.2.1
  have hcC := C_4.out.2.2
  have hlC := C_4.out.2.1
  go_wp2_with fail
  go_ret
  exact ⟨rfl, B_4.out⟩
set_option maxRecDepth 100000 in
theorem giftsDo_nomay (x : Wd) (p : Wp) (a item q : Int) (kd di it bx who pay fee : Int) (gl wl : List Int) (ga wa : Option Addr) (gc wc : Nat) (w : World) (h : WorldAt w p x) (hg : IntsAt w ga gl) (hw : IntsAt w wa wl) (hf : fitsB x = true) (hfw : cfewB ⟨kd, di, it, bx, who, gl, pay, wl, fee⟩ = true) (hmy : refMayB ⟨kd, di, it, bx, who, gl, pay, wl, fee⟩ = false) : Calls Try.prog 3 #[.agg #[.slice p.d.ex x.d.exits.length p.d.exc, .slice p.d.pl x.d.players.length p.d.plc, .slice p.d.co x.d.coins.length p.d.coc, .slice p.d.it x.d.items.length p.d.itc, .slice p.d.bo x.d.boxes.length p.d.boc, .int .i64 x.d.room, .int .i64 x.d.player, .int .i64 x.d.box, .slice p.at_ x.at_.length p.atc, .slice p.co x.coins.length p.coc, .slice p.wh x.wher.length p.whc], .int .u8 a, .int .i64 item, .int .i64 q, .agg #[.int .i64 kd, .int .i64 di, .int .i64 it, .int .i64 bx, .int .i64 who, .slice ga gl.length gc, .int .i64 pay, .slice wa wl.length wc, .int .i64 fee]] w fun e w' => e = .returned (.bool true) ∧ Below w.heap.size w w' := by
  have HP0 := Lib.hid (Holds.pair w #[.slice p.d.ex x.d.exits.length p.d.exc, .slice p.d.pl x.d.players.length p.d.plc, .slice p.d.co x.d.coins.length p.d.coc, .slice p.d.it x.d.items.length p.d.itc, .slice p.d.bo x.d.boxes.length p.d.boc, .int .i64 x.d.room, .int .i64 x.d.player, .int .i64 x.d.box, .slice p.at_ x.at_.length p.atc, .slice p.co x.coins.length p.coc, .slice p.wh x.wher.length p.whc] #[.int .i64 kd, .int .i64 di, .int .i64 it, .int .i64 bx, .int .i64 who, .slice ga gl.length gc, .int .i64 pay, .slice wa wl.length wc, .int .i64 fee] 29 31)
  have HF := Lib.hid hf
  have HWA := Lib.hid h
  have HG := Lib.hid hg
  have HW := Lib.hid hw
  have HFW := Lib.hid hfw
  have HMY := Lib.hid hmy
  clear hf h hg hw hfw hmy
  go_enter Try.func3, Try.ntmps3
  go_wp2_with fail
  generalize (w.alloc (.cells #[.slice p.d.ex x.d.exits.length p.d.exc, .slice p.d.pl x.d.players.length p.d.plc, .slice p.d.co x.d.coins.length p.d.coc, .slice p.d.it x.d.items.length p.d.itc, .slice p.d.bo x.d.boxes.length p.d.boc, .int .i64 x.d.room, .int .i64 x.d.player, .int .i64 x.d.box, .slice p.at_ x.at_.length p.atc, .slice p.co x.coins.length p.coc, .slice p.wh x.wher.length p.whc] 29)).alloc (.cells #[.int .i64 kd, .int .i64 di, .int .i64 it, .int .i64 bx, .int .i64 who, .slice ga gl.length gc, .int .i64 pay, .slice wa wl.length wc, .int .i64 fee] 31) = V0 at *
  have H_0 := Lib.hid HP0.out.1
  have C_0 := Lib.hid HP0.out.2
  have B_0 := Lib.hid H_0.out.1
  clear HP0
  refine (awake11_any _).mono ?_
  rintro e u1 ⟨rfl, b1⟩
  have B_1 := Lib.hid (bl B_0.out b1)
  have H_1 := Lib.hid (H_0.out.call b1)
  have C_1 := Lib.hid (C_0.out.call b1)
  clear b1 B_0 H_0 C_0
  have hcH := H_1.out.2.2
  have hlH := H_1.out.2.1
  have hcC := C_1.out.2.2
  have hlC := C_1.out.2.1
  go_wp2_with fail
  refine (fits11_any x p _ (HWA.out.below B_1.out (Nat.le_refl _))).mono ?_
  rintro e u2 ⟨rfl, b2⟩
  rw [HF.out]
  clear hcH hlH hcC hlC
  have B_2 := Lib.hid (bl B_1.out b2)
  have H_2 := Lib.hid (H_1.out.call b2)
  have C_2 := Lib.hid (C_1.out.call b2)
  clear b2 B_1 H_1 C_1
  have hcH := H_2.out.2.2
  have hlH := H_2.out.2.1
  have hcC := C_2.out.2.2
  have hlC := C_2.out.2.1
  go_wp2_with fail
  refine (cfew_any ⟨kd, di, it, bx, who, gl, pay, wl, fee⟩ ga wa gc wc _ (HG.out.below B_2.out (Nat.le_refl _)) (HW.out.below B_2.out (Nat.le_refl _))).mono ?_
  rintro e u3 ⟨rfl, b3⟩
  rw [HFW.out]
  clear hcH hlH hcC hlC
  have B_3 := Lib.hid (bl B_2.out b3)
  have H_3 := Lib.hid (H_2.out.call b3)
  have C_3 := Lib.hid (C_2.out.call b3)
  clear b3 B_2 H_2 C_2
  have hcH := H_3.out.2.2
  have hlH := H_3.out.2.1
  have hcC := C_3.out.2.2
  have hlC := C_3.out.2.1
  go_wp2_with fail
  refine (rcmay_any ⟨kd, di, it, bx, who, gl, pay, wl, fee⟩ ga wa gc wc _ (HG.out.below B_3.out (Nat.le_refl _)) (HW.out.below B_3.out (Nat.le_refl _))).mono ?_
  rintro e u4 ⟨rfl, b4⟩
  rw [HMY.out]
  clear hcH hlH hcC hlC
  have B_4 := Lib.hid (bl B_3.out b4)
  have H_4 := Lib.hid (H_3.out.call b4)
  have C_4 := Lib.hid (C_3.out.call b4)
  clear b4 B_3 H_3 C_3
  have hcH := H_4.out.2.2
  have hlH := H_4.out.2.1
  have hcC := C_4.out.2.2
  have hlC := C_4.out.2.1
  go_wp2_with fail
  refine (awake11_any _).mono ?_
  rintro e u5 ⟨rfl, b5⟩
  clear hcH hlH hcC hlC
  have B_5 := Lib.hid (bl B_4.out b5)
  have H_5 := Lib.hid (H_4.out.call b5)
  have C_5 := Lib.hid (C_4.out.call b5)
  clear b5 B_4 H_4 C_4
  have hcH := H_5.out.2.2
  have hlH := H_5.out.2.1
  have hcC := C_5.out.2.2
  have hlC := C_5.out.2.1
  go_wp2_with fail
  go_ret
  exact ⟨rfl, B_5.out⟩
set_option maxRecDepth 100000 in
theorem giftsDo_nokind (x : Wd) (p : Wp) (a item q : Int) (kd di it bx who pay fee : Int) (gl wl : List Int) (ga wa : Option Addr) (gc wc : Nat) (w : World) (h : WorldAt w p x) (hg : IntsAt w ga gl) (hw : IntsAt w wa wl) (hf : fitsB x = true) (hfw : cfewB ⟨kd, di, it, bx, who, gl, pay, wl, fee⟩ = true) (hmy : refMayB ⟨kd, di, it, bx, who, gl, pay, wl, fee⟩ = true) (hkd : (kd != 8) = true) : Calls Try.prog 3 #[.agg #[.slice p.d.ex x.d.exits.length p.d.exc, .slice p.d.pl x.d.players.length p.d.plc, .slice p.d.co x.d.coins.length p.d.coc, .slice p.d.it x.d.items.length p.d.itc, .slice p.d.bo x.d.boxes.length p.d.boc, .int .i64 x.d.room, .int .i64 x.d.player, .int .i64 x.d.box, .slice p.at_ x.at_.length p.atc, .slice p.co x.coins.length p.coc, .slice p.wh x.wher.length p.whc], .int .u8 a, .int .i64 item, .int .i64 q, .agg #[.int .i64 kd, .int .i64 di, .int .i64 it, .int .i64 bx, .int .i64 who, .slice ga gl.length gc, .int .i64 pay, .slice wa wl.length wc, .int .i64 fee]] w fun e w' => e = .returned (.bool true) ∧ Below w.heap.size w w' := by
  have HP0 := Lib.hid (Holds.pair w #[.slice p.d.ex x.d.exits.length p.d.exc, .slice p.d.pl x.d.players.length p.d.plc, .slice p.d.co x.d.coins.length p.d.coc, .slice p.d.it x.d.items.length p.d.itc, .slice p.d.bo x.d.boxes.length p.d.boc, .int .i64 x.d.room, .int .i64 x.d.player, .int .i64 x.d.box, .slice p.at_ x.at_.length p.atc, .slice p.co x.coins.length p.coc, .slice p.wh x.wher.length p.whc] #[.int .i64 kd, .int .i64 di, .int .i64 it, .int .i64 bx, .int .i64 who, .slice ga gl.length gc, .int .i64 pay, .slice wa wl.length wc, .int .i64 fee] 29 31)
  have HF := Lib.hid hf
  have HWA := Lib.hid h
  have HG := Lib.hid hg
  have HW := Lib.hid hw
  have HFW := Lib.hid hfw
  have HMY := Lib.hid hmy
  clear hf h hg hw hfw hmy
  go_enter Try.func3, Try.ntmps3
  go_wp2_with fail
  generalize (w.alloc (.cells #[.slice p.d.ex x.d.exits.length p.d.exc, .slice p.d.pl x.d.players.length p.d.plc, .slice p.d.co x.d.coins.length p.d.coc, .slice p.d.it x.d.items.length p.d.itc, .slice p.d.bo x.d.boxes.length p.d.boc, .int .i64 x.d.room, .int .i64 x.d.player, .int .i64 x.d.box, .slice p.at_ x.at_.length p.atc, .slice p.co x.coins.length p.coc, .slice p.wh x.wher.length p.whc] 29)).alloc (.cells #[.int .i64 kd, .int .i64 di, .int .i64 it, .int .i64 bx, .int .i64 who, .slice ga gl.length gc, .int .i64 pay, .slice wa wl.length wc, .int .i64 fee] 31) = V0 at *
  have H_0 := Lib.hid HP0.out.1
  have C_0 := Lib.hid HP0.out.2
  have B_0 := Lib.hid H_0.out.1
  clear HP0
  refine (awake11_any _).mono ?_
  rintro e u1 ⟨rfl, b1⟩
  have B_1 := Lib.hid (bl B_0.out b1)
  have H_1 := Lib.hid (H_0.out.call b1)
  have C_1 := Lib.hid (C_0.out.call b1)
  clear b1 B_0 H_0 C_0
  have hcH := H_1.out.2.2
  have hlH := H_1.out.2.1
  have hcC := C_1.out.2.2
  have hlC := C_1.out.2.1
  go_wp2_with fail
  refine (fits11_any x p _ (HWA.out.below B_1.out (Nat.le_refl _))).mono ?_
  rintro e u2 ⟨rfl, b2⟩
  rw [HF.out]
  clear hcH hlH hcC hlC
  have B_2 := Lib.hid (bl B_1.out b2)
  have H_2 := Lib.hid (H_1.out.call b2)
  have C_2 := Lib.hid (C_1.out.call b2)
  clear b2 B_1 H_1 C_1
  have hcH := H_2.out.2.2
  have hlH := H_2.out.2.1
  have hcC := C_2.out.2.2
  have hlC := C_2.out.2.1
  go_wp2_with fail
  refine (cfew_any ⟨kd, di, it, bx, who, gl, pay, wl, fee⟩ ga wa gc wc _ (HG.out.below B_2.out (Nat.le_refl _)) (HW.out.below B_2.out (Nat.le_refl _))).mono ?_
  rintro e u3 ⟨rfl, b3⟩
  rw [HFW.out]
  clear hcH hlH hcC hlC
  have B_3 := Lib.hid (bl B_2.out b3)
  have H_3 := Lib.hid (H_2.out.call b3)
  have C_3 := Lib.hid (C_2.out.call b3)
  clear b3 B_2 H_2 C_2
  have hcH := H_3.out.2.2
  have hlH := H_3.out.2.1
  have hcC := C_3.out.2.2
  have hlC := C_3.out.2.1
  go_wp2_with fail
  refine (rcmay_any ⟨kd, di, it, bx, who, gl, pay, wl, fee⟩ ga wa gc wc _ (HG.out.below B_3.out (Nat.le_refl _)) (HW.out.below B_3.out (Nat.le_refl _))).mono ?_
  rintro e u4 ⟨rfl, b4⟩
  rw [HMY.out]
  clear hcH hlH hcC hlC
  have B_4 := Lib.hid (bl B_3.out b4)
  have H_4 := Lib.hid (H_3.out.call b4)
  have C_4 := Lib.hid (C_3.out.call b4)
  clear b4 B_3 H_3 C_3
  have hcH := H_4.out.2.2
  have hlH := H_4.out.2.1
  have hcC := C_4.out.2.2
  have hlC := C_4.out.2.1
  go_wp2_with fail
  refine (awake11_any _).mono ?_
  rintro e u5 ⟨rfl, b5⟩
  clear hcH hlH hcC hlC
  have B_5 := Lib.hid (bl B_4.out b5)
  have H_5 := Lib.hid (H_4.out.call b5)
  have C_5 := Lib.hid (C_4.out.call b5)
  clear b5 B_4 H_4 C_4
  have hcH := H_5.out.2.2
  have hlH := H_5.out.2.1
  have hcC := C_5.out.2.2
  have hlC := C_5.out.2.1
  go_wp2_with fail
  go_ret
  exact ⟨rfl, B_5.out⟩
set_option maxRecDepth 100000 in
set_option maxHeartbeats 4000000 in
theorem giftsDo_go (x : Wd) (p : Wp) (a i : Nat) (item q : Int) (kd di it bx who pay fee : Int) (gl wl : List Int) (ga wa : Option Addr) (gc wc : Nat) (haa : a ≤ 255) (hi : a % x.at_.length = i) (w : World) (h : WorldAt w p x) (hg : IntsAt w ga gl) (hw : IntsAt w wa wl) (hf : fitsB x = true) (hfw : cfewB ⟨kd, di, it, bx, who, gl, pay, wl, fee⟩ = true) (hmy : refMayB ⟨kd, di, it, bx, who, gl, pay, wl, fee⟩ = true) (hkd : (kd != 8) = false) (hgl : gl.length ≤ 16) (hwl : wl.length ≤ 16) : Calls Try.prog 3 #[.agg #[.slice p.d.ex x.d.exits.length p.d.exc, .slice p.d.pl x.d.players.length p.d.plc, .slice p.d.co x.d.coins.length p.d.coc, .slice p.d.it x.d.items.length p.d.itc, .slice p.d.bo x.d.boxes.length p.d.boc, .int .i64 x.d.room, .int .i64 x.d.player, .int .i64 x.d.box, .slice p.at_ x.at_.length p.atc, .slice p.co x.coins.length p.coc, .slice p.wh x.wher.length p.whc], .int .u8 (a : Int), .int .i64 item, .int .i64 q, .agg #[.int .i64 kd, .int .i64 di, .int .i64 it, .int .i64 bx, .int .i64 who, .slice ga gl.length gc, .int .i64 pay, .slice wa wl.length wc, .int .i64 fee]] w fun e w' => e = .returned (.bool true) ∧ Below w.heap.size w w' := by
  have r1 := run_tmod7 a x.at_.length
  have m1 := run_mod7 a x.at_.length
  rw [hi] at r1 m1
  have FT := Lib.hid (fits_fit hf)
  have hlp : 0 < x.at_.length := (right_lens FT.out.right).1
  have hne : ¬ x.at_ = [] := List.length_pos_iff.1 hlp
  have hil : i < x.at_.length := by rw [← hi]; exact Nat.mod_lt _ hlp
  have hlen6 := (right_lens FT.out.right).2.1
  obtain ⟨⟨y, e⟩, hR⟩ : ∃ R, giveW x i item q = R := ⟨_, rfl⟩
  obtain ⟨⟨z, f⟩, hP⟩ : ∃ R, tradeW x i who gl wl pay fee = R := ⟨_, rfl⟩
  have HR := Lib.hid hR
  have HP := Lib.hid hP
  have SY := Lib.hid (show Shape x y by have := give_shape x i item q; rwa [hR] at this)
  have SZ := Lib.hid (show Shape x z by have := trade_shape x i who gl wl pay fee; rwa [hP] at this)
  have HLG := Lib.hid hgl
  have HLW := Lib.hid hwl
  clear hi hlp hR hP hgl hwl
  have HP0 := Lib.hid (Holds.pair w #[.slice p.d.ex x.d.exits.length p.d.exc, .slice p.d.pl x.d.players.length p.d.plc, .slice p.d.co x.d.coins.length p.d.coc, .slice p.d.it x.d.items.length p.d.itc, .slice p.d.bo x.d.boxes.length p.d.boc, .int .i64 x.d.room, .int .i64 x.d.player, .int .i64 x.d.box, .slice p.at_ x.at_.length p.atc, .slice p.co x.coins.length p.coc, .slice p.wh x.wher.length p.whc] #[.int .i64 kd, .int .i64 di, .int .i64 it, .int .i64 bx, .int .i64 who, .slice ga gl.length gc, .int .i64 pay, .slice wa wl.length wc, .int .i64 fee] 29 31)
  have HF := Lib.hid hf
  have HWA := Lib.hid h
  have HG := Lib.hid hg
  have HW := Lib.hid hw
  have HFW := Lib.hid hfw
  have HMY := Lib.hid hmy
  clear hf h hg hw hfw hmy
  go_enter Try.func3, Try.ntmps3
  go_wp2_with fail
  generalize (w.alloc (.cells #[.slice p.d.ex x.d.exits.length p.d.exc, .slice p.d.pl x.d.players.length p.d.plc, .slice p.d.co x.d.coins.length p.d.coc, .slice p.d.it x.d.items.length p.d.itc, .slice p.d.bo x.d.boxes.length p.d.boc, .int .i64 x.d.room, .int .i64 x.d.player, .int .i64 x.d.box, .slice p.at_ x.at_.length p.atc, .slice p.co x.coins.length p.coc, .slice p.wh x.wher.length p.whc] 29)).alloc (.cells #[.int .i64 kd, .int .i64 di, .int .i64 it, .int .i64 bx, .int .i64 who, .slice ga gl.length gc, .int .i64 pay, .slice wa wl.length wc, .int .i64 fee] 31) = V0 at *
  have H_0 := Lib.hid HP0.out.1
  have C_0 := Lib.hid HP0.out.2
  have B_0 := Lib.hid H_0.out.1
  clear HP0
  refine (awake11_any _).mono ?_
  rintro e u1 ⟨rfl, b1⟩
  have B_1 := Lib.hid (bl B_0.out b1)
  have H_1 := Lib.hid (H_0.out.call b1)
  have C_1 := Lib.hid (C_0.out.call b1)
  clear b1 B_0 H_0 C_0
  have hcH := H_1.out.2.2
  have hlH := H_1.out.2.1
  have hcC := C_1.out.2.2
  have hlC := C_1.out.2.1
  go_wp2_with fail
  refine (fits11_any x p _ (HWA.out.below B_1.out (Nat.le_refl _))).mono ?_
  rintro e u2 ⟨rfl, b2⟩
  rw [HF.out]
  clear hcH hlH hcC hlC
  have B_2 := Lib.hid (bl B_1.out b2)
  have H_2 := Lib.hid (H_1.out.call b2)
  have C_2 := Lib.hid (C_1.out.call b2)
  clear b2 B_1 H_1 C_1
  have hcH := H_2.out.2.2
  have hlH := H_2.out.2.1
  have hcC := C_2.out.2.2
  have hlC := C_2.out.2.1
  go_wp2_with fail
  refine (cfew_any ⟨kd, di, it, bx, who, gl, pay, wl, fee⟩ ga wa gc wc _ (HG.out.below B_2.out (Nat.le_refl _)) (HW.out.below B_2.out (Nat.le_refl _))).mono ?_
  rintro e u3 ⟨rfl, b3⟩
  rw [HFW.out]
  clear hcH hlH hcC hlC
  have B_3 := Lib.hid (bl B_2.out b3)
  have H_3 := Lib.hid (H_2.out.call b3)
  have C_3 := Lib.hid (C_2.out.call b3)
  clear b3 B_2 H_2 C_2
  have hcH := H_3.out.2.2
  have hlH := H_3.out.2.1
  have hcC := C_3.out.2.2
  have hlC := C_3.out.2.1
  go_wp2_with fail
  refine (rcmay_any ⟨kd, di, it, bx, who, gl, pay, wl, fee⟩ ga wa gc wc _ (HG.out.below B_3.out (Nat.le_refl _)) (HW.out.below B_3.out (Nat.le_refl _))).mono ?_
  rintro e u4 ⟨rfl, b4⟩
  rw [HMY.out]
  clear hcH hlH hcC hlC
  have B_4 := Lib.hid (bl B_3.out b4)
  have H_4 := Lib.hid (H_3.out.call b4)
  have C_4 := Lib.hid (C_3.out.call b4)
  clear b4 B_3 H_3 C_3
  have hcH := H_4.out.2.2
  have hlH := H_4.out.2.1
  have hcC := C_4.out.2.2
  have hlC := C_4.out.2.1
  go_wp2_with fail
  refine (give_as (Shape.refl x) p i _ FT.out.right (HWA.out.below B_4.out (Nat.le_refl _)) hil item q HR.out).mono ?_
  rintro e u5 ⟨q5, rfl, g5, b5⟩
  clear hcH hlH hcC hlC
  have B_5 := Lib.hid (bl B_4.out b5)
  have H_5 := Lib.hid (H_4.out.call b5)
  have C_5 := Lib.hid (C_4.out.call b5)
  have YA_5 := Lib.hid g5
  clear b5 B_4 H_4 C_4 g5
  have hcH := H_5.out.2.2
  have hlH := H_5.out.2.1
  have hcC := C_5.out.2.2
  have hlC := C_5.out.2.1
  go_wp2_with fail
  clear hcH hlH hcC hlC
  have s6 : (u5.alloc (.cells #[.slice q5.d.ex x.d.exits.length q5.d.exc, .slice q5.d.pl x.d.players.length q5.d.plc, .slice q5.d.co x.d.coins.length q5.d.coc, .slice q5.d.it x.d.items.length q5.d.itc, .slice q5.d.bo x.d.boxes.length q5.d.boc, .int .i64 x.d.room, .int .i64 x.d.player, .int .i64 x.d.box, .slice q5.at_ x.at_.length q5.atc, .slice q5.co x.coins.length q5.coc, .slice q5.wh x.wher.length q5.whc] 29)).heap.size = u5.heap.size + 1 := by simp
  have B_6 := Lib.hid (B_5.out.alloc B_5.out.size (.cells #[.slice q5.d.ex x.d.exits.length q5.d.exc, .slice q5.d.pl x.d.players.length q5.d.plc, .slice q5.d.co x.d.coins.length q5.d.coc, .slice q5.d.it x.d.items.length q5.d.itc, .slice q5.d.bo x.d.boxes.length q5.d.boc, .int .i64 x.d.room, .int .i64 x.d.player, .int .i64 x.d.box, .slice q5.at_ x.at_.length q5.atc, .slice q5.co x.coins.length q5.coc, .slice q5.wh x.wher.length q5.whc] 29))
  have H_6 := Lib.hid (H_5.out.alloc (.cells #[.slice q5.d.ex x.d.exits.length q5.d.exc, .slice q5.d.pl x.d.players.length q5.d.plc, .slice q5.d.co x.d.coins.length q5.d.coc, .slice q5.d.it x.d.items.length q5.d.itc, .slice q5.d.bo x.d.boxes.length q5.d.boc, .int .i64 x.d.room, .int .i64 x.d.player, .int .i64 x.d.box, .slice q5.at_ x.at_.length q5.atc, .slice q5.co x.coins.length q5.coc, .slice q5.wh x.wher.length q5.whc] 29))
  have C_6 := Lib.hid (C_5.out.alloc (.cells #[.slice q5.d.ex x.d.exits.length q5.d.exc, .slice q5.d.pl x.d.players.length q5.d.plc, .slice q5.d.co x.d.coins.length q5.d.coc, .slice q5.d.it x.d.items.length q5.d.itc, .slice q5.d.bo x.d.boxes.length q5.d.boc, .int .i64 x.d.room, .int .i64 x.d.player, .int .i64 x.d.box, .slice q5.at_ x.at_.length q5.atc, .slice q5.co x.coins.length q5.coc, .slice q5.wh x.wher.length q5.whc] 29))
  have YA_6 := Lib.hid (YA_5.out.call ((Below.refl _ _).alloc (Nat.le_refl _) (.cells #[.slice q5.d.ex x.d.exits.length q5.d.exc, .slice q5.d.pl x.d.players.length q5.d.plc, .slice q5.d.co x.d.coins.length q5.d.coc, .slice q5.d.it x.d.items.length q5.d.itc, .slice q5.d.bo x.d.boxes.length q5.d.boc, .int .i64 x.d.room, .int .i64 x.d.player, .int .i64 x.d.box, .slice q5.at_ x.at_.length q5.atc, .slice q5.co x.coins.length q5.coc, .slice q5.wh x.wher.length q5.whc] 29)))
  have A_6 := Lib.hid (Holds.newb (w := w) (A := #[.slice q5.d.ex x.d.exits.length q5.d.exc, .slice q5.d.pl x.d.players.length q5.d.plc, .slice q5.d.co x.d.coins.length q5.d.coc, .slice q5.d.it x.d.items.length q5.d.itc, .slice q5.d.bo x.d.boxes.length q5.d.boc, .int .i64 x.d.room, .int .i64 x.d.player, .int .i64 x.d.box, .slice q5.at_ x.at_.length q5.atc, .slice q5.co x.coins.length q5.coc, .slice q5.wh x.wher.length q5.whc]) (t := 29) (n := u5.heap.size) B_5.out rfl)
  clear B_5 H_5 C_5 YA_5
  generalize u5.alloc (.cells #[.slice q5.d.ex x.d.exits.length q5.d.exc, .slice q5.d.pl x.d.players.length q5.d.plc, .slice q5.d.co x.d.coins.length q5.d.coc, .slice q5.d.it x.d.items.length q5.d.itc, .slice q5.d.bo x.d.boxes.length q5.d.boc, .int .i64 x.d.room, .int .i64 x.d.player, .int .i64 x.d.box, .slice q5.at_ x.at_.length q5.atc, .slice q5.co x.coins.length q5.coc, .slice q5.wh x.wher.length q5.whc] 29) = V6 at *
  have hcH := H_6.out.2.2
  have hlH := H_6.out.2.1
  have hcC := C_6.out.2.2
  have hlC := C_6.out.2.1
  have hcA := A_6.out.2.2
  have hlA := A_6.out.2.1
  refine (rgive_as (Shape.refl x) p i _ FT.out.right (HWA.out.below B_6.out (Nat.le_refl _)) hil item q HR.out).mono ?_
  rintro e u7 ⟨q7, rfl, g7, b7⟩
  clear hcH hlH hcC hlC hcA hlA
  have B_7 := Lib.hid (bl B_6.out b7)
  have H_7 := Lib.hid (H_6.out.call b7)
  have C_7 := Lib.hid (C_6.out.call b7)
  have A_7 := Lib.hid (A_6.out.call b7)
  have YA_7 := Lib.hid (YA_6.out.call b7)
  have YB_7 := Lib.hid g7
  clear b7 B_6 H_6 C_6 A_6 YA_6 g7
  have hcH := H_7.out.2.2
  have hlH := H_7.out.2.1
  have hcC := C_7.out.2.2
  have hlC := C_7.out.2.1
  have hcA := A_7.out.2.2
  have hlA := A_7.out.2.1
  go_wp2_with fail
  clear hcH hlH hcC hlC hcA hlA
  have s8 : (u7.alloc (.cells #[.slice q7.d.ex x.d.exits.length q7.d.exc, .slice q7.d.pl x.d.players.length q7.d.plc, .slice q7.d.co x.d.coins.length q7.d.coc, .slice q7.d.it x.d.items.length q7.d.itc, .slice q7.d.bo x.d.boxes.length q7.d.boc, .int .i64 x.d.room, .int .i64 x.d.player, .int .i64 x.d.box, .slice q7.at_ x.at_.length q7.atc, .slice q7.co x.coins.length q7.coc, .slice q7.wh x.wher.length q7.whc] 29)).heap.size = u7.heap.size + 1 := by simp
  have B_8 := Lib.hid (B_7.out.alloc B_7.out.size (.cells #[.slice q7.d.ex x.d.exits.length q7.d.exc, .slice q7.d.pl x.d.players.length q7.d.plc, .slice q7.d.co x.d.coins.length q7.d.coc, .slice q7.d.it x.d.items.length q7.d.itc, .slice q7.d.bo x.d.boxes.length q7.d.boc, .int .i64 x.d.room, .int .i64 x.d.player, .int .i64 x.d.box, .slice q7.at_ x.at_.length q7.atc, .slice q7.co x.coins.length q7.coc, .slice q7.wh x.wher.length q7.whc] 29))
  have H_8 := Lib.hid (H_7.out.alloc (.cells #[.slice q7.d.ex x.d.exits.length q7.d.exc, .slice q7.d.pl x.d.players.length q7.d.plc, .slice q7.d.co x.d.coins.length q7.d.coc, .slice q7.d.it x.d.items.length q7.d.itc, .slice q7.d.bo x.d.boxes.length q7.d.boc, .int .i64 x.d.room, .int .i64 x.d.player, .int .i64 x.d.box, .slice q7.at_ x.at_.length q7.atc, .slice q7.co x.coins.length q7.coc, .slice q7.wh x.wher.length q7.whc] 29))
  have C_8 := Lib.hid (C_7.out.alloc (.cells #[.slice q7.d.ex x.d.exits.length q7.d.exc, .slice q7.d.pl x.d.players.length q7.d.plc, .slice q7.d.co x.d.coins.length q7.d.coc, .slice q7.d.it x.d.items.length q7.d.itc, .slice q7.d.bo x.d.boxes.length q7.d.boc, .int .i64 x.d.room, .int .i64 x.d.player, .int .i64 x.d.box, .slice q7.at_ x.at_.length q7.atc, .slice q7.co x.coins.length q7.coc, .slice q7.wh x.wher.length q7.whc] 29))
  have A_8 := Lib.hid (A_7.out.alloc (.cells #[.slice q7.d.ex x.d.exits.length q7.d.exc, .slice q7.d.pl x.d.players.length q7.d.plc, .slice q7.d.co x.d.coins.length q7.d.coc, .slice q7.d.it x.d.items.length q7.d.itc, .slice q7.d.bo x.d.boxes.length q7.d.boc, .int .i64 x.d.room, .int .i64 x.d.player, .int .i64 x.d.box, .slice q7.at_ x.at_.length q7.atc, .slice q7.co x.coins.length q7.coc, .slice q7.wh x.wher.length q7.whc] 29))
  have YA_8 := Lib.hid (YA_7.out.call ((Below.refl _ _).alloc (Nat.le_refl _) (.cells #[.slice q7.d.ex x.d.exits.length q7.d.exc, .slice q7.d.pl x.d.players.length q7.d.plc, .slice q7.d.co x.d.coins.length q7.d.coc, .slice q7.d.it x.d.items.length q7.d.itc, .slice q7.d.bo x.d.boxes.length q7.d.boc, .int .i64 x.d.room, .int .i64 x.d.player, .int .i64 x.d.box, .slice q7.at_ x.at_.length q7.atc, .slice q7.co x.coins.length q7.coc, .slice q7.wh x.wher.length q7.whc] 29)))
  have YB_8 := Lib.hid (YB_7.out.call ((Below.refl _ _).alloc (Nat.le_refl _) (.cells #[.slice q7.d.ex x.d.exits.length q7.d.exc, .slice q7.d.pl x.d.players.length q7.d.plc, .slice q7.d.co x.d.coins.length q7.d.coc, .slice q7.d.it x.d.items.length q7.d.itc, .slice q7.d.bo x.d.boxes.length q7.d.boc, .int .i64 x.d.room, .int .i64 x.d.player, .int .i64 x.d.box, .slice q7.at_ x.at_.length q7.atc, .slice q7.co x.coins.length q7.coc, .slice q7.wh x.wher.length q7.whc] 29)))
  have D_8 := Lib.hid (Holds.newb (w := w) (A := #[.slice q7.d.ex x.d.exits.length q7.d.exc, .slice q7.d.pl x.d.players.length q7.d.plc, .slice q7.d.co x.d.coins.length q7.d.coc, .slice q7.d.it x.d.items.length q7.d.itc, .slice q7.d.bo x.d.boxes.length q7.d.boc, .int .i64 x.d.room, .int .i64 x.d.player, .int .i64 x.d.box, .slice q7.at_ x.at_.length q7.atc, .slice q7.co x.coins.length q7.coc, .slice q7.wh x.wher.length q7.whc]) (t := 29) (n := u7.heap.size) B_7.out rfl)
  clear B_7 H_7 C_7 A_7 YA_7 YB_7
  generalize u7.alloc (.cells #[.slice q7.d.ex x.d.exits.length q7.d.exc, .slice q7.d.pl x.d.players.length q7.d.plc, .slice q7.d.co x.d.coins.length q7.d.coc, .slice q7.d.it x.d.items.length q7.d.itc, .slice q7.d.bo x.d.boxes.length q7.d.boc, .int .i64 x.d.room, .int .i64 x.d.player, .int .i64 x.d.box, .slice q7.at_ x.at_.length q7.atc, .slice q7.co x.coins.length q7.coc, .slice q7.wh x.wher.length q7.whc] 29) = V8 at *
  have hcH := H_8.out.2.2
  have hlH := H_8.out.2.1
  have hcC := C_8.out.2.2
  have hlC := C_8.out.2.1
  have hcA := A_8.out.2.2
  have hlA := A_8.out.2.1
  have hcD := D_8.out.2.2
  have hlD := D_8.out.2.1
  refine (trade_as (Shape.refl x) p i _ FT.out.right (HWA.out.below B_8.out (Nat.le_refl _)) hil kd di it bx who pay fee gl wl ga wa gc wc (HG.out.below B_8.out (Nat.le_refl _)) (HW.out.below B_8.out (Nat.le_refl _)) HLG.out HLW.out HP.out).mono ?_
  rintro e u9 ⟨q9, rfl, g9, b9⟩
  clear hcH hlH hcC hlC hcA hlA hcD hlD
  have B_9 := Lib.hid (bl B_8.out b9)
  have H_9 := Lib.hid (H_8.out.call b9)
  have C_9 := Lib.hid (C_8.out.call b9)
  have A_9 := Lib.hid (A_8.out.call b9)
  have D_9 := Lib.hid (D_8.out.call b9)
  have YA_9 := Lib.hid (YA_8.out.call b9)
  have YB_9 := Lib.hid (YB_8.out.call b9)
  have ZA_9 := Lib.hid g9
  clear b9 B_8 H_8 C_8 A_8 D_8 YA_8 YB_8 g9
  have hcH := H_9.out.2.2
  have hlH := H_9.out.2.1
  have hcC := C_9.out.2.2
  have hlC := C_9.out.2.1
  have hcA := A_9.out.2.2
  have hlA := A_9.out.2.1
  have hcD := D_9.out.2.2
  have hlD := D_9.out.2.1
  go_wp2_with fail
  clear hcH hlH hcC hlC hcA hlA hcD hlD
  have s10 : (u9.alloc (.cells #[.slice q9.d.ex x.d.exits.length q9.d.exc, .slice q9.d.pl x.d.players.length q9.d.plc, .slice q9.d.co x.d.coins.length q9.d.coc, .slice q9.d.it x.d.items.length q9.d.itc, .slice q9.d.bo x.d.boxes.length q9.d.boc, .int .i64 x.d.room, .int .i64 x.d.player, .int .i64 x.d.box, .slice q9.at_ x.at_.length q9.atc, .slice q9.co x.coins.length q9.coc, .slice q9.wh x.wher.length q9.whc] 29)).heap.size = u9.heap.size + 1 := by simp
  have B_10 := Lib.hid (B_9.out.alloc B_9.out.size (.cells #[.slice q9.d.ex x.d.exits.length q9.d.exc, .slice q9.d.pl x.d.players.length q9.d.plc, .slice q9.d.co x.d.coins.length q9.d.coc, .slice q9.d.it x.d.items.length q9.d.itc, .slice q9.d.bo x.d.boxes.length q9.d.boc, .int .i64 x.d.room, .int .i64 x.d.player, .int .i64 x.d.box, .slice q9.at_ x.at_.length q9.atc, .slice q9.co x.coins.length q9.coc, .slice q9.wh x.wher.length q9.whc] 29))
  have H_10 := Lib.hid (H_9.out.alloc (.cells #[.slice q9.d.ex x.d.exits.length q9.d.exc, .slice q9.d.pl x.d.players.length q9.d.plc, .slice q9.d.co x.d.coins.length q9.d.coc, .slice q9.d.it x.d.items.length q9.d.itc, .slice q9.d.bo x.d.boxes.length q9.d.boc, .int .i64 x.d.room, .int .i64 x.d.player, .int .i64 x.d.box, .slice q9.at_ x.at_.length q9.atc, .slice q9.co x.coins.length q9.coc, .slice q9.wh x.wher.length q9.whc] 29))
  have C_10 := Lib.hid (C_9.out.alloc (.cells #[.slice q9.d.ex x.d.exits.length q9.d.exc, .slice q9.d.pl x.d.players.length q9.d.plc, .slice q9.d.co x.d.coins.length q9.d.coc, .slice q9.d.it x.d.items.length q9.d.itc, .slice q9.d.bo x.d.boxes.length q9.d.boc, .int .i64 x.d.room, .int .i64 x.d.player, .int .i64 x.d.box, .slice q9.at_ x.at_.length q9.atc, .slice q9.co x.coins.length q9.coc, .slice q9.wh x.wher.length q9.whc] 29))
  have A_10 := Lib.hid (A_9.out.alloc (.cells #[.slice q9.d.ex x.d.exits.length q9.d.exc, .slice q9.d.pl x.d.players.length q9.d.plc, .slice q9.d.co x.d.coins.length q9.d.coc, .slice q9.d.it x.d.items.length q9.d.itc, .slice q9.d.bo x.d.boxes.length q9.d.boc, .int .i64 x.d.room, .int .i64 x.d.player, .int .i64 x.d.box, .slice q9.at_ x.at_.length q9.atc, .slice q9.co x.coins.length q9.coc, .slice q9.wh x.wher.length q9.whc] 29))
  have D_10 := Lib.hid (D_9.out.alloc (.cells #[.slice q9.d.ex x.d.exits.length q9.d.exc, .slice q9.d.pl x.d.players.length q9.d.plc, .slice q9.d.co x.d.coins.length q9.d.coc, .slice q9.d.it x.d.items.length q9.d.itc, .slice q9.d.bo x.d.boxes.length q9.d.boc, .int .i64 x.d.room, .int .i64 x.d.player, .int .i64 x.d.box, .slice q9.at_ x.at_.length q9.atc, .slice q9.co x.coins.length q9.coc, .slice q9.wh x.wher.length q9.whc] 29))
  have YA_10 := Lib.hid (YA_9.out.call ((Below.refl _ _).alloc (Nat.le_refl _) (.cells #[.slice q9.d.ex x.d.exits.length q9.d.exc, .slice q9.d.pl x.d.players.length q9.d.plc, .slice q9.d.co x.d.coins.length q9.d.coc, .slice q9.d.it x.d.items.length q9.d.itc, .slice q9.d.bo x.d.boxes.length q9.d.boc, .int .i64 x.d.room, .int .i64 x.d.player, .int .i64 x.d.box, .slice q9.at_ x.at_.length q9.atc, .slice q9.co x.coins.length q9.coc, .slice q9.wh x.wher.length q9.whc] 29)))
  have YB_10 := Lib.hid (YB_9.out.call ((Below.refl _ _).alloc (Nat.le_refl _) (.cells #[.slice q9.d.ex x.d.exits.length q9.d.exc, .slice q9.d.pl x.d.players.length q9.d.plc, .slice q9.d.co x.d.coins.length q9.d.coc, .slice q9.d.it x.d.items.length q9.d.itc, .slice q9.d.bo x.d.boxes.length q9.d.boc, .int .i64 x.d.room, .int .i64 x.d.player, .int .i64 x.d.box, .slice q9.at_ x.at_.length q9.atc, .slice q9.co x.coins.length q9.coc, .slice q9.wh x.wher.length q9.whc] 29)))
  have ZA_10 := Lib.hid (ZA_9.out.call ((Below.refl _ _).alloc (Nat.le_refl _) (.cells #[.slice q9.d.ex x.d.exits.length q9.d.exc, .slice q9.d.pl x.d.players.length q9.d.plc, .slice q9.d.co x.d.coins.length q9.d.coc, .slice q9.d.it x.d.items.length q9.d.itc, .slice q9.d.bo x.d.boxes.length q9.d.boc, .int .i64 x.d.room, .int .i64 x.d.player, .int .i64 x.d.box, .slice q9.at_ x.at_.length q9.atc, .slice q9.co x.coins.length q9.coc, .slice q9.wh x.wher.length q9.whc] 29)))
  have E_10 := Lib.hid (Holds.newb (w := w) (A := #[.slice q9.d.ex x.d.exits.length q9.d.exc, .slice q9.d.pl x.d.players.length q9.d.plc, .slice q9.d.co x.d.coins.length q9.d.coc, .slice q9.d.it x.d.items.length q9.d.itc, .slice q9.d.bo x.d.boxes.length q9.d.boc, .int .i64 x.d.room, .int .i64 x.d.player, .int .i64 x.d.box, .slice q9.at_ x.at_.length q9.atc, .slice q9.co x.coins.length q9.coc, .slice q9.wh x.wher.length q9.whc]) (t := 29) (n := u9.heap.size) B_9.out rfl)
  clear B_9 H_9 C_9 A_9 D_9 YA_9 YB_9 ZA_9
  generalize u9.alloc (.cells #[.slice q9.d.ex x.d.exits.length q9.d.exc, .slice q9.d.pl x.d.players.length q9.d.plc, .slice q9.d.co x.d.coins.length q9.d.coc, .slice q9.d.it x.d.items.length q9.d.itc, .slice q9.d.bo x.d.boxes.length q9.d.boc, .int .i64 x.d.room, .int .i64 x.d.player, .int .i64 x.d.box, .slice q9.at_ x.at_.length q9.atc, .slice q9.co x.coins.length q9.coc, .slice q9.wh x.wher.length q9.whc] 29) = V10 at *
  have hcH := H_10.out.2.2
  have hlH := H_10.out.2.1
  have hcC := C_10.out.2.2
  have hlC := C_10.out.2.1
  have hcA := A_10.out.2.2
  have hlA := A_10.out.2.1
  have hcD := D_10.out.2.2
  have hlD := D_10.out.2.1
  have hcE := E_10.out.2.2
  have hlE := E_10.out.2.1
  refine (rtrade_as (Shape.refl x) p i _ FT.out.right (HWA.out.below B_10.out (Nat.le_refl _)) hil kd di it bx who pay fee gl wl ga wa gc wc (HG.out.below B_10.out (Nat.le_refl _)) (HW.out.below B_10.out (Nat.le_refl _)) HLG.out HLW.out HP.out).mono ?_
  rintro e u11 ⟨q11, rfl, g11, b11⟩
  clear hcH hlH hcC hlC hcA hlA hcD hlD hcE hlE
  have B_11 := Lib.hid (bl B_10.out b11)
  have H_11 := Lib.hid (H_10.out.call b11)
  have C_11 := Lib.hid (C_10.out.call b11)
  have A_11 := Lib.hid (A_10.out.call b11)
  have D_11 := Lib.hid (D_10.out.call b11)
  have E_11 := Lib.hid (E_10.out.call b11)
  have YA_11 := Lib.hid (YA_10.out.call b11)
  have YB_11 := Lib.hid (YB_10.out.call b11)
  have ZA_11 := Lib.hid (ZA_10.out.call b11)
  have ZB_11 := Lib.hid g11
  clear b11 B_10 H_10 C_10 A_10 D_10 E_10 YA_10 YB_10 ZA_10 g11
  have hcH := H_11.out.2.2
  have hlH := H_11.out.2.1
  have hcC := C_11.out.2.2
  have hlC := C_11.out.2.1
  have hcA := A_11.out.2.2
  have hlA := A_11.out.2.1
  have hcD := D_11.out.2.2
  have hlD := D_11.out.2.1
  have hcE := E_11.out.2.2
  have hlE := E_11.out.2.1
  go_wp2_with fail
  clear hcH hlH hcC hlC hcA hlA hcD hlD hcE hlE
  have s12 : (u11.alloc (.cells #[.slice q11.d.ex x.d.exits.length q11.d.exc, .slice q11.d.pl x.d.players.length q11.d.plc, .slice q11.d.co x.d.coins.length q11.d.coc, .slice q11.d.it x.d.items.length q11.d.itc, .slice q11.d.bo x.d.boxes.length q11.d.boc, .int .i64 x.d.room, .int .i64 x.d.player, .int .i64 x.d.box, .slice q11.at_ x.at_.length q11.atc, .slice q11.co x.coins.length q11.coc, .slice q11.wh x.wher.length q11.whc] 29)).heap.size = u11.heap.size + 1 := by simp
  have B_12 := Lib.hid (B_11.out.alloc B_11.out.size (.cells #[.slice q11.d.ex x.d.exits.length q11.d.exc, .slice q11.d.pl x.d.players.length q11.d.plc, .slice q11.d.co x.d.coins.length q11.d.coc, .slice q11.d.it x.d.items.length q11.d.itc, .slice q11.d.bo x.d.boxes.length q11.d.boc, .int .i64 x.d.room, .int .i64 x.d.player, .int .i64 x.d.box, .slice q11.at_ x.at_.length q11.atc, .slice q11.co x.coins.length q11.coc, .slice q11.wh x.wher.length q11.whc] 29))
  have H_12 := Lib.hid (H_11.out.alloc (.cells #[.slice q11.d.ex x.d.exits.length q11.d.exc, .slice q11.d.pl x.d.players.length q11.d.plc, .slice q11.d.co x.d.coins.length q11.d.coc, .slice q11.d.it x.d.items.length q11.d.itc, .slice q11.d.bo x.d.boxes.length q11.d.boc, .int .i64 x.d.room, .int .i64 x.d.player, .int .i64 x.d.box, .slice q11.at_ x.at_.length q11.atc, .slice q11.co x.coins.length q11.coc, .slice q11.wh x.wher.length q11.whc] 29))
  have C_12 := Lib.hid (C_11.out.alloc (.cells #[.slice q11.d.ex x.d.exits.length q11.d.exc, .slice q11.d.pl x.d.players.length q11.d.plc, .slice q11.d.co x.d.coins.length q11.d.coc, .slice q11.d.it x.d.items.length q11.d.itc, .slice q11.d.bo x.d.boxes.length q11.d.boc, .int .i64 x.d.room, .int .i64 x.d.player, .int .i64 x.d.box, .slice q11.at_ x.at_.length q11.atc, .slice q11.co x.coins.length q11.coc, .slice q11.wh x.wher.length q11.whc] 29))
  have A_12 := Lib.hid (A_11.out.alloc (.cells #[.slice q11.d.ex x.d.exits.length q11.d.exc, .slice q11.d.pl x.d.players.length q11.d.plc, .slice q11.d.co x.d.coins.length q11.d.coc, .slice q11.d.it x.d.items.length q11.d.itc, .slice q11.d.bo x.d.boxes.length q11.d.boc, .int .i64 x.d.room, .int .i64 x.d.player, .int .i64 x.d.box, .slice q11.at_ x.at_.length q11.atc, .slice q11.co x.coins.length q11.coc, .slice q11.wh x.wher.length q11.whc] 29))
  have D_12 := Lib.hid (D_11.out.alloc (.cells #[.slice q11.d.ex x.d.exits.length q11.d.exc, .slice q11.d.pl x.d.players.length q11.d.plc, .slice q11.d.co x.d.coins.length q11.d.coc, .slice q11.d.it x.d.items.length q11.d.itc, .slice q11.d.bo x.d.boxes.length q11.d.boc, .int .i64 x.d.room, .int .i64 x.d.player, .int .i64 x.d.box, .slice q11.at_ x.at_.length q11.atc, .slice q11.co x.coins.length q11.coc, .slice q11.wh x.wher.length q11.whc] 29))
  have E_12 := Lib.hid (E_11.out.alloc (.cells #[.slice q11.d.ex x.d.exits.length q11.d.exc, .slice q11.d.pl x.d.players.length q11.d.plc, .slice q11.d.co x.d.coins.length q11.d.coc, .slice q11.d.it x.d.items.length q11.d.itc, .slice q11.d.bo x.d.boxes.length q11.d.boc, .int .i64 x.d.room, .int .i64 x.d.player, .int .i64 x.d.box, .slice q11.at_ x.at_.length q11.atc, .slice q11.co x.coins.length q11.coc, .slice q11.wh x.wher.length q11.whc] 29))
  have YA_12 := Lib.hid (YA_11.out.call ((Below.refl _ _).alloc (Nat.le_refl _) (.cells #[.slice q11.d.ex x.d.exits.length q11.d.exc, .slice q11.d.pl x.d.players.length q11.d.plc, .slice q11.d.co x.d.coins.length q11.d.coc, .slice q11.d.it x.d.items.length q11.d.itc, .slice q11.d.bo x.d.boxes.length q11.d.boc, .int .i64 x.d.room, .int .i64 x.d.player, .int .i64 x.d.box, .slice q11.at_ x.at_.length q11.atc, .slice q11.co x.coins.length q11.coc, .slice q11.wh x.wher.length q11.whc] 29)))
  have YB_12 := Lib.hid (YB_11.out.call ((Below.refl _ _).alloc (Nat.le_refl _) (.cells #[.slice q11.d.ex x.d.exits.length q11.d.exc, .slice q11.d.pl x.d.players.length q11.d.plc, .slice q11.d.co x.d.coins.length q11.d.coc, .slice q11.d.it x.d.items.length q11.d.itc, .slice q11.d.bo x.d.boxes.length q11.d.boc, .int .i64 x.d.room, .int .i64 x.d.player, .int .i64 x.d.box, .slice q11.at_ x.at_.length q11.atc, .slice q11.co x.coins.length q11.coc, .slice q11.wh x.wher.length q11.whc] 29)))
  have ZA_12 := Lib.hid (ZA_11.out.call ((Below.refl _ _).alloc (Nat.le_refl _) (.cells #[.slice q11.d.ex x.d.exits.length q11.d.exc, .slice q11.d.pl x.d.players.length q11.d.plc, .slice q11.d.co x.d.coins.length q11.d.coc, .slice q11.d.it x.d.items.length q11.d.itc, .slice q11.d.bo x.d.boxes.length q11.d.boc, .int .i64 x.d.room, .int .i64 x.d.player, .int .i64 x.d.box, .slice q11.at_ x.at_.length q11.atc, .slice q11.co x.coins.length q11.coc, .slice q11.wh x.wher.length q11.whc] 29)))
  have ZB_12 := Lib.hid (ZB_11.out.call ((Below.refl _ _).alloc (Nat.le_refl _) (.cells #[.slice q11.d.ex x.d.exits.length q11.d.exc, .slice q11.d.pl x.d.players.length q11.d.plc, .slice q11.d.co x.d.coins.length q11.d.coc, .slice q11.d.it x.d.items.length q11.d.itc, .slice q11.d.bo x.d.boxes.length q11.d.boc, .int .i64 x.d.room, .int .i64 x.d.player, .int .i64 x.d.box, .slice q11.at_ x.at_.length q11.atc, .slice q11.co x.coins.length q11.coc, .slice q11.wh x.wher.length q11.whc] 29)))
  have G_12 := Lib.hid (Holds.newb (w := w) (A := #[.slice q11.d.ex x.d.exits.length q11.d.exc, .slice q11.d.pl x.d.players.length q11.d.plc, .slice q11.d.co x.d.coins.length q11.d.coc, .slice q11.d.it x.d.items.length q11.d.itc, .slice q11.d.bo x.d.boxes.length q11.d.boc, .int .i64 x.d.room, .int .i64 x.d.player, .int .i64 x.d.box, .slice q11.at_ x.at_.length q11.atc, .slice q11.co x.coins.length q11.coc, .slice q11.wh x.wher.length q11.whc]) (t := 29) (n := u11.heap.size) B_11.out rfl)
  clear B_11 H_11 C_11 A_11 D_11 E_11 YA_11 YB_11 ZA_11 ZB_11
  generalize u11.alloc (.cells #[.slice q11.d.ex x.d.exits.length q11.d.exc, .slice q11.d.pl x.d.players.length q11.d.plc, .slice q11.d.co x.d.coins.length q11.d.coc, .slice q11.d.it x.d.items.length q11.d.itc, .slice q11.d.bo x.d.boxes.length q11.d.boc, .int .i64 x.d.room, .int .i64 x.d.player, .int .i64 x.d.box, .slice q11.at_ x.at_.length q11.atc, .slice q11.co x.coins.length q11.coc, .slice q11.wh x.wher.length q11.whc] 29) = V12 at *
  have hcH := H_12.out.2.2
  have hlH := H_12.out.2.1
  have hcC := C_12.out.2.2
  have hlC := C_12.out.2.1
  have hcA := A_12.out.2.2
  have hlA := A_12.out.2.1
  have hcD := D_12.out.2.2
  have hlD := D_12.out.2.1
  have hcE := E_12.out.2.2
  have hlE := E_12.out.2.1
  have hcG := G_12.out.2.2
  have hlG := G_12.out.2.1
  refine (rsame_yes SY.out SY.out rfl _ _ _ YA_12.out YB_12.out).mono ?_
  rintro e u13 ⟨rfl, b13⟩
  clear hcH hlH hcC hlC hcA hlA hcD hlD hcE hlE hcG hlG
  have B_13 := Lib.hid (bl B_12.out b13)
  have H_13 := Lib.hid (H_12.out.call b13)
  have C_13 := Lib.hid (C_12.out.call b13)
  have A_13 := Lib.hid (A_12.out.call b13)
  have D_13 := Lib.hid (D_12.out.call b13)
  have E_13 := Lib.hid (E_12.out.call b13)
  have G_13 := Lib.hid (G_12.out.call b13)
  have YA_13 := Lib.hid (YA_12.out.call b13)
  have YB_13 := Lib.hid (YB_12.out.call b13)
  have ZA_13 := Lib.hid (ZA_12.out.call b13)
  have ZB_13 := Lib.hid (ZB_12.out.call b13)
  clear b13 B_12 H_12 C_12 A_12 D_12 E_12 G_12 YA_12 YB_12 ZA_12 ZB_12
  have hcH := H_13.out.2.2
  have hlH := H_13.out.2.1
  have hcC := C_13.out.2.2
  have hlC := C_13.out.2.1
  have hcA := A_13.out.2.2
  have hlA := A_13.out.2.1
  have hcD := D_13.out.2.2
  have hlD := D_13.out.2.1
  have hcE := E_13.out.2.2
  have hlE := E_13.out.2.1
  have hcG := G_13.out.2.2
  have hlG := G_13.out.2.1
  go_wp2_with fail
  refine (rsame_yes SZ.out SZ.out rfl _ _ _ ZA_13.out ZB_13.out).mono ?_
  rintro e u14 ⟨rfl, b14⟩
  clear hcH hlH hcC hlC hcA hlA hcD hlD hcE hlE hcG hlG
  have B_14 := Lib.hid (bl B_13.out b14)
  have H_14 := Lib.hid (H_13.out.call b14)
  have C_14 := Lib.hid (C_13.out.call b14)
  have A_14 := Lib.hid (A_13.out.call b14)
  have D_14 := Lib.hid (D_13.out.call b14)
  have E_14 := Lib.hid (E_13.out.call b14)
  have G_14 := Lib.hid (G_13.out.call b14)
  have YA_14 := Lib.hid (YA_13.out.call b14)
  have YB_14 := Lib.hid (YB_13.out.call b14)
  have ZA_14 := Lib.hid (ZA_13.out.call b14)
  have ZB_14 := Lib.hid (ZB_13.out.call b14)
  clear b14 B_13 H_13 C_13 A_13 D_13 E_13 G_13 YA_13 YB_13 ZA_13 ZB_13
  go_wp2_with fail
  go_ret
  exact ⟨rfl, B_14.out⟩
theorem walk_giftsDo (x : Wd) (p : Wp) (a item q : Int) (c : Cm) (ga wa : Option Addr) (gc wc : Nat) (w : World) (ha : (Lit.int .u8 a).wf = true) (hq : (Lit.int .i64 item).wf = true) (hq2 : (Lit.int .i64 q).wf = true) (h : WorldAt w p x) (hg : IntsAt w ga c.gives) (hw : IntsAt w wa c.wants) (_ : c.Wf) : Calls Try.prog 3 #[.agg #[.slice p.d.ex x.d.exits.length p.d.exc, .slice p.d.pl x.d.players.length p.d.plc, .slice p.d.co x.d.coins.length p.d.coc, .slice p.d.it x.d.items.length p.d.itc, .slice p.d.bo x.d.boxes.length p.d.boc, .int .i64 x.d.room, .int .i64 x.d.player, .int .i64 x.d.box, .slice p.at_ x.at_.length p.atc, .slice p.co x.coins.length p.coc, .slice p.wh x.wher.length p.whc], .int .u8 a, .int .i64 item, .int .i64 q, .agg #[.int .i64 c.kind, .int .i64 c.dir, .int .i64 c.item, .int .i64 c.box, .int .i64 c.who, .slice ga c.gives.length gc, .int .i64 c.pay, .slice wa c.wants.length wc, .int .i64 c.fee]] w fun e w' => e = .returned (.bool true) ∧ Below w.heap.size w w' := by
  obtain ⟨kd, di, it, bx, who, gl, pay, wl, fee⟩ := c
  cases hf : fitsB x
  · exact giftsDo_no x p a item q kd di it bx who pay fee gl wl ga wa gc wc w h hg hw hf
  cases hfw : cfewB ⟨kd, di, it, bx, who, gl, pay, wl, fee⟩
  · exact giftsDo_nofew x p a item q kd di it bx who pay fee gl wl ga wa gc wc w h hg hw hf hfw
  cases hmy : refMayB ⟨kd, di, it, bx, who, gl, pay, wl, fee⟩
  · exact giftsDo_nomay x p a item q kd di it bx who pay fee gl wl ga wa gc wc w h hg hw hf hfw hmy
  by_cases hk : kd = 8
  case neg => exact giftsDo_nokind x p a item q kd di it bx who pay fee gl wl ga wa gc wc w h hg hw hf hfw hmy (by simpa using hk)
  have h1 := wf_u8 ha
  obtain ⟨m1, rfl⟩ : ∃ m : Nat, a = m := ⟨a.toNat, by omega⟩
  have hs := may_sides hmy hk
  exact giftsDo_go x p m1 _ item q kd di it bx who pay fee gl wl ga wa gc wc (by omega) rfl w h hg hw hf hfw hmy (by simp [hk]) hs.1 hs.2
set_option maxRecDepth 100000 in
theorem lifted_giftsDo (os : Os) (started : os.Started) (H : Type) (enc : TypeId × Value → H) :
    ReturnsInHanded {} Try.checked os 3 .any (Rows.giftsDoSpec.pre6 enc Try.prog Try.f3 Rows.giftsDoRow.domain false) (Rows.giftsDoSpec.post enc Try.prog Try.f3 false true false false) := by
  refine returnsInHanded_of_change (C := Try.checked) (by kernel_rfl) started (by kernel_rfl) Try.func3
    (ChangeSpec.witness6 (enc := enc) (C := Try.checked) false ⟨#[], #[.agg #[.slice none 0 0, .slice none 0 0, .slice none 0 0, .slice none 0 0, .slice none 0 0, .int .i64 0, .int .i64 0, .int .i64 0, .slice none 0 0, .slice none 0 0, .slice none 0 0], .int .u8 0, .int .i64 0, .int .i64 0, .agg #[.int .i64 0, .int .i64 0, .int .i64 0, .int .i64 0, .int .i64 0, .slice none 0 0, .int .i64 0, .slice none 0 0, .int .i64 0]], []⟩ 8 (by kernel_rfl) (by kernel_rfl) (by kernel_rfl) (by kernel_rfl)) ?_
  intro W base args ds gs before hval0 hW hcnd _
  have hval : ∀ (j : Nat) t v, Try.f3.params[j]? = some t → args[j]? = some v → Value.okWide Try.prog W .any base t v := hval0
  have hW' := hW
  obtain ⟨p, q, hA0, hV, rfl, hfz, hnd⟩ := hW
  have hA : DataW.TrodAll enc Try.prog W 0 (fun _ => true) true Try.f3.params.toList args.toList ds p := hA0
  rw [Try.params3] at hA hval
  obtain ⟨v0, vs0, d0, ds0, p0, q0, hargs, rfl, rfl, h0, r0⟩ := trodAll_cons hA
  obtain ⟨v1, vs1, d1, ds1, p1, q1, rfl, rfl, rfl, h1, r1⟩ := trodAll_cons r0
  obtain ⟨v2, vs2, d2, ds2, p2, q2, rfl, rfl, rfl, h2, r2⟩ := trodAll_cons r1
  obtain ⟨v3, vs3, d3, ds3, p3, q3, rfl, rfl, rfl, h3, r3⟩ := trodAll_cons r2
  obtain ⟨v4, vs4, d4, ds4, p4, q4, rfl, rfl, rfl, h4, r4⟩ := trodAll_cons r3
  obtain ⟨rfl, rfl, rfl⟩ := trodAll_nil r4
  obtain rfl : args = #[v0, v1, v2, v3, v4] := by cases args; simp_all
  obtain ⟨rfl, rfl⟩ := trodVars_none hV
  obtain ⟨wx0, wp0, rfl, m0⟩ := read_world (hval 0 29 v0 rfl rfl) h0
  obtain ⟨a1, rfl, rfl, rfl, w1⟩ := open_int Try.underlying5 (hval 1 5 v1 rfl rfl) h1
  obtain ⟨a2, rfl, rfl, rfl, w2⟩ := open_int Try.underlying3 (hval 2 3 v2 rfl rfl) h2
  obtain ⟨a3, rfl, rfl, rfl, w3⟩ := open_int Try.underlying3 (hval 3 3 v3 rfl rfl) h3
  obtain ⟨c4, ga4, wa4, gc4, wc4, rfl, ma4, mb4, mg4⟩ := read_cmd (hval 4 31 v4 rfl rfl) h4
  clear hA0 hval0
  simp only [List.append_nil] at hW'
  refine (walk_giftsDo wx0 wp0 a1 a2 a3 c4 ga4 wa4 gc4 wc4 W w1 w2 w3 m0 ma4 mb4 mg4).mono fun e W' ⟨he, hg⟩ => ?_
  subst he
  exact ⟨_, rfl, law_post (by kernel_rfl) rfl (by rw [Try.params3]; decide +kernel) rfl rfl Try.underlying4 hW' hg⟩

/-- ████ THE STATEMENT ████ -/
theorem proved_giftsDo : Rows.GiftsDoSaid :=
  OpenClaim.holds_of_wide 3 Try.f3 rfl rfl rfl rfl rfl rfl rfl ⟨rfl, rfl, rfl, rfl, rfl⟩ rfl rfl rfl rfl rfl (by kernel_rfl) Try.func3 (by kernel_rfl)
    (of_decide_eq_true (by kernel_rfl)) (by unfold Func.isWrapper; first | (rw [if_pos (by decide +kernel)]; kernel_rfl) | (rw [if_neg (by decide +kernel)]; exact ⟨rfl, rfl⟩))
    (fun os started H enc _ => lifted_giftsDo os started H enc)
#print axioms proved_giftsDo
end Go.Proofs.Ytcigbliilmonfaa
