/- GiftsKeep: what a trade keeps: the sum of coins, a right world, all that is not named; traded back, it is as it was. -/
import Derived.Test.YtcigbliilmonfaaRows
import Derived.Test.YtcigbliilmonfaaKit
import Derived.Test.YtcigbliilmonfaaGMem
import Derived.Test.YtcigbliilmonfaaCoin
import Derived.Test.YtcigbliilmonfaaGWorld
import Derived.Test.YtcigbliilmonfaaDescMay
import Derived.Test.YtcigbliilmonfaaGDescN
import Derived.Test.YtcigbliilmonfaaGRight
import Derived.Test.YtcigbliilmonfaaGCopy
import Derived.Test.YtcigbliilmonfaaGRefD
import Derived.Test.YtcigbliilmonfaaGAs
import Derived.Test.YtcigbliilmonfaaGEq
import Derived.Test.YtcigbliilmonfaaGNew
import Derived.Test.YtcigbliilmonfaaRefRight
import Derived.Test.YtcigbliilmonfaaGTreeL
import Derived.Test.YtcigbliilmonfaaTreeRefA
import Derived.Test.YtcigbliilmonfaaGHoldA
import Derived.Test.YtcigbliilmonfaaHoldD
import Derived.Test.YtcigbliilmonfaaHoldE
import Derived.Test.YtcigbliilmonfaaGiftMath
import Derived.Test.YtcigbliilmonfaaGiftMath2
import Derived.Test.YtcigbliilmonfaaGiftMath4
import Derived.Test.YtcigbliilmonfaaGiftD
import Derived.Test.YtcigbliilmonfaaGiftH
import Derived.Test.YtcigbliilmonfaaGiftMath3
import Derived.Test.YtcigbliilmonfaaGiftMath5
import Derived.Test.YtcigbliilmonfaaGiftSum
import Derived.Test.YtcigbliilmonfaaGiftF0
import Derived.Test.YtcigbliilmonfaaGiftAwake
import Derived.Test.YtcigbliilmonfaaCmdMath
import Derived.Test.YtcigbliilmonfaaCmdRefSame
import Derived.Test.YtcigbliilmonfaaCmdRefMay
import Derived.Test.YtcigbliilmonfaaCmdRead
import Derived.Deep.QuietTactic
import Derived.BigQuiet
import Derived.Deep.RegionHeld3
import Derived.WalkKit
import Derived.ProofKit
import Derived.OpenShut
import Derived.IntWalk
namespace Go.Proofs.Ytcigbliilmonfaa
open Go.ChangeShapes Go.WideShapes Go.ChangeAt Go.RowKit
set_option linter.unusedVariables false
open Go.RowKit
theorem may_sides {c : Cm} (h : refMayB c = true) (hk : c.kind = 8) : c.gives.length ≤ 16 ∧ c.wants.length ≤ 16 := by
  simp only [refMayB, hk, has, rowB, Bool.and_eq_true] at h
  obtain ⟨⟨_, h1⟩, h2⟩ := h
  simp at h1 h2
  exact ⟨h1.2, h2.2⟩
/-- Two of the coins that lie there. -/
def CoC (W : World) (b o i k : Nat) (u v : Int) : Prop := W.cell? ⟨b, o + i, none⟩ = some (.int .i64 u) ∧ W.cell? ⟨b, o + k, none⟩ = some (.int .i64 v) ∧ b < W.heap.size
theorem CoC.call {W W' : World} {b o i k : Nat} {u v : Int} (h : CoC W b o i k u v) (hb : Below W.heap.size W W') : CoC W' b o i k u v := ⟨cell_call h.1 hb, cell_call h.2.1 hb, Nat.lt_of_lt_of_le h.2.2 hb.size⟩
theorem lcoin_at {x : Wd} (hx : rightW x = true) {i : Nat} (hi : i < x.at_.length) : ∃ h : i < x.coins.length, x.coins[i] = coinOf x i ∧ 0 ≤ coinOf x i ∧ coinOf x i ≤ 1073741824 := by
  have h : i < x.coins.length := by rw [(right_lens hx).2.2.1]; exact hi
  have e : x.coins[i] = coinOf x i := by simp [coinOf, List.getD, List.getElem?_eq_getElem h]
  refine ⟨h, e, ?_⟩
  rw [← e]
  exact (right_in hx).2.1 _ (List.getElem_mem h)
theorem coc_of {W : World} {a : Option Addr} {y : Wd} (h : IntsAt W a y.coins) {i k : Nat} (hi : i < y.coins.length) (hk : k < y.coins.length) : ∃ b o, a = some ⟨b, o, none⟩ ∧ CoC W b o i k (coinOf y i) (coinOf y k) := by
  obtain ⟨b, o, e, hb, hc⟩ := h.at_ hi
  refine ⟨b, o, e, ?_, ?_, hb⟩
  · rw [hc i hi]; simp [coinOf, List.getD, List.getElem?_eq_getElem hi]
  · rw [hc k hk]; simp [coinOf, List.getD, List.getElem?_eq_getElem hk]
set_option maxRecDepth 100000 in
theorem giftsKeep_no (x : Wd) (p : Wp) (a : Int) (kd di it bx who pay fee : Int) (gl wl : List Int) (ga wa : Option Addr) (gc wc : Nat) (w : World) (h : WorldAt w p x) (hg : IntsAt w ga gl) (hw : IntsAt w wa wl) (hf : fitsB x = false) : Calls Try.prog 4 #[.agg #[.slice p.d.ex x.d.exits.length p.d.exc, .slice p.d.pl x.d.players.length p.d.plc, .slice p.d.co x.d.coins.length p.d.coc, .slice p.d.it x.d.items.length p.d.itc, .slice p.d.bo x.d.boxes.length p.d.boc, .int .i64 x.d.room, .int .i64 x.d.player, .int .i64 x.d.box, .slice p.at_ x.at_.length p.atc, .slice p.co x.coins.length p.coc, .slice p.wh x.wher.length p.whc], .int .u8 a, .agg #[.int .i64 kd, .int .i64 di, .int .i64 it, .int .i64 bx, .int .i64 who, .slice ga gl.length gc, .int .i64 pay, .slice wa wl.length wc, .int .i64 fee]] w fun e w' => e = .returned (.bool true) ∧ Below w.heap.size w w' := by
  have HP0 := Lib.hid (Holds.pair w #[.slice p.d.ex x.d.exits.length p.d.exc, .slice p.d.pl x.d.players.length p.d.plc, .slice p.d.co x.d.coins.length p.d.coc, .slice p.d.it x.d.items.length p.d.itc, .slice p.d.bo x.d.boxes.length p.d.boc, .int .i64 x.d.room, .int .i64 x.d.player, .int .i64 x.d.box, .slice p.at_ x.at_.length p.atc, .slice p.co x.coins.length p.coc, .slice p.wh x.wher.length p.whc] #[.int .i64 kd, .int .i64 di, .int .i64 it, .int .i64 bx, .int .i64 who, .slice ga gl.length gc, .int .i64 pay, .slice wa wl.length wc, .int .i64 fee] 29 31)
  have HF := Lib.hid hf
  have HWA := Lib.hid h
  have HG := Lib.hid hg
  have HW := Lib.hid hw
  clear hf h hg hw
  go_enter Try.func4, Try.ntmps4
  go_wp2_with fail
  generalize (w.alloc (.cells #[.slice p.d.ex x.d.exits.length p.d.exc, .slice p.d.pl x.d.players.length p.d.plc, .slice p.d.co x.d.coins.length p.d.coc, .slice p.d.it x.d.items.length p.d.itc, .slice p.d.bo x.d.boxes.length p.d.boc, .int .i64 x.d.room, .int .i64 x.d.player, .int .i64 x.d.box, .slice p.at_ x.at_.length p.atc, .slice p.co x.coins.length p.coc, .slice p.wh x.wher.length p.whc] 29)).alloc (.cells #[.int .i64 kd, .int .i64 di, .int .i64 it, .int .i64 bx, .int .i64 who, .slice ga gl.length gc, .int .i64 pay, .slice wa wl.length wc, .int .i64 fee] 31) = V0 at *
  have H_0 := Lib.hid HP0.out.1
  have C_0 := Lib.hid HP0.out.2
  have B_0 := Lib.hid H_0.out.1
  clear HP0
  refine (awake11_any _).mono ?_
  rintro e u1 ⟨rfl, b1⟩
  have B_1 := Lib.hid (bl B_0.out b1)
  have H_1 := Lib.hid (H_0.out.call b1)
  have C_1 := Lib.hid (C_0.out.call b1)
  clear b1 B_0 H_0 C_0
  have hcH := H_1.out.2.2
  have hlH := H_1.out.2.1
  have hcC := C_1.out.2.2
  have hlC := C_1.out.2.1
  go_wp2_with fail
  refine (fits11_any x p _ (HWA.out.below B_1.out (Nat.le_refl _))).mono ?_
  rintro e u2 ⟨rfl, b2⟩
  rw [HF.out]
  clear hcH hlH hcC hlC
  have B_2 := Lib.hid (bl B_1.out b2)
  have H_2 := Lib.hid (H_1.out.call b2)
  have C_2 := Lib.hid (C_1.out.call b2)
  clear b2 B_1 H_1 C_1
  have hcH := H_2.out.2.2
  have hlH := H_2.out.2.1
  have hcC := C_2.out.2.2
  have hlC := C_2.out.2.1
  go_wp2_with fail
  refine (awake11_any _).mono ?_
  rintro e u3 ⟨rfl, b3⟩
  clear hcH hlH hcC hlC
  have B_3 := Lib.hid (bl B_2.out b3)
  have H_3 := Lib.hid (H_2.out.call b3)
  have C_3 := Lib.hid (C_2.out.call b3)
  clear b3 B_2 H_2 C_2
  have hcH := H_3.out.2.2
  have hlH := H_3.out.2.1
  have hcC := C_3.out.2.2
  have hlC := C_3.out.2.1
  go_wp2_with fail
  go_ret
  exact ⟨rfl, B_3.out⟩
set_option maxRecDepth 100000 in
theorem giftsKeep_nofew (x : Wd) (p : Wp) (a : Int) (kd di it bx who pay fee : Int) (gl wl : List Int) (ga wa : Option Addr) (gc wc : Nat) (w : World) (h : WorldAt w p x) (hg : IntsAt w ga gl) (hw : IntsAt w wa wl) (hf : fitsB x = true) (hfw : cfewB ⟨kd, di, it, bx, who, gl, pay, wl, fee⟩ = false) : Calls Try.prog 4 #[.agg #[.slice p.d.ex x.d.exits.length p.d.exc, .slice p.d.pl x.d.players.length p.d.plc, .slice p.d.co x.d.coins.length p.d.coc, .slice p.d.it x.d.items.length p.d.itc, .slice p.d.bo x.d.boxes.length p.d.boc, .int .i64 x.d.room, .int .i64 x.d.player, .int .i64 x.d.box, .slice p.at_ x.at_.length p.atc, .slice p.co x.coins.length p.coc, .slice p.wh x.wher.length p.whc], .int .u8 a, .agg #[.int .i64 kd, .int .i64 di, .int .i64 it, .int .i64 bx, .int .i64 who, .slice ga gl.length gc, .int .i64 pay, .slice wa wl.length wc, .int .i64 fee]] w fun e w' => e = .returned (.bool true) ∧ Below w.heap.size w w' := by
  have HP0 := Lib.hid (Holds.pair w #[.slice p.d.ex x.d.exits.length p.d.exc, .slice p.d.pl x.d.players.length p.d.plc, .slice p.d.co x.d.coins.length p.d.coc, .slice p.d.it x.d.items.length p.d.itc, .slice p.d.bo x.d.boxes.length p.d.boc, .int .i64 x.d.room, .int .i64 x.d.player, .int .i64 x.d.box, .slice p.at_ x.at_.length p.atc, .slice p.co x.coins.length p.coc, .slice p.wh x.wher.length p.whc] #[.int .i64 kd, .int .i64 di, .int .i64 it, .int .i64 bx, .int .i64 who, .slice ga gl.length gc, .int .i64 pay, .slice wa wl.length wc, .int .i64 fee] 29 31)
  have HF := Lib.hid hf
  have HWA := Lib.hid h
  have HG := Lib.hid hg
  have HW := Lib.hid hw
  have HFW := Lib.hid hfw
  clear hf h hg hw hfw
  go_enter Try.func4, Try.ntmps4
  go_wp2_with fail
  generalize (w.alloc (.cells #[.slice p.d.ex x.d.exits.length p.d.exc, .slice p.d.pl x.d.players.length p.d.plc, .slice p.d.co x.d.coins.length p.d.coc, .slice p.d.it x.d.items.length p.d.itc, .slice p.d.bo x.d.boxes.length p.d.boc, .int .i64 x.d.room, .int .i64 x.d.player, .int .i64 x.d.box, .slice p.at_ x.at_.length p.atc, .slice p.co x.coins.length p.coc, .slice p.wh x.wher.length p.whc] 29)).alloc (.cells #[.int .i64 kd, .int .i64 di, .int .i64 it, .int .i64 bx, .int .i64 who, .slice ga gl.length gc, .int .i64 pay, .slice wa wl.length wc, .int .i64 fee] 31) = V0 at *
  have H_0 := Lib.hid HP0.out.1
  have C_0 := Lib.hid HP0.out.2
  have B_0 := Lib.hid H_0.out.1
  clear HP0
  refine (awake11_any _).mono ?_
  rintro e u1 ⟨rfl, b1⟩
  have B_1 := Lib.hid (bl B_0.out b1)
  have H_1 := Lib.hid (H_0.out.call b1)
  have C_1 := Lib.hid (C_0.out.call b1)
  clear b1 B_0 H_0 C_0
  have hcH := H_1.out.2.2
  have hlH := H_1.out.2.1
  have hcC := C_1.out.2.2
  have hlC := C_1.out.2.1
  go_wp2_with fail
  refine (fits11_any x p _ (HWA.out.below B_1.out (Nat.le_refl _))).mono ?_
  rintro e u2 ⟨rfl, b2⟩
  rw [HF.out]
  clear hcH hlH hcC hlC
  have B_2 := Lib.hid (bl B_1.out b2)
  have H_2 := Lib.hid (H_1.out.call b2)
  have C_2 := Lib.hid (C_1.out.call b2)
  clear b2 B_1 H_1 C_1
  have hcH := H_2.out.2.2
  have hlH := H_2.out.2.1
  have hcC := C_2.out.2.2
  have hlC := C_2.out.2.1
  go_wp2_with fail
  refine (cfew_any ⟨kd, di, it, bx, who, gl, pay, wl, fee⟩ ga wa gc wc _ (HG.out.below B_2.out (Nat.le_refl _)) (HW.out.below B_2.out (Nat.le_refl _))).mono ?_
  rintro e u3 ⟨rfl, b3⟩
  rw [HFW.out]
  clear hcH hlH hcC hlC
  have B_3 := Lib.hid (bl B_2.out b3)
  have H_3 := Lib.hid (H_2.out.call b3)
  have C_3 := Lib.hid (C_2.out.call b3)
  clear b3 B_2 H_2 C_2
  have hcH := H_3.out.2.2
  have hlH := H_3.out.2.1
  have hcC := C_3.out.2.2
  have hlC := C_3.out.2.1
  go_wp2_with fail
  refine (awake11_any _).mono ?_
  rintro e u4 ⟨rfl, b4⟩
  clear hcH hlH hcC hlC
  have B_4 := Lib.hid (bl B_3.out b4)
  have H_4 := Lib.hid (H_3.out.call b4)
  have C_4 := Lib.hid (C_3.out.call b4)
  clear b4 B_3 H_3 C_3
  have hcH := H_4.out.2.2
  have hlH := H_4.out.2.1
  have hcC := C_4.out.2.2
  have hlC := C_4.out.2.1
  go_wp2_with fail
  go_ret
  exact ⟨rfl, B_4.out⟩
set_option maxRecDepth 100000 in
theorem giftsKeep_nomay (x : Wd) (p : Wp) (a : Int) (kd di it bx who pay fee : Int) (gl wl : List Int) (ga wa : Option Addr) (gc wc : Nat) (w : World) (h : WorldAt w p x) (hg : IntsAt w ga gl) (hw : IntsAt w wa wl) (hf : fitsB x = true) (hfw : cfewB ⟨kd, di, it, bx, who, gl, pay, wl, fee⟩ = true) (hmy : refMayB ⟨kd, di, it, bx, who, gl, pay, wl, fee⟩ = false) : Calls Try.prog 4 #[.agg #[.slice p.d.ex x.d.exits.length p.d.exc, .slice p.d.pl x.d.players.length p.d.plc, .slice p.d.co x.d.coins.length p.d.coc, .slice p.d.it x.d.items.length p.d.itc, .slice p.d.bo x.d.boxes.length p.d.boc, .int .i64 x.d.room, .int .i64 x.d.player, .int .i64 x.d.box, .slice p.at_ x.at_.length p.atc, .slice p.co x.coins.length p.coc, .slice p.wh x.wher.length p.whc], .int .u8 a, .agg #[.int .i64 kd, .int .i64 di, .int .i64 it, .int .i64 bx, .int .i64 who, .slice ga gl.length gc, .int .i64 pay, .slice wa wl.length wc, .int .i64 fee]] w fun e w' => e = .returned (.bool true) ∧ Below w.heap.size w w' := by
  have HP0 := Lib.hid (Holds.pair w #[.slice p.d.ex x.d.exits.length p.d.exc, .slice p.d.pl x.d.players.length p.d.plc, .slice p.d.co x.d.coins.length p.d.coc, .slice p.d.it x.d.items.length p.d.itc, .slice p.d.bo x.d.boxes.length p.d.boc, .int .i64 x.d.room, .int .i64 x.d.player, .int .i64 x.d.box, .slice p.at_ x.at_.length p.atc, .slice p.co x.coins.length p.coc, .slice p.wh x.wher.length p.whc] #[.int .i64 kd, .int .i64 di, .int .i64 it, .int .i64 bx, .int .i64 who, .slice ga gl.length gc, .int .i64 pay, .slice wa wl.length wc, .int .i64 fee] 29 31)
  have HF := Lib.hid hf
  have HWA := Lib.hid h
  have HG := Lib.hid hg
  have HW := Lib.hid hw
  have HFW := Lib.hid hfw
  have HMY := Lib.hid hmy
  clear hf h hg hw hfw hmy
  go_enter Try.func4, Try.ntmps4
  go_wp2_with fail
  generalize (w.alloc (.cells #[.slice p.d.ex x.d.exits.length p.d.exc, .slice p.d.pl x.d.players.length p.d.plc, .slice p.d.co x.d.coins.length p.d.coc, .slice p.d.it x.d.items.length p.d.itc, .slice p.d.bo x.d.boxes.length p.d.boc, .int .i64 x.d.room, .int .i64 x.d.player, .int .i64 x.d.box, .slice p.at_ x.at_.length p.atc, .slice p.co x.coins.length p.coc, .slice p.wh x.wher.length p.whc] 29)).alloc (.cells #[.int .i64 kd, .int .i64 di, .int .i64 it, .int .i64 bx, .int .i64 who, .slice ga gl.length gc, .int .i64 pay, .slice wa wl.length wc, .int .i64 fee] 31) = V0 at *
  have H_0 := Lib.hid HP0.out.1
  have C_0 := Lib.hid HP0.out.2
  have B_0 := Lib.hid H_0.out.1
  clear HP0
  refine (awake11_any _).mono ?_
  rintro e u1 ⟨rfl, b1⟩
  have B_1 := Lib.hid (bl B_0.out b1)
  have H_1 := Lib.hid (H_0.out.call b1)
  have C_1 := Lib.hid (C_0.out.call b1)
  clear b1 B_0 H_0 C_0
  have hcH := H_1.out.2.2
  have hlH := H_1.out.2.1
  have hcC := C_1.out.2.2
  have hlC := C_1.out.2.1
  go_wp2_with fail
  refine (fits11_any x p _ (HWA.out.below B_1.out (Nat.le_refl _))).mono ?_
  rintro e u2 ⟨rfl, b2⟩
  rw [HF.out]
  clear hcH hlH hcC hlC
  have B_2 := Lib.hid (bl B_1.out b2)
  have H_2 := Lib.hid (H_1.out.call b2)
  have C_2 := Lib.hid (C_1.out.call b2)
  clear b2 B_1 H_1 C_1
  have hcH := H_2.out.2.2
  have hlH := H_2.out.2.1
  have hcC := C_2.out.2.2
  have hlC := C_2.out.2.1
  go_wp2_with fail
  refine (cfew_any ⟨kd, di, it, bx, who, gl, pay, wl, fee⟩ ga wa gc wc _ (HG.out.below B_2.out (Nat.le_refl _)) (HW.out.below B_2.out (Nat.le_refl _))).mono ?_
  rintro e u3 ⟨rfl, b3⟩
  rw [HFW.out]
  clear hcH hlH hcC hlC
  have B_3 := Lib.hid (bl B_2.out b3)
  have H_3 := Lib.hid (H_2.out.call b3)
  have C_3 := Lib.hid (C_2.out.call b3)
  clear b3 B_2 H_2 C_2
  have hcH := H_3.out.2.2
  have hlH := H_3.out.2.1
  have hcC := C_3.out.2.2
  have hlC := C_3.out.2.1
  go_wp2_with fail
  refine (rcmay_any ⟨kd, di, it, bx, who, gl, pay, wl, fee⟩ ga wa gc wc _ (HG.out.below B_3.out (Nat.le_refl _)) (HW.out.below B_3.out (Nat.le_refl _))).mono ?_
  rintro e u4 ⟨rfl, b4⟩
  rw [HMY.out]
  clear hcH hlH hcC hlC
  have B_4 := Lib.hid (bl B_3.out b4)
  have H_4 := Lib.hid (H_3.out.call b4)
  have C_4 := Lib.hid (C_3.out.call b4)
  clear b4 B_3 H_3 C_3
  have hcH := H_4.out.2.2
  have hlH := H_4.out.2.1
  have hcC := C_4.out.2.2
  have hlC := C_4.out.2.1
  go_wp2_with fail
  refine (awake11_any _).mono ?_
  rintro e u5 ⟨rfl, b5⟩
  clear hcH hlH hcC hlC
  have B_5 := Lib.hid (bl B_4.out b5)
  have H_5 := Lib.hid (H_4.out.call b5)
  have C_5 := Lib.hid (C_4.out.call b5)
  clear b5 B_4 H_4 C_4
  have hcH := H_5.out.2.2
  have hlH := H_5.out.2.1
  have hcC := C_5.out.2.2
  have hlC := C_5.out.2.1
  go_wp2_with fail
  go_ret
  exact ⟨rfl, B_5.out⟩
set_option maxRecDepth 100000 in
theorem giftsKeep_nokind (x : Wd) (p : Wp) (a : Int) (kd di it bx who pay fee : Int) (gl wl : List Int) (ga wa : Option Addr) (gc wc : Nat) (w : World) (h : WorldAt w p x) (hg : IntsAt w ga gl) (hw : IntsAt w wa wl) (hf : fitsB x = true) (hfw : cfewB ⟨kd, di, it, bx, who, gl, pay, wl, fee⟩ = true) (hmy : refMayB ⟨kd, di, it, bx, who, gl, pay, wl, fee⟩ = true) (hkd : (kd != 8) = true) : Calls Try.prog 4 #[.agg #[.slice p.d.ex x.d.exits.length p.d.exc, .slice p.d.pl x.d.players.length p.d.plc, .slice p.d.co x.d.coins.length p.d.coc, .slice p.d.it x.d.items.length p.d.itc, .slice p.d.bo x.d.boxes.length p.d.boc, .int .i64 x.d.room, .int .i64 x.d.player, .int .i64 x.d.box, .slice p.at_ x.at_.length p.atc, .slice p.co x.coins.length p.coc, .slice p.wh x.wher.length p.whc], .int .u8 a, .agg #[.int .i64 kd, .int .i64 di, .int .i64 it, .int .i64 bx, .int .i64 who, .slice ga gl.length gc, .int .i64 pay, .slice wa wl.length wc, .int .i64 fee]] w fun e w' => e = .returned (.bool true) ∧ Below w.heap.size w w' := by
  have HP0 := Lib.hid (Holds.pair w #[.slice p.d.ex x.d.exits.length p.d.exc, .slice p.d.pl x.d.players.length p.d.plc, .slice p.d.co x.d.coins.length p.d.coc, .slice p.d.it x.d.items.length p.d.itc, .slice p.d.bo x.d.boxes.length p.d.boc, .int .i64 x.d.room, .int .i64 x.d.player, .int .i64 x.d.box, .slice p.at_ x.at_.length p.atc, .slice p.co x.coins.length p.coc, .slice p.wh x.wher.length p.whc] #[.int .i64 kd, .int .i64 di, .int .i64 it, .int .i64 bx, .int .i64 who, .slice ga gl.length gc, .int .i64 pay, .slice wa wl.length wc, .int .i64 fee] 29 31)
  have HF := Lib.hid hf
  have HWA := Lib.hid h
  have HG := Lib.hid hg
  have HW := Lib.hid hw
  have HFW := Lib.hid hfw
  have HMY := Lib.hid hmy
  clear hf h hg hw hfw hmy
  go_enter Try.func4, Try.ntmps4
  go_wp2_with fail
  generalize (w.alloc (.cells #[.slice p.d.ex x.d.exits.length p.d.exc, .slice p.d.pl x.d.players.length p.d.plc, .slice p.d.co x.d.coins.length p.d.coc, .slice p.d.it x.d.items.length p.d.itc, .slice p.d.bo x.d.boxes.length p.d.boc, .int .i64 x.d.room, .int .i64 x.d.player, .int .i64 x.d.box, .slice p.at_ x.at_.length p.atc, .slice p.co x.coins.length p.coc, .slice p.wh x.wher.length p.whc] 29)).alloc (.cells #[.int .i64 kd, .int .i64 di, .int .i64 it, .int .i64 bx, .int .i64 who, .slice ga gl.length gc, .int .i64 pay, .slice wa wl.length wc, .int .i64 fee] 31) = V0 at *
  have H_0 := Lib.hid HP0.out.1
  have C_0 := Lib.hid HP0.out.2
  have B_0 := Lib.hid H_0.out.1
  clear HP0
  refine (awake11_any _).mono ?_
  rintro e u1 ⟨rfl, b1⟩
  have B_1 := Lib.hid (bl B_0.out b1)
  have H_1 := Lib.hid (H_0.out.call b1)
  have C_1 := Lib.hid (C_0.out.call b1)
  clear b1 B_0 H_0 C_0
  have hcH := H_1.out.2.2
  have hlH := H_1.out.2.1
  have hcC := C_1.out.2.2
  have hlC := C_1.out.2.1
  go_wp2_with fail
  refine (fits11_any x p _ (HWA.out.below B_1.out (Nat.le_refl _))).mono ?_
  rintro e u2 ⟨rfl, b2⟩
  rw [HF.out]
  clear hcH hlH hcC hlC
  have B_2 := Lib.hid (bl B_1.out b2)
  have H_2 := Lib.hid (H_1.out.call b2)
  have C_2 := Lib.hid (C_1.out.call b2)
  clear b2 B_1 H_1 C_1
  have hcH := H_2.out.2.2
  have hlH := H_2.out.2.1
  have hcC := C_2.out.2.2
  have hlC := C_2.out.2.1
  go_wp2_with fail
  refine (cfew_any ⟨kd, di, it, bx, who, gl, pay, wl, fee⟩ ga wa gc wc _ (HG.out.below B_2.out (Nat.le_refl _)) (HW.out.below B_2.out (Nat.le_refl _))).mono ?_
  rintro e u3 ⟨rfl, b3⟩
  rw [HFW.out]
  clear hcH hlH hcC hlC
  have B_3 := Lib.hid (bl B_2.out b3)
  have H_3 := Lib.hid (H_2.out.call b3)
  have C_3 := Lib.hid (C_2.out.call b3)
  clear b3 B_2 H_2 C_2
  have hcH := H_3.out.2.2
  have hlH := H_3.out.2.1
  have hcC := C_3.out.2.2
  have hlC := C_3.out.2.1
  go_wp2_with fail
  refine (rcmay_any ⟨kd, di, it, bx, who, gl, pay, wl, fee⟩ ga wa gc wc _ (HG.out.below B_3.out (Nat.le_refl _)) (HW.out.below B_3.out (Nat.le_refl _))).mono ?_
  rintro e u4 ⟨rfl, b4⟩
  rw [HMY.out]
  clear hcH hlH hcC hlC
  have B_4 := Lib.hid (bl B_3.out b4)
  have H_4 := Lib.hid (H_3.out.call b4)
  have C_4 := Lib.hid (C_3.out.call b4)
  clear b4 B_3 H_3 C_3
  have hcH := H_4.out.2.2
  have hlH := H_4.out.2.1
  have hcC := C_4.out.2.2
  have hlC := C_4.out.2.1
  go_wp2_with fail
  refine (awake11_any _).mono ?_
  rintro e u5 ⟨rfl, b5⟩
  clear hcH hlH hcC hlC
  have B_5 := Lib.hid (bl B_4.out b5)
  have H_5 := Lib.hid (H_4.out.call b5)
  have C_5 := Lib.hid (C_4.out.call b5)
  clear b5 B_4 H_4 C_4
  have hcH := H_5.out.2.2
  have hlH := H_5.out.2.1
  have hcC := C_5.out.2.2
  have hlC := C_5.out.2.1
  go_wp2_with fail
  go_ret
  exact ⟨rfl, B_5.out⟩
def IntsInn (W : World) (a : Option Addr) (l : List Int) : Prop := IntsAt W a l
theorem IntsInn.call {W W' : World} {a : Option Addr} {l : List Int} (h : IntsInn W a l) (hb : Below W.heap.size W W') : IntsInn W' a l := IntsAt.below h hb (Nat.le_refl _)
set_option maxRecDepth 100000 in
set_option maxHeartbeats 1000000 in
theorem giftsKeep_err (x : Wd) (p : Wp) (a i : Nat) (kd di it bx who pay fee : Int) (gl wl : List Int) (ga wa : Option Addr) (gc wc : Nat) (haa : a ≤ 255) (hi : a % x.at_.length = i) (w : World) (h : WorldAt w p x) (hg : IntsAt w ga gl) (hw : IntsAt w wa wl) (hf : fitsB x = true) (hfw : cfewB ⟨kd, di, it, bx, who, gl, pay, wl, fee⟩ = true) (hmy : refMayB ⟨kd, di, it, bx, who, gl, pay, wl, fee⟩ = true) (hkd : (kd != 8) = false) (hgl : gl.length ≤ 16) (hwl : wl.length ≤ 16) (e : Int) (hP : tradeW x i who gl wl pay fee = (x, e)) (hne : (e != 0) = true) : Calls Try.prog 4 #[.agg #[.slice p.d.ex x.d.exits.length p.d.exc, .slice p.d.pl x.d.players.length p.d.plc, .slice p.d.co x.d.coins.length p.d.coc, .slice p.d.it x.d.items.length p.d.itc, .slice p.d.bo x.d.boxes.length p.d.boc, .int .i64 x.d.room, .int .i64 x.d.player, .int .i64 x.d.box, .slice p.at_ x.at_.length p.atc, .slice p.co x.coins.length p.coc, .slice p.wh x.wher.length p.whc], .int .u8 (a : Int), .agg #[.int .i64 kd, .int .i64 di, .int .i64 it, .int .i64 bx, .int .i64 who, .slice ga gl.length gc, .int .i64 pay, .slice wa wl.length wc, .int .i64 fee]] w fun e w' => e = .returned (.bool true) ∧ Below w.heap.size w w' := by
  have r1 := run_tmod7 a x.at_.length
  have m1 := run_mod7 a x.at_.length
  rw [hi] at r1 m1
  have FT := Lib.hid (fits_fit hf)
  have hlp : 0 < x.at_.length := (right_lens FT.out.right).1
  have hne : ¬ x.at_ = [] := List.length_pos_iff.1 hlp
  have hil : i < x.at_.length := by rw [← hi]; exact Nat.mod_lt _ hlp
  have hlen6 := (right_lens FT.out.right).2.1
  have HP := Lib.hid hP
  have HLG := Lib.hid hgl
  have HLW := Lib.hid hwl
  clear hi hlp hP hgl hwl
  have HP0 := Lib.hid (Holds.pair w #[.slice p.d.ex x.d.exits.length p.d.exc, .slice p.d.pl x.d.players.length p.d.plc, .slice p.d.co x.d.coins.length p.d.coc, .slice p.d.it x.d.items.length p.d.itc, .slice p.d.bo x.d.boxes.length p.d.boc, .int .i64 x.d.room, .int .i64 x.d.player, .int .i64 x.d.box, .slice p.at_ x.at_.length p.atc, .slice p.co x.coins.length p.coc, .slice p.wh x.wher.length p.whc] #[.int .i64 kd, .int .i64 di, .int .i64 it, .int .i64 bx, .int .i64 who, .slice ga gl.length gc, .int .i64 pay, .slice wa wl.length wc, .int .i64 fee] 29 31)
  have HF := Lib.hid hf
  have HWA := Lib.hid h
  have HG := Lib.hid hg
  have HW := Lib.hid hw
  have HFW := Lib.hid hfw
  have HMY := Lib.hid hmy
  clear hf h hg hw hfw hmy
  go_enter Try.func4, Try.ntmps4
  go_wp2_with fail
  generalize (w.alloc (.cells #[.slice p.d.ex x.d.exits.length p.d.exc, .slice p.d.pl x.d.players.length p.d.plc, .slice p.d.co x.d.coins.length p.d.coc, .slice p.d.it x.d.items.length p.d.itc, .slice p.d.bo x.d.boxes.length p.d.boc, .int .i64 x.d.room, .int .i64 x.d.player, .int .i64 x.d.box, .slice p.at_ x.at_.length p.atc, .slice p.co x.coins.length p.coc, .slice p.wh x.wher.length p.whc] 29)).alloc (.cells #[.int .i64 kd, .int .i64 di, .int .i64 it, .int .i64 bx, .int .i64 who, .slice ga gl.length gc, .int .i64 pay, .slice wa wl.length wc, .int .i64 fee] 31) = V0 at *
  have H_0 := Lib.hid HP0.out.1
  have C_0 := Lib.hid HP0.out.2
  have B_0 := Lib.hid H_0.out.1
  clear HP0
  refine (awake11_any _).mono ?_
  rintro e u1 ⟨rfl, b1⟩
  have B_1 := Lib.hid (bl B_0.out b1)
  have H_1 := Lib.hid (H_0.out.call b1)
  have C_1 := Lib.hid (C_0.out.call b1)
  clear b1 B_0 H_0 C_0
  have hcH := H_1.out.2.2
  have hlH := H_1.out.2.1
  have hcC := C_1.out.2.2
  have hlC := C_1.out.2.1
  go_wp2_with fail
  refine (fits11_any x p _ (HWA.out.below B_1.out (Nat.le_refl _))).mono ?_
  rintro e u2 ⟨rfl, b2⟩
  rw [HF.out]
  clear hcH hlH hcC hlC
  have B_2 := Lib.hid (bl B_1.out b2)
  have H_2 := Lib.hid (H_1.out.call b2)
  have C_2 := Lib.hid (C_1.out.call b2)
  clear b2 B_1 H_1 C_1
  have hcH := H_2.out.2.2
  have hlH := H_2.out.2.1
  have hcC := C_2.out.2.2
  have hlC := C_2.out.2.1
  go_wp2_with fail
  refine (cfew_any ⟨kd, di, it, bx, who, gl, pay, wl, fee⟩ ga wa gc wc _ (HG.out.below B_2.out (Nat.le_refl _)) (HW.out.below B_2.out (Nat.le_refl _))).mono ?_
  rintro e u3 ⟨rfl, b3⟩
  rw [HFW.out]
  clear hcH hlH hcC hlC
  have B_3 := Lib.hid (bl B_2.out b3)
  have H_3 := Lib.hid (H_2.out.call b3)
  have C_3 := Lib.hid (C_2.out.call b3)
  clear b3 B_2 H_2 C_2
  have hcH := H_3.out.2.2
  have hlH := H_3.out.2.1
  have hcC := C_3.out.2.2
  have hlC := C_3.out.2.1
  go_wp2_with fail
  refine (rcmay_any ⟨kd, di, it, bx, who, gl, pay, wl, fee⟩ ga wa gc wc _ (HG.out.below B_3.out (Nat.le_refl _)) (HW.out.below B_3.out (Nat.le_refl _))).mono ?_
  rintro e u4 ⟨rfl, b4⟩
  rw [HMY.out]
  clear hcH hlH hcC hlC
  have B_4 := Lib.hid (bl B_3.out b4)
  have H_4 := Lib.hid (H_3.out.call b4)
  have C_4 := Lib.hid (C_3.out.call b4)
  clear b4 B_3 H_3 C_3
  have hcH := H_4.out.2.2
  have hlH := H_4.out.2.1
  have hcC := C_4.out.2.2
  have hlC := C_4.out.2.1
  go_wp2_with fail
  refine (trade_as (Shape.refl x) p i _ FT.out.right (HWA.out.below B_4.out (Nat.le_refl _)) hil kd di it bx who pay fee gl wl ga wa gc wc (HG.out.below B_4.out (Nat.le_refl _)) (HW.out.below B_4.out (Nat.le_refl _)) HLG.out HLW.out HP.out).mono ?_
  rintro e u5 ⟨q5, rfl, g5, b5⟩
  clear hcH hlH hcC hlC
  have B_5 := Lib.hid (bl B_4.out b5)
  have H_5 := Lib.hid (H_4.out.call b5)
  have C_5 := Lib.hid (C_4.out.call b5)
  have YA_5 := Lib.hid g5
  clear b5 B_4 H_4 C_4 g5
  have hcH := H_5.out.2.2
  have hlH := H_5.out.2.1
  have hcC := C_5.out.2.2
  have hlC := C_5.out.2.1
  go_wp2_with fail
  clear hcH hlH hcC hlC
  have s6 : (u5.alloc (.cells #[.slice q5.d.ex x.d.exits.length q5.d.exc, .slice q5.d.pl x.d.players.length q5.d.plc, .slice q5.d.co x.d.coins.length q5.d.coc, .slice q5.d.it x.d.items.length q5.d.itc, .slice q5.d.bo x.d.boxes.length q5.d.boc, .int .i64 x.d.room, .int .i64 x.d.player, .int .i64 x.d.box, .slice q5.at_ x.at_.length q5.atc, .slice q5.co x.coins.length q5.coc, .slice q5.wh x.wher.length q5.whc] 29)).heap.size = u5.heap.size + 1 := by simp
  have B_6 := Lib.hid (B_5.out.alloc B_5.out.size (.cells #[.slice q5.d.ex x.d.exits.length q5.d.exc, .slice q5.d.pl x.d.players.length q5.d.plc, .slice q5.d.co x.d.coins.length q5.d.coc, .slice q5.d.it x.d.items.length q5.d.itc, .slice q5.d.bo x.d.boxes.length q5.d.boc, .int .i64 x.d.room, .int .i64 x.d.player, .int .i64 x.d.box, .slice q5.at_ x.at_.length q5.atc, .slice q5.co x.coins.length q5.coc, .slice q5.wh x.wher.length q5.whc] 29))
  have H_6 := Lib.hid (H_5.out.alloc (.cells #[.slice q5.d.ex x.d.exits.length q5.d.exc, .slice q5.d.pl x.d.players.length q5.d.plc, .slice q5.d.co x.d.coins.length q5.d.coc, .slice q5.d.it x.d.items.length q5.d.itc, .slice q5.d.bo x.d.boxes.length q5.d.boc, .int .i64 x.d.room, .int .i64 x.d.player, .int .i64 x.d.box, .slice q5.at_ x.at_.length q5.atc, .slice q5.co x.coins.length q5.coc, .slice q5.wh x.wher.length q5.whc] 29))
  have C_6 := Lib.hid (C_5.out.alloc (.cells #[.slice q5.d.ex x.d.exits.length q5.d.exc, .slice q5.d.pl x.d.players.length q5.d.plc, .slice q5.d.co x.d.coins.length q5.d.coc, .slice q5.d.it x.d.items.length q5.d.itc, .slice q5.d.bo x.d.boxes.length q5.d.boc, .int .i64 x.d.room, .int .i64 x.d.player, .int .i64 x.d.box, .slice q5.at_ x.at_.length q5.atc, .slice q5.co x.coins.length q5.coc, .slice q5.wh x.wher.length q5.whc] 29))
  have YA_6 := Lib.hid (YA_5.out.call ((Below.refl _ _).alloc (Nat.le_refl _) (.cells #[.slice q5.d.ex x.d.exits.length q5.d.exc, .slice q5.d.pl x.d.players.length q5.d.plc, .slice q5.d.co x.d.coins.length q5.d.coc, .slice q5.d.it x.d.items.length q5.d.itc, .slice q5.d.bo x.d.boxes.length q5.d.boc, .int .i64 x.d.room, .int .i64 x.d.player, .int .i64 x.d.box, .slice q5.at_ x.at_.length q5.atc, .slice q5.co x.coins.length q5.coc, .slice q5.wh x.wher.length q5.whc] 29)))
  have A_6 := Lib.hid (Holds.newb (w := w) (A := #[.slice q5.d.ex x.d.exits.length q5.d.exc, .slice q5.d.pl x.d.players.length q5.d.plc, .slice q5.d.co x.d.coins.length q5.d.coc, .slice q5.d.it x.d.items.length q5.d.itc, .slice q5.d.bo x.d.boxes.length q5.d.boc, .int .i64 x.d.room, .int .i64 x.d.player, .int .i64 x.d.box, .slice q5.at_ x.at_.length q5.atc, .slice q5.co x.coins.length q5.coc, .slice q5.wh x.wher.length q5.whc]) (t := 29) (n := u5.heap.size) B_5.out rfl)
  clear B_5 H_5 C_5 YA_5
  generalize u5.alloc (.cells #[.slice q5.d.ex x.d.exits.length q5.d.exc, .slice q5.d.pl x.d.players.length q5.d.plc, .slice q5.d.co x.d.coins.length q5.d.coc, .slice q5.d.it x.d.items.length q5.d.itc, .slice q5.d.bo x.d.boxes.length q5.d.boc, .int .i64 x.d.room, .int .i64 x.d.player, .int .i64 x.d.box, .slice q5.at_ x.at_.length q5.atc, .slice q5.co x.coins.length q5.coc, .slice q5.wh x.wher.length q5.whc] 29) = V6 at *
  have hcH := H_6.out.2.2
  have hlH := H_6.out.2.1
  have hcC := C_6.out.2.2
  have hlC := C_6.out.2.1
  have hcA := A_6.out.2.2
  have hlA := A_6.out.2.1
  refine (rsame_yes (Shape.refl x) (Shape.refl x) rfl _ p _ YA_6.out (HWA.out.below B_6.out (Nat.le_refl _))).mono ?_
  rintro e u7 ⟨rfl, b7⟩
  clear hcH hlH hcC hlC hcA hlA
  have B_7 := Lib.hid (bl B_6.out b7)
  have H_7 := Lib.hid (H_6.out.call b7)
  have C_7 := Lib.hid (C_6.out.call b7)
  have A_7 := Lib.hid (A_6.out.call b7)
  have YA_7 := Lib.hid (YA_6.out.call b7)
  clear b7 B_6 H_6 C_6 A_6 YA_6
  go_wp2_with fail
  go_ret
  exact ⟨rfl, B_7.out⟩
set_option maxRecDepth 100000 in
set_option maxHeartbeats 1000000 in
theorem giftsKeep_ok (x : Wd) (pd : Dp) (b o pac kb ko pkc : Nat) (pw : Option Addr) (pwc : Nat) (a i : Nat) (kd di it bx who pay fee : Int) (gl wl : List Int) (ga wa : Option Addr) (gc wc : Nat) (haa : a ≤ 255) (hi : a % x.at_.length = i) (w : World) (h : WorldAt w ⟨pd, some ⟨b, o, none⟩, pac, some ⟨kb, ko, none⟩, pkc, pw, pwc⟩ x) (hg : IntsAt w ga gl) (hw : IntsAt w wa wl) (hf : fitsB x = true) (hfw : cfewB ⟨kd, di, it, bx, who, gl, pay, wl, fee⟩ = true) (hmy : refMayB ⟨kd, di, it, bx, who, gl, pay, wl, fee⟩ = true) (hkd : (kd != 8) = false) (hgl : gl.length ≤ 16) (hwl : wl.length ≤ 16) (y : Wd) (hP : tradeW x i who gl wl pay fee = (y, 0)) : Calls Try.prog 4 #[.agg #[.slice pd.ex x.d.exits.length pd.exc, .slice pd.pl x.d.players.length pd.plc, .slice pd.co x.d.coins.length pd.coc, .slice pd.it x.d.items.length pd.itc, .slice pd.bo x.d.boxes.length pd.boc, .int .i64 x.d.room, .int .i64 x.d.player, .int .i64 x.d.box, .slice (some ⟨b, o, none⟩) x.at_.length pac, .slice (some ⟨kb, ko, none⟩) x.coins.length pkc, .slice pw x.wher.length pwc], .int .u8 (a : Int), .agg #[.int .i64 kd, .int .i64 di, .int .i64 it, .int .i64 bx, .int .i64 who, .slice ga gl.length gc, .int .i64 pay, .slice wa wl.length wc, .int .i64 fee]] w fun e w' => e = .returned (.bool true) ∧ Below w.heap.size w w' := by
  have r1 := run_tmod7 a x.at_.length
  have m1 := run_mod7 a x.at_.length
  rw [hi] at r1 m1
  have FT := Lib.hid (fits_fit hf)
  have hlp : 0 < x.at_.length := (right_lens FT.out.right).1
  have hne : ¬ x.at_ = [] := List.length_pos_iff.1 hlp
  have hil : i < x.at_.length := by rw [← hi]; exact Nat.mod_lt _ hlp
  have hlen6 := (right_lens FT.out.right).2.1
  obtain ⟨k, gs, ws, rfl, hgs, hws, T, -, RY, SUM, BACK, CI, CN, hkl, PA, LT⟩ := trade_got FT.out.right hil hP
  have SY := Lib.hid (show Shape x y by have := trade_shape x i k gl wl pay fee; rwa [hP] at this)
  have RY := Lib.hid RY
  have SUM := Lib.hid SUM
  have BACK := Lib.hid BACK
  have CN := Lib.hid CN
  have HPA := Lib.hid PA
  have HLT := Lib.hid LT
  have HP := Lib.hid hP
  have HLG := Lib.hid hgl
  have HLW := Lib.hid hwl
  have HLN := Lib.hid (show gl ++ wl = (gs ++ ws).map (fun (k : Nat) => (k : Int)) by rw [hgs, hws, List.map_append])
  have h3 := T.p0
  have h4 := T.f0
  have h5 := T.pa
  have h6 := T.ma
  have HIL := Lib.hid hil
  have HKL := Lib.hid hkl
  have hkl2 : ¬ (k : Int) < 0 := by omega
  have hkl3 : ¬ (x.at_.length : Int) ≤ (k : Int) := by omega
  obtain ⟨li, -, bi⟩ := lcoin_at FT.out.right hil
  obtain ⟨ci, hci⟩ : ∃ c, coinOf x i = c := ⟨_, rfl⟩
  rw [hci] at h5 h6 bi CI
  have HCI := Lib.hid hci
  have HYI := Lib.hid CI
  have LI := Lib.hid li
  have hcl6 : x.coins.length ≤ 6 := by have := right_lens FT.out.right; omega
  have HYC := Lib.hid (show y.coins.length = x.coins.length from SY.out.c)
  clear hi hlp hP hgl hwl hgs hws T PA LT hci CI li
  have HP0 := Lib.hid (Holds.pair w #[.slice pd.ex x.d.exits.length pd.exc, .slice pd.pl x.d.players.length pd.plc, .slice pd.co x.d.coins.length pd.coc, .slice pd.it x.d.items.length pd.itc, .slice pd.bo x.d.boxes.length pd.boc, .int .i64 x.d.room, .int .i64 x.d.player, .int .i64 x.d.box, .slice (some ⟨b, o, none⟩) x.at_.length pac, .slice (some ⟨kb, ko, none⟩) x.coins.length pkc, .slice pw x.wher.length pwc] #[.int .i64 kd, .int .i64 di, .int .i64 it, .int .i64 bx, .int .i64 (k : Int), .slice ga gl.length gc, .int .i64 pay, .slice wa wl.length wc, .int .i64 fee] 29 31)
  have HF := Lib.hid hf
  have HWA := Lib.hid h
  have HG := Lib.hid hg
  have HW := Lib.hid hw
  have HFW := Lib.hid hfw
  have HMY := Lib.hid hmy
  clear hf h hg hw hfw hmy
  go_enter Try.func4, Try.ntmps4
  go_wp2_with fail
  generalize (w.alloc (.cells #[.slice pd.ex x.d.exits.length pd.exc, .slice pd.pl x.d.players.length pd.plc, .slice pd.co x.d.coins.length pd.coc, .slice pd.it x.d.items.length pd.itc, .slice pd.bo x.d.boxes.length pd.boc, .int .i64 x.d.room, .int .i64 x.d.player, .int .i64 x.d.box, .slice (some ⟨b, o, none⟩) x.at_.length pac, .slice (some ⟨kb, ko, none⟩) x.coins.length pkc, .slice pw x.wher.length pwc] 29)).alloc (.cells #[.int .i64 kd, .int .i64 di, .int .i64 it, .int .i64 bx, .int .i64 (k : Int), .slice ga gl.length gc, .int .i64 pay, .slice wa wl.length wc, .int .i64 fee] 31) = V0 at *
  have H_0 := Lib.hid HP0.out.1
  have C_0 := Lib.hid HP0.out.2
  have B_0 := Lib.hid H_0.out.1
  clear HP0
  refine (awake11_any _).mono ?_
  rintro e u1 ⟨rfl, b1⟩
  have B_1 := Lib.hid (bl B_0.out b1)
  have H_1 := Lib.hid (H_0.out.call b1)
  have C_1 := Lib.hid (C_0.out.call b1)
  clear b1 B_0 H_0 C_0
  have hcH := H_1.out.2.2
  have hlH := H_1.out.2.1
  have hcC := C_1.out.2.2
  have hlC := C_1.out.2.1
  go_wp2_with fail
  refine (fits11_any x ⟨pd, some ⟨b, o, none⟩, pac, some ⟨kb, ko, none⟩, pkc, pw, pwc⟩ _ (HWA.out.below B_1.out (Nat.le_refl _))).mono ?_
  rintro e u2 ⟨rfl, b2⟩
  rw [HF.out]
  clear hcH hlH hcC hlC
  have B_2 := Lib.hid (bl B_1.out b2)
  have H_2 := Lib.hid (H_1.out.call b2)
  have C_2 := Lib.hid (C_1.out.call b2)
  clear b2 B_1 H_1 C_1
  have hcH := H_2.out.2.2
  have hlH := H_2.out.2.1
  have hcC := C_2.out.2.2
  have hlC := C_2.out.2.1
  go_wp2_with fail
  refine (cfew_any ⟨kd, di, it, bx, (k : Int), gl, pay, wl, fee⟩ ga wa gc wc _ (HG.out.below B_2.out (Nat.le_refl _)) (HW.out.below B_2.out (Nat.le_refl _))).mono ?_
  rintro e u3 ⟨rfl, b3⟩
  rw [HFW.out]
  clear hcH hlH hcC hlC
  have B_3 := Lib.hid (bl B_2.out b3)
  have H_3 := Lib.hid (H_2.out.call b3)
  have C_3 := Lib.hid (C_2.out.call b3)
  clear b3 B_2 H_2 C_2
  have hcH := H_3.out.2.2
  have hlH := H_3.out.2.1
  have hcC := C_3.out.2.2
  have hlC := C_3.out.2.1
  go_wp2_with fail
  refine (rcmay_any ⟨kd, di, it, bx, (k : Int), gl, pay, wl, fee⟩ ga wa gc wc _ (HG.out.below B_3.out (Nat.le_refl _)) (HW.out.below B_3.out (Nat.le_refl _))).mono ?_
  rintro e u4 ⟨rfl, b4⟩
  rw [HMY.out]
  clear hcH hlH hcC hlC
  have B_4 := Lib.hid (bl B_3.out b4)
  have H_4 := Lib.hid (H_3.out.call b4)
  have C_4 := Lib.hid (C_3.out.call b4)
  clear b4 B_3 H_3 C_3
  have hcH := H_4.out.2.2
  have hlH := H_4.out.2.1
  have hcC := C_4.out.2.2
  have hlC := C_4.out.2.1
  go_wp2_with fail
  refine (trade_as (Shape.refl x) ⟨pd, some ⟨b, o, none⟩, pac, some ⟨kb, ko, none⟩, pkc, pw, pwc⟩ i _ FT.out.right (HWA.out.below B_4.out (Nat.le_refl _)) hil kd di it bx (k : Int) pay fee gl wl ga wa gc wc (HG.out.below B_4.out (Nat.le_refl _)) (HW.out.below B_4.out (Nat.le_refl _)) HLG.out HLW.out HP.out).mono ?_
  rintro e u5 ⟨⟨xd, xa, xac, xk, xkc, xw, xwc⟩, rfl, gr, b5⟩
  clear hcH hlH hcC hlC
  have B_5 := Lib.hid (bl B_4.out b5)
  have H_5 := Lib.hid (H_4.out.call b5)
  have C_5 := Lib.hid (C_4.out.call b5)
  clear b5 B_4 H_4 C_4
  have hcH := H_5.out.2.2
  have hlH := H_5.out.2.1
  have hcC := C_5.out.2.2
  have hlC := C_5.out.2.1
  obtain ⟨zb, zo, ez, hzb, hzc⟩ := gr.co.at_ (show i < y.coins.length by rw [HYC.out]; exact LI.out)
  simp only at ez
  subst ez
  have YA_5 := Lib.hid gr
  have hcl := gr
  clear gr hcl hzb hzc
  go_wp2_with fail
  clear hcH hlH hcC hlC
  have s6 : (u5.alloc (.cells #[.slice xd.ex x.d.exits.length xd.exc, .slice xd.pl x.d.players.length xd.plc, .slice xd.co x.d.coins.length xd.coc, .slice xd.it x.d.items.length xd.itc, .slice xd.bo x.d.boxes.length xd.boc, .int .i64 x.d.room, .int .i64 x.d.player, .int .i64 x.d.box, .slice xa x.at_.length xac, .slice (some ⟨zb, zo, none⟩) x.coins.length xkc, .slice xw x.wher.length xwc] 29)).heap.size = u5.heap.size + 1 := by simp
  have B_6 := Lib.hid (B_5.out.alloc B_5.out.size (.cells #[.slice xd.ex x.d.exits.length xd.exc, .slice xd.pl x.d.players.length xd.plc, .slice xd.co x.d.coins.length xd.coc, .slice xd.it x.d.items.length xd.itc, .slice xd.bo x.d.boxes.length xd.boc, .int .i64 x.d.room, .int .i64 x.d.player, .int .i64 x.d.box, .slice xa x.at_.length xac, .slice (some ⟨zb, zo, none⟩) x.coins.length xkc, .slice xw x.wher.length xwc] 29))
  have H_6 := Lib.hid (H_5.out.alloc (.cells #[.slice xd.ex x.d.exits.length xd.exc, .slice xd.pl x.d.players.length xd.plc, .slice xd.co x.d.coins.length xd.coc, .slice xd.it x.d.items.length xd.itc, .slice xd.bo x.d.boxes.length xd.boc, .int .i64 x.d.room, .int .i64 x.d.player, .int .i64 x.d.box, .slice xa x.at_.length xac, .slice (some ⟨zb, zo, none⟩) x.coins.length xkc, .slice xw x.wher.length xwc] 29))
  have C_6 := Lib.hid (C_5.out.alloc (.cells #[.slice xd.ex x.d.exits.length xd.exc, .slice xd.pl x.d.players.length xd.plc, .slice xd.co x.d.coins.length xd.coc, .slice xd.it x.d.items.length xd.itc, .slice xd.bo x.d.boxes.length xd.boc, .int .i64 x.d.room, .int .i64 x.d.player, .int .i64 x.d.box, .slice xa x.at_.length xac, .slice (some ⟨zb, zo, none⟩) x.coins.length xkc, .slice xw x.wher.length xwc] 29))
  have YA_6 := Lib.hid (YA_5.out.call ((Below.refl _ _).alloc (Nat.le_refl _) (.cells #[.slice xd.ex x.d.exits.length xd.exc, .slice xd.pl x.d.players.length xd.plc, .slice xd.co x.d.coins.length xd.coc, .slice xd.it x.d.items.length xd.itc, .slice xd.bo x.d.boxes.length xd.boc, .int .i64 x.d.room, .int .i64 x.d.player, .int .i64 x.d.box, .slice xa x.at_.length xac, .slice (some ⟨zb, zo, none⟩) x.coins.length xkc, .slice xw x.wher.length xwc] 29)))
  have A_6 := Lib.hid (Holds.newb (w := w) (A := #[.slice xd.ex x.d.exits.length xd.exc, .slice xd.pl x.d.players.length xd.plc, .slice xd.co x.d.coins.length xd.coc, .slice xd.it x.d.items.length xd.itc, .slice xd.bo x.d.boxes.length xd.boc, .int .i64 x.d.room, .int .i64 x.d.player, .int .i64 x.d.box, .slice xa x.at_.length xac, .slice (some ⟨zb, zo, none⟩) x.coins.length xkc, .slice xw x.wher.length xwc]) (t := 29) (n := u5.heap.size) B_5.out rfl)
  clear B_5 H_5 C_5 YA_5
  generalize u5.alloc (.cells #[.slice xd.ex x.d.exits.length xd.exc, .slice xd.pl x.d.players.length xd.plc, .slice xd.co x.d.coins.length xd.coc, .slice xd.it x.d.items.length xd.itc, .slice xd.bo x.d.boxes.length xd.boc, .int .i64 x.d.room, .int .i64 x.d.player, .int .i64 x.d.box, .slice xa x.at_.length xac, .slice (some ⟨zb, zo, none⟩) x.coins.length xkc, .slice xw x.wher.length xwc] 29) = V6 at *
  have hcH := H_6.out.2.2
  have hlH := H_6.out.2.1
  have hcC := C_6.out.2.2
  have hlC := C_6.out.2.1
  have hcA := A_6.out.2.2
  have hlA := A_6.out.2.1
  clear hcH hlH hcC hlC hcA hlA
  have KS : Hid (∀ w', Below V6.heap.size V6 w' → Below V6.heap.size V6 w' ∧ (∀ ii, w'.cell? ⟨w.heap.size, ii, none⟩ = (#[.slice pd.ex x.d.exits.length pd.exc, .slice pd.pl x.d.players.length pd.plc, .slice pd.co x.d.coins.length pd.coc, .slice pd.it x.d.items.length pd.itc, .slice pd.bo x.d.boxes.length pd.boc, .int .i64 x.d.room, .int .i64 x.d.player, .int .i64 x.d.box, .slice (some ⟨b, o, none⟩) x.at_.length pac, .slice (some ⟨kb, ko, none⟩) x.coins.length pkc, .slice pw x.wher.length pwc][ii]? : Option Value)) ∧ (∀ ii, w'.cell? ⟨w.heap.size + 1, ii, none⟩ = (#[.int .i64 kd, .int .i64 di, .int .i64 it, .int .i64 bx, .int .i64 (k : Int), .slice ga gl.length gc, .int .i64 pay, .slice wa wl.length wc, .int .i64 fee][ii]? : Option Value)) ∧ (∀ ii, w'.cell? ⟨u5.heap.size, ii, none⟩ = (#[.slice xd.ex x.d.exits.length xd.exc, .slice xd.pl x.d.players.length xd.plc, .slice xd.co x.d.coins.length xd.coc, .slice xd.it x.d.items.length xd.itc, .slice xd.bo x.d.boxes.length xd.boc, .int .i64 x.d.room, .int .i64 x.d.player, .int .i64 x.d.box, .slice xa x.at_.length xac, .slice (some ⟨zb, zo, none⟩) x.coins.length xkc, .slice xw x.wher.length xwc][ii]? : Option Value))) := Lib.hid (fun w' hb => ⟨hb, fun ii => (hb.cell (p := ⟨w.heap.size, ii, none⟩) H_6.out.2.1).trans (H_6.out.2.2 ii), fun ii => (hb.cell (p := ⟨w.heap.size + 1, ii, none⟩) C_6.out.2.1).trans (C_6.out.2.2 ii), fun ii => (hb.cell (p := ⟨u5.heap.size, ii, none⟩) A_6.out.2.1).trans (A_6.out.2.2 ii)⟩)
  refine wp_region_noPanic ?_
  refine wp_region_held_drew (S := (fun w' => Below V6.heap.size V6 w' ∧ (∀ ii, w'.cell? ⟨w.heap.size, ii, none⟩ = (#[.slice pd.ex x.d.exits.length pd.exc, .slice pd.pl x.d.players.length pd.plc, .slice pd.co x.d.coins.length pd.coc, .slice pd.it x.d.items.length pd.itc, .slice pd.bo x.d.boxes.length pd.boc, .int .i64 x.d.room, .int .i64 x.d.player, .int .i64 x.d.box, .slice (some ⟨b, o, none⟩) x.at_.length pac, .slice (some ⟨kb, ko, none⟩) x.coins.length pkc, .slice pw x.wher.length pwc][ii]? : Option Value)) ∧ (∀ ii, w'.cell? ⟨w.heap.size + 1, ii, none⟩ = (#[.int .i64 kd, .int .i64 di, .int .i64 it, .int .i64 bx, .int .i64 (k : Int), .slice ga gl.length gc, .int .i64 pay, .slice wa wl.length wc, .int .i64 fee][ii]? : Option Value)) ∧ (∀ ii, w'.cell? ⟨u5.heap.size, ii, none⟩ = (#[.slice xd.ex x.d.exits.length xd.exc, .slice xd.pl x.d.players.length xd.plc, .slice xd.co x.d.coins.length xd.coc, .slice xd.it x.d.items.length xd.itc, .slice xd.bo x.d.boxes.length xd.boc, .int .i64 x.d.room, .int .i64 x.d.player, .int .i64 x.d.box, .slice xa x.at_.length xac, .slice (some ⟨zb, zo, none⟩) x.coins.length xkc, .slice xw x.wher.length xwc][ii]? : Option Value)))) (by kernel_rfl) (by (first | (with_reducible exact KS.out _ (bdrew1 (Below.refl _ _))))) (fun hHeld => ?_)
  refine wpAnyH_take (i := 0) (v := ?_) (by simp only [List.getElem?_toArray, List.getElem?_cons_zero]; rfl) (by kernel_rfl) (by kernel_rfl) (by kernel_rfl) (fun _ _ _ h => h) (Or.inl ⟨by rfl, ?_⟩) (by assumption) ?_
  rotate_left
  · (intro ww hSw; (try dsimp only at hSw); go_simp; (try with_reducible rfl))
  try simp only [Act.put, List.setIfInBounds_toArray, List.set_cons_zero, List.set_cons_succ]
  refine wpAnyH_take (i := 2) (v := ?_) (by simp only [List.getElem?_toArray, List.getElem?_cons_succ, List.getElem?_cons_zero]; rfl) (by kernel_rfl) (by kernel_rfl) (by kernel_rfl) (fun _ _ _ h => h) (Or.inl ⟨by rfl, ?_⟩) (by assumption) ?_
  rotate_left
  · (intro ww hSw; (try dsimp only at hSw); go_simp; (try with_reducible rfl))
  try simp only [Act.put, List.setIfInBounds_toArray, List.set_cons_zero, List.set_cons_succ]
  have D0 := Lib.hid (bdrew1 (Below.refl V6.heap.size V6))
  refine wpAnyH_ready (rs := [1]) (by kernel_rfl) (by simp) (AllReadyH.cons (by simp only [List.getElem?_toArray, List.getElem?_cons_succ, List.getElem?_cons_zero]; rfl) (fun K hK => ?_) AllReadyH.nil)
  go_simp
  refine (refsum_as SY.out ⟨xd, xa, xac, some ⟨zb, zo, none⟩, xkc, xw, xwc⟩ _ RY.out (YA_6.out.call D0.out)).mono ?_; rintro e w1 ⟨rfl, hb1⟩; have D1 := Lib.hid (D0.out.trans hb1); rw [SUM.out]; clear hb1
  try go_wp2_with fail
  refine hK.out _ _ (by (first | (with_reducible exact KS.out _ D1.out))) (fun hHeld => ?_)
  clear hK K
  try simp only [Act.put, List.setIfInBounds_toArray, List.set_cons_zero, List.set_cons_succ]
  refine wpAnyH_ready (rs := [3]) (by kernel_rfl) (by simp) (AllReadyH.cons (by simp only [List.getElem?_toArray, List.getElem?_cons_succ, List.getElem?_cons_zero]; rfl) (fun K hK => ?_) AllReadyH.nil)
  go_simp
  refine (refsum_as (Shape.refl x) ⟨pd, some ⟨b, o, none⟩, pac, some ⟨kb, ko, none⟩, pkc, pw, pwc⟩ _ FT.out.right (HWA.out.below (B_6.out.trans (D1.out.mono B_6.out.size)) (Nat.le_refl _))).mono ?_; rintro e w2 ⟨rfl, hb2⟩; have D2 := Lib.hid (D1.out.trans (hb2.mono D1.out.size)); clear hb2
  try go_wp2_with fail
  refine hK.out _ _ (by (first | (with_reducible exact KS.out _ D2.out))) (fun hHeld => ?_)
  clear hK K
  try simp only [Act.put, List.setIfInBounds_toArray, List.set_cons_zero, List.set_cons_succ]
  refine wpAnyH_take (i := 4) (v := ?_) (by simp only [List.getElem?_toArray, List.getElem?_cons_succ, List.getElem?_cons_zero]; rfl) (by kernel_rfl) (by kernel_rfl) (by kernel_rfl) (fun _ _ _ h => h) (Or.inl ⟨by rfl, ?_⟩) (by assumption) ?_
  rotate_left
  · (intro ww hSw; (try dsimp only at hSw); go_simp; (try with_reducible rfl))
  try simp only [Act.put, List.setIfInBounds_toArray, List.set_cons_zero, List.set_cons_succ]
  refine wpAnyH_take (i := 5) (v := ?_) (by simp only [List.getElem?_toArray, List.getElem?_cons_succ, List.getElem?_cons_zero]; rfl) (by kernel_rfl) (by kernel_rfl) (by kernel_rfl) (fun _ _ _ h => h) (Or.inl ⟨by rfl, ?_⟩) (by assumption) ?_
  rotate_left
  · (intro ww hSw; (try dsimp only at hSw); go_simp; (try with_reducible rfl))
  try simp only [Act.put, List.setIfInBounds_toArray, List.set_cons_zero, List.set_cons_succ]
  refine wpAnyH_take (i := 6) (v := ?_) (by simp only [List.getElem?_toArray, List.getElem?_cons_succ, List.getElem?_cons_zero]; rfl) (by kernel_rfl) (by kernel_rfl) (by kernel_rfl) (fun _ _ _ h => h) (Or.inl ⟨by rfl, ?_⟩) (by assumption) ?_
  rotate_left
  · (intro ww hSw; (try dsimp only at hSw); go_simp; (try with_reducible rfl))
  try simp only [Act.put, List.setIfInBounds_toArray, List.set_cons_zero, List.set_cons_succ]
  refine wpAnyH_ready (rs := [7]) (by kernel_rfl) (by simp) (AllReadyH.cons (by simp only [List.getElem?_toArray, List.getElem?_cons_succ, List.getElem?_cons_zero]; rfl) (fun K hK => ?_) AllReadyH.nil)
  go_simp
  refine (rright_as SY.out ⟨xd, xa, xac, some ⟨zb, zo, none⟩, xkc, xw, xwc⟩ _ (YA_6.out.call D2.out)).mono ?_; rintro e w3 ⟨rfl, hb3⟩; have D3 := Lib.hid (D2.out.trans (hb3.mono D2.out.size)); rw [RY.out]; clear hb3
  try go_wp2_with fail
  refine hK.out _ _ (by (first | (with_reducible exact KS.out _ D3.out))) (fun hHeld => ?_)
  clear hK K
  try simp only [Act.put, List.setIfInBounds_toArray, List.set_cons_zero, List.set_cons_succ]
  refine wpAnyH_take (i := 8) (v := ?_) (by simp only [List.getElem?_toArray, List.getElem?_cons_succ, List.getElem?_cons_zero]; rfl) (by kernel_rfl) (by kernel_rfl) (by kernel_rfl) (fun _ _ _ h => h) (Or.inl ⟨by rfl, ?_⟩) (by assumption) ?_
  rotate_left
  · (intro ww hSw; (try dsimp only at hSw); go_simp; (try with_reducible rfl))
  try simp only [Act.put, List.setIfInBounds_toArray, List.set_cons_zero, List.set_cons_succ]
  refine wpAnyH_take (i := 9) (v := ?_) (by simp only [List.getElem?_toArray, List.getElem?_cons_succ, List.getElem?_cons_zero]; rfl) (by kernel_rfl) (by kernel_rfl) (by kernel_rfl) (fun _ _ _ h => h) (Or.inl ⟨by rfl, ?_⟩) (by assumption) ?_
  rotate_left
  · (intro ww hSw; (try dsimp only at hSw); go_simp; (try with_reducible rfl))
  try simp only [Act.put, List.setIfInBounds_toArray, List.set_cons_zero, List.set_cons_succ]
  refine wpAnyH_take (i := 10) (v := ?_) (by simp only [List.getElem?_toArray, List.getElem?_cons_succ, List.getElem?_cons_zero]; rfl) (by kernel_rfl) (by kernel_rfl) (by kernel_rfl) (fun _ _ _ h => h) (Or.inl ⟨by rfl, ?_⟩) (by assumption) ?_
  rotate_left
  · (intro ww hSw; (try dsimp only at hSw); go_simp; (try with_reducible rfl))
  try simp only [Act.put, List.setIfInBounds_toArray, List.set_cons_zero, List.set_cons_succ]
  refine wpAnyH_take (i := 11) (v := ?_) (by simp only [List.getElem?_toArray, List.getElem?_cons_succ, List.getElem?_cons_zero]; rfl) (by kernel_rfl) (by kernel_rfl) (by kernel_rfl) (fun _ _ _ h => h) (Or.inl ⟨by rfl, ?_⟩) (by assumption) ?_
  rotate_left
  · (intro ww hSw; (try dsimp only at hSw); go_simp; (try with_reducible rfl))
  try simp only [Act.put, List.setIfInBounds_toArray, List.set_cons_zero, List.set_cons_succ]
  refine wpAnyH_take (i := 12) (v := ?_) (by simp only [List.getElem?_toArray, List.getElem?_cons_succ, List.getElem?_cons_zero]; rfl) (by kernel_rfl) (by kernel_rfl) (by kernel_rfl) (fun _ _ _ h => h) (Or.inl ⟨by rfl, ?_⟩) (by assumption) ?_
  rotate_left
  · (intro ww hSw; (try dsimp only at hSw); go_simp; (try with_reducible rfl))
  try simp only [Act.put, List.setIfInBounds_toArray, List.set_cons_zero, List.set_cons_succ]
  refine wpAnyH_take (i := 13) (v := ?_) (by simp only [List.getElem?_toArray, List.getElem?_cons_succ, List.getElem?_cons_zero]; rfl) (by kernel_rfl) (by kernel_rfl) (by kernel_rfl) (fun _ _ _ h => h) (Or.inl ⟨by rfl, ?_⟩) (by assumption) ?_
  rotate_left
  · (intro ww hSw; (try dsimp only at hSw); go_simp; (try with_reducible rfl))
  try simp only [Act.put, List.setIfInBounds_toArray, List.set_cons_zero, List.set_cons_succ]
  refine wpAnyH_take (i := 14) (v := ?_) (by simp only [List.getElem?_toArray, List.getElem?_cons_succ, List.getElem?_cons_zero]; rfl) (by kernel_rfl) (by kernel_rfl) (by kernel_rfl) (fun _ _ _ h => h) (Or.inl ⟨by rfl, ?_⟩) (by assumption) ?_
  rotate_left
  · (intro ww hSw; (try dsimp only at hSw); go_simp; (try with_reducible rfl))
  try simp only [Act.put, List.setIfInBounds_toArray, List.set_cons_zero, List.set_cons_succ]
  refine wpAnyH_take (i := 15) (v := ?_) (by simp only [List.getElem?_toArray, List.getElem?_cons_succ, List.getElem?_cons_zero]; rfl) (by kernel_rfl) (by kernel_rfl) (by kernel_rfl) (fun _ _ _ h => h) (Or.inl ⟨by rfl, ?_⟩) (by assumption) ?_
  rotate_left
  · (intro ww hSw; (try dsimp only at hSw); go_simp; (try with_reducible rfl))
  try simp only [Act.put, List.setIfInBounds_toArray, List.set_cons_zero, List.set_cons_succ]
  refine wpAnyH_take (i := 16) (v := ?_) (by simp only [List.getElem?_toArray, List.getElem?_cons_succ, List.getElem?_cons_zero]; rfl) (by kernel_rfl) (by kernel_rfl) (by kernel_rfl) (fun _ _ _ h => h) (Or.inl ⟨by rfl, ?_⟩) (by assumption) ?_
  rotate_left
  · (intro ww hSw; (try dsimp only at hSw); go_simp; (try with_reducible rfl))
  try simp only [Act.put, List.setIfInBounds_toArray, List.set_cons_zero, List.set_cons_succ]
  refine wpAnyH_take (i := 17) (v := ?_) (by simp only [List.getElem?_toArray, List.getElem?_cons_succ, List.getElem?_cons_zero]; rfl) (by kernel_rfl) (by kernel_rfl) (by kernel_rfl) (fun _ _ _ h => h) (Or.inl ⟨by rfl, ?_⟩) (by assumption) ?_
  rotate_left
  · (intro ww hSw; (try dsimp only at hSw); go_simp; (try with_reducible rfl))
  try simp only [Act.put, List.setIfInBounds_toArray, List.set_cons_zero, List.set_cons_succ]
  refine wpAnyH_take (i := 18) (v := ?_) (by simp only [List.getElem?_toArray, List.getElem?_cons_succ, List.getElem?_cons_zero]; rfl) (by kernel_rfl) (by kernel_rfl) (by kernel_rfl) (fun _ _ _ h => h) (Or.inl ⟨by rfl, ?_⟩) (by assumption) ?_
  rotate_left
  · (intro ww hSw; (try dsimp only at hSw); go_simp; (try with_reducible rfl))
  try simp only [Act.put, List.setIfInBounds_toArray, List.set_cons_zero, List.set_cons_succ]
  refine wpAnyH_take (i := 19) (v := ?_) (by simp only [List.getElem?_toArray, List.getElem?_cons_succ, List.getElem?_cons_zero]; rfl) (by kernel_rfl) (by kernel_rfl) (by kernel_rfl) (fun _ _ _ h => h) (Or.inl ⟨by rfl, ?_⟩) (by assumption) ?_
  rotate_left
  · (intro ww hSw; (try dsimp only at hSw); go_simp; (try with_reducible rfl))
  try simp only [Act.put, List.setIfInBounds_toArray, List.set_cons_zero, List.set_cons_succ]
  refine wpAnyH_take (i := 20) (v := ?_) (by simp only [List.getElem?_toArray, List.getElem?_cons_succ, List.getElem?_cons_zero]; rfl) (by kernel_rfl) (by kernel_rfl) (by kernel_rfl) (fun _ _ _ h => h) (Or.inl ⟨by rfl, ?_⟩) (by assumption) ?_
  rotate_left
  · (intro ww hSw; (try dsimp only at hSw); go_simp; (try with_reducible rfl))
  try simp only [Act.put, List.setIfInBounds_toArray, List.set_cons_zero, List.set_cons_succ]
  refine wpAnyH_take (i := 21) (v := ?_) (by simp only [List.getElem?_toArray, List.getElem?_cons_succ, List.getElem?_cons_zero]; rfl) (by kernel_rfl) (by kernel_rfl) (by kernel_rfl) (fun _ _ _ h => h) (Or.inl ⟨by rfl, ?_⟩) (by assumption) ?_
  rotate_left
  · (intro ww hSw; (try dsimp only at hSw); go_simp; (try with_reducible rfl))
  try simp only [Act.put, List.setIfInBounds_toArray, List.set_cons_zero, List.set_cons_succ]
  refine wpAnyH_take (i := 22) (v := ?_) (by simp only [List.getElem?_toArray, List.getElem?_cons_succ, List.getElem?_cons_zero]; rfl) (by kernel_rfl) (by kernel_rfl) (by kernel_rfl) (fun _ _ _ h => h) (Or.inl ⟨by rfl, ?_⟩) (by assumption) ?_
  rotate_left
  · (intro ww hSw; (try dsimp only at hSw); go_simp; (try with_reducible rfl))
  try simp only [Act.put, List.setIfInBounds_toArray, List.set_cons_zero, List.set_cons_succ]
  refine wpAnyH_done (by kernel_rfl) ?_ _
  refine NoPanic.normal ?_
  clear hHeld KS D0 D1 D2
  have B_7 := Lib.hid (bl B_6.out D3.out)
  have H_7 := Lib.hid (H_6.out.call D3.out)
  have C_7 := Lib.hid (C_6.out.call D3.out)
  have A_7 := Lib.hid (A_6.out.call D3.out)
  have YA_7 := Lib.hid (YA_6.out.call D3.out)
  clear D3 B_6 H_6 C_6 A_6 YA_6
  have hcH := H_7.out.2.2
  have hlH := H_7.out.2.1
  have hcC := C_7.out.2.2
  have hlC := C_7.out.2.1
  have hcA := A_7.out.2.2
  have hlA := A_7.out.2.1
  go_wp2_with fail
  obtain ⟨v1, W1, gA, cA, W2, hr1, hr2, hb1, hb2, hli, -⟩ := append_both (W := w3.drew) (ca := gc) (cb := wc) rfl ((HG.out.below B_7.out (Nat.le_refl _)).call (bdrew1 (Below.refl _ _))) ((HW.out.below B_7.out (Nat.le_refl _)).call (bdrew1 (Below.refl _ _))) (by have := HLG.out; omega) (by have := HLW.out; omega)
  generalize hM : (gl ++ wl).length = M at *
  have HM := Lib.hid (show (gs ++ ws).length = M by rw [← hM, HLN.out, List.length_map])
  have hM40 : M ≤ 40 := by rw [← hM, List.length_append]; have := HLG.out; have := HLW.out; omega
  have HR1 := Lib.hid hr1
  have HR2 := Lib.hid hr2
  have D0 := Lib.hid (bdrew1 (Below.refl w3.heap.size w3))
  have DA := Lib.hid (D0.out.trans ((Below.refl w3.drew.heap.size w3.drew).alloc (Nat.le_refl _) (.cells #[] 3)))
  have D1 := Lib.hid (D0.out.trans hb1)
  have D2 := Lib.hid (D0.out.trans hb2)
  have HLI := Lib.hid (show IntsAt W2 gA ((gs ++ ws).map (fun (k : Nat) => (k : Int))) by rw [← HLN.out]; exact hli)
  clear hr1 hr2 hb1 hb2 hli hM
  clear hcH hlH hcC hlC hcA hlA
  have KS : Hid (∀ w', Below w3.heap.size w3 w' → Below w3.heap.size w3 w' ∧ (∀ ii, w'.cell? ⟨w.heap.size + 1, ii, none⟩ = (#[.int .i64 kd, .int .i64 di, .int .i64 it, .int .i64 bx, .int .i64 (k : Int), .slice ga gl.length gc, .int .i64 pay, .slice wa wl.length wc, .int .i64 fee][ii]? : Option Value))) := Lib.hid (fun w' hb => ⟨hb, fun ii => (hb.cell (p := ⟨w.heap.size + 1, ii, none⟩) C_7.out.2.1).trans (C_7.out.2.2 ii)⟩)
  refine wp_region_noPanic ?_
  refine wp_region_held_drew (S := (fun w' => Below w3.heap.size w3 w' ∧ (∀ ii, w'.cell? ⟨w.heap.size + 1, ii, none⟩ = (#[.int .i64 kd, .int .i64 di, .int .i64 it, .int .i64 bx, .int .i64 (k : Int), .slice ga gl.length gc, .int .i64 pay, .slice wa wl.length wc, .int .i64 fee][ii]? : Option Value)))) (by kernel_rfl) (by (first | (with_reducible exact KS.out _ D0.out))) (fun hHeld => ?_)
  refine wpAnyH_take (i := 1) (v := ?_) (by simp only [List.getElem?_toArray, List.getElem?_cons_succ, List.getElem?_cons_zero]; rfl) (by kernel_rfl) (by kernel_rfl) (by kernel_rfl) (fun _ _ _ h => h) (Or.inl ⟨by rfl, ?_⟩) (by assumption) ?_
  rotate_left
  · (intro ww hSw; (try dsimp only at hSw); go_simp; (try with_reducible rfl))
  try simp only [Act.put, List.setIfInBounds_toArray, List.set_cons_zero, List.set_cons_succ]
  refine wpAnyH_take (i := 2) (v := ?_) (by simp only [List.getElem?_toArray, List.getElem?_cons_succ, List.getElem?_cons_zero]; rfl) (by kernel_rfl) (by kernel_rfl) (by kernel_rfl) (fun _ _ _ h => h) (Or.inl ⟨by rfl, ?_⟩) (by assumption) ?_
  rotate_left
  · (intro ww hSw; (try dsimp only at hSw); go_simp; (try with_reducible rfl))
  try simp only [Act.put, List.setIfInBounds_toArray, List.set_cons_zero, List.set_cons_succ]
  refine wpAnyH_take (i := 4) (v := ?_) (by simp only [List.getElem?_toArray, List.getElem?_cons_succ, List.getElem?_cons_zero]; rfl) (by kernel_rfl) (by kernel_rfl) (by kernel_rfl) (fun _ _ _ h => h) (Or.inl ⟨by rfl, ?_⟩) (by assumption) ?_
  rotate_left
  · (intro ww hSw; (try dsimp only at hSw); go_simp; (try with_reducible rfl))
  try simp only [Act.put, List.setIfInBounds_toArray, List.set_cons_zero, List.set_cons_succ]
  refine wpAnyH_take (i := 5) (v := ?_) (by simp only [List.getElem?_toArray, List.getElem?_cons_succ, List.getElem?_cons_zero]; rfl) (by kernel_rfl) (by kernel_rfl) (by kernel_rfl) (fun _ _ _ h => h) (Or.inl ⟨by rfl, ?_⟩) (by assumption) ?_
  rotate_left
  · (intro ww hSw; (try dsimp only at hSw); go_simp; (try with_reducible rfl))
  try simp only [Act.put, List.setIfInBounds_toArray, List.set_cons_zero, List.set_cons_succ]
  refine wpAnyH_ready (rs := [0]) (by kernel_rfl) (by simp) (AllReadyH.cons (by simp only [List.getElem?_toArray, List.getElem?_cons_zero]; rfl) (fun K hK => ?_) AllReadyH.nil)
  go_simp
  try go_wp2_with fail
  refine hK.out _ _ (by (first | (exact KS.out _ DA.out))) (fun hHeld => ?_)
  clear hK K
  try simp only [Act.put, List.setIfInBounds_toArray, List.set_cons_zero, List.set_cons_succ]
  refine wpAnyH_ready (rs := [3]) (by kernel_rfl) (by simp) (AllReadyH.cons (by simp only [List.getElem?_toArray, List.getElem?_cons_succ, List.getElem?_cons_zero]; rfl) (fun K hK => ?_) AllReadyH.nil)
  refine gstep_append rfl (.tmp 80) (.tmp 82) 23 rfl _ _ v1 W1 rfl rfl HR1.out ?_
  refine hK.out _ _ (by (first | (with_reducible exact KS.out _ D1.out))) (fun hHeld => ?_)
  clear hK K
  try simp only [Act.put, List.setIfInBounds_toArray, List.set_cons_zero, List.set_cons_succ]
  refine wpAnyH_ready (rs := [6]) (by kernel_rfl) (by simp) (AllReadyH.cons (by simp only [List.getElem?_toArray, List.getElem?_cons_succ, List.getElem?_cons_zero]; rfl) (fun K hK => ?_) AllReadyH.nil)
  refine gstep_append rfl (.tmp 83) (.tmp 85) 23 rfl _ _ _ W2 rfl rfl HR2.out ?_
  refine hK.out _ _ (by (first | (with_reducible exact KS.out _ D2.out))) (fun hHeld => ?_)
  clear hK K
  try simp only [Act.put, List.setIfInBounds_toArray, List.set_cons_zero, List.set_cons_succ]
  refine wpAnyH_take (i := 7) (v := ?_) (by simp only [List.getElem?_toArray, List.getElem?_cons_succ, List.getElem?_cons_zero]; rfl) (by kernel_rfl) (by kernel_rfl) (by kernel_rfl) (fun _ _ _ h => h) (Or.inl ⟨by rfl, ?_⟩) (by assumption) ?_
  rotate_left
  · (intro ww hSw; (try dsimp only at hSw); go_simp; (try with_reducible rfl))
  try simp only [Act.put, List.setIfInBounds_toArray, List.set_cons_zero, List.set_cons_succ]
  refine wpAnyH_done (by kernel_rfl) ?_ _
  refine NoPanic.normal ?_
  clear hHeld KS HR1 HR2 DA D1 D0
  have B_8 := Lib.hid (bl B_7.out D2.out)
  have H_8 := Lib.hid (H_7.out.call D2.out)
  have C_8 := Lib.hid (C_7.out.call D2.out)
  have A_8 := Lib.hid (A_7.out.call D2.out)
  have YA_8 := Lib.hid (YA_7.out.call D2.out)
  clear D2 B_7 H_7 C_7 A_7 YA_7
  have IL_8 := Lib.hid (show IntsInn W2 gA _ from HLI.out)
  clear HLI
  have hcH := H_8.out.2.2
  have hlH := H_8.out.2.1
  have hcC := C_8.out.2.2
  have hlC := C_8.out.2.1
  have hcA := A_8.out.2.2
  have hlA := A_8.out.2.1
  go_wp2_with fail
  refine (copied_as SY.out ⟨xd, xa, xac, some ⟨zb, zo, none⟩, xkc, xw, xwc⟩ _ RY.out YA_8.out).mono ?_
  rintro e u7 ⟨⟨pd2, pa2, pac2, pk2, pkc2, pw2, pwc2⟩, rfl, gr, b7⟩
  clear hcH hlH hcC hlC hcA hlA
  have B_9 := Lib.hid (bl B_8.out b7)
  have H_9 := Lib.hid (H_8.out.call b7)
  have C_9 := Lib.hid (C_8.out.call b7)
  have A_9 := Lib.hid (A_8.out.call b7)
  have YA_9 := Lib.hid (YA_8.out.call b7)
  have IL_9 := Lib.hid (IL_8.out.call b7)
  clear b7 B_8 H_8 C_8 A_8 YA_8 IL_8
  have hX1 : (u7.alloc (.cells #[.slice pd2.ex x.d.exits.length pd2.exc, .slice pd2.pl x.d.players.length pd2.plc, .slice pd2.co x.d.coins.length pd2.coc, .slice pd2.it x.d.items.length pd2.itc, .slice pd2.bo x.d.boxes.length pd2.boc, .int .i64 x.d.room, .int .i64 x.d.player, .int .i64 x.d.box, .slice pa2 x.at_.length pac2, .slice pk2 x.coins.length pkc2, .slice pw2 x.wher.length pwc2] 29)).heap.size = u7.heap.size + 1 := by simp
  obtain ⟨gX, cX, cur, W6, hr6, hg6, hb6, hc6, hl6⟩ := append_new (W := (u7.alloc (.cells #[.slice pd2.ex x.d.exits.length pd2.exc, .slice pd2.pl x.d.players.length pd2.plc, .slice pd2.co x.d.coins.length pd2.coc, .slice pd2.it x.d.items.length pd2.itc, .slice pd2.bo x.d.boxes.length pd2.boc, .int .i64 x.d.room, .int .i64 x.d.player, .int .i64 x.d.box, .slice pa2 x.at_.length pac2, .slice pk2 x.coins.length pkc2, .slice pw2 x.wher.length pwc2] 29)).alloc (.cells #[] 3)) (cap := pkc) (u7.heap.size + 1) (Blk.newn (u7.alloc (.cells #[.slice pd2.ex x.d.exits.length pd2.exc, .slice pd2.pl x.d.players.length pd2.plc, .slice pd2.co x.d.coins.length pd2.coc, .slice pd2.it x.d.items.length pd2.itc, .slice pd2.bo x.d.boxes.length pd2.boc, .int .i64 x.d.room, .int .i64 x.d.player, .int .i64 x.d.box, .slice pa2 x.at_.length pac2, .slice pk2 x.coins.length pkc2, .slice pw2 x.wher.length pwc2] 29)) 3 #[] hX1) (((HWA.out.below B_9.out (Nat.le_refl _)).co.below ((Below.refl _ _).alloc (Nat.le_refl _) (.cells #[.slice pd2.ex x.d.exits.length pd2.exc, .slice pd2.pl x.d.players.length pd2.plc, .slice pd2.co x.d.coins.length pd2.coc, .slice pd2.it x.d.items.length pd2.itc, .slice pd2.bo x.d.boxes.length pd2.boc, .int .i64 x.d.room, .int .i64 x.d.player, .int .i64 x.d.box, .slice pa2 x.at_.length pac2, .slice pk2 x.coins.length pkc2, .slice pw2 x.wher.length pwc2] 29)) (Nat.le_refl _)).alloc (.cells #[] 3)) (by omega)
  have HR6 := Lib.hid hr6
  have BB0 := Lib.hid (show Below u7.heap.size u7 W6 from (((Below.refl _ _).alloc (Nat.le_refl _) (.cells #[.slice pd2.ex x.d.exits.length pd2.exc, .slice pd2.pl x.d.players.length pd2.plc, .slice pd2.co x.d.coins.length pd2.coc, .slice pd2.it x.d.items.length pd2.itc, .slice pd2.bo x.d.boxes.length pd2.boc, .int .i64 x.d.room, .int .i64 x.d.player, .int .i64 x.d.box, .slice pa2 x.at_.length pac2, .slice pk2 x.coins.length pkc2, .slice pw2 x.wher.length pwc2] 29)).alloc (by simp) (.cells #[] 3)).trans (hl6.mono (by omega)))
  have DX := Lib.hid (show Blk W6 u7.heap.size 29 #[.slice pd2.ex x.d.exits.length pd2.exc, .slice pd2.pl x.d.players.length pd2.plc, .slice pd2.co x.d.coins.length pd2.coc, .slice pd2.it x.d.items.length pd2.itc, .slice pd2.bo x.d.boxes.length pd2.boc, .int .i64 x.d.room, .int .i64 x.d.player, .int .i64 x.d.box, .slice pa2 x.at_.length pac2, .slice pk2 x.coins.length pkc2, .slice pw2 x.wher.length pwc2] from ((Blk.new u7 29 #[.slice pd2.ex x.d.exits.length pd2.exc, .slice pd2.pl x.d.players.length pd2.plc, .slice pd2.co x.d.coins.length pd2.coc, .slice pd2.it x.d.items.length pd2.itc, .slice pd2.bo x.d.boxes.length pd2.boc, .int .i64 x.d.room, .int .i64 x.d.player, .int .i64 x.d.box, .slice pa2 x.at_.length pac2, .slice pk2 x.coins.length pkc2, .slice pw2 x.wher.length pwc2]).alloc (.cells #[] 3)).below hl6 (by omega))
  have BB := Lib.hid (BB0.out.setCell (p := ⟨u7.heap.size, 9, none⟩) (Nat.le_refl _) (.slice (some ⟨gX, 0, none⟩) x.coins.length cX))
  have DX2 := Lib.hid (show Blk (W6.setCell ⟨u7.heap.size, 9, none⟩ (.slice (some ⟨gX, 0, none⟩) x.coins.length cX)) u7.heap.size 29 #[.slice pd2.ex x.d.exits.length pd2.exc, .slice pd2.pl x.d.players.length pd2.plc, .slice pd2.co x.d.coins.length pd2.coc, .slice pd2.it x.d.items.length pd2.itc, .slice pd2.bo x.d.boxes.length pd2.boc, .int .i64 x.d.room, .int .i64 x.d.player, .int .i64 x.d.box, .slice pa2 x.at_.length pac2, .slice (some ⟨gX, 0, none⟩) x.coins.length cX, .slice pw2 x.wher.length pwc2] from DX.out.set_ 9 _)
  have gX2 : gX ≠ u7.heap.size := by omega
  have IX := Lib.hid (show IntsAt (W6.setCell ⟨u7.heap.size, 9, none⟩ (.slice (some ⟨gX, 0, none⟩) x.coins.length cX)) (some ⟨gX, 0, none⟩) x.coins from (hb6.far (p := ⟨u7.heap.size, 9, none⟩) gX2 _).ints (by unfold maxLen; omega) hc6)
  have WXX := Lib.hid (show WorldAt (W6.setCell ⟨u7.heap.size, 9, none⟩ (.slice (some ⟨gX, 0, none⟩) x.coins.length cX)) ⟨pd2, pa2, pac2, some ⟨gX, 0, none⟩, cX, pw2, pwc2⟩ ⟨y.d, y.at_, x.coins, y.wher⟩ from ⟨(gr.call BB.out).d, (gr.call BB.out).at_, IX.out, (gr.call BB.out).wh⟩)
  have hcX := DX.out.cell
  have hzX := DX.out.frozen
  have hlX := DX.out.lt
  have HW6 := Lib.hid (H_9.out.call BB0.out)
  have hcH0 := H_9.out.2.2
  have hlH0 := H_9.out.2.1
  have hcH := HW6.out.2.2
  have hlH := HW6.out.2.1
  have nHX : w.heap.size ≠ u7.heap.size := by have := H_9.out.2.1; omega
  have nHX2 : u7.heap.size ≠ w.heap.size := fun h => nHX h.symm
  clear hr6 hb6 hc6 hl6 gr IX gX2 hg6 hX1
  go_wp2_with (at_builtin; refine append_step1 rfl (.tmp 89) (.tmp 91) 23 rfl _ _ _ W6 rfl rfl HR6.out ?_)
  clear hcX hzX hlX hcH hlH hcH0 hlH0 HW6 nHX nHX2 DX HR6 BB0
  have B_10 := Lib.hid (bl B_9.out BB.out)
  have H_10 := Lib.hid (H_9.out.call BB.out)
  have C_10 := Lib.hid (C_9.out.call BB.out)
  have A_10 := Lib.hid (A_9.out.call BB.out)
  have YA_10 := Lib.hid (YA_9.out.call BB.out)
  have IL_10 := Lib.hid (IL_9.out.call BB.out)
  have WX_10 := Lib.hid WXX.out
  clear WXX DX2 BB B_9 H_9 C_9 A_9 YA_9 IL_9
  generalize W6.setCell ⟨u7.heap.size, 9, none⟩ (.slice (some ⟨gX, 0, none⟩) x.coins.length cX) = V8 at *
  refine (others_len (y := ⟨y.d, y.at_, x.coins, y.wher⟩) ⟨SY.out.ex, SY.out.pl, SY.out.co, SY.out.it, SY.out.bo, SY.out.r, SY.out.p, SY.out.b, SY.out.at_, rfl, SY.out.w⟩ ⟨pd, some ⟨b, o, none⟩, pac, some ⟨kb, ko, none⟩, pkc, pw, pwc⟩ ⟨pd2, pa2, pac2, some ⟨gX, 0, none⟩, cX, pw2, pwc2⟩ (gs ++ ws) M HM.out gA cA _ (right_fewW9 FT.out.right) (HWA.out.below B_10.out (Nat.le_refl _)) WX_10.out IL_10.out HLT.out hM40 HPA.out).mono ?_
  rintro e u9 ⟨rfl, b9⟩
  have B_11 := Lib.hid (bl B_10.out b9)
  have H_11 := Lib.hid (H_10.out.call b9)
  have C_11 := Lib.hid (C_10.out.call b9)
  have A_11 := Lib.hid (A_10.out.call b9)
  have YA_11 := Lib.hid (YA_10.out.call b9)
  have IL_11 := Lib.hid (IL_10.out.call b9)
  clear b9 B_10 H_10 C_10 A_10 YA_10 IL_10
  clear WX_10 IL_11
  have hcH := H_11.out.2.2
  have hlH := H_11.out.2.1
  go_wp2_with fail
  clear hcH hlH
  have HV := Lib.hid (Below.refl u9.heap.size u9)
  go_loopw [12] (fun v wr => ∃ m : Nat, m ≤ x.coins.length ∧ v = .int .i64 m ∧ Below u9.heap.size u9 wr) (fun v _ => x.coins.length - (intOf v).toNat)
  case atStart => exact ⟨0, Nat.zero_le _, rfl, HV.out⟩
  case round =>
    obtain ⟨m, hm, rfl, hB⟩ := hrel
    have HB := Lib.hid hB
    clear HV
    have hcH := (H_11.out.call hB).2.2
    have hlH := (H_11.out.call hB).2.1
    have hcC := (C_11.out.call hB).2.2
    have hlC := (C_11.out.call hB).2.1
    have hcA := (A_11.out.call hB).2.2
    have hlA := (A_11.out.call hB).2.1
    have HVR := Lib.hid (fun (w' : World) (hb : Below wr.heap.size wr w') => (show Below u9.heap.size u9 w' from hB.trans (hb.mono hB.size)))
    by_cases hlt : m < x.coins.length
    · by_cases hmi : m = i
      · have hmi2 : ((m : Int) != (i : Int)) = false := by simp [hmi]
        clear hmi hB
        go_wp2_with fail
        refine wp_region_noPanic ?_
        refine wp_region_held_drew (S := (fun w' => (∀ ii, w'.cell? ⟨w.heap.size, ii, none⟩ = (#[.slice pd.ex x.d.exits.length pd.exc, .slice pd.pl x.d.players.length pd.plc, .slice pd.co x.d.coins.length pd.coc, .slice pd.it x.d.items.length pd.itc, .slice pd.bo x.d.boxes.length pd.boc, .int .i64 x.d.room, .int .i64 x.d.player, .int .i64 x.d.box, .slice (some ⟨b, o, none⟩) x.at_.length pac, .slice (some ⟨kb, ko, none⟩) x.coins.length pkc, .slice pw x.wher.length pwc][ii]? : Option Value)) ∧ (∀ ii, w'.cell? ⟨w.heap.size + 1, ii, none⟩ = (#[.int .i64 kd, .int .i64 di, .int .i64 it, .int .i64 bx, .int .i64 (k : Int), .slice ga gl.length gc, .int .i64 pay, .slice wa wl.length wc, .int .i64 fee][ii]? : Option Value)) ∧ (∀ ii, w'.cell? ⟨u5.heap.size, ii, none⟩ = (#[.slice xd.ex x.d.exits.length xd.exc, .slice xd.pl x.d.players.length xd.plc, .slice xd.co x.d.coins.length xd.coc, .slice xd.it x.d.items.length xd.itc, .slice xd.bo x.d.boxes.length xd.boc, .int .i64 x.d.room, .int .i64 x.d.player, .int .i64 x.d.box, .slice xa x.at_.length xac, .slice (some ⟨zb, zo, none⟩) x.coins.length xkc, .slice xw x.wher.length xwc][ii]? : Option Value)))) (by kernel_rfl) (by (first | (exact ⟨hcH, hcC, hcA⟩))) (fun hHeld => ?_)
        refine wpAnyH_take (i := 0) (v := ?_) (by simp only [List.getElem?_toArray, List.getElem?_cons_zero]; rfl) (by kernel_rfl) (by kernel_rfl) (by kernel_rfl) (fun _ _ _ h => h) (Or.inl ⟨by rfl, ?_⟩) (by assumption) ?_
        rotate_left
        · (intro ww hSw; (try dsimp only at hSw); go_simp; (try with_reducible rfl))
        try simp only [Act.put, List.setIfInBounds_toArray, List.set_cons_zero, List.set_cons_succ]
        refine wpAnyH_take (i := 1) (v := ?_) (by simp only [List.getElem?_toArray, List.getElem?_cons_succ, List.getElem?_cons_zero]; rfl) (by kernel_rfl) (by kernel_rfl) (by kernel_rfl) (fun _ _ _ h => h) (Or.inl ⟨by rfl, ?_⟩) (by assumption) ?_
        rotate_left
        · (intro ww hSw; (try dsimp only at hSw); go_simp; (try with_reducible rfl))
        try simp only [Act.put, List.setIfInBounds_toArray, List.set_cons_zero, List.set_cons_succ]
        refine wpAnyH_take (i := 2) (v := ?_) (by simp only [List.getElem?_toArray, List.getElem?_cons_succ, List.getElem?_cons_zero]; rfl) (by kernel_rfl) (by kernel_rfl) (by kernel_rfl) (fun _ _ _ h => h) (Or.inl ⟨by rfl, ?_⟩) (by assumption) ?_
        rotate_left
        · (intro ww hSw; (try dsimp only at hSw); go_simp; (try with_reducible rfl))
        try simp only [Act.put, List.setIfInBounds_toArray, List.set_cons_zero, List.set_cons_succ]
        refine wpAnyH_take (i := 3) (v := ?_) (by simp only [List.getElem?_toArray, List.getElem?_cons_succ, List.getElem?_cons_zero]; rfl) (by kernel_rfl) (by kernel_rfl) (by kernel_rfl) (fun _ _ _ h => h) (Or.inl ⟨by rfl, ?_⟩) (by assumption) ?_
        rotate_left
        · (intro ww hSw; (try dsimp only at hSw); go_simp; (try with_reducible rfl))
        try simp only [Act.put, List.setIfInBounds_toArray, List.set_cons_zero, List.set_cons_succ]
        refine wpAnyH_take (i := 4) (v := undef) (by simp only [List.getElem?_toArray, List.getElem?_cons_succ, List.getElem?_cons_zero]; rfl) (by kernel_rfl) (by kernel_rfl) (by kernel_rfl) (fun _ _ _ h => h) (Or.inr ⟨by rfl, rfl⟩) (by assumption) ?_
        try simp only [Act.put, List.setIfInBounds_toArray, List.set_cons_zero, List.set_cons_succ]
        refine wpAnyH_take (i := 5) (v := undef) (by simp only [List.getElem?_toArray, List.getElem?_cons_succ, List.getElem?_cons_zero]; rfl) (by kernel_rfl) (by kernel_rfl) (by kernel_rfl) (fun _ _ _ h => h) (Or.inr ⟨by rfl, rfl⟩) (by assumption) ?_
        try simp only [Act.put, List.setIfInBounds_toArray, List.set_cons_zero, List.set_cons_succ]
        refine wpAnyH_take (i := 6) (v := undef) (by simp only [List.getElem?_toArray, List.getElem?_cons_succ, List.getElem?_cons_zero]; rfl) (by kernel_rfl) (by kernel_rfl) (by kernel_rfl) (fun _ _ _ h => h) (Or.inr ⟨by rfl, rfl⟩) (by assumption) ?_
        try simp only [Act.put, List.setIfInBounds_toArray, List.set_cons_zero, List.set_cons_succ]
        refine wpAnyH_take (i := 7) (v := undef) (by simp only [List.getElem?_toArray, List.getElem?_cons_succ, List.getElem?_cons_zero]; rfl) (by kernel_rfl) (by kernel_rfl) (by kernel_rfl) (fun _ _ _ h => h) (Or.inr ⟨by rfl, rfl⟩) (by assumption) ?_
        try simp only [Act.put, List.setIfInBounds_toArray, List.set_cons_zero, List.set_cons_succ]
        refine wpAnyH_take (i := 8) (v := ?_) (by simp only [List.getElem?_toArray, List.getElem?_cons_succ, List.getElem?_cons_zero]; rfl) (by kernel_rfl) (by kernel_rfl) (by kernel_rfl) (fun _ _ _ h => h) (Or.inl ⟨by rfl, ?_⟩) (by assumption) ?_
        rotate_left
        · (intro ww hSw; (try dsimp only at hSw); go_simp; (try with_reducible rfl))
        try simp only [Act.put, List.setIfInBounds_toArray, List.set_cons_zero, List.set_cons_succ]
        refine wpAnyH_take (i := 9) (v := ?_) (by simp only [List.getElem?_toArray, List.getElem?_cons_succ, List.getElem?_cons_zero]; rfl) (by kernel_rfl) (by kernel_rfl) (by kernel_rfl) (fun _ _ _ h => h) (Or.inl ⟨by rfl, ?_⟩) (by assumption) ?_
        rotate_left
        · (intro ww hSw; (try dsimp only at hSw); go_simp; (try with_reducible rfl))
        try simp only [Act.put, List.setIfInBounds_toArray, List.set_cons_zero, List.set_cons_succ]
        refine wpAnyH_take (i := 10) (v := undef) (by simp only [List.getElem?_toArray, List.getElem?_cons_succ, List.getElem?_cons_zero]; rfl) (by kernel_rfl) (by kernel_rfl) (by kernel_rfl) (fun _ _ _ h => h) (Or.inr ⟨by rfl, rfl⟩) (by assumption) ?_
        try simp only [Act.put, List.setIfInBounds_toArray, List.set_cons_zero, List.set_cons_succ]
        refine wpAnyH_take (i := 11) (v := undef) (by simp only [List.getElem?_toArray, List.getElem?_cons_succ, List.getElem?_cons_zero]; rfl) (by kernel_rfl) (by kernel_rfl) (by kernel_rfl) (fun _ _ _ h => h) (Or.inr ⟨by rfl, rfl⟩) (by assumption) ?_
        try simp only [Act.put, List.setIfInBounds_toArray, List.set_cons_zero, List.set_cons_succ]
        refine wpAnyH_take (i := 12) (v := undef) (by simp only [List.getElem?_toArray, List.getElem?_cons_succ, List.getElem?_cons_zero]; rfl) (by kernel_rfl) (by kernel_rfl) (by kernel_rfl) (fun _ _ _ h => h) (Or.inr ⟨by rfl, rfl⟩) (by assumption) ?_
        try simp only [Act.put, List.setIfInBounds_toArray, List.set_cons_zero, List.set_cons_succ]
        refine wpAnyH_take (i := 13) (v := undef) (by simp only [List.getElem?_toArray, List.getElem?_cons_succ, List.getElem?_cons_zero]; rfl) (by kernel_rfl) (by kernel_rfl) (by kernel_rfl) (fun _ _ _ h => h) (Or.inr ⟨by rfl, rfl⟩) (by assumption) ?_
        try simp only [Act.put, List.setIfInBounds_toArray, List.set_cons_zero, List.set_cons_succ]
        refine wpAnyH_take (i := 14) (v := undef) (by simp only [List.getElem?_toArray, List.getElem?_cons_succ, List.getElem?_cons_zero]; rfl) (by kernel_rfl) (by kernel_rfl) (by kernel_rfl) (fun _ _ _ h => h) (Or.inr ⟨by rfl, rfl⟩) (by assumption) ?_
        try simp only [Act.put, List.setIfInBounds_toArray, List.set_cons_zero, List.set_cons_succ]
        refine wpAnyH_take (i := 15) (v := undef) (by simp only [List.getElem?_toArray, List.getElem?_cons_succ, List.getElem?_cons_zero]; rfl) (by kernel_rfl) (by kernel_rfl) (by kernel_rfl) (fun _ _ _ h => h) (Or.inr ⟨by rfl, rfl⟩) (by assumption) ?_
        try simp only [Act.put, List.setIfInBounds_toArray, List.set_cons_zero, List.set_cons_succ]
        refine wpAnyH_take (i := 16) (v := undef) (by simp only [List.getElem?_toArray, List.getElem?_cons_succ, List.getElem?_cons_zero]; rfl) (by kernel_rfl) (by kernel_rfl) (by kernel_rfl) (fun _ _ _ h => h) (Or.inr ⟨by rfl, rfl⟩) (by assumption) ?_
        try simp only [Act.put, List.setIfInBounds_toArray, List.set_cons_zero, List.set_cons_succ]
        refine wpAnyH_take (i := 17) (v := undef) (by simp only [List.getElem?_toArray, List.getElem?_cons_succ, List.getElem?_cons_zero]; rfl) (by kernel_rfl) (by kernel_rfl) (by kernel_rfl) (fun _ _ _ h => h) (Or.inr ⟨by rfl, rfl⟩) (by assumption) ?_
        try simp only [Act.put, List.setIfInBounds_toArray, List.set_cons_zero, List.set_cons_succ]
        refine wpAnyH_take (i := 18) (v := undef) (by simp only [List.getElem?_toArray, List.getElem?_cons_succ, List.getElem?_cons_zero]; rfl) (by kernel_rfl) (by kernel_rfl) (by kernel_rfl) (fun _ _ _ h => h) (Or.inr ⟨by rfl, rfl⟩) (by assumption) ?_
        try simp only [Act.put, List.setIfInBounds_toArray, List.set_cons_zero, List.set_cons_succ]
        refine wpAnyH_take (i := 19) (v := undef) (by simp only [List.getElem?_toArray, List.getElem?_cons_succ, List.getElem?_cons_zero]; rfl) (by kernel_rfl) (by kernel_rfl) (by kernel_rfl) (fun _ _ _ h => h) (Or.inr ⟨by rfl, rfl⟩) (by assumption) ?_
        try simp only [Act.put, List.setIfInBounds_toArray, List.set_cons_zero, List.set_cons_succ]
        refine wpAnyH_take (i := 20) (v := undef) (by simp only [List.getElem?_toArray, List.getElem?_cons_succ, List.getElem?_cons_zero]; rfl) (by kernel_rfl) (by kernel_rfl) (by kernel_rfl) (fun _ _ _ h => h) (Or.inr ⟨by rfl, rfl⟩) (by assumption) ?_
        try simp only [Act.put, List.setIfInBounds_toArray, List.set_cons_zero, List.set_cons_succ]
        refine wpAnyH_take (i := 21) (v := ?_) (by simp only [List.getElem?_toArray, List.getElem?_cons_succ, List.getElem?_cons_zero]; rfl) (by kernel_rfl) (by kernel_rfl) (by kernel_rfl) (fun _ _ _ h => h) (Or.inl ⟨by rfl, ?_⟩) (by assumption) ?_
        rotate_left
        · (intro ww hSw; (try dsimp only at hSw); go_simp; (try with_reducible rfl))
        try simp only [Act.put, List.setIfInBounds_toArray, List.set_cons_zero, List.set_cons_succ]
        refine wpAnyH_done (by kernel_rfl) ?_ _
        refine NoPanic.normal ?_
        clear hHeld hcH hlH hcC hlC hcA hlA
        have HB9 := Lib.hid (bdrew1 HB.out)
        generalize wr.drew = WR at *
        go_wp2_with fail
        go_roundw
        case rel => exact ⟨m + 1, by omega, by go_num, HB9.out⟩
        case measure => simp [intOf]; omega
      have hmi2 : ((m : Int) != (i : Int)) = true := by simp; omega
      by_cases hmk : m = k
      · have hmk2 : ((m : Int) != (k : Int)) = false := by simp [hmk]
        clear hmk hB
        go_wp2_with fail
        refine wp_region_noPanic ?_
        refine wp_region_held_drew (S := (fun w' => (∀ ii, w'.cell? ⟨w.heap.size, ii, none⟩ = (#[.slice pd.ex x.d.exits.length pd.exc, .slice pd.pl x.d.players.length pd.plc, .slice pd.co x.d.coins.length pd.coc, .slice pd.it x.d.items.length pd.itc, .slice pd.bo x.d.boxes.length pd.boc, .int .i64 x.d.room, .int .i64 x.d.player, .int .i64 x.d.box, .slice (some ⟨b, o, none⟩) x.at_.length pac, .slice (some ⟨kb, ko, none⟩) x.coins.length pkc, .slice pw x.wher.length pwc][ii]? : Option Value)) ∧ (∀ ii, w'.cell? ⟨w.heap.size + 1, ii, none⟩ = (#[.int .i64 kd, .int .i64 di, .int .i64 it, .int .i64 bx, .int .i64 (k : Int), .slice ga gl.length gc, .int .i64 pay, .slice wa wl.length wc, .int .i64 fee][ii]? : Option Value)) ∧ (∀ ii, w'.cell? ⟨u5.heap.size, ii, none⟩ = (#[.slice xd.ex x.d.exits.length xd.exc, .slice xd.pl x.d.players.length xd.plc, .slice xd.co x.d.coins.length xd.coc, .slice xd.it x.d.items.length xd.itc, .slice xd.bo x.d.boxes.length xd.boc, .int .i64 x.d.room, .int .i64 x.d.player, .int .i64 x.d.box, .slice xa x.at_.length xac, .slice (some ⟨zb, zo, none⟩) x.coins.length xkc, .slice xw x.wher.length xwc][ii]? : Option Value)))) (by kernel_rfl) (by (first | (exact ⟨hcH, hcC, hcA⟩))) (fun hHeld => ?_)
        refine wpAnyH_take (i := 0) (v := ?_) (by simp only [List.getElem?_toArray, List.getElem?_cons_zero]; rfl) (by kernel_rfl) (by kernel_rfl) (by kernel_rfl) (fun _ _ _ h => h) (Or.inl ⟨by rfl, ?_⟩) (by assumption) ?_
        rotate_left
        · (intro ww hSw; (try dsimp only at hSw); go_simp; (try with_reducible rfl))
        try simp only [Act.put, List.setIfInBounds_toArray, List.set_cons_zero, List.set_cons_succ]
        refine wpAnyH_take (i := 1) (v := ?_) (by simp only [List.getElem?_toArray, List.getElem?_cons_succ, List.getElem?_cons_zero]; rfl) (by kernel_rfl) (by kernel_rfl) (by kernel_rfl) (fun _ _ _ h => h) (Or.inl ⟨by rfl, ?_⟩) (by assumption) ?_
        rotate_left
        · (intro ww hSw; (try dsimp only at hSw); go_simp; (try with_reducible rfl))
        try simp only [Act.put, List.setIfInBounds_toArray, List.set_cons_zero, List.set_cons_succ]
        refine wpAnyH_take (i := 2) (v := ?_) (by simp only [List.getElem?_toArray, List.getElem?_cons_succ, List.getElem?_cons_zero]; rfl) (by kernel_rfl) (by kernel_rfl) (by kernel_rfl) (fun _ _ _ h => h) (Or.inl ⟨by rfl, ?_⟩) (by assumption) ?_
        rotate_left
        · (intro ww hSw; (try dsimp only at hSw); go_simp; (try with_reducible rfl))
        try simp only [Act.put, List.setIfInBounds_toArray, List.set_cons_zero, List.set_cons_succ]
        refine wpAnyH_take (i := 3) (v := ?_) (by simp only [List.getElem?_toArray, List.getElem?_cons_succ, List.getElem?_cons_zero]; rfl) (by kernel_rfl) (by kernel_rfl) (by kernel_rfl) (fun _ _ _ h => h) (Or.inl ⟨by rfl, ?_⟩) (by assumption) ?_
        rotate_left
        · (intro ww hSw; (try dsimp only at hSw); go_simp; (try with_reducible rfl))
        try simp only [Act.put, List.setIfInBounds_toArray, List.set_cons_zero, List.set_cons_succ]
        refine wpAnyH_take (i := 4) (v := ?_) (by simp only [List.getElem?_toArray, List.getElem?_cons_succ, List.getElem?_cons_zero]; rfl) (by kernel_rfl) (by kernel_rfl) (by kernel_rfl) (fun _ _ _ h => h) (Or.inl ⟨by rfl, ?_⟩) (by assumption) ?_
        rotate_left
        · (intro ww hSw; (try dsimp only at hSw); go_simp; (try with_reducible rfl))
        try simp only [Act.put, List.setIfInBounds_toArray, List.set_cons_zero, List.set_cons_succ]
        refine wpAnyH_take (i := 5) (v := ?_) (by simp only [List.getElem?_toArray, List.getElem?_cons_succ, List.getElem?_cons_zero]; rfl) (by kernel_rfl) (by kernel_rfl) (by kernel_rfl) (fun _ _ _ h => h) (Or.inl ⟨by rfl, ?_⟩) (by assumption) ?_
        rotate_left
        · (intro ww hSw; (try dsimp only at hSw); go_simp; (try with_reducible rfl))
        try simp only [Act.put, List.setIfInBounds_toArray, List.set_cons_zero, List.set_cons_succ]
        refine wpAnyH_take (i := 6) (v := ?_) (by simp only [List.getElem?_toArray, List.getElem?_cons_succ, List.getElem?_cons_zero]; rfl) (by kernel_rfl) (by kernel_rfl) (by kernel_rfl) (fun _ _ _ h => h) (Or.inl ⟨by rfl, ?_⟩) (by assumption) ?_
        rotate_left
        · (intro ww hSw; (try dsimp only at hSw); go_simp; (try with_reducible rfl))
        try simp only [Act.put, List.setIfInBounds_toArray, List.set_cons_zero, List.set_cons_succ]
        refine wpAnyH_take (i := 7) (v := ?_) (by simp only [List.getElem?_toArray, List.getElem?_cons_succ, List.getElem?_cons_zero]; rfl) (by kernel_rfl) (by kernel_rfl) (by kernel_rfl) (fun _ _ _ h => h) (Or.inl ⟨by rfl, ?_⟩) (by assumption) ?_
        rotate_left
        · (intro ww hSw; (try dsimp only at hSw); go_simp; (try with_reducible rfl))
        try simp only [Act.put, List.setIfInBounds_toArray, List.set_cons_zero, List.set_cons_succ]
        refine wpAnyH_take (i := 8) (v := ?_) (by simp only [List.getElem?_toArray, List.getElem?_cons_succ, List.getElem?_cons_zero]; rfl) (by kernel_rfl) (by kernel_rfl) (by kernel_rfl) (fun _ _ _ h => h) (Or.inl ⟨by rfl, ?_⟩) (by assumption) ?_
        rotate_left
        · (intro ww hSw; (try dsimp only at hSw); go_simp; (try with_reducible rfl))
        try simp only [Act.put, List.setIfInBounds_toArray, List.set_cons_zero, List.set_cons_succ]
        refine wpAnyH_take (i := 9) (v := ?_) (by simp only [List.getElem?_toArray, List.getElem?_cons_succ, List.getElem?_cons_zero]; rfl) (by kernel_rfl) (by kernel_rfl) (by kernel_rfl) (fun _ _ _ h => h) (Or.inl ⟨by rfl, ?_⟩) (by assumption) ?_
        rotate_left
        · (intro ww hSw; (try dsimp only at hSw); go_simp; (try with_reducible rfl))
        try simp only [Act.put, List.setIfInBounds_toArray, List.set_cons_zero, List.set_cons_succ]
        refine wpAnyH_take (i := 10) (v := undef) (by simp only [List.getElem?_toArray, List.getElem?_cons_succ, List.getElem?_cons_zero]; rfl) (by kernel_rfl) (by kernel_rfl) (by kernel_rfl) (fun _ _ _ h => h) (Or.inr ⟨by rfl, rfl⟩) (by assumption) ?_
        try simp only [Act.put, List.setIfInBounds_toArray, List.set_cons_zero, List.set_cons_succ]
        refine wpAnyH_take (i := 11) (v := undef) (by simp only [List.getElem?_toArray, List.getElem?_cons_succ, List.getElem?_cons_zero]; rfl) (by kernel_rfl) (by kernel_rfl) (by kernel_rfl) (fun _ _ _ h => h) (Or.inr ⟨by rfl, rfl⟩) (by assumption) ?_
        try simp only [Act.put, List.setIfInBounds_toArray, List.set_cons_zero, List.set_cons_succ]
        refine wpAnyH_take (i := 12) (v := undef) (by simp only [List.getElem?_toArray, List.getElem?_cons_succ, List.getElem?_cons_zero]; rfl) (by kernel_rfl) (by kernel_rfl) (by kernel_rfl) (fun _ _ _ h => h) (Or.inr ⟨by rfl, rfl⟩) (by assumption) ?_
        try simp only [Act.put, List.setIfInBounds_toArray, List.set_cons_zero, List.set_cons_succ]
        refine wpAnyH_take (i := 13) (v := undef) (by simp only [List.getElem?_toArray, List.getElem?_cons_succ, List.getElem?_cons_zero]; rfl) (by kernel_rfl) (by kernel_rfl) (by kernel_rfl) (fun _ _ _ h => h) (Or.inr ⟨by rfl, rfl⟩) (by assumption) ?_
        try simp only [Act.put, List.setIfInBounds_toArray, List.set_cons_zero, List.set_cons_succ]
        refine wpAnyH_take (i := 14) (v := undef) (by simp only [List.getElem?_toArray, List.getElem?_cons_succ, List.getElem?_cons_zero]; rfl) (by kernel_rfl) (by kernel_rfl) (by kernel_rfl) (fun _ _ _ h => h) (Or.inr ⟨by rfl, rfl⟩) (by assumption) ?_
        try simp only [Act.put, List.setIfInBounds_toArray, List.set_cons_zero, List.set_cons_succ]
        refine wpAnyH_take (i := 15) (v := undef) (by simp only [List.getElem?_toArray, List.getElem?_cons_succ, List.getElem?_cons_zero]; rfl) (by kernel_rfl) (by kernel_rfl) (by kernel_rfl) (fun _ _ _ h => h) (Or.inr ⟨by rfl, rfl⟩) (by assumption) ?_
        try simp only [Act.put, List.setIfInBounds_toArray, List.set_cons_zero, List.set_cons_succ]
        refine wpAnyH_take (i := 16) (v := undef) (by simp only [List.getElem?_toArray, List.getElem?_cons_succ, List.getElem?_cons_zero]; rfl) (by kernel_rfl) (by kernel_rfl) (by kernel_rfl) (fun _ _ _ h => h) (Or.inr ⟨by rfl, rfl⟩) (by assumption) ?_
        try simp only [Act.put, List.setIfInBounds_toArray, List.set_cons_zero, List.set_cons_succ]
        refine wpAnyH_take (i := 17) (v := undef) (by simp only [List.getElem?_toArray, List.getElem?_cons_succ, List.getElem?_cons_zero]; rfl) (by kernel_rfl) (by kernel_rfl) (by kernel_rfl) (fun _ _ _ h => h) (Or.inr ⟨by rfl, rfl⟩) (by assumption) ?_
        try simp only [Act.put, List.setIfInBounds_toArray, List.set_cons_zero, List.set_cons_succ]
        refine wpAnyH_take (i := 18) (v := undef) (by simp only [List.getElem?_toArray, List.getElem?_cons_succ, List.getElem?_cons_zero]; rfl) (by kernel_rfl) (by kernel_rfl) (by kernel_rfl) (fun _ _ _ h => h) (Or.inr ⟨by rfl, rfl⟩) (by assumption) ?_
        try simp only [Act.put, List.setIfInBounds_toArray, List.set_cons_zero, List.set_cons_succ]
        refine wpAnyH_take (i := 19) (v := undef) (by simp only [List.getElem?_toArray, List.getElem?_cons_succ, List.getElem?_cons_zero]; rfl) (by kernel_rfl) (by kernel_rfl) (by kernel_rfl) (fun _ _ _ h => h) (Or.inr ⟨by rfl, rfl⟩) (by assumption) ?_
        try simp only [Act.put, List.setIfInBounds_toArray, List.set_cons_zero, List.set_cons_succ]
        refine wpAnyH_take (i := 20) (v := undef) (by simp only [List.getElem?_toArray, List.getElem?_cons_succ, List.getElem?_cons_zero]; rfl) (by kernel_rfl) (by kernel_rfl) (by kernel_rfl) (fun _ _ _ h => h) (Or.inr ⟨by rfl, rfl⟩) (by assumption) ?_
        try simp only [Act.put, List.setIfInBounds_toArray, List.set_cons_zero, List.set_cons_succ]
        refine wpAnyH_take (i := 21) (v := ?_) (by simp only [List.getElem?_toArray, List.getElem?_cons_succ, List.getElem?_cons_zero]; rfl) (by kernel_rfl) (by kernel_rfl) (by kernel_rfl) (fun _ _ _ h => h) (Or.inl ⟨by rfl, ?_⟩) (by assumption) ?_
        rotate_left
        · (intro ww hSw; (try dsimp only at hSw); go_simp; (try with_reducible rfl))
        try simp only [Act.put, List.setIfInBounds_toArray, List.set_cons_zero, List.set_cons_succ]
        refine wpAnyH_done (by kernel_rfl) ?_ _
        refine NoPanic.normal ?_
        clear hHeld hcH hlH hcC hlC hcA hlA
        have HB9 := Lib.hid (bdrew1 HB.out)
        generalize wr.drew = WR at *
        go_wp2_with fail
        go_roundw
        case rel => exact ⟨m + 1, by omega, by go_num, HB9.out⟩
        case measure => simp [intOf]; omega
      · have hmk2 : ((m : Int) != (k : Int)) = true := by simp; omega
        obtain ⟨kb', ko', ek, -, hkc⟩ := HWA.out.co.at_ hlt
        simp only [Option.some.injEq, Addr.mk.injEq, and_true] at ek
        obtain ⟨rfl, rfl⟩ := ek
        obtain ⟨zb', zo', ez, -, hzc⟩ := YA_11.out.co.at_ (show m < y.coins.length by rw [HYC.out]; exact hlt)
        simp only [Option.some.injEq, Addr.mk.injEq, and_true] at ez
        obtain ⟨rfl, rfl⟩ := ez
        have d1 := cell_call (cell_call (hkc m hlt) B_11.out) hB
        have d2 := cell_call (hzc m (by rw [HYC.out]; exact hlt)) hB
        have e1 : x.coins[m] = coinOf x m := by simp [coinOf, List.getD, List.getElem?_eq_getElem hlt]
        have e2 : y.coins[m]'(by rw [HYC.out]; exact hlt) = coinOf y m := by simp [coinOf, List.getD, List.getElem?_eq_getElem (show m < y.coins.length by rw [HYC.out]; exact hlt)]
        rw [e1] at d1
        rw [e2, CN.out m hmi hmk] at d2
        generalize coinOf x m = cm at *
        clear e1 e2 hkc hzc hmi hmk hB
        have qm1 : ¬ (x.coins.length : Int) ≤ (m : Int) := by omega
        have qm2 : (x.coins.length ≤ m) = False := by simp; omega
        go_wp2_with fail
        refine wp_region_noPanic ?_
        refine wp_region_held_drew (S := (fun w' => (∀ ii, w'.cell? ⟨w.heap.size, ii, none⟩ = (#[.slice pd.ex x.d.exits.length pd.exc, .slice pd.pl x.d.players.length pd.plc, .slice pd.co x.d.coins.length pd.coc, .slice pd.it x.d.items.length pd.itc, .slice pd.bo x.d.boxes.length pd.boc, .int .i64 x.d.room, .int .i64 x.d.player, .int .i64 x.d.box, .slice (some ⟨b, o, none⟩) x.at_.length pac, .slice (some ⟨kb, ko, none⟩) x.coins.length pkc, .slice pw x.wher.length pwc][ii]? : Option Value)) ∧ (∀ ii, w'.cell? ⟨w.heap.size + 1, ii, none⟩ = (#[.int .i64 kd, .int .i64 di, .int .i64 it, .int .i64 bx, .int .i64 (k : Int), .slice ga gl.length gc, .int .i64 pay, .slice wa wl.length wc, .int .i64 fee][ii]? : Option Value)) ∧ (∀ ii, w'.cell? ⟨u5.heap.size, ii, none⟩ = (#[.slice xd.ex x.d.exits.length xd.exc, .slice xd.pl x.d.players.length xd.plc, .slice xd.co x.d.coins.length xd.coc, .slice xd.it x.d.items.length xd.itc, .slice xd.bo x.d.boxes.length xd.boc, .int .i64 x.d.room, .int .i64 x.d.player, .int .i64 x.d.box, .slice xa x.at_.length xac, .slice (some ⟨zb, zo, none⟩) x.coins.length xkc, .slice xw x.wher.length xwc][ii]? : Option Value)) ∧ w'.cell? ⟨kb, ko + m, none⟩ = some (.int .i64 cm) ∧ w'.cell? ⟨zb, zo + m, none⟩ = some (.int .i64 cm))) (by kernel_rfl) (by (first | (exact ⟨hcH, hcC, hcA, d1, d2⟩))) (fun hHeld => ?_)
        refine wpAnyH_take (i := 0) (v := ?_) (by simp only [List.getElem?_toArray, List.getElem?_cons_zero]; rfl) (by kernel_rfl) (by kernel_rfl) (by kernel_rfl) (fun _ _ _ h => h) (Or.inl ⟨by rfl, ?_⟩) (by assumption) ?_
        rotate_left
        · (intro ww hSw; (try dsimp only at hSw); go_simp; (try with_reducible rfl))
        try simp only [Act.put, List.setIfInBounds_toArray, List.set_cons_zero, List.set_cons_succ]
        refine wpAnyH_take (i := 1) (v := ?_) (by simp only [List.getElem?_toArray, List.getElem?_cons_succ, List.getElem?_cons_zero]; rfl) (by kernel_rfl) (by kernel_rfl) (by kernel_rfl) (fun _ _ _ h => h) (Or.inl ⟨by rfl, ?_⟩) (by assumption) ?_
        rotate_left
        · (intro ww hSw; (try dsimp only at hSw); go_simp; (try with_reducible rfl))
        try simp only [Act.put, List.setIfInBounds_toArray, List.set_cons_zero, List.set_cons_succ]
        refine wpAnyH_take (i := 2) (v := ?_) (by simp only [List.getElem?_toArray, List.getElem?_cons_succ, List.getElem?_cons_zero]; rfl) (by kernel_rfl) (by kernel_rfl) (by kernel_rfl) (fun _ _ _ h => h) (Or.inl ⟨by rfl, ?_⟩) (by assumption) ?_
        rotate_left
        · (intro ww hSw; (try dsimp only at hSw); go_simp; (try with_reducible rfl))
        try simp only [Act.put, List.setIfInBounds_toArray, List.set_cons_zero, List.set_cons_succ]
        refine wpAnyH_take (i := 3) (v := ?_) (by simp only [List.getElem?_toArray, List.getElem?_cons_succ, List.getElem?_cons_zero]; rfl) (by kernel_rfl) (by kernel_rfl) (by kernel_rfl) (fun _ _ _ h => h) (Or.inl ⟨by rfl, ?_⟩) (by assumption) ?_
        rotate_left
        · (intro ww hSw; (try dsimp only at hSw); go_simp; (try with_reducible rfl))
        try simp only [Act.put, List.setIfInBounds_toArray, List.set_cons_zero, List.set_cons_succ]
        refine wpAnyH_take (i := 4) (v := ?_) (by simp only [List.getElem?_toArray, List.getElem?_cons_succ, List.getElem?_cons_zero]; rfl) (by kernel_rfl) (by kernel_rfl) (by kernel_rfl) (fun _ _ _ h => h) (Or.inl ⟨by rfl, ?_⟩) (by assumption) ?_
        rotate_left
        · (intro ww hSw; (try dsimp only at hSw); go_simp; (try with_reducible rfl))
        try simp only [Act.put, List.setIfInBounds_toArray, List.set_cons_zero, List.set_cons_succ]
        refine wpAnyH_take (i := 5) (v := ?_) (by simp only [List.getElem?_toArray, List.getElem?_cons_succ, List.getElem?_cons_zero]; rfl) (by kernel_rfl) (by kernel_rfl) (by kernel_rfl) (fun _ _ _ h => h) (Or.inl ⟨by rfl, ?_⟩) (by assumption) ?_
        rotate_left
        · (intro ww hSw; (try dsimp only at hSw); go_simp; (try with_reducible rfl))
        try simp only [Act.put, List.setIfInBounds_toArray, List.set_cons_zero, List.set_cons_succ]
        refine wpAnyH_take (i := 6) (v := ?_) (by simp only [List.getElem?_toArray, List.getElem?_cons_succ, List.getElem?_cons_zero]; rfl) (by kernel_rfl) (by kernel_rfl) (by kernel_rfl) (fun _ _ _ h => h) (Or.inl ⟨by rfl, ?_⟩) (by assumption) ?_
        rotate_left
        · (intro ww hSw; (try dsimp only at hSw); go_simp; (try with_reducible rfl))
        try simp only [Act.put, List.setIfInBounds_toArray, List.set_cons_zero, List.set_cons_succ]
        refine wpAnyH_take (i := 7) (v := ?_) (by simp only [List.getElem?_toArray, List.getElem?_cons_succ, List.getElem?_cons_zero]; rfl) (by kernel_rfl) (by kernel_rfl) (by kernel_rfl) (fun _ _ _ h => h) (Or.inl ⟨by rfl, ?_⟩) (by assumption) ?_
        rotate_left
        · (intro ww hSw; (try dsimp only at hSw); go_simp; (try with_reducible rfl))
        try simp only [Act.put, List.setIfInBounds_toArray, List.set_cons_zero, List.set_cons_succ]
        refine wpAnyH_take (i := 8) (v := ?_) (by simp only [List.getElem?_toArray, List.getElem?_cons_succ, List.getElem?_cons_zero]; rfl) (by kernel_rfl) (by kernel_rfl) (by kernel_rfl) (fun _ _ _ h => h) (Or.inl ⟨by rfl, ?_⟩) (by assumption) ?_
        rotate_left
        · (intro ww hSw; (try dsimp only at hSw); go_simp; (try with_reducible rfl))
        try simp only [Act.put, List.setIfInBounds_toArray, List.set_cons_zero, List.set_cons_succ]
        refine wpAnyH_take (i := 9) (v := ?_) (by simp only [List.getElem?_toArray, List.getElem?_cons_succ, List.getElem?_cons_zero]; rfl) (by kernel_rfl) (by kernel_rfl) (by kernel_rfl) (fun _ _ _ h => h) (Or.inl ⟨by rfl, ?_⟩) (by assumption) ?_
        rotate_left
        · (intro ww hSw; (try dsimp only at hSw); go_simp; (try with_reducible rfl))
        try simp only [Act.put, List.setIfInBounds_toArray, List.set_cons_zero, List.set_cons_succ]
        refine wpAnyH_take (i := 10) (v := ?_) (by simp only [List.getElem?_toArray, List.getElem?_cons_succ, List.getElem?_cons_zero]; rfl) (by kernel_rfl) (by kernel_rfl) (by kernel_rfl) (fun _ _ _ h => h) (Or.inl ⟨by rfl, ?_⟩) (by assumption) ?_
        rotate_left
        · (intro ww hSw; (try dsimp only at hSw); go_simp; (try with_reducible rfl))
        try simp only [Act.put, List.setIfInBounds_toArray, List.set_cons_zero, List.set_cons_succ]
        refine wpAnyH_take (i := 11) (v := ?_) (by simp only [List.getElem?_toArray, List.getElem?_cons_succ, List.getElem?_cons_zero]; rfl) (by kernel_rfl) (by kernel_rfl) (by kernel_rfl) (fun _ _ _ h => h) (Or.inl ⟨by rfl, ?_⟩) (by assumption) ?_
        rotate_left
        · (intro ww hSw; (try dsimp only at hSw); go_simp; (try with_reducible rfl))
        try simp only [Act.put, List.setIfInBounds_toArray, List.set_cons_zero, List.set_cons_succ]
        refine wpAnyH_take (i := 12) (v := ?_) (by simp only [List.getElem?_toArray, List.getElem?_cons_succ, List.getElem?_cons_zero]; rfl) (by kernel_rfl) (by kernel_rfl) (by kernel_rfl) (fun _ _ _ h => h) (Or.inl ⟨by rfl, ?_⟩) (by assumption) ?_
        rotate_left
        · (intro ww hSw; (try dsimp only at hSw); go_simp; (try with_reducible rfl))
        try simp only [Act.put, List.setIfInBounds_toArray, List.set_cons_zero, List.set_cons_succ]
        refine wpAnyH_take (i := 13) (v := ?_) (by simp only [List.getElem?_toArray, List.getElem?_cons_succ, List.getElem?_cons_zero]; rfl) (by kernel_rfl) (by kernel_rfl) (by kernel_rfl) (fun _ _ _ h => h) (Or.inl ⟨by rfl, ?_⟩) (by assumption) ?_
        rotate_left
        · (intro ww hSw; (try dsimp only at hSw); go_simp; (try with_reducible rfl))
        try simp only [Act.put, List.setIfInBounds_toArray, List.set_cons_zero, List.set_cons_succ]
        refine wpAnyH_take (i := 14) (v := ?_) (by simp only [List.getElem?_toArray, List.getElem?_cons_succ, List.getElem?_cons_zero]; rfl) (by kernel_rfl) (by kernel_rfl) (by kernel_rfl) (fun _ _ _ h => h) (Or.inl ⟨by rfl, ?_⟩) (by assumption) ?_
        rotate_left
        · (intro ww hSw; (try dsimp only at hSw); go_simp; (try with_reducible rfl))
        try simp only [Act.put, List.setIfInBounds_toArray, List.set_cons_zero, List.set_cons_succ]
        refine wpAnyH_take (i := 15) (v := ?_) (by simp only [List.getElem?_toArray, List.getElem?_cons_succ, List.getElem?_cons_zero]; rfl) (by kernel_rfl) (by kernel_rfl) (by kernel_rfl) (fun _ _ _ h => h) (Or.inl ⟨by rfl, ?_⟩) (by assumption) ?_
        rotate_left
        · (intro ww hSw; (try dsimp only at hSw); go_simp; (try with_reducible rfl))
        try simp only [Act.put, List.setIfInBounds_toArray, List.set_cons_zero, List.set_cons_succ]
        refine wpAnyH_take (i := 16) (v := ?_) (by simp only [List.getElem?_toArray, List.getElem?_cons_succ, List.getElem?_cons_zero]; rfl) (by kernel_rfl) (by kernel_rfl) (by kernel_rfl) (fun _ _ _ h => h) (Or.inl ⟨by rfl, ?_⟩) (by assumption) ?_
        rotate_left
        · (intro ww hSw; (try dsimp only at hSw); go_simp; (try with_reducible rfl))
        try simp only [Act.put, List.setIfInBounds_toArray, List.set_cons_zero, List.set_cons_succ]
        refine wpAnyH_take (i := 17) (v := ?_) (by simp only [List.getElem?_toArray, List.getElem?_cons_succ, List.getElem?_cons_zero]; rfl) (by kernel_rfl) (by kernel_rfl) (by kernel_rfl) (fun _ _ _ h => h) (Or.inl ⟨by rfl, ?_⟩) (by assumption) ?_
        rotate_left
        · (intro ww hSw; (try dsimp only at hSw); go_simp; (try with_reducible rfl))
        try simp only [Act.put, List.setIfInBounds_toArray, List.set_cons_zero, List.set_cons_succ]
        refine wpAnyH_take (i := 18) (v := ?_) (by simp only [List.getElem?_toArray, List.getElem?_cons_succ, List.getElem?_cons_zero]; rfl) (by kernel_rfl) (by kernel_rfl) (by kernel_rfl) (fun _ _ _ h => h) (Or.inl ⟨by rfl, ?_⟩) (by assumption) ?_
        rotate_left
        · (intro ww hSw; (try dsimp only at hSw); go_simp; (try with_reducible rfl))
        try simp only [Act.put, List.setIfInBounds_toArray, List.set_cons_zero, List.set_cons_succ]
        refine wpAnyH_take (i := 19) (v := ?_) (by simp only [List.getElem?_toArray, List.getElem?_cons_succ, List.getElem?_cons_zero]; rfl) (by kernel_rfl) (by kernel_rfl) (by kernel_rfl) (fun _ _ _ h => h) (Or.inl ⟨by rfl, ?_⟩) (by assumption) ?_
        rotate_left
        · (intro ww hSw; (try dsimp only at hSw); go_simp; (try with_reducible rfl))
        try simp only [Act.put, List.setIfInBounds_toArray, List.set_cons_zero, List.set_cons_succ]
        refine wpAnyH_take (i := 20) (v := ?_) (by simp only [List.getElem?_toArray, List.getElem?_cons_succ, List.getElem?_cons_zero]; rfl) (by kernel_rfl) (by kernel_rfl) (by kernel_rfl) (fun _ _ _ h => h) (Or.inl ⟨by rfl, ?_⟩) (by assumption) ?_
        rotate_left
        · (intro ww hSw; (try dsimp only at hSw); go_simp; (try with_reducible rfl))
        try simp only [Act.put, List.setIfInBounds_toArray, List.set_cons_zero, List.set_cons_succ]
        refine wpAnyH_take (i := 21) (v := ?_) (by simp only [List.getElem?_toArray, List.getElem?_cons_succ, List.getElem?_cons_zero]; rfl) (by kernel_rfl) (by kernel_rfl) (by kernel_rfl) (fun _ _ _ h => h) (Or.inl ⟨by rfl, ?_⟩) (by assumption) ?_
        rotate_left
        · (intro ww hSw; (try dsimp only at hSw); go_simp; (try with_reducible rfl))
        try simp only [Act.put, List.setIfInBounds_toArray, List.set_cons_zero, List.set_cons_succ]
        refine wpAnyH_done (by kernel_rfl) ?_ _
        refine NoPanic.normal ?_
        clear hHeld hcH hlH hcC hlC hcA hlA d1 d2
        have HB9 := Lib.hid (bdrew1 HB.out)
        generalize wr.drew = WR at *
        go_wp2_with fail
        go_roundw
        case rel => exact ⟨m + 1, by omega, by go_num, HB9.out⟩
        case measure => simp [intOf]; omega
    · have hme : x.coins.length = m := by omega
      subst hme
      clear HVR
      have BB := Lib.hid hB
      clear hcH hlH hcC hlC hcA hlA hB HB
      have B_12 := Lib.hid (bl B_11.out BB.out)
      have H_12 := Lib.hid (H_11.out.call BB.out)
      have C_12 := Lib.hid (C_11.out.call BB.out)
      have A_12 := Lib.hid (A_11.out.call BB.out)
      have YA_12 := Lib.hid (YA_11.out.call BB.out)
      clear BB B_11 H_11 C_11 A_11 YA_11
      have hcH := H_12.out.2.2
      have hlH := H_12.out.2.1
      have hcC := C_12.out.2.2
      have hlC := C_12.out.2.1
      have hcA := A_12.out.2.2
      have hlA := A_12.out.2.1
      go_wp2_with fail
      clear hcH hlH hcC hlC hcA hlA
      have s13 : (wr.alloc (.cells #[.int .i64 8, .int .i64 0, .int .i64 0, .int .i64 0, .int .i64 (i : Int), .slice ga gl.length gc, .int .i64 pay, .slice wa wl.length wc, .int .i64 fee] 31)).heap.size = wr.heap.size + 1 := by simp
      have B_13 := Lib.hid (B_12.out.alloc B_12.out.size (.cells #[.int .i64 8, .int .i64 0, .int .i64 0, .int .i64 0, .int .i64 (i : Int), .slice ga gl.length gc, .int .i64 pay, .slice wa wl.length wc, .int .i64 fee] 31))
      have H_13 := Lib.hid (H_12.out.alloc (.cells #[.int .i64 8, .int .i64 0, .int .i64 0, .int .i64 0, .int .i64 (i : Int), .slice ga gl.length gc, .int .i64 pay, .slice wa wl.length wc, .int .i64 fee] 31))
      have C_13 := Lib.hid (C_12.out.alloc (.cells #[.int .i64 8, .int .i64 0, .int .i64 0, .int .i64 0, .int .i64 (i : Int), .slice ga gl.length gc, .int .i64 pay, .slice wa wl.length wc, .int .i64 fee] 31))
      have A_13 := Lib.hid (A_12.out.alloc (.cells #[.int .i64 8, .int .i64 0, .int .i64 0, .int .i64 0, .int .i64 (i : Int), .slice ga gl.length gc, .int .i64 pay, .slice wa wl.length wc, .int .i64 fee] 31))
      have YA_13 := Lib.hid (YA_12.out.call ((Below.refl _ _).alloc (Nat.le_refl _) (.cells #[.int .i64 8, .int .i64 0, .int .i64 0, .int .i64 0, .int .i64 (i : Int), .slice ga gl.length gc, .int .i64 pay, .slice wa wl.length wc, .int .i64 fee] 31)))
      clear B_12 H_12 C_12 A_12 YA_12
      generalize wr.alloc (.cells #[.int .i64 8, .int .i64 0, .int .i64 0, .int .i64 0, .int .i64 (i : Int), .slice ga gl.length gc, .int .i64 pay, .slice wa wl.length wc, .int .i64 fee] 31) = V10 at *
      have hcH := H_13.out.2.2
      have hlH := H_13.out.2.1
      have hcC := C_13.out.2.2
      have hlC := C_13.out.2.1
      have hcA := A_13.out.2.2
      have hlA := A_13.out.2.1
      refine (trade_as SY.out ⟨xd, xa, xac, some ⟨zb, zo, none⟩, xkc, xw, xwc⟩ k _ RY.out YA_13.out (by rw [SY.out.at_]; exact HKL.out) 8 0 0 0 (i : Int) pay fee gl wl ga wa gc wc (HG.out.below B_13.out (Nat.le_refl _)) (HW.out.below B_13.out (Nat.le_refl _)) HLG.out HLW.out BACK.out).mono ?_
      rintro e u11 ⟨q11, rfl, g11, b11⟩
      clear hcH hlH hcC hlC hcA hlA
      have B_14 := Lib.hid (bl B_13.out b11)
      have H_14 := Lib.hid (H_13.out.call b11)
      have C_14 := Lib.hid (C_13.out.call b11)
      have A_14 := Lib.hid (A_13.out.call b11)
      have YA_14 := Lib.hid (YA_13.out.call b11)
      have YC_14 := Lib.hid g11
      clear b11 B_13 H_13 C_13 A_13 YA_13 g11
      have hcH := H_14.out.2.2
      have hlH := H_14.out.2.1
      have hcC := C_14.out.2.2
      have hlC := C_14.out.2.1
      have hcA := A_14.out.2.2
      have hlA := A_14.out.2.1
      go_wp2_with fail
      clear hcH hlH hcC hlC hcA hlA
      have s15 : (u11.alloc (.cells #[.slice q11.d.ex x.d.exits.length q11.d.exc, .slice q11.d.pl x.d.players.length q11.d.plc, .slice q11.d.co x.d.coins.length q11.d.coc, .slice q11.d.it x.d.items.length q11.d.itc, .slice q11.d.bo x.d.boxes.length q11.d.boc, .int .i64 x.d.room, .int .i64 x.d.player, .int .i64 x.d.box, .slice q11.at_ x.at_.length q11.atc, .slice q11.co x.coins.length q11.coc, .slice q11.wh x.wher.length q11.whc] 29)).heap.size = u11.heap.size + 1 := by simp
      have B_15 := Lib.hid (B_14.out.alloc B_14.out.size (.cells #[.slice q11.d.ex x.d.exits.length q11.d.exc, .slice q11.d.pl x.d.players.length q11.d.plc, .slice q11.d.co x.d.coins.length q11.d.coc, .slice q11.d.it x.d.items.length q11.d.itc, .slice q11.d.bo x.d.boxes.length q11.d.boc, .int .i64 x.d.room, .int .i64 x.d.player, .int .i64 x.d.box, .slice q11.at_ x.at_.length q11.atc, .slice q11.co x.coins.length q11.coc, .slice q11.wh x.wher.length q11.whc] 29))
      have H_15 := Lib.hid (H_14.out.alloc (.cells #[.slice q11.d.ex x.d.exits.length q11.d.exc, .slice q11.d.pl x.d.players.length q11.d.plc, .slice q11.d.co x.d.coins.length q11.d.coc, .slice q11.d.it x.d.items.length q11.d.itc, .slice q11.d.bo x.d.boxes.length q11.d.boc, .int .i64 x.d.room, .int .i64 x.d.player, .int .i64 x.d.box, .slice q11.at_ x.at_.length q11.atc, .slice q11.co x.coins.length q11.coc, .slice q11.wh x.wher.length q11.whc] 29))
      have C_15 := Lib.hid (C_14.out.alloc (.cells #[.slice q11.d.ex x.d.exits.length q11.d.exc, .slice q11.d.pl x.d.players.length q11.d.plc, .slice q11.d.co x.d.coins.length q11.d.coc, .slice q11.d.it x.d.items.length q11.d.itc, .slice q11.d.bo x.d.boxes.length q11.d.boc, .int .i64 x.d.room, .int .i64 x.d.player, .int .i64 x.d.box, .slice q11.at_ x.at_.length q11.atc, .slice q11.co x.coins.length q11.coc, .slice q11.wh x.wher.length q11.whc] 29))
      have A_15 := Lib.hid (A_14.out.alloc (.cells #[.slice q11.d.ex x.d.exits.length q11.d.exc, .slice q11.d.pl x.d.players.length q11.d.plc, .slice q11.d.co x.d.coins.length q11.d.coc, .slice q11.d.it x.d.items.length q11.d.itc, .slice q11.d.bo x.d.boxes.length q11.d.boc, .int .i64 x.d.room, .int .i64 x.d.player, .int .i64 x.d.box, .slice q11.at_ x.at_.length q11.atc, .slice q11.co x.coins.length q11.coc, .slice q11.wh x.wher.length q11.whc] 29))
      have YA_15 := Lib.hid (YA_14.out.call ((Below.refl _ _).alloc (Nat.le_refl _) (.cells #[.slice q11.d.ex x.d.exits.length q11.d.exc, .slice q11.d.pl x.d.players.length q11.d.plc, .slice q11.d.co x.d.coins.length q11.d.coc, .slice q11.d.it x.d.items.length q11.d.itc, .slice q11.d.bo x.d.boxes.length q11.d.boc, .int .i64 x.d.room, .int .i64 x.d.player, .int .i64 x.d.box, .slice q11.at_ x.at_.length q11.atc, .slice q11.co x.coins.length q11.coc, .slice q11.wh x.wher.length q11.whc] 29)))
      have YC_15 := Lib.hid (YC_14.out.call ((Below.refl _ _).alloc (Nat.le_refl _) (.cells #[.slice q11.d.ex x.d.exits.length q11.d.exc, .slice q11.d.pl x.d.players.length q11.d.plc, .slice q11.d.co x.d.coins.length q11.d.coc, .slice q11.d.it x.d.items.length q11.d.itc, .slice q11.d.bo x.d.boxes.length q11.d.boc, .int .i64 x.d.room, .int .i64 x.d.player, .int .i64 x.d.box, .slice q11.at_ x.at_.length q11.atc, .slice q11.co x.coins.length q11.coc, .slice q11.wh x.wher.length q11.whc] 29)))
      have E_15 := Lib.hid (Holds.newb (w := w) (A := #[.slice q11.d.ex x.d.exits.length q11.d.exc, .slice q11.d.pl x.d.players.length q11.d.plc, .slice q11.d.co x.d.coins.length q11.d.coc, .slice q11.d.it x.d.items.length q11.d.itc, .slice q11.d.bo x.d.boxes.length q11.d.boc, .int .i64 x.d.room, .int .i64 x.d.player, .int .i64 x.d.box, .slice q11.at_ x.at_.length q11.atc, .slice q11.co x.coins.length q11.coc, .slice q11.wh x.wher.length q11.whc]) (t := 29) (n := u11.heap.size) B_14.out rfl)
      clear B_14 H_14 C_14 A_14 YA_14 YC_14
      generalize u11.alloc (.cells #[.slice q11.d.ex x.d.exits.length q11.d.exc, .slice q11.d.pl x.d.players.length q11.d.plc, .slice q11.d.co x.d.coins.length q11.d.coc, .slice q11.d.it x.d.items.length q11.d.itc, .slice q11.d.bo x.d.boxes.length q11.d.boc, .int .i64 x.d.room, .int .i64 x.d.player, .int .i64 x.d.box, .slice q11.at_ x.at_.length q11.atc, .slice q11.co x.coins.length q11.coc, .slice q11.wh x.wher.length q11.whc] 29) = V12 at *
      have hcH := H_15.out.2.2
      have hlH := H_15.out.2.1
      have hcC := C_15.out.2.2
      have hlC := C_15.out.2.1
      have hcA := A_15.out.2.2
      have hlA := A_15.out.2.1
      have hcE := E_15.out.2.2
      have hlE := E_15.out.2.1
      clear hcH hlH hcC hlC hcA hlA hcE hlE
      obtain ⟨kb', ko', ek, -, hkc⟩ := HWA.out.co.at_ LI.out
      simp only [Option.some.injEq, Addr.mk.injEq, and_true] at ek
      obtain ⟨rfl, rfl⟩ := ek
      have hyl : i < y.coins.length := by rw [HYC.out]; exact LI.out
      obtain ⟨zb', zo', ez, -, hzc⟩ := YA_15.out.co.at_ hyl
      simp only [Option.some.injEq, Addr.mk.injEq, and_true] at ez
      obtain ⟨rfl, rfl⟩ := ez
      have d1 := cell_call (hkc i LI.out) B_15.out
      have d2 := hzc i hyl
      have e1 : x.coins[i]'LI.out = ci := by rw [← HCI.out]; simp [coinOf, List.getD, List.getElem?_eq_getElem LI.out]
      have e2 : y.coins[i] = ci - pay + fee := by rw [← HYI.out]; simp [coinOf, List.getD, List.getElem?_eq_getElem hyl]
      rw [e1] at d1
      rw [e2] at d2
      clear e1 e2 hkc hzc hyl
      have qi1 : ¬ (x.coins.length : Int) ≤ (i : Int) := by have := LI.out; omega
      have qi2 : (x.coins.length ≤ i) = False := by have := LI.out; simp; omega
      have hw1 : IntKind.i64.wrap (ci - pay) = ci - pay := IntWalk.i64_in _ (by omega)
      have hw2 : IntKind.i64.wrap (ci - pay + fee) = ci - pay + fee := IntWalk.i64_in _ (by omega)
      have DD1 := Lib.hid d1
      have DD2 := Lib.hid d2
      clear d1 d2
      have KS : Hid (∀ w', Below V12.heap.size V12 w' → Below V12.heap.size V12 w' ∧ (∀ ii, w'.cell? ⟨w.heap.size, ii, none⟩ = (#[.slice pd.ex x.d.exits.length pd.exc, .slice pd.pl x.d.players.length pd.plc, .slice pd.co x.d.coins.length pd.coc, .slice pd.it x.d.items.length pd.itc, .slice pd.bo x.d.boxes.length pd.boc, .int .i64 x.d.room, .int .i64 x.d.player, .int .i64 x.d.box, .slice (some ⟨b, o, none⟩) x.at_.length pac, .slice (some ⟨kb, ko, none⟩) x.coins.length pkc, .slice pw x.wher.length pwc][ii]? : Option Value)) ∧ (∀ ii, w'.cell? ⟨w.heap.size + 1, ii, none⟩ = (#[.int .i64 kd, .int .i64 di, .int .i64 it, .int .i64 bx, .int .i64 (k : Int), .slice ga gl.length gc, .int .i64 pay, .slice wa wl.length wc, .int .i64 fee][ii]? : Option Value)) ∧ (∀ ii, w'.cell? ⟨u5.heap.size, ii, none⟩ = (#[.slice xd.ex x.d.exits.length xd.exc, .slice xd.pl x.d.players.length xd.plc, .slice xd.co x.d.coins.length xd.coc, .slice xd.it x.d.items.length xd.itc, .slice xd.bo x.d.boxes.length xd.boc, .int .i64 x.d.room, .int .i64 x.d.player, .int .i64 x.d.box, .slice xa x.at_.length xac, .slice (some ⟨zb, zo, none⟩) x.coins.length xkc, .slice xw x.wher.length xwc][ii]? : Option Value)) ∧ (∀ ii, w'.cell? ⟨u11.heap.size, ii, none⟩ = (#[.slice q11.d.ex x.d.exits.length q11.d.exc, .slice q11.d.pl x.d.players.length q11.d.plc, .slice q11.d.co x.d.coins.length q11.d.coc, .slice q11.d.it x.d.items.length q11.d.itc, .slice q11.d.bo x.d.boxes.length q11.d.boc, .int .i64 x.d.room, .int .i64 x.d.player, .int .i64 x.d.box, .slice q11.at_ x.at_.length q11.atc, .slice q11.co x.coins.length q11.coc, .slice q11.wh x.wher.length q11.whc][ii]? : Option Value)) ∧ w'.cell? ⟨kb, ko + i, none⟩ = some (.int .i64 ci) ∧ w'.cell? ⟨zb, zo + i, none⟩ = some (.int .i64 (ci - pay + fee))) := Lib.hid (fun w' hb => ⟨hb, fun ii => (hb.cell (p := ⟨w.heap.size, ii, none⟩) H_15.out.2.1).trans (H_15.out.2.2 ii), fun ii => (hb.cell (p := ⟨w.heap.size + 1, ii, none⟩) C_15.out.2.1).trans (C_15.out.2.2 ii), fun ii => (hb.cell (p := ⟨u5.heap.size, ii, none⟩) A_15.out.2.1).trans (A_15.out.2.2 ii), fun ii => (hb.cell (p := ⟨u11.heap.size, ii, none⟩) E_15.out.2.1).trans (E_15.out.2.2 ii), cell_call DD1.out hb, cell_call DD2.out hb⟩)
      refine wp_region_noPanic ?_
      refine wp_region_held_drew (S := (fun w' => Below V12.heap.size V12 w' ∧ (∀ ii, w'.cell? ⟨w.heap.size, ii, none⟩ = (#[.slice pd.ex x.d.exits.length pd.exc, .slice pd.pl x.d.players.length pd.plc, .slice pd.co x.d.coins.length pd.coc, .slice pd.it x.d.items.length pd.itc, .slice pd.bo x.d.boxes.length pd.boc, .int .i64 x.d.room, .int .i64 x.d.player, .int .i64 x.d.box, .slice (some ⟨b, o, none⟩) x.at_.length pac, .slice (some ⟨kb, ko, none⟩) x.coins.length pkc, .slice pw x.wher.length pwc][ii]? : Option Value)) ∧ (∀ ii, w'.cell? ⟨w.heap.size + 1, ii, none⟩ = (#[.int .i64 kd, .int .i64 di, .int .i64 it, .int .i64 bx, .int .i64 (k : Int), .slice ga gl.length gc, .int .i64 pay, .slice wa wl.length wc, .int .i64 fee][ii]? : Option Value)) ∧ (∀ ii, w'.cell? ⟨u5.heap.size, ii, none⟩ = (#[.slice xd.ex x.d.exits.length xd.exc, .slice xd.pl x.d.players.length xd.plc, .slice xd.co x.d.coins.length xd.coc, .slice xd.it x.d.items.length xd.itc, .slice xd.bo x.d.boxes.length xd.boc, .int .i64 x.d.room, .int .i64 x.d.player, .int .i64 x.d.box, .slice xa x.at_.length xac, .slice (some ⟨zb, zo, none⟩) x.coins.length xkc, .slice xw x.wher.length xwc][ii]? : Option Value)) ∧ (∀ ii, w'.cell? ⟨u11.heap.size, ii, none⟩ = (#[.slice q11.d.ex x.d.exits.length q11.d.exc, .slice q11.d.pl x.d.players.length q11.d.plc, .slice q11.d.co x.d.coins.length q11.d.coc, .slice q11.d.it x.d.items.length q11.d.itc, .slice q11.d.bo x.d.boxes.length q11.d.boc, .int .i64 x.d.room, .int .i64 x.d.player, .int .i64 x.d.box, .slice q11.at_ x.at_.length q11.atc, .slice q11.co x.coins.length q11.coc, .slice q11.wh x.wher.length q11.whc][ii]? : Option Value)) ∧ w'.cell? ⟨kb, ko + i, none⟩ = some (.int .i64 ci) ∧ w'.cell? ⟨zb, zo + i, none⟩ = some (.int .i64 (ci - pay + fee)))) (by kernel_rfl) (by (first | (with_reducible exact KS.out _ (bdrew1 (Below.refl _ _))))) (fun hHeld => ?_)
      refine wpAnyH_take (i := 0) (v := ?_) (by simp only [List.getElem?_toArray, List.getElem?_cons_zero]; rfl) (by kernel_rfl) (by kernel_rfl) (by kernel_rfl) (fun _ _ _ h => h) (Or.inl ⟨by rfl, ?_⟩) (by assumption) ?_
      rotate_left
      · (intro ww hSw; (try dsimp only at hSw); go_simp; (try with_reducible rfl))
      try simp only [Act.put, List.setIfInBounds_toArray, List.set_cons_zero, List.set_cons_succ]
      refine wpAnyH_take (i := 1) (v := ?_) (by simp only [List.getElem?_toArray, List.getElem?_cons_succ, List.getElem?_cons_zero]; rfl) (by kernel_rfl) (by kernel_rfl) (by kernel_rfl) (fun _ _ _ h => h) (Or.inl ⟨by rfl, ?_⟩) (by assumption) ?_
      rotate_left
      · (intro ww hSw; (try dsimp only at hSw); go_simp; (try with_reducible rfl))
      try simp only [Act.put, List.setIfInBounds_toArray, List.set_cons_zero, List.set_cons_succ]
      refine wpAnyH_take (i := 2) (v := ?_) (by simp only [List.getElem?_toArray, List.getElem?_cons_succ, List.getElem?_cons_zero]; rfl) (by kernel_rfl) (by kernel_rfl) (by kernel_rfl) (fun _ _ _ h => h) (Or.inl ⟨by rfl, ?_⟩) (by assumption) ?_
      rotate_left
      · (intro ww hSw; (try dsimp only at hSw); go_simp; (try with_reducible rfl))
      try simp only [Act.put, List.setIfInBounds_toArray, List.set_cons_zero, List.set_cons_succ]
      refine wpAnyH_take (i := 3) (v := ?_) (by simp only [List.getElem?_toArray, List.getElem?_cons_succ, List.getElem?_cons_zero]; rfl) (by kernel_rfl) (by kernel_rfl) (by kernel_rfl) (fun _ _ _ h => h) (Or.inl ⟨by rfl, ?_⟩) (by assumption) ?_
      rotate_left
      · (intro ww hSw; (try dsimp only at hSw); go_simp; (try with_reducible rfl))
      try simp only [Act.put, List.setIfInBounds_toArray, List.set_cons_zero, List.set_cons_succ]
      refine wpAnyH_take (i := 4) (v := ?_) (by simp only [List.getElem?_toArray, List.getElem?_cons_succ, List.getElem?_cons_zero]; rfl) (by kernel_rfl) (by kernel_rfl) (by kernel_rfl) (fun _ _ _ h => h) (Or.inl ⟨by rfl, ?_⟩) (by assumption) ?_
      rotate_left
      · (intro ww hSw; (try dsimp only at hSw); go_simp; (try with_reducible rfl))
      try simp only [Act.put, List.setIfInBounds_toArray, List.set_cons_zero, List.set_cons_succ]
      refine wpAnyH_ready (rs := [5]) (by kernel_rfl) (by simp) (AllReadyH.cons (by simp only [List.getElem?_toArray, List.getElem?_cons_succ, List.getElem?_cons_zero]; rfl) (fun K hK => ?_) AllReadyH.nil)
      go_simp
      refine (rsame_yes (Shape.refl x) (Shape.refl x) rfl q11 ⟨pd, some ⟨b, o, none⟩, pac, some ⟨kb, ko, none⟩, pkc, pw, pwc⟩ _ (YC_15.out.call (bdrew1 (Below.refl _ _))) ((HWA.out.below B_15.out (Nat.le_refl _)).call (bdrew1 (Below.refl _ _)))).mono ?_; rintro e w9 ⟨rfl, hb9⟩
      try go_wp2_with fail
      refine hK.out _ _ (by (first | (with_reducible exact KS.out _ (below_call (bdrew1 (Below.refl _ _)) (Nat.le_refl _) hb9)))) (fun hHeld => ?_)
      clear hK K
      try simp only [Act.put, List.setIfInBounds_toArray, List.set_cons_zero, List.set_cons_succ]
      refine wpAnyH_take (i := 6) (v := ?_) (by simp only [List.getElem?_toArray, List.getElem?_cons_succ, List.getElem?_cons_zero]; rfl) (by kernel_rfl) (by kernel_rfl) (by kernel_rfl) (fun _ _ _ h => h) (Or.inl ⟨by rfl, ?_⟩) (by assumption) ?_
      rotate_left
      · (intro ww hSw; (try dsimp only at hSw); go_simp; (try with_reducible rfl))
      try simp only [Act.put, List.setIfInBounds_toArray, List.set_cons_zero, List.set_cons_succ]
      refine wpAnyH_take (i := 7) (v := ?_) (by simp only [List.getElem?_toArray, List.getElem?_cons_succ, List.getElem?_cons_zero]; rfl) (by kernel_rfl) (by kernel_rfl) (by kernel_rfl) (fun _ _ _ h => h) (Or.inl ⟨by rfl, ?_⟩) (by assumption) ?_
      rotate_left
      · (intro ww hSw; (try dsimp only at hSw); go_simp; (try with_reducible rfl))
      try simp only [Act.put, List.setIfInBounds_toArray, List.set_cons_zero, List.set_cons_succ]
      refine wpAnyH_take (i := 8) (v := ?_) (by simp only [List.getElem?_toArray, List.getElem?_cons_succ, List.getElem?_cons_zero]; rfl) (by kernel_rfl) (by kernel_rfl) (by kernel_rfl) (fun _ _ _ h => h) (Or.inl ⟨by rfl, ?_⟩) (by assumption) ?_
      rotate_left
      · (intro ww hSw; (try dsimp only at hSw); go_simp; (try with_reducible rfl))
      try simp only [Act.put, List.setIfInBounds_toArray, List.set_cons_zero, List.set_cons_succ]
      refine wpAnyH_take (i := 9) (v := ?_) (by simp only [List.getElem?_toArray, List.getElem?_cons_succ, List.getElem?_cons_zero]; rfl) (by kernel_rfl) (by kernel_rfl) (by kernel_rfl) (fun _ _ _ h => h) (Or.inl ⟨by rfl, ?_⟩) (by assumption) ?_
      rotate_left
      · (intro ww hSw; (try dsimp only at hSw); go_simp; (try with_reducible rfl))
      try simp only [Act.put, List.setIfInBounds_toArray, List.set_cons_zero, List.set_cons_succ]
      refine wpAnyH_take (i := 10) (v := ?_) (by simp only [List.getElem?_toArray, List.getElem?_cons_succ, List.getElem?_cons_zero]; rfl) (by kernel_rfl) (by kernel_rfl) (by kernel_rfl) (fun _ _ _ h => h) (Or.inl ⟨by rfl, ?_⟩) (by assumption) ?_
      rotate_left
      · (intro ww hSw; (try dsimp only at hSw); go_simp; (try with_reducible rfl))
      try simp only [Act.put, List.setIfInBounds_toArray, List.set_cons_zero, List.set_cons_succ]
      refine wpAnyH_take (i := 11) (v := ?_) (by simp only [List.getElem?_toArray, List.getElem?_cons_succ, List.getElem?_cons_zero]; rfl) (by kernel_rfl) (by kernel_rfl) (by kernel_rfl) (fun _ _ _ h => h) (Or.inl ⟨by rfl, ?_⟩) (by assumption) ?_
      rotate_left
      · (intro ww hSw; (try dsimp only at hSw); go_simp; (try with_reducible rfl))
      try simp only [Act.put, List.setIfInBounds_toArray, List.set_cons_zero, List.set_cons_succ]
      refine wpAnyH_take (i := 12) (v := ?_) (by simp only [List.getElem?_toArray, List.getElem?_cons_succ, List.getElem?_cons_zero]; rfl) (by kernel_rfl) (by kernel_rfl) (by kernel_rfl) (fun _ _ _ h => h) (Or.inl ⟨by rfl, ?_⟩) (by assumption) ?_
      rotate_left
      · (intro ww hSw; (try dsimp only at hSw); go_simp; (try with_reducible rfl))
      try simp only [Act.put, List.setIfInBounds_toArray, List.set_cons_zero, List.set_cons_succ]
      refine wpAnyH_take (i := 13) (v := ?_) (by simp only [List.getElem?_toArray, List.getElem?_cons_succ, List.getElem?_cons_zero]; rfl) (by kernel_rfl) (by kernel_rfl) (by kernel_rfl) (fun _ _ _ h => h) (Or.inl ⟨by rfl, ?_⟩) (by assumption) ?_
      rotate_left
      · (intro ww hSw; (try dsimp only at hSw); go_simp; (try with_reducible rfl))
      try simp only [Act.put, List.setIfInBounds_toArray, List.set_cons_zero, List.set_cons_succ]
      refine wpAnyH_take (i := 14) (v := ?_) (by simp only [List.getElem?_toArray, List.getElem?_cons_succ, List.getElem?_cons_zero]; rfl) (by kernel_rfl) (by kernel_rfl) (by kernel_rfl) (fun _ _ _ h => h) (Or.inl ⟨by rfl, ?_⟩) (by assumption) ?_
      rotate_left
      · (intro ww hSw; (try dsimp only at hSw); go_simp; (try with_reducible rfl))
      try simp only [Act.put, List.setIfInBounds_toArray, List.set_cons_zero, List.set_cons_succ]
      refine wpAnyH_take (i := 15) (v := ?_) (by simp only [List.getElem?_toArray, List.getElem?_cons_succ, List.getElem?_cons_zero]; rfl) (by kernel_rfl) (by kernel_rfl) (by kernel_rfl) (fun _ _ _ h => h) (Or.inl ⟨by rfl, ?_⟩) (by assumption) ?_
      rotate_left
      · (intro ww hSw; (try dsimp only at hSw); go_simp; (try with_reducible rfl))
      try simp only [Act.put, List.setIfInBounds_toArray, List.set_cons_zero, List.set_cons_succ]
      refine wpAnyH_take (i := 16) (v := ?_) (by simp only [List.getElem?_toArray, List.getElem?_cons_succ, List.getElem?_cons_zero]; rfl) (by kernel_rfl) (by kernel_rfl) (by kernel_rfl) (fun _ _ _ h => h) (Or.inl ⟨by rfl, ?_⟩) (by assumption) ?_
      rotate_left
      · (intro ww hSw; (try dsimp only at hSw); go_simp; (try with_reducible rfl))
      try simp only [Act.put, List.setIfInBounds_toArray, List.set_cons_zero, List.set_cons_succ]
      refine wpAnyH_take (i := 17) (v := ?_) (by simp only [List.getElem?_toArray, List.getElem?_cons_succ, List.getElem?_cons_zero]; rfl) (by kernel_rfl) (by kernel_rfl) (by kernel_rfl) (fun _ _ _ h => h) (Or.inl ⟨by rfl, ?_⟩) (by assumption) ?_
      rotate_left
      · (intro ww hSw; (try dsimp only at hSw); go_simp; (try with_reducible rfl))
      try simp only [Act.put, List.setIfInBounds_toArray, List.set_cons_zero, List.set_cons_succ]
      refine wpAnyH_take (i := 18) (v := ?_) (by simp only [List.getElem?_toArray, List.getElem?_cons_succ, List.getElem?_cons_zero]; rfl) (by kernel_rfl) (by kernel_rfl) (by kernel_rfl) (fun _ _ _ h => h) (Or.inl ⟨by rfl, ?_⟩) (by assumption) ?_
      rotate_left
      · (intro ww hSw; (try dsimp only at hSw); go_simp; (try with_reducible rfl))
      try simp only [Act.put, List.setIfInBounds_toArray, List.set_cons_zero, List.set_cons_succ]
      refine wpAnyH_take (i := 19) (v := ?_) (by simp only [List.getElem?_toArray, List.getElem?_cons_succ, List.getElem?_cons_zero]; rfl) (by kernel_rfl) (by kernel_rfl) (by kernel_rfl) (fun _ _ _ h => h) (Or.inl ⟨by rfl, ?_⟩) (by assumption) ?_
      rotate_left
      · (intro ww hSw; (try dsimp only at hSw); go_simp; (try with_reducible rfl))
      try simp only [Act.put, List.setIfInBounds_toArray, List.set_cons_zero, List.set_cons_succ]
      refine wpAnyH_take (i := 20) (v := ?_) (by simp only [List.getElem?_toArray, List.getElem?_cons_succ, List.getElem?_cons_zero]; rfl) (by kernel_rfl) (by kernel_rfl) (by kernel_rfl) (fun _ _ _ h => h) (Or.inl ⟨by rfl, ?_⟩) (by assumption) ?_
      rotate_left
      · (intro ww hSw; (try dsimp only at hSw); go_simp; (try with_reducible rfl))
      try simp only [Act.put, List.setIfInBounds_toArray, List.set_cons_zero, List.set_cons_succ]
      refine wpAnyH_take (i := 21) (v := ?_) (by simp only [List.getElem?_toArray, List.getElem?_cons_succ, List.getElem?_cons_zero]; rfl) (by kernel_rfl) (by kernel_rfl) (by kernel_rfl) (fun _ _ _ h => h) (Or.inl ⟨by rfl, ?_⟩) (by assumption) ?_
      rotate_left
      · (intro ww hSw; (try dsimp only at hSw); go_simp; (try with_reducible rfl))
      try simp only [Act.put, List.setIfInBounds_toArray, List.set_cons_zero, List.set_cons_succ]
      refine wpAnyH_take (i := 22) (v := ?_) (by simp only [List.getElem?_toArray, List.getElem?_cons_succ, List.getElem?_cons_zero]; rfl) (by kernel_rfl) (by kernel_rfl) (by kernel_rfl) (fun _ _ _ h => h) (Or.inl ⟨by rfl, ?_⟩) (by assumption) ?_
      rotate_left
      · (intro ww hSw; (try dsimp only at hSw); go_simp; (try with_reducible rfl))
      try simp only [Act.put, List.setIfInBounds_toArray, List.set_cons_zero, List.set_cons_succ]
      refine wpAnyH_take (i := 23) (v := ?_) (by simp only [List.getElem?_toArray, List.getElem?_cons_succ, List.getElem?_cons_zero]; rfl) (by kernel_rfl) (by kernel_rfl) (by kernel_rfl) (fun _ _ _ h => h) (Or.inl ⟨by rfl, ?_⟩) (by assumption) ?_
      rotate_left
      · (intro ww hSw; (try dsimp only at hSw); go_simp; (try with_reducible rfl))
      try simp only [Act.put, List.setIfInBounds_toArray, List.set_cons_zero, List.set_cons_succ]
      refine wpAnyH_take (i := 24) (v := ?_) (by simp only [List.getElem?_toArray, List.getElem?_cons_succ, List.getElem?_cons_zero]; rfl) (by kernel_rfl) (by kernel_rfl) (by kernel_rfl) (fun _ _ _ h => h) (Or.inl ⟨by rfl, ?_⟩) (by assumption) ?_
      rotate_left
      · (intro ww hSw; (try dsimp only at hSw); go_simp; (try with_reducible rfl))
      try simp only [Act.put, List.setIfInBounds_toArray, List.set_cons_zero, List.set_cons_succ]
      refine wpAnyH_take (i := 25) (v := ?_) (by simp only [List.getElem?_toArray, List.getElem?_cons_succ, List.getElem?_cons_zero]; rfl) (by kernel_rfl) (by kernel_rfl) (by kernel_rfl) (fun _ _ _ h => h) (Or.inl ⟨by rfl, ?_⟩) (by assumption) ?_
      rotate_left
      · (intro ww hSw; (try dsimp only at hSw); go_simp; (try with_reducible rfl))
      try simp only [Act.put, List.setIfInBounds_toArray, List.set_cons_zero, List.set_cons_succ]
      refine wpAnyH_take (i := 26) (v := ?_) (by simp only [List.getElem?_toArray, List.getElem?_cons_succ, List.getElem?_cons_zero]; rfl) (by kernel_rfl) (by kernel_rfl) (by kernel_rfl) (fun _ _ _ h => h) (Or.inl ⟨by rfl, ?_⟩) (by assumption) ?_
      rotate_left
      · (intro ww hSw; (try dsimp only at hSw); go_simp; (try with_reducible rfl))
      try simp only [Act.put, List.setIfInBounds_toArray, List.set_cons_zero, List.set_cons_succ]
      refine wpAnyH_done (by kernel_rfl) ?_ _
      refine NoPanic.normal ?_
      have hB := Lib.hid (below_call B_15.out B_15.out.size hHeld.1)
      clear hHeld KS
      go_wp2_with fail
      go_ret
      exact ⟨rfl, hB.out⟩
theorem walk_giftsKeep (x : Wd) (p : Wp) (a : Int) (c : Cm) (ga wa : Option Addr) (gc wc : Nat) (w : World) (ha : (Lit.int .u8 a).wf = true) (h : WorldAt w p x) (hg : IntsAt w ga c.gives) (hw : IntsAt w wa c.wants) (_ : c.Wf) : Calls Try.prog 4 #[.agg #[.slice p.d.ex x.d.exits.length p.d.exc, .slice p.d.pl x.d.players.length p.d.plc, .slice p.d.co x.d.coins.length p.d.coc, .slice p.d.it x.d.items.length p.d.itc, .slice p.d.bo x.d.boxes.length p.d.boc, .int .i64 x.d.room, .int .i64 x.d.player, .int .i64 x.d.box, .slice p.at_ x.at_.length p.atc, .slice p.co x.coins.length p.coc, .slice p.wh x.wher.length p.whc], .int .u8 a, .agg #[.int .i64 c.kind, .int .i64 c.dir, .int .i64 c.item, .int .i64 c.box, .int .i64 c.who, .slice ga c.gives.length gc, .int .i64 c.pay, .slice wa c.wants.length wc, .int .i64 c.fee]] w fun e w' => e = .returned (.bool true) ∧ Below w.heap.size w w' := by
  obtain ⟨kd, di, it, bx, who, gl, pay, wl, fee⟩ := c
  cases hf : fitsB x
  · exact giftsKeep_no x p a kd di it bx who pay fee gl wl ga wa gc wc w h hg hw hf
  cases hfw : cfewB ⟨kd, di, it, bx, who, gl, pay, wl, fee⟩
  · exact giftsKeep_nofew x p a kd di it bx who pay fee gl wl ga wa gc wc w h hg hw hf hfw
  cases hmy : refMayB ⟨kd, di, it, bx, who, gl, pay, wl, fee⟩
  · exact giftsKeep_nomay x p a kd di it bx who pay fee gl wl ga wa gc wc w h hg hw hf hfw hmy
  by_cases hk : kd = 8
  case neg => exact giftsKeep_nokind x p a kd di it bx who pay fee gl wl ga wa gc wc w h hg hw hf hfw hmy (by simpa using hk)
  have h1 := wf_u8 ha
  obtain ⟨m1, rfl⟩ : ∃ m : Nat, a = m := ⟨a.toNat, by omega⟩
  have hs := may_sides hmy hk
  obtain ⟨⟨y, e⟩, hP⟩ : ∃ R, tradeW x (m1 % x.at_.length) who gl wl pay fee = R := ⟨_, rfl⟩
  by_cases he : e = 0
  · subst he
    have hx := (fits_fit hf).right
    have hil : m1 % x.at_.length < x.at_.length := Nat.mod_lt _ (right_lens hx).1
    obtain ⟨b, o, ea, hb, hat⟩ := h.at_.at_ hil
    obtain ⟨li, ei, bi⟩ := lcoin_at hx hil
    obtain ⟨kb, ko, eb, hkb, hco⟩ := h.co.at_ li
    obtain ⟨pd, pa, pac, pk, pkc, pw, pwc⟩ := p
    simp only at ea eb
    subst ea eb
    exact giftsKeep_ok x pd b o pac kb ko pkc pw pwc m1 _ kd di it bx who pay fee gl wl ga wa gc wc (by omega) rfl w h hg hw hf hfw hmy (by simp [hk]) hs.1 hs.2 y hP
  · obtain rfl := trade_stays2 hP he
    exact giftsKeep_err _ p m1 _ kd di it bx who pay fee gl wl ga wa gc wc (by omega) rfl w h hg hw hf hfw hmy (by simp [hk]) hs.1 hs.2 e hP (by simpa using he)
set_option maxRecDepth 100000 in
theorem lifted_giftsKeep (os : Os) (started : os.Started) (H : Type) (enc : TypeId × Value → H) :
    ReturnsInHanded {} Try.checked os 4 .any (Rows.giftsKeepSpec.pre6 enc Try.prog Try.f4 Rows.giftsKeepRow.domain false) (Rows.giftsKeepSpec.post enc Try.prog Try.f4 false true false false) := by
  refine returnsInHanded_of_change (C := Try.checked) (by kernel_rfl) started (by kernel_rfl) Try.func4
    (ChangeSpec.witness6 (enc := enc) (C := Try.checked) false ⟨#[], #[.agg #[.slice none 0 0, .slice none 0 0, .slice none 0 0, .slice none 0 0, .slice none 0 0, .int .i64 0, .int .i64 0, .int .i64 0, .slice none 0 0, .slice none 0 0, .slice none 0 0], .int .u8 0, .agg #[.int .i64 0, .int .i64 0, .int .i64 0, .int .i64 0, .int .i64 0, .slice none 0 0, .int .i64 0, .slice none 0 0, .int .i64 0]], []⟩ 8 (by kernel_rfl) (by kernel_rfl) (by kernel_rfl) (by kernel_rfl)) ?_
  intro W base args ds gs before hval0 hW hcnd _
  have hval : ∀ (j : Nat) t v, Try.f4.params[j]? = some t → args[j]? = some v → Value.okWide Try.prog W .any base t v := hval0
  have hW' := hW
  obtain ⟨p, q, hA0, hV, rfl, hfz, hnd⟩ := hW
  have hA : DataW.TrodAll enc Try.prog W 0 (fun _ => true) true Try.f4.params.toList args.toList ds p := hA0
  rw [Try.params4] at hA hval
  obtain ⟨v0, vs0, d0, ds0, p0, q0, hargs, rfl, rfl, h0, r0⟩ := trodAll_cons hA
  obtain ⟨v1, vs1, d1, ds1, p1, q1, rfl, rfl, rfl, h1, r1⟩ := trodAll_cons r0
  obtain ⟨v2, vs2, d2, ds2, p2, q2, rfl, rfl, rfl, h2, r2⟩ := trodAll_cons r1
  obtain ⟨rfl, rfl, rfl⟩ := trodAll_nil r2
  obtain rfl : args = #[v0, v1, v2] := by cases args; simp_all
  obtain ⟨rfl, rfl⟩ := trodVars_none hV
  obtain ⟨wx0, wp0, rfl, m0⟩ := read_world (hval 0 29 v0 rfl rfl) h0
  obtain ⟨a1, rfl, rfl, rfl, w1⟩ := open_int Try.underlying5 (hval 1 5 v1 rfl rfl) h1
  obtain ⟨c2, ga2, wa2, gc2, wc2, rfl, ma2, mb2, mg2⟩ := read_cmd (hval 2 31 v2 rfl rfl) h2
  clear hA0 hval0
  simp only [List.append_nil] at hW'
  refine (walk_giftsKeep wx0 wp0 a1 c2 ga2 wa2 gc2 wc2 W w1 m0 ma2 mb2 mg2).mono fun e W' ⟨he, hg⟩ => ?_
  subst he
  exact ⟨_, rfl, law_post (by kernel_rfl) rfl (by rw [Try.params4]; decide +kernel) rfl rfl Try.underlying4 hW' hg⟩

/-- ████ THE STATEMENT ████ -/
theorem proved_giftsKeep : Rows.GiftsKeepSaid :=
  OpenClaim.holds_of_wide 4 Try.f4 rfl rfl rfl rfl rfl rfl rfl ⟨rfl, rfl, rfl, rfl, rfl⟩ rfl rfl rfl rfl rfl (by kernel_rfl) Try.func4 (by kernel_rfl)
    (of_decide_eq_true (by kernel_rfl)) (by unfold Func.isWrapper; first | (rw [if_pos (by decide +kernel)]; kernel_rfl) | (rw [if_neg (by decide +kernel)]; exact ⟨rfl, rfl⟩))
    (fun os started H enc _ => lifted_giftsKeep os started H enc)
#print axioms proved_giftsKeep
end Go.Proofs.Ytcigbliilmonfaa
