/- WaysGo: who goes is in the room that is told, to which an exit leads, all others are where they were, items and coins stay, and the world is right; who is refused stays; to be pushed is to go, if one is there. -/
import Derived.Test.YtkhjmgedamndhaaRows
import Derived.Test.YtkhjmgedamndhaaKit
import Derived.Test.YtkhjmgedamndhaaSlices
import Derived.Test.YtkhjmgedamndhaaStrs
import Derived.Test.YtkhjmgedamndhaaCoin
import Derived.Test.YtkhjmgedamndhaaBlk
import Derived.Test.YtkhjmgedamndhaaHolds
import Derived.Test.YtkhjmgedamndhaaWorldMath
import Derived.Test.YtkhjmgedamndhaaWorldAt
import Derived.Test.YtkhjmgedamndhaaCmdInts
import Derived.Test.YtkhjmgedamndhaaDescNest
import Derived.Test.YtkhjmgedamndhaaDescRight
import Derived.Test.YtkhjmgedamndhaaDescCopy
import Derived.Test.YtkhjmgedamndhaaDescCopy2
import Derived.Test.YtkhjmgedamndhaaDescStore
import Derived.Test.YtkhjmgedamndhaaDescAs
import Derived.Test.YtkhjmgedamndhaaDescEq
import Derived.Test.YtkhjmgedamndhaaRefCopied
import Derived.Test.YtkhjmgedamndhaaRefDescA
import Derived.Test.YtkhjmgedamndhaaRefRight
import Derived.Test.YtkhjmgedamndhaaRefSame
import Derived.Test.YtkhjmgedamndhaaTreeMath
import Derived.Test.YtkhjmgedamndhaaTreeIs
import Derived.Test.YtkhjmgedamndhaaTreeArg
import Derived.Test.YtkhjmgedamndhaaWorldArg
import Derived.Test.YtkhjmgedamndhaaWaysMath
import Derived.Test.YtkhjmgedamndhaaWaysA
import Derived.Test.YtkhjmgedamndhaaWaysB
import Derived.Test.YtkhjmgedamndhaaWaysC
import Derived.Test.YtkhjmgedamndhaaWaysD
import Derived.Test.YtkhjmgedamndhaaWaysE
import Derived.Test.YtkhjmgedamndhaaWaysAwake
import Derived.Test.YtkhjmgedamndhaaWaysAs
import Derived.Deep.QuietTactic
import Derived.BigQuiet
import Derived.Deep.RegionHeld3
import Derived.WalkKit
import Derived.ProofKit
import Derived.OpenShut
import Derived.IntWalk
namespace Go.Proofs.Ytkhjmgedamndhaa
open Go.ChangeShapes Go.WideShapes Go.ChangeAt Go.RowKit
set_option linter.unusedVariables false
open Go.RowKit
set_option maxRecDepth 100000 in
theorem waysGo_no (x : Wd) (p : Wp) (a b0 c : Int) (w : World) (h : WorldAt w p x) (hf : fitsB x = false) : Calls Try.prog 4 #[.agg #[.slice p.d.ex x.d.exits.length p.d.exc, .slice p.d.pl x.d.players.length p.d.plc, .slice p.d.co x.d.coins.length p.d.coc, .slice p.d.it x.d.items.length p.d.itc, .slice p.d.bo x.d.boxes.length p.d.boc, .int .i64 x.d.room, .int .i64 x.d.player, .int .i64 x.d.box, .slice p.at_ x.at_.length p.atc, .slice p.co x.coins.length p.coc, .slice p.wh x.wher.length p.whc], .int .u8 a, .int .u8 b0, .int .u8 c] w fun e w' => e = .returned (.bool true) ∧ Below w.heap.size w w' := by
  have H_0 := Lib.hid (Holds.new w #[.slice p.d.ex x.d.exits.length p.d.exc, .slice p.d.pl x.d.players.length p.d.plc, .slice p.d.co x.d.coins.length p.d.coc, .slice p.d.it x.d.items.length p.d.itc, .slice p.d.bo x.d.boxes.length p.d.boc, .int .i64 x.d.room, .int .i64 x.d.player, .int .i64 x.d.box, .slice p.at_ x.at_.length p.atc, .slice p.co x.coins.length p.coc, .slice p.wh x.wher.length p.whc] 29)
  have HF := Lib.hid hf
  have HWA := Lib.hid h
  clear hf h
  go_enter Try.func4, Try.ntmps4
  go_wp2_with fail
  generalize w.alloc (.cells #[.slice p.d.ex x.d.exits.length p.d.exc, .slice p.d.pl x.d.players.length p.d.plc, .slice p.d.co x.d.coins.length p.d.coc, .slice p.d.it x.d.items.length p.d.itc, .slice p.d.bo x.d.boxes.length p.d.boc, .int .i64 x.d.room, .int .i64 x.d.player, .int .i64 x.d.box, .slice p.at_ x.at_.length p.atc, .slice p.co x.coins.length p.coc, .slice p.wh x.wher.length p.whc] 29) = V0 at *
  have B_0 := Lib.hid H_0.out.1
  refine (awake8_any _).mono ?_
  rintro e u1 ⟨rfl, b1⟩
  have B_1 := Lib.hid (bl B_0.out b1)
  have H_1 := Lib.hid (H_0.out.call b1)
  clear b1 B_0 H_0
  have hcH := H_1.out.2.2
  have hlH := H_1.out.2.1
  go_wp2_with fail
  refine (fits8_any x p _ (HWA.out.below H_1.out.1 (Nat.le_refl _))).mono ?_
  rintro e u2 ⟨rfl, b2⟩
  rw [HF.out]
  clear hcH hlH
  have B_2 := Lib.hid (bl B_1.out b2)
  have H_2 := Lib.hid (H_1.out.call b2)
  clear b2 B_1 H_1
  have hcH := H_2.out.2.2
  have hlH := H_2.out.2.1
  go_wp2_with fail
  refine (awake8_any _).mono ?_
  rintro e u3 ⟨rfl, b3⟩
  clear hcH hlH
  have B_3 := Lib.hid (bl B_2.out b3)
  have H_3 := Lib.hid (H_2.out.call b3)
  clear b3 B_2 H_2
  have hcH := H_3.out.2.2
  have hlH := H_3.out.2.1
  go_wp2_with fail
  go_ret
  exact ⟨rfl, B_3.out⟩
set_option maxRecDepth 100000 in
set_option maxHeartbeats 4000000 in
theorem waysGo_self (x : Wd) (p : Wp) (a b0 c i k d : Nat) (haa : a ≤ 255) (hbb : b0 ≤ 255) (hcc : c ≤ 255) (hi : a % x.at_.length = i) (hk : b0 % x.at_.length = k) (hc : c % 4 = d) (hik : k = i) (hR : pushW x i k d = (x, 0, 12)) (w : World) (h : WorldAt w p x) (hf : fitsB x = true) : Calls Try.prog 4 #[.agg #[.slice p.d.ex x.d.exits.length p.d.exc, .slice p.d.pl x.d.players.length p.d.plc, .slice p.d.co x.d.coins.length p.d.coc, .slice p.d.it x.d.items.length p.d.itc, .slice p.d.bo x.d.boxes.length p.d.boc, .int .i64 x.d.room, .int .i64 x.d.player, .int .i64 x.d.box, .slice p.at_ x.at_.length p.atc, .slice p.co x.coins.length p.coc, .slice p.wh x.wher.length p.whc], .int .u8 (a : Int), .int .u8 (b0 : Int), .int .u8 (c : Int)] w fun e w' => e = .returned (.bool true) ∧ Below w.heap.size w w' := by
  have r1 := run_tmod7 a x.at_.length
  have m1 := run_mod7 a x.at_.length
  have r4 := run_tmod7 b0 x.at_.length
  have m4 := run_mod7 b0 x.at_.length
  obtain ⟨r2, m2⟩ := run_four c
  rw [hi] at r1 m1
  rw [hk] at r4 m4
  rw [hc] at r2 m2
  have FT := Lib.hid (fits_fit hf)
  have hlp : 0 < x.at_.length := (right_lens FT.out.right).1
  have hne : ¬ x.at_ = [] := List.length_pos_iff.1 hlp
  have hil : i < x.at_.length := by rw [← hi]; exact Nat.mod_lt _ hlp
  have hkl : k < x.at_.length := by rw [← hk]; exact Nat.mod_lt _ hlp
  have hd4 : d < 4 := by rw [← hc]; exact Nat.mod_lt _ (by decide)
  have hd5 : (d : Int) < 4 := by omega
  have hlen6 := (right_lens FT.out.right).2.1
  obtain ⟨⟨y, s, f⟩, hP⟩ : ∃ R, moveW x k d = R := ⟨_, rfl⟩
  have HP := Lib.hid hP
  have HR := Lib.hid hR
  have SY := Lib.hid (show Shape x y by have := move_shape x k d; rwa [hP] at this)
  have hne2 : ((i : Int) != (k : Int)) = false := by simp; omega
  have hne3 : ((k : Int) == (i : Int)) = true := by simp; omega
  clear hik
  clear hi hk hc hlp hP hR
  have H_0 := Lib.hid (Holds.new w #[.slice p.d.ex x.d.exits.length p.d.exc, .slice p.d.pl x.d.players.length p.d.plc, .slice p.d.co x.d.coins.length p.d.coc, .slice p.d.it x.d.items.length p.d.itc, .slice p.d.bo x.d.boxes.length p.d.boc, .int .i64 x.d.room, .int .i64 x.d.player, .int .i64 x.d.box, .slice p.at_ x.at_.length p.atc, .slice p.co x.coins.length p.coc, .slice p.wh x.wher.length p.whc] 29)
  have HF := Lib.hid hf
  have HWA := Lib.hid h
  clear hf h
  go_enter Try.func4, Try.ntmps4
  go_wp2_with fail
  generalize w.alloc (.cells #[.slice p.d.ex x.d.exits.length p.d.exc, .slice p.d.pl x.d.players.length p.d.plc, .slice p.d.co x.d.coins.length p.d.coc, .slice p.d.it x.d.items.length p.d.itc, .slice p.d.bo x.d.boxes.length p.d.boc, .int .i64 x.d.room, .int .i64 x.d.player, .int .i64 x.d.box, .slice p.at_ x.at_.length p.atc, .slice p.co x.coins.length p.coc, .slice p.wh x.wher.length p.whc] 29) = V0 at *
  have B_0 := Lib.hid H_0.out.1
  refine (awake8_any _).mono ?_
  rintro e u1 ⟨rfl, b1⟩
  have B_1 := Lib.hid (bl B_0.out b1)
  have H_1 := Lib.hid (H_0.out.call b1)
  clear b1 B_0 H_0
  have hcH := H_1.out.2.2
  have hlH := H_1.out.2.1
  go_wp2_with fail
  refine (fits8_any x p _ (HWA.out.below H_1.out.1 (Nat.le_refl _))).mono ?_
  rintro e u2 ⟨rfl, b2⟩
  rw [HF.out]
  clear hcH hlH
  have B_2 := Lib.hid (bl B_1.out b2)
  have H_2 := Lib.hid (H_1.out.call b2)
  clear b2 B_1 H_1
  have hcH := H_2.out.2.2
  have hlH := H_2.out.2.1
  go_wp2_with fail
  refine (push_as (Shape.refl x) p i d hd4 _ FT.out.right (HWA.out.below B_2.out (Nat.le_refl _)) hil x 0 12 k HR.out).mono ?_
  rintro e u3 ⟨q3, rfl, g3, b3⟩
  clear hcH hlH
  have B_3 := Lib.hid (bl B_2.out b3)
  have H_3 := Lib.hid (H_2.out.call b3)
  have YA_3 := Lib.hid g3
  clear b3 B_2 H_2 g3
  have hcH := H_3.out.2.2
  have hlH := H_3.out.2.1
  go_wp2_with fail
  clear hcH hlH
  have s4 : (u3.alloc (.cells #[.slice q3.d.ex x.d.exits.length q3.d.exc, .slice q3.d.pl x.d.players.length q3.d.plc, .slice q3.d.co x.d.coins.length q3.d.coc, .slice q3.d.it x.d.items.length q3.d.itc, .slice q3.d.bo x.d.boxes.length q3.d.boc, .int .i64 x.d.room, .int .i64 x.d.player, .int .i64 x.d.box, .slice q3.at_ x.at_.length q3.atc, .slice q3.co x.coins.length q3.coc, .slice q3.wh x.wher.length q3.whc] 29)).heap.size = u3.heap.size + 1 := by simp
  have B_4 := Lib.hid (B_3.out.alloc B_3.out.size (.cells #[.slice q3.d.ex x.d.exits.length q3.d.exc, .slice q3.d.pl x.d.players.length q3.d.plc, .slice q3.d.co x.d.coins.length q3.d.coc, .slice q3.d.it x.d.items.length q3.d.itc, .slice q3.d.bo x.d.boxes.length q3.d.boc, .int .i64 x.d.room, .int .i64 x.d.player, .int .i64 x.d.box, .slice q3.at_ x.at_.length q3.atc, .slice q3.co x.coins.length q3.coc, .slice q3.wh x.wher.length q3.whc] 29))
  have H_4 := Lib.hid (H_3.out.alloc (.cells #[.slice q3.d.ex x.d.exits.length q3.d.exc, .slice q3.d.pl x.d.players.length q3.d.plc, .slice q3.d.co x.d.coins.length q3.d.coc, .slice q3.d.it x.d.items.length q3.d.itc, .slice q3.d.bo x.d.boxes.length q3.d.boc, .int .i64 x.d.room, .int .i64 x.d.player, .int .i64 x.d.box, .slice q3.at_ x.at_.length q3.atc, .slice q3.co x.coins.length q3.coc, .slice q3.wh x.wher.length q3.whc] 29))
  have YA_4 := Lib.hid (YA_3.out.call ((Below.refl _ _).alloc (Nat.le_refl _) (.cells #[.slice q3.d.ex x.d.exits.length q3.d.exc, .slice q3.d.pl x.d.players.length q3.d.plc, .slice q3.d.co x.d.coins.length q3.d.coc, .slice q3.d.it x.d.items.length q3.d.itc, .slice q3.d.bo x.d.boxes.length q3.d.boc, .int .i64 x.d.room, .int .i64 x.d.player, .int .i64 x.d.box, .slice q3.at_ x.at_.length q3.atc, .slice q3.co x.coins.length q3.coc, .slice q3.wh x.wher.length q3.whc] 29)))
  have A_4 := Lib.hid (Holds.newb (w := w) (A := #[.slice q3.d.ex x.d.exits.length q3.d.exc, .slice q3.d.pl x.d.players.length q3.d.plc, .slice q3.d.co x.d.coins.length q3.d.coc, .slice q3.d.it x.d.items.length q3.d.itc, .slice q3.d.bo x.d.boxes.length q3.d.boc, .int .i64 x.d.room, .int .i64 x.d.player, .int .i64 x.d.box, .slice q3.at_ x.at_.length q3.atc, .slice q3.co x.coins.length q3.coc, .slice q3.wh x.wher.length q3.whc]) (t := 29) (n := u3.heap.size) B_3.out rfl)
  clear B_3 H_3 YA_3
  generalize u3.alloc (.cells #[.slice q3.d.ex x.d.exits.length q3.d.exc, .slice q3.d.pl x.d.players.length q3.d.plc, .slice q3.d.co x.d.coins.length q3.d.coc, .slice q3.d.it x.d.items.length q3.d.itc, .slice q3.d.bo x.d.boxes.length q3.d.boc, .int .i64 x.d.room, .int .i64 x.d.player, .int .i64 x.d.box, .slice q3.at_ x.at_.length q3.atc, .slice q3.co x.coins.length q3.coc, .slice q3.wh x.wher.length q3.whc] 29) = V4 at *
  have hcH := H_4.out.2.2
  have hlH := H_4.out.2.1
  have hcA := A_4.out.2.2
  have hlA := A_4.out.2.1
  refine (move_as (Shape.refl x) p k d hd4 _ FT.out.right (HWA.out.below B_4.out (Nat.le_refl _)) hkl y s f HP.out).mono ?_
  rintro e u5 ⟨q5, rfl, g5, b5⟩
  clear hcH hlH hcA hlA
  have B_5 := Lib.hid (bl B_4.out b5)
  have H_5 := Lib.hid (H_4.out.call b5)
  have A_5 := Lib.hid (A_4.out.call b5)
  have YA_5 := Lib.hid (YA_4.out.call b5)
  have YB_5 := Lib.hid g5
  clear b5 B_4 H_4 A_4 YA_4 g5
  have hcH := H_5.out.2.2
  have hlH := H_5.out.2.1
  have hcA := A_5.out.2.2
  have hlA := A_5.out.2.1
  go_wp2_with fail
  clear hcH hlH hcA hlA
  have s6 : (u5.alloc (.cells #[.slice q5.d.ex x.d.exits.length q5.d.exc, .slice q5.d.pl x.d.players.length q5.d.plc, .slice q5.d.co x.d.coins.length q5.d.coc, .slice q5.d.it x.d.items.length q5.d.itc, .slice q5.d.bo x.d.boxes.length q5.d.boc, .int .i64 x.d.room, .int .i64 x.d.player, .int .i64 x.d.box, .slice q5.at_ x.at_.length q5.atc, .slice q5.co x.coins.length q5.coc, .slice q5.wh x.wher.length q5.whc] 29)).heap.size = u5.heap.size + 1 := by simp
  have B_6 := Lib.hid (B_5.out.alloc B_5.out.size (.cells #[.slice q5.d.ex x.d.exits.length q5.d.exc, .slice q5.d.pl x.d.players.length q5.d.plc, .slice q5.d.co x.d.coins.length q5.d.coc, .slice q5.d.it x.d.items.length q5.d.itc, .slice q5.d.bo x.d.boxes.length q5.d.boc, .int .i64 x.d.room, .int .i64 x.d.player, .int .i64 x.d.box, .slice q5.at_ x.at_.length q5.atc, .slice q5.co x.coins.length q5.coc, .slice q5.wh x.wher.length q5.whc] 29))
  have H_6 := Lib.hid (H_5.out.alloc (.cells #[.slice q5.d.ex x.d.exits.length q5.d.exc, .slice q5.d.pl x.d.players.length q5.d.plc, .slice q5.d.co x.d.coins.length q5.d.coc, .slice q5.d.it x.d.items.length q5.d.itc, .slice q5.d.bo x.d.boxes.length q5.d.boc, .int .i64 x.d.room, .int .i64 x.d.player, .int .i64 x.d.box, .slice q5.at_ x.at_.length q5.atc, .slice q5.co x.coins.length q5.coc, .slice q5.wh x.wher.length q5.whc] 29))
  have A_6 := Lib.hid (A_5.out.alloc (.cells #[.slice q5.d.ex x.d.exits.length q5.d.exc, .slice q5.d.pl x.d.players.length q5.d.plc, .slice q5.d.co x.d.coins.length q5.d.coc, .slice q5.d.it x.d.items.length q5.d.itc, .slice q5.d.bo x.d.boxes.length q5.d.boc, .int .i64 x.d.room, .int .i64 x.d.player, .int .i64 x.d.box, .slice q5.at_ x.at_.length q5.atc, .slice q5.co x.coins.length q5.coc, .slice q5.wh x.wher.length q5.whc] 29))
  have YA_6 := Lib.hid (YA_5.out.call ((Below.refl _ _).alloc (Nat.le_refl _) (.cells #[.slice q5.d.ex x.d.exits.length q5.d.exc, .slice q5.d.pl x.d.players.length q5.d.plc, .slice q5.d.co x.d.coins.length q5.d.coc, .slice q5.d.it x.d.items.length q5.d.itc, .slice q5.d.bo x.d.boxes.length q5.d.boc, .int .i64 x.d.room, .int .i64 x.d.player, .int .i64 x.d.box, .slice q5.at_ x.at_.length q5.atc, .slice q5.co x.coins.length q5.coc, .slice q5.wh x.wher.length q5.whc] 29)))
  have YB_6 := Lib.hid (YB_5.out.call ((Below.refl _ _).alloc (Nat.le_refl _) (.cells #[.slice q5.d.ex x.d.exits.length q5.d.exc, .slice q5.d.pl x.d.players.length q5.d.plc, .slice q5.d.co x.d.coins.length q5.d.coc, .slice q5.d.it x.d.items.length q5.d.itc, .slice q5.d.bo x.d.boxes.length q5.d.boc, .int .i64 x.d.room, .int .i64 x.d.player, .int .i64 x.d.box, .slice q5.at_ x.at_.length q5.atc, .slice q5.co x.coins.length q5.coc, .slice q5.wh x.wher.length q5.whc] 29)))
  have D_6 := Lib.hid (Holds.newb (w := w) (A := #[.slice q5.d.ex x.d.exits.length q5.d.exc, .slice q5.d.pl x.d.players.length q5.d.plc, .slice q5.d.co x.d.coins.length q5.d.coc, .slice q5.d.it x.d.items.length q5.d.itc, .slice q5.d.bo x.d.boxes.length q5.d.boc, .int .i64 x.d.room, .int .i64 x.d.player, .int .i64 x.d.box, .slice q5.at_ x.at_.length q5.atc, .slice q5.co x.coins.length q5.coc, .slice q5.wh x.wher.length q5.whc]) (t := 29) (n := u5.heap.size) B_5.out rfl)
  clear B_5 H_5 A_5 YA_5 YB_5
  generalize u5.alloc (.cells #[.slice q5.d.ex x.d.exits.length q5.d.exc, .slice q5.d.pl x.d.players.length q5.d.plc, .slice q5.d.co x.d.coins.length q5.d.coc, .slice q5.d.it x.d.items.length q5.d.itc, .slice q5.d.bo x.d.boxes.length q5.d.boc, .int .i64 x.d.room, .int .i64 x.d.player, .int .i64 x.d.box, .slice q5.at_ x.at_.length q5.atc, .slice q5.co x.coins.length q5.coc, .slice q5.wh x.wher.length q5.whc] 29) = V6 at *
  have hcH := H_6.out.2.2
  have hlH := H_6.out.2.1
  have hcA := A_6.out.2.2
  have hlA := A_6.out.2.1
  have hcD := D_6.out.2.2
  have hlD := D_6.out.2.1
  refine (rsame_yes (Shape.refl x) (Shape.refl x) rfl _ p _ YA_6.out (HWA.out.below B_6.out (Nat.le_refl _))).mono ?_
  rintro e u7 ⟨rfl, b7⟩
  clear hcH hlH hcA hlA hcD hlD
  have B_7 := Lib.hid (bl B_6.out b7)
  have H_7 := Lib.hid (H_6.out.call b7)
  have A_7 := Lib.hid (A_6.out.call b7)
  have D_7 := Lib.hid (D_6.out.call b7)
  have YA_7 := Lib.hid (YA_6.out.call b7)
  have YB_7 := Lib.hid (YB_6.out.call b7)
  clear b7 B_6 H_6 A_6 D_6 YA_6 YB_6
  have hcH := H_7.out.2.2
  have hlH := H_7.out.2.1
  have hcA := A_7.out.2.2
  have hlA := A_7.out.2.1
  have hcD := D_7.out.2.2
  have hlD := D_7.out.2.1
  go_wp2_with fail
  go_ret
  exact ⟨rfl, B_7.out⟩
set_option maxRecDepth 100000 in
set_option maxHeartbeats 4000000 in
theorem waysGo_away (x : Wd) (p : Wp) (a b0 c i k d : Nat) (haa : a ≤ 255) (hbb : b0 ≤ 255) (hcc : c ≤ 255) (hi : a % x.at_.length = i) (hk : b0 % x.at_.length = k) (hc : c % 4 = d) (hik : ¬ k = i) (hR : pushW x i k d = (x, 0, 5)) (w : World) (h : WorldAt w p x) (hf : fitsB x = true) : Calls Try.prog 4 #[.agg #[.slice p.d.ex x.d.exits.length p.d.exc, .slice p.d.pl x.d.players.length p.d.plc, .slice p.d.co x.d.coins.length p.d.coc, .slice p.d.it x.d.items.length p.d.itc, .slice p.d.bo x.d.boxes.length p.d.boc, .int .i64 x.d.room, .int .i64 x.d.player, .int .i64 x.d.box, .slice p.at_ x.at_.length p.atc, .slice p.co x.coins.length p.coc, .slice p.wh x.wher.length p.whc], .int .u8 (a : Int), .int .u8 (b0 : Int), .int .u8 (c : Int)] w fun e w' => e = .returned (.bool true) ∧ Below w.heap.size w w' := by
  have r1 := run_tmod7 a x.at_.length
  have m1 := run_mod7 a x.at_.length
  have r4 := run_tmod7 b0 x.at_.length
  have m4 := run_mod7 b0 x.at_.length
  obtain ⟨r2, m2⟩ := run_four c
  rw [hi] at r1 m1
  rw [hk] at r4 m4
  rw [hc] at r2 m2
  have FT := Lib.hid (fits_fit hf)
  have hlp : 0 < x.at_.length := (right_lens FT.out.right).1
  have hne : ¬ x.at_ = [] := List.length_pos_iff.1 hlp
  have hil : i < x.at_.length := by rw [← hi]; exact Nat.mod_lt _ hlp
  have hkl : k < x.at_.length := by rw [← hk]; exact Nat.mod_lt _ hlp
  have hd4 : d < 4 := by rw [← hc]; exact Nat.mod_lt _ (by decide)
  have hd5 : (d : Int) < 4 := by omega
  have hlen6 := (right_lens FT.out.right).2.1
  obtain ⟨⟨y, s, f⟩, hP⟩ : ∃ R, moveW x k d = R := ⟨_, rfl⟩
  have HP := Lib.hid hP
  have HR := Lib.hid hR
  have SY := Lib.hid (show Shape x y by have := move_shape x k d; rwa [hP] at this)
  have hne2 : ((i : Int) != (k : Int)) = true := by simp; omega
  have hne3 : ((k : Int) == (i : Int)) = false := by simp; omega
  clear hik
  clear hi hk hc hlp hP hR
  have H_0 := Lib.hid (Holds.new w #[.slice p.d.ex x.d.exits.length p.d.exc, .slice p.d.pl x.d.players.length p.d.plc, .slice p.d.co x.d.coins.length p.d.coc, .slice p.d.it x.d.items.length p.d.itc, .slice p.d.bo x.d.boxes.length p.d.boc, .int .i64 x.d.room, .int .i64 x.d.player, .int .i64 x.d.box, .slice p.at_ x.at_.length p.atc, .slice p.co x.coins.length p.coc, .slice p.wh x.wher.length p.whc] 29)
  have HF := Lib.hid hf
  have HWA := Lib.hid h
  clear hf h
  go_enter Try.func4, Try.ntmps4
  go_wp2_with fail
  generalize w.alloc (.cells #[.slice p.d.ex x.d.exits.length p.d.exc, .slice p.d.pl x.d.players.length p.d.plc, .slice p.d.co x.d.coins.length p.d.coc, .slice p.d.it x.d.items.length p.d.itc, .slice p.d.bo x.d.boxes.length p.d.boc, .int .i64 x.d.room, .int .i64 x.d.player, .int .i64 x.d.box, .slice p.at_ x.at_.length p.atc, .slice p.co x.coins.length p.coc, .slice p.wh x.wher.length p.whc] 29) = V0 at *
  have B_0 := Lib.hid H_0.out.1
  refine (awake8_any _).mono ?_
  rintro e u1 ⟨rfl, b1⟩
  have B_1 := Lib.hid (bl B_0.out b1)
  have H_1 := Lib.hid (H_0.out.call b1)
  clear b1 B_0 H_0
  have hcH := H_1.out.2.2
  have hlH := H_1.out.2.1
  go_wp2_with fail
  refine (fits8_any x p _ (HWA.out.below H_1.out.1 (Nat.le_refl _))).mono ?_
  rintro e u2 ⟨rfl, b2⟩
  rw [HF.out]
  clear hcH hlH
  have B_2 := Lib.hid (bl B_1.out b2)
  have H_2 := Lib.hid (H_1.out.call b2)
  clear b2 B_1 H_1
  have hcH := H_2.out.2.2
  have hlH := H_2.out.2.1
  go_wp2_with fail
  refine (push_as (Shape.refl x) p i d hd4 _ FT.out.right (HWA.out.below B_2.out (Nat.le_refl _)) hil x 0 5 k HR.out).mono ?_
  rintro e u3 ⟨q3, rfl, g3, b3⟩
  clear hcH hlH
  have B_3 := Lib.hid (bl B_2.out b3)
  have H_3 := Lib.hid (H_2.out.call b3)
  have YA_3 := Lib.hid g3
  clear b3 B_2 H_2 g3
  have hcH := H_3.out.2.2
  have hlH := H_3.out.2.1
  go_wp2_with fail
  clear hcH hlH
  have s4 : (u3.alloc (.cells #[.slice q3.d.ex x.d.exits.length q3.d.exc, .slice q3.d.pl x.d.players.length q3.d.plc, .slice q3.d.co x.d.coins.length q3.d.coc, .slice q3.d.it x.d.items.length q3.d.itc, .slice q3.d.bo x.d.boxes.length q3.d.boc, .int .i64 x.d.room, .int .i64 x.d.player, .int .i64 x.d.box, .slice q3.at_ x.at_.length q3.atc, .slice q3.co x.coins.length q3.coc, .slice q3.wh x.wher.length q3.whc] 29)).heap.size = u3.heap.size + 1 := by simp
  have B_4 := Lib.hid (B_3.out.alloc B_3.out.size (.cells #[.slice q3.d.ex x.d.exits.length q3.d.exc, .slice q3.d.pl x.d.players.length q3.d.plc, .slice q3.d.co x.d.coins.length q3.d.coc, .slice q3.d.it x.d.items.length q3.d.itc, .slice q3.d.bo x.d.boxes.length q3.d.boc, .int .i64 x.d.room, .int .i64 x.d.player, .int .i64 x.d.box, .slice q3.at_ x.at_.length q3.atc, .slice q3.co x.coins.length q3.coc, .slice q3.wh x.wher.length q3.whc] 29))
  have H_4 := Lib.hid (H_3.out.alloc (.cells #[.slice q3.d.ex x.d.exits.length q3.d.exc, .slice q3.d.pl x.d.players.length q3.d.plc, .slice q3.d.co x.d.coins.length q3.d.coc, .slice q3.d.it x.d.items.length q3.d.itc, .slice q3.d.bo x.d.boxes.length q3.d.boc, .int .i64 x.d.room, .int .i64 x.d.player, .int .i64 x.d.box, .slice q3.at_ x.at_.length q3.atc, .slice q3.co x.coins.length q3.coc, .slice q3.wh x.wher.length q3.whc] 29))
  have YA_4 := Lib.hid (YA_3.out.call ((Below.refl _ _).alloc (Nat.le_refl _) (.cells #[.slice q3.d.ex x.d.exits.length q3.d.exc, .slice q3.d.pl x.d.players.length q3.d.plc, .slice q3.d.co x.d.coins.length q3.d.coc, .slice q3.d.it x.d.items.length q3.d.itc, .slice q3.d.bo x.d.boxes.length q3.d.boc, .int .i64 x.d.room, .int .i64 x.d.player, .int .i64 x.d.box, .slice q3.at_ x.at_.length q3.atc, .slice q3.co x.coins.length q3.coc, .slice q3.wh x.wher.length q3.whc] 29)))
  have A_4 := Lib.hid (Holds.newb (w := w) (A := #[.slice q3.d.ex x.d.exits.length q3.d.exc, .slice q3.d.pl x.d.players.length q3.d.plc, .slice q3.d.co x.d.coins.length q3.d.coc, .slice q3.d.it x.d.items.length q3.d.itc, .slice q3.d.bo x.d.boxes.length q3.d.boc, .int .i64 x.d.room, .int .i64 x.d.player, .int .i64 x.d.box, .slice q3.at_ x.at_.length q3.atc, .slice q3.co x.coins.length q3.coc, .slice q3.wh x.wher.length q3.whc]) (t := 29) (n := u3.heap.size) B_3.out rfl)
  clear B_3 H_3 YA_3
  generalize u3.alloc (.cells #[.slice q3.d.ex x.d.exits.length q3.d.exc, .slice q3.d.pl x.d.players.length q3.d.plc, .slice q3.d.co x.d.coins.length q3.d.coc, .slice q3.d.it x.d.items.length q3.d.itc, .slice q3.d.bo x.d.boxes.length q3.d.boc, .int .i64 x.d.room, .int .i64 x.d.player, .int .i64 x.d.box, .slice q3.at_ x.at_.length q3.atc, .slice q3.co x.coins.length q3.coc, .slice q3.wh x.wher.length q3.whc] 29) = V4 at *
  have hcH := H_4.out.2.2
  have hlH := H_4.out.2.1
  have hcA := A_4.out.2.2
  have hlA := A_4.out.2.1
  refine (move_as (Shape.refl x) p k d hd4 _ FT.out.right (HWA.out.below B_4.out (Nat.le_refl _)) hkl y s f HP.out).mono ?_
  rintro e u5 ⟨q5, rfl, g5, b5⟩
  clear hcH hlH hcA hlA
  have B_5 := Lib.hid (bl B_4.out b5)
  have H_5 := Lib.hid (H_4.out.call b5)
  have A_5 := Lib.hid (A_4.out.call b5)
  have YA_5 := Lib.hid (YA_4.out.call b5)
  have YB_5 := Lib.hid g5
  clear b5 B_4 H_4 A_4 YA_4 g5
  have hcH := H_5.out.2.2
  have hlH := H_5.out.2.1
  have hcA := A_5.out.2.2
  have hlA := A_5.out.2.1
  go_wp2_with fail
  clear hcH hlH hcA hlA
  have s6 : (u5.alloc (.cells #[.slice q5.d.ex x.d.exits.length q5.d.exc, .slice q5.d.pl x.d.players.length q5.d.plc, .slice q5.d.co x.d.coins.length q5.d.coc, .slice q5.d.it x.d.items.length q5.d.itc, .slice q5.d.bo x.d.boxes.length q5.d.boc, .int .i64 x.d.room, .int .i64 x.d.player, .int .i64 x.d.box, .slice q5.at_ x.at_.length q5.atc, .slice q5.co x.coins.length q5.coc, .slice q5.wh x.wher.length q5.whc] 29)).heap.size = u5.heap.size + 1 := by simp
  have B_6 := Lib.hid (B_5.out.alloc B_5.out.size (.cells #[.slice q5.d.ex x.d.exits.length q5.d.exc, .slice q5.d.pl x.d.players.length q5.d.plc, .slice q5.d.co x.d.coins.length q5.d.coc, .slice q5.d.it x.d.items.length q5.d.itc, .slice q5.d.bo x.d.boxes.length q5.d.boc, .int .i64 x.d.room, .int .i64 x.d.player, .int .i64 x.d.box, .slice q5.at_ x.at_.length q5.atc, .slice q5.co x.coins.length q5.coc, .slice q5.wh x.wher.length q5.whc] 29))
  have H_6 := Lib.hid (H_5.out.alloc (.cells #[.slice q5.d.ex x.d.exits.length q5.d.exc, .slice q5.d.pl x.d.players.length q5.d.plc, .slice q5.d.co x.d.coins.length q5.d.coc, .slice q5.d.it x.d.items.length q5.d.itc, .slice q5.d.bo x.d.boxes.length q5.d.boc, .int .i64 x.d.room, .int .i64 x.d.player, .int .i64 x.d.box, .slice q5.at_ x.at_.length q5.atc, .slice q5.co x.coins.length q5.coc, .slice q5.wh x.wher.length q5.whc] 29))
  have A_6 := Lib.hid (A_5.out.alloc (.cells #[.slice q5.d.ex x.d.exits.length q5.d.exc, .slice q5.d.pl x.d.players.length q5.d.plc, .slice q5.d.co x.d.coins.length q5.d.coc, .slice q5.d.it x.d.items.length q5.d.itc, .slice q5.d.bo x.d.boxes.length q5.d.boc, .int .i64 x.d.room, .int .i64 x.d.player, .int .i64 x.d.box, .slice q5.at_ x.at_.length q5.atc, .slice q5.co x.coins.length q5.coc, .slice q5.wh x.wher.length q5.whc] 29))
  have YA_6 := Lib.hid (YA_5.out.call ((Below.refl _ _).alloc (Nat.le_refl _) (.cells #[.slice q5.d.ex x.d.exits.length q5.d.exc, .slice q5.d.pl x.d.players.length q5.d.plc, .slice q5.d.co x.d.coins.length q5.d.coc, .slice q5.d.it x.d.items.length q5.d.itc, .slice q5.d.bo x.d.boxes.length q5.d.boc, .int .i64 x.d.room, .int .i64 x.d.player, .int .i64 x.d.box, .slice q5.at_ x.at_.length q5.atc, .slice q5.co x.coins.length q5.coc, .slice q5.wh x.wher.length q5.whc] 29)))
  have YB_6 := Lib.hid (YB_5.out.call ((Below.refl _ _).alloc (Nat.le_refl _) (.cells #[.slice q5.d.ex x.d.exits.length q5.d.exc, .slice q5.d.pl x.d.players.length q5.d.plc, .slice q5.d.co x.d.coins.length q5.d.coc, .slice q5.d.it x.d.items.length q5.d.itc, .slice q5.d.bo x.d.boxes.length q5.d.boc, .int .i64 x.d.room, .int .i64 x.d.player, .int .i64 x.d.box, .slice q5.at_ x.at_.length q5.atc, .slice q5.co x.coins.length q5.coc, .slice q5.wh x.wher.length q5.whc] 29)))
  have D_6 := Lib.hid (Holds.newb (w := w) (A := #[.slice q5.d.ex x.d.exits.length q5.d.exc, .slice q5.d.pl x.d.players.length q5.d.plc, .slice q5.d.co x.d.coins.length q5.d.coc, .slice q5.d.it x.d.items.length q5.d.itc, .slice q5.d.bo x.d.boxes.length q5.d.boc, .int .i64 x.d.room, .int .i64 x.d.player, .int .i64 x.d.box, .slice q5.at_ x.at_.length q5.atc, .slice q5.co x.coins.length q5.coc, .slice q5.wh x.wher.length q5.whc]) (t := 29) (n := u5.heap.size) B_5.out rfl)
  clear B_5 H_5 A_5 YA_5 YB_5
  generalize u5.alloc (.cells #[.slice q5.d.ex x.d.exits.length q5.d.exc, .slice q5.d.pl x.d.players.length q5.d.plc, .slice q5.d.co x.d.coins.length q5.d.coc, .slice q5.d.it x.d.items.length q5.d.itc, .slice q5.d.bo x.d.boxes.length q5.d.boc, .int .i64 x.d.room, .int .i64 x.d.player, .int .i64 x.d.box, .slice q5.at_ x.at_.length q5.atc, .slice q5.co x.coins.length q5.coc, .slice q5.wh x.wher.length q5.whc] 29) = V6 at *
  have hcH := H_6.out.2.2
  have hlH := H_6.out.2.1
  have hcA := A_6.out.2.2
  have hlA := A_6.out.2.1
  have hcD := D_6.out.2.2
  have hlD := D_6.out.2.1
  refine (rsame_yes (Shape.refl x) (Shape.refl x) rfl _ p _ YA_6.out (HWA.out.below B_6.out (Nat.le_refl _))).mono ?_
  rintro e u7 ⟨rfl, b7⟩
  clear hcH hlH hcA hlA hcD hlD
  have B_7 := Lib.hid (bl B_6.out b7)
  have H_7 := Lib.hid (H_6.out.call b7)
  have A_7 := Lib.hid (A_6.out.call b7)
  have D_7 := Lib.hid (D_6.out.call b7)
  have YA_7 := Lib.hid (YA_6.out.call b7)
  have YB_7 := Lib.hid (YB_6.out.call b7)
  clear b7 B_6 H_6 A_6 D_6 YA_6 YB_6
  have hcH := H_7.out.2.2
  have hlH := H_7.out.2.1
  have hcA := A_7.out.2.2
  have hlA := A_7.out.2.1
  have hcD := D_7.out.2.2
  have hlD := D_7.out.2.1
  go_wp2_with fail
  go_ret
  exact ⟨rfl, B_7.out⟩
set_option maxRecDepth 100000 in
set_option maxHeartbeats 4000000 in
theorem waysGo_shut (x : Wd) (p : Wp) (a b0 c i k d : Nat) (haa : a ≤ 255) (hbb : b0 ≤ 255) (hcc : c ≤ 255) (hi : a % x.at_.length = i) (hk : b0 % x.at_.length = k) (hc : c % 4 = d) (hik : ¬ k = i) (hM : moveW x k d = (x, 0, 4)) (hR : pushW x i k d = (x, 0, 4)) (w : World) (h : WorldAt w p x) (hf : fitsB x = true) : Calls Try.prog 4 #[.agg #[.slice p.d.ex x.d.exits.length p.d.exc, .slice p.d.pl x.d.players.length p.d.plc, .slice p.d.co x.d.coins.length p.d.coc, .slice p.d.it x.d.items.length p.d.itc, .slice p.d.bo x.d.boxes.length p.d.boc, .int .i64 x.d.room, .int .i64 x.d.player, .int .i64 x.d.box, .slice p.at_ x.at_.length p.atc, .slice p.co x.coins.length p.coc, .slice p.wh x.wher.length p.whc], .int .u8 (a : Int), .int .u8 (b0 : Int), .int .u8 (c : Int)] w fun e w' => e = .returned (.bool true) ∧ Below w.heap.size w w' := by
  have r1 := run_tmod7 a x.at_.length
  have m1 := run_mod7 a x.at_.length
  have r4 := run_tmod7 b0 x.at_.length
  have m4 := run_mod7 b0 x.at_.length
  obtain ⟨r2, m2⟩ := run_four c
  rw [hi] at r1 m1
  rw [hk] at r4 m4
  rw [hc] at r2 m2
  have FT := Lib.hid (fits_fit hf)
  have hlp : 0 < x.at_.length := (right_lens FT.out.right).1
  have hne : ¬ x.at_ = [] := List.length_pos_iff.1 hlp
  have hil : i < x.at_.length := by rw [← hi]; exact Nat.mod_lt _ hlp
  have hkl : k < x.at_.length := by rw [← hk]; exact Nat.mod_lt _ hlp
  have hd4 : d < 4 := by rw [← hc]; exact Nat.mod_lt _ (by decide)
  have hd5 : (d : Int) < 4 := by omega
  have hlen6 := (right_lens FT.out.right).2.1
  obtain ⟨⟨y, s, f⟩, hP⟩ : ∃ R, moveW x k d = R := ⟨_, rfl⟩
  have HP := Lib.hid hP
  have HR := Lib.hid hR
  have SY := Lib.hid (show Shape x y by have := move_shape x k d; rwa [hP] at this)
  have hf4 : (f == 4) = true := by rw [hM] at hP; cases hP; rfl
  clear hM
  have hne2 : ((i : Int) != (k : Int)) = true := by simp; omega
  have hne3 : ((k : Int) == (i : Int)) = false := by simp; omega
  clear hik
  clear hi hk hc hlp hP hR
  have H_0 := Lib.hid (Holds.new w #[.slice p.d.ex x.d.exits.length p.d.exc, .slice p.d.pl x.d.players.length p.d.plc, .slice p.d.co x.d.coins.length p.d.coc, .slice p.d.it x.d.items.length p.d.itc, .slice p.d.bo x.d.boxes.length p.d.boc, .int .i64 x.d.room, .int .i64 x.d.player, .int .i64 x.d.box, .slice p.at_ x.at_.length p.atc, .slice p.co x.coins.length p.coc, .slice p.wh x.wher.length p.whc] 29)
  have HF := Lib.hid hf
  have HWA := Lib.hid h
  clear hf h
  go_enter Try.func4, Try.ntmps4
  go_wp2_with fail
  generalize w.alloc (.cells #[.slice p.d.ex x.d.exits.length p.d.exc, .slice p.d.pl x.d.players.length p.d.plc, .slice p.d.co x.d.coins.length p.d.coc, .slice p.d.it x.d.items.length p.d.itc, .slice p.d.bo x.d.boxes.length p.d.boc, .int .i64 x.d.room, .int .i64 x.d.player, .int .i64 x.d.box, .slice p.at_ x.at_.length p.atc, .slice p.co x.coins.length p.coc, .slice p.wh x.wher.length p.whc] 29) = V0 at *
  have B_0 := Lib.hid H_0.out.1
  refine (awake8_any _).mono ?_
  rintro e u1 ⟨rfl, b1⟩
  have B_1 := Lib.hid (bl B_0.out b1)
  have H_1 := Lib.hid (H_0.out.call b1)
  clear b1 B_0 H_0
  have hcH := H_1.out.2.2
  have hlH := H_1.out.2.1
  go_wp2_with fail
  refine (fits8_any x p _ (HWA.out.below H_1.out.1 (Nat.le_refl _))).mono ?_
  rintro e u2 ⟨rfl, b2⟩
  rw [HF.out]
  clear hcH hlH
  have B_2 := Lib.hid (bl B_1.out b2)
  have H_2 := Lib.hid (H_1.out.call b2)
  clear b2 B_1 H_1
  have hcH := H_2.out.2.2
  have hlH := H_2.out.2.1
  go_wp2_with fail
  refine (push_as (Shape.refl x) p i d hd4 _ FT.out.right (HWA.out.below B_2.out (Nat.le_refl _)) hil x 0 4 k HR.out).mono ?_
  rintro e u3 ⟨q3, rfl, g3, b3⟩
  clear hcH hlH
  have B_3 := Lib.hid (bl B_2.out b3)
  have H_3 := Lib.hid (H_2.out.call b3)
  have YA_3 := Lib.hid g3
  clear b3 B_2 H_2 g3
  have hcH := H_3.out.2.2
  have hlH := H_3.out.2.1
  go_wp2_with fail
  clear hcH hlH
  have s4 : (u3.alloc (.cells #[.slice q3.d.ex x.d.exits.length q3.d.exc, .slice q3.d.pl x.d.players.length q3.d.plc, .slice q3.d.co x.d.coins.length q3.d.coc, .slice q3.d.it x.d.items.length q3.d.itc, .slice q3.d.bo x.d.boxes.length q3.d.boc, .int .i64 x.d.room, .int .i64 x.d.player, .int .i64 x.d.box, .slice q3.at_ x.at_.length q3.atc, .slice q3.co x.coins.length q3.coc, .slice q3.wh x.wher.length q3.whc] 29)).heap.size = u3.heap.size + 1 := by simp
  have B_4 := Lib.hid (B_3.out.alloc B_3.out.size (.cells #[.slice q3.d.ex x.d.exits.length q3.d.exc, .slice q3.d.pl x.d.players.length q3.d.plc, .slice q3.d.co x.d.coins.length q3.d.coc, .slice q3.d.it x.d.items.length q3.d.itc, .slice q3.d.bo x.d.boxes.length q3.d.boc, .int .i64 x.d.room, .int .i64 x.d.player, .int .i64 x.d.box, .slice q3.at_ x.at_.length q3.atc, .slice q3.co x.coins.length q3.coc, .slice q3.wh x.wher.length q3.whc] 29))
  have H_4 := Lib.hid (H_3.out.alloc (.cells #[.slice q3.d.ex x.d.exits.length q3.d.exc, .slice q3.d.pl x.d.players.length q3.d.plc, .slice q3.d.co x.d.coins.length q3.d.coc, .slice q3.d.it x.d.items.length q3.d.itc, .slice q3.d.bo x.d.boxes.length q3.d.boc, .int .i64 x.d.room, .int .i64 x.d.player, .int .i64 x.d.box, .slice q3.at_ x.at_.length q3.atc, .slice q3.co x.coins.length q3.coc, .slice q3.wh x.wher.length q3.whc] 29))
  have YA_4 := Lib.hid (YA_3.out.call ((Below.refl _ _).alloc (Nat.le_refl _) (.cells #[.slice q3.d.ex x.d.exits.length q3.d.exc, .slice q3.d.pl x.d.players.length q3.d.plc, .slice q3.d.co x.d.coins.length q3.d.coc, .slice q3.d.it x.d.items.length q3.d.itc, .slice q3.d.bo x.d.boxes.length q3.d.boc, .int .i64 x.d.room, .int .i64 x.d.player, .int .i64 x.d.box, .slice q3.at_ x.at_.length q3.atc, .slice q3.co x.coins.length q3.coc, .slice q3.wh x.wher.length q3.whc] 29)))
  have A_4 := Lib.hid (Holds.newb (w := w) (A := #[.slice q3.d.ex x.d.exits.length q3.d.exc, .slice q3.d.pl x.d.players.length q3.d.plc, .slice q3.d.co x.d.coins.length q3.d.coc, .slice q3.d.it x.d.items.length q3.d.itc, .slice q3.d.bo x.d.boxes.length q3.d.boc, .int .i64 x.d.room, .int .i64 x.d.player, .int .i64 x.d.box, .slice q3.at_ x.at_.length q3.atc, .slice q3.co x.coins.length q3.coc, .slice q3.wh x.wher.length q3.whc]) (t := 29) (n := u3.heap.size) B_3.out rfl)
  clear B_3 H_3 YA_3
  generalize u3.alloc (.cells #[.slice q3.d.ex x.d.exits.length q3.d.exc, .slice q3.d.pl x.d.players.length q3.d.plc, .slice q3.d.co x.d.coins.length q3.d.coc, .slice q3.d.it x.d.items.length q3.d.itc, .slice q3.d.bo x.d.boxes.length q3.d.boc, .int .i64 x.d.room, .int .i64 x.d.player, .int .i64 x.d.box, .slice q3.at_ x.at_.length q3.atc, .slice q3.co x.coins.length q3.coc, .slice q3.wh x.wher.length q3.whc] 29) = V4 at *
  have hcH := H_4.out.2.2
  have hlH := H_4.out.2.1
  have hcA := A_4.out.2.2
  have hlA := A_4.out.2.1
  refine (move_as (Shape.refl x) p k d hd4 _ FT.out.right (HWA.out.below B_4.out (Nat.le_refl _)) hkl y s f HP.out).mono ?_
  rintro e u5 ⟨q5, rfl, g5, b5⟩
  clear hcH hlH hcA hlA
  have B_5 := Lib.hid (bl B_4.out b5)
  have H_5 := Lib.hid (H_4.out.call b5)
  have A_5 := Lib.hid (A_4.out.call b5)
  have YA_5 := Lib.hid (YA_4.out.call b5)
  have YB_5 := Lib.hid g5
  clear b5 B_4 H_4 A_4 YA_4 g5
  have hcH := H_5.out.2.2
  have hlH := H_5.out.2.1
  have hcA := A_5.out.2.2
  have hlA := A_5.out.2.1
  go_wp2_with fail
  clear hcH hlH hcA hlA
  have s6 : (u5.alloc (.cells #[.slice q5.d.ex x.d.exits.length q5.d.exc, .slice q5.d.pl x.d.players.length q5.d.plc, .slice q5.d.co x.d.coins.length q5.d.coc, .slice q5.d.it x.d.items.length q5.d.itc, .slice q5.d.bo x.d.boxes.length q5.d.boc, .int .i64 x.d.room, .int .i64 x.d.player, .int .i64 x.d.box, .slice q5.at_ x.at_.length q5.atc, .slice q5.co x.coins.length q5.coc, .slice q5.wh x.wher.length q5.whc] 29)).heap.size = u5.heap.size + 1 := by simp
  have B_6 := Lib.hid (B_5.out.alloc B_5.out.size (.cells #[.slice q5.d.ex x.d.exits.length q5.d.exc, .slice q5.d.pl x.d.players.length q5.d.plc, .slice q5.d.co x.d.coins.length q5.d.coc, .slice q5.d.it x.d.items.length q5.d.itc, .slice q5.d.bo x.d.boxes.length q5.d.boc, .int .i64 x.d.room, .int .i64 x.d.player, .int .i64 x.d.box, .slice q5.at_ x.at_.length q5.atc, .slice q5.co x.coins.length q5.coc, .slice q5.wh x.wher.length q5.whc] 29))
  have H_6 := Lib.hid (H_5.out.alloc (.cells #[.slice q5.d.ex x.d.exits.length q5.d.exc, .slice q5.d.pl x.d.players.length q5.d.plc, .slice q5.d.co x.d.coins.length q5.d.coc, .slice q5.d.it x.d.items.length q5.d.itc, .slice q5.d.bo x.d.boxes.length q5.d.boc, .int .i64 x.d.room, .int .i64 x.d.player, .int .i64 x.d.box, .slice q5.at_ x.at_.length q5.atc, .slice q5.co x.coins.length q5.coc, .slice q5.wh x.wher.length q5.whc] 29))
  have A_6 := Lib.hid (A_5.out.alloc (.cells #[.slice q5.d.ex x.d.exits.length q5.d.exc, .slice q5.d.pl x.d.players.length q5.d.plc, .slice q5.d.co x.d.coins.length q5.d.coc, .slice q5.d.it x.d.items.length q5.d.itc, .slice q5.d.bo x.d.boxes.length q5.d.boc, .int .i64 x.d.room, .int .i64 x.d.player, .int .i64 x.d.box, .slice q5.at_ x.at_.length q5.atc, .slice q5.co x.coins.length q5.coc, .slice q5.wh x.wher.length q5.whc] 29))
  have YA_6 := Lib.hid (YA_5.out.call ((Below.refl _ _).alloc (Nat.le_refl _) (.cells #[.slice q5.d.ex x.d.exits.length q5.d.exc, .slice q5.d.pl x.d.players.length q5.d.plc, .slice q5.d.co x.d.coins.length q5.d.coc, .slice q5.d.it x.d.items.length q5.d.itc, .slice q5.d.bo x.d.boxes.length q5.d.boc, .int .i64 x.d.room, .int .i64 x.d.player, .int .i64 x.d.box, .slice q5.at_ x.at_.length q5.atc, .slice q5.co x.coins.length q5.coc, .slice q5.wh x.wher.length q5.whc] 29)))
  have YB_6 := Lib.hid (YB_5.out.call ((Below.refl _ _).alloc (Nat.le_refl _) (.cells #[.slice q5.d.ex x.d.exits.length q5.d.exc, .slice q5.d.pl x.d.players.length q5.d.plc, .slice q5.d.co x.d.coins.length q5.d.coc, .slice q5.d.it x.d.items.length q5.d.itc, .slice q5.d.bo x.d.boxes.length q5.d.boc, .int .i64 x.d.room, .int .i64 x.d.player, .int .i64 x.d.box, .slice q5.at_ x.at_.length q5.atc, .slice q5.co x.coins.length q5.coc, .slice q5.wh x.wher.length q5.whc] 29)))
  have D_6 := Lib.hid (Holds.newb (w := w) (A := #[.slice q5.d.ex x.d.exits.length q5.d.exc, .slice q5.d.pl x.d.players.length q5.d.plc, .slice q5.d.co x.d.coins.length q5.d.coc, .slice q5.d.it x.d.items.length q5.d.itc, .slice q5.d.bo x.d.boxes.length q5.d.boc, .int .i64 x.d.room, .int .i64 x.d.player, .int .i64 x.d.box, .slice q5.at_ x.at_.length q5.atc, .slice q5.co x.coins.length q5.coc, .slice q5.wh x.wher.length q5.whc]) (t := 29) (n := u5.heap.size) B_5.out rfl)
  clear B_5 H_5 A_5 YA_5 YB_5
  generalize u5.alloc (.cells #[.slice q5.d.ex x.d.exits.length q5.d.exc, .slice q5.d.pl x.d.players.length q5.d.plc, .slice q5.d.co x.d.coins.length q5.d.coc, .slice q5.d.it x.d.items.length q5.d.itc, .slice q5.d.bo x.d.boxes.length q5.d.boc, .int .i64 x.d.room, .int .i64 x.d.player, .int .i64 x.d.box, .slice q5.at_ x.at_.length q5.atc, .slice q5.co x.coins.length q5.coc, .slice q5.wh x.wher.length q5.whc] 29) = V6 at *
  have hcH := H_6.out.2.2
  have hlH := H_6.out.2.1
  have hcA := A_6.out.2.2
  have hlA := A_6.out.2.1
  have hcD := D_6.out.2.2
  have hlD := D_6.out.2.1
  refine (rsame_yes (Shape.refl x) (Shape.refl x) rfl _ p _ YA_6.out (HWA.out.below B_6.out (Nat.le_refl _))).mono ?_
  rintro e u7 ⟨rfl, b7⟩
  clear hcH hlH hcA hlA hcD hlD
  have B_7 := Lib.hid (bl B_6.out b7)
  have H_7 := Lib.hid (H_6.out.call b7)
  have A_7 := Lib.hid (A_6.out.call b7)
  have D_7 := Lib.hid (D_6.out.call b7)
  have YA_7 := Lib.hid (YA_6.out.call b7)
  have YB_7 := Lib.hid (YB_6.out.call b7)
  clear b7 B_6 H_6 A_6 D_6 YA_6 YB_6
  have hcH := H_7.out.2.2
  have hlH := H_7.out.2.1
  have hcA := A_7.out.2.2
  have hlA := A_7.out.2.1
  have hcD := D_7.out.2.2
  have hlD := D_7.out.2.1
  go_wp2_with fail
  go_ret
  exact ⟨rfl, B_7.out⟩
end Go.Proofs.Ytkhjmgedamndhaa
