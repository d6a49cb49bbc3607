/- HoldMoves: what is got hangs from who got it, with all that is within it; nothing else is elsewhere; the world is right; dropped at once it is as it was; what was refused stays. -/
import Derived.Test.YtjlipbcmkibkcaaRows
import Derived.Test.YtjlipbcmkibkcaaKit
import Derived.Test.YtjlipbcmkibkcaaGMem
import Derived.Test.YtjlipbcmkibkcaaCoin
import Derived.Test.YtjlipbcmkibkcaaGWorld
import Derived.Test.YtjlipbcmkibkcaaDescMay
import Derived.Test.YtjlipbcmkibkcaaGDescN
import Derived.Test.YtjlipbcmkibkcaaGRight
import Derived.Test.YtjlipbcmkibkcaaGCopy
import Derived.Test.YtjlipbcmkibkcaaGRefD
import Derived.Test.YtjlipbcmkibkcaaGAs
import Derived.Test.YtjlipbcmkibkcaaGEq
import Derived.Test.YtjlipbcmkibkcaaGNew
import Derived.Test.YtjlipbcmkibkcaaRefRight
import Derived.Test.YtjlipbcmkibkcaaGTreeL
import Derived.Test.YtjlipbcmkibkcaaTreeRefA
import Derived.Test.YtjlipbcmkibkcaaGHoldA
import Derived.Test.YtjlipbcmkibkcaaHoldD
import Derived.Test.YtjlipbcmkibkcaaHoldE
import Derived.Test.YtjlipbcmkibkcaaHoldAwake
import Derived.Deep.QuietTactic
import Derived.BigQuiet
import Derived.Deep.RegionHeld3
import Derived.WalkKit
import Derived.ProofKit
import Derived.OpenShut
import Derived.IntWalk
namespace Go.Proofs.Ytjlipbcmkibkcaa
open Go.ChangeShapes Go.WideShapes Go.ChangeAt Go.RowKit
set_option linter.unusedVariables false
open Go.RowKit
set_option maxRecDepth 100000 in
theorem holdMoves_no (x : Wd) (p : Wp) (a c : Int) (w : World) (h : WorldAt w p x) (hf : fitsB x = false) : Calls Try.prog 4 #[.agg #[.slice p.d.ex x.d.exits.length p.d.exc, .slice p.d.pl x.d.players.length p.d.plc, .slice p.d.co x.d.coins.length p.d.coc, .slice p.d.it x.d.items.length p.d.itc, .slice p.d.bo x.d.boxes.length p.d.boc, .int .i64 x.d.room, .int .i64 x.d.player, .int .i64 x.d.box, .slice p.at_ x.at_.length p.atc, .slice p.co x.coins.length p.coc, .slice p.wh x.wher.length p.whc], .int .u8 a, .int .u8 c] w fun e w' => e = .returned (.bool true) ∧ Below w.heap.size w w' := by
  have H_0 := Lib.hid (Holds.new w #[.slice p.d.ex x.d.exits.length p.d.exc, .slice p.d.pl x.d.players.length p.d.plc, .slice p.d.co x.d.coins.length p.d.coc, .slice p.d.it x.d.items.length p.d.itc, .slice p.d.bo x.d.boxes.length p.d.boc, .int .i64 x.d.room, .int .i64 x.d.player, .int .i64 x.d.box, .slice p.at_ x.at_.length p.atc, .slice p.co x.coins.length p.coc, .slice p.wh x.wher.length p.whc] 29)
  have HF := Lib.hid hf
  have HWA := Lib.hid h
  clear hf h
  go_enter Try.func4, Try.ntmps4
  go_wp2_with fail
  generalize w.alloc (.cells #[.slice p.d.ex x.d.exits.length p.d.exc, .slice p.d.pl x.d.players.length p.d.plc, .slice p.d.co x.d.coins.length p.d.coc, .slice p.d.it x.d.items.length p.d.itc, .slice p.d.bo x.d.boxes.length p.d.boc, .int .i64 x.d.room, .int .i64 x.d.player, .int .i64 x.d.box, .slice p.at_ x.at_.length p.atc, .slice p.co x.coins.length p.coc, .slice p.wh x.wher.length p.whc] 29) = V0 at *
  have B_0 := Lib.hid H_0.out.1
  refine (awake9_any _).mono ?_
  rintro e u1 ⟨rfl, b1⟩
  have B_1 := Lib.hid (bl B_0.out b1)
  have H_1 := Lib.hid (H_0.out.call b1)
  clear b1 B_0 H_0
  have hcH := H_1.out.2.2
  have hlH := H_1.out.2.1
  go_wp2_with fail
  refine (fits9_any x p _ (HWA.out.below H_1.out.1 (Nat.le_refl _))).mono ?_
  rintro e u2 ⟨rfl, b2⟩
  rw [HF.out]
  clear hcH hlH
  have B_2 := Lib.hid (bl B_1.out b2)
  have H_2 := Lib.hid (H_1.out.call b2)
  clear b2 B_1 H_1
  have hcH := H_2.out.2.2
  have hlH := H_2.out.2.1
  go_wp2_with fail
  refine (awake9_any _).mono ?_
  rintro e u3 ⟨rfl, b3⟩
  clear hcH hlH
  have B_3 := Lib.hid (bl B_2.out b3)
  have H_3 := Lib.hid (H_2.out.call b3)
  clear b3 B_2 H_2
  have hcH := H_3.out.2.2
  have hlH := H_3.out.2.1
  go_wp2_with fail
  go_ret
  exact ⟨rfl, B_3.out⟩
set_option maxRecDepth 100000 in
theorem holdMoves_none (x : Wd) (p : Wp) (a c : Int) (w : World) (h : WorldAt w p x) (hf : fitsB x = true) (h0 : ((x.wher.length : Int) == 0) = true) : Calls Try.prog 4 #[.agg #[.slice p.d.ex x.d.exits.length p.d.exc, .slice p.d.pl x.d.players.length p.d.plc, .slice p.d.co x.d.coins.length p.d.coc, .slice p.d.it x.d.items.length p.d.itc, .slice p.d.bo x.d.boxes.length p.d.boc, .int .i64 x.d.room, .int .i64 x.d.player, .int .i64 x.d.box, .slice p.at_ x.at_.length p.atc, .slice p.co x.coins.length p.coc, .slice p.wh x.wher.length p.whc], .int .u8 a, .int .u8 c] w fun e w' => e = .returned (.bool true) ∧ Below w.heap.size w w' := by
  have H_0 := Lib.hid (Holds.new w #[.slice p.d.ex x.d.exits.length p.d.exc, .slice p.d.pl x.d.players.length p.d.plc, .slice p.d.co x.d.coins.length p.d.coc, .slice p.d.it x.d.items.length p.d.itc, .slice p.d.bo x.d.boxes.length p.d.boc, .int .i64 x.d.room, .int .i64 x.d.player, .int .i64 x.d.box, .slice p.at_ x.at_.length p.atc, .slice p.co x.coins.length p.coc, .slice p.wh x.wher.length p.whc] 29)
  have HF := Lib.hid hf
  have HWA := Lib.hid h
  clear hf h
  go_enter Try.func4, Try.ntmps4
  go_wp2_with fail
  generalize w.alloc (.cells #[.slice p.d.ex x.d.exits.length p.d.exc, .slice p.d.pl x.d.players.length p.d.plc, .slice p.d.co x.d.coins.length p.d.coc, .slice p.d.it x.d.items.length p.d.itc, .slice p.d.bo x.d.boxes.length p.d.boc, .int .i64 x.d.room, .int .i64 x.d.player, .int .i64 x.d.box, .slice p.at_ x.at_.length p.atc, .slice p.co x.coins.length p.coc, .slice p.wh x.wher.length p.whc] 29) = V0 at *
  have B_0 := Lib.hid H_0.out.1
  refine (awake9_any _).mono ?_
  rintro e u1 ⟨rfl, b1⟩
  have B_1 := Lib.hid (bl B_0.out b1)
  have H_1 := Lib.hid (H_0.out.call b1)
  clear b1 B_0 H_0
  have hcH := H_1.out.2.2
  have hlH := H_1.out.2.1
  go_wp2_with fail
  refine (fits9_any x p _ (HWA.out.below H_1.out.1 (Nat.le_refl _))).mono ?_
  rintro e u2 ⟨rfl, b2⟩
  rw [HF.out]
  clear hcH hlH
  have B_2 := Lib.hid (bl B_1.out b2)
  have H_2 := Lib.hid (H_1.out.call b2)
  clear b2 B_1 H_1
  have hcH := H_2.out.2.2
  have hlH := H_2.out.2.1
  go_wp2_with fail
  refine (awake9_any _).mono ?_
  rintro e u3 ⟨rfl, b3⟩
  clear hcH hlH
  have B_3 := Lib.hid (bl B_2.out b3)
  have H_3 := Lib.hid (H_2.out.call b3)
  clear b3 B_2 H_2
  have hcH := H_3.out.2.2
  have hlH := H_3.out.2.1
  go_wp2_with fail
  go_ret
  exact ⟨rfl, B_3.out⟩
theorem run_pln9 (k i : Int) (W : World) : (binOp .neq 40 (.agg #[.int .i64 k, .int .i64 i]) (.agg #[.int .i64 k, .int .i64 i])).run Try.prog W = .ok (.bool false) W := by go_simp
theorem rroot_as {x y : Wd} (hs : Shape x y) (p : Wp) (hr : rightW y = true) (n : Nat) (hn : n < y.wher.length) (r : Pl) (he : rootI y.wher n = r) (w : World) (h : WorldAt w p y) : Calls Try.prog 20 #[.agg #[.slice p.d.ex x.d.exits.length p.d.exc, .slice p.d.pl x.d.players.length p.d.plc, .slice p.d.co x.d.coins.length p.d.coc, .slice p.d.it x.d.items.length p.d.itc, .slice p.d.bo x.d.boxes.length p.d.boc, .int .i64 x.d.room, .int .i64 x.d.player, .int .i64 x.d.box, .slice p.at_ x.at_.length p.atc, .slice p.co x.coins.length p.coc, .slice p.wh x.wher.length p.whc], .int .i64 (n : Int)] w fun e w' => e = .returned (.agg #[.int .i64 r.kind, .int .i64 r.id]) ∧ Below w.heap.size w w' := by
  have := refroot_any y p (right_tr hr) n hn w h.wh
  rw [hs.val, he] at this
  exact this
theorem others_one (x : Wd) (p q : Wp) (k : Nat) (f : Pl) (g : Nat) (w : World) (hx : rightW x = true) (h : WorldAt w p x) (hy : WorldAt w q (putW x k f)) (hk : k < x.wher.length) (hL : IntsAt w (some ⟨g, 0, none⟩) [(k : Int)]) : Calls Try.prog 18 #[.agg #[.slice p.d.ex x.d.exits.length p.d.exc, .slice p.d.pl x.d.players.length p.d.plc, .slice p.d.co x.d.coins.length p.d.coc, .slice p.d.it x.d.items.length p.d.itc, .slice p.d.bo x.d.boxes.length p.d.boc, .int .i64 x.d.room, .int .i64 x.d.player, .int .i64 x.d.box, .slice p.at_ x.at_.length p.atc, .slice p.co x.coins.length p.coc, .slice p.wh x.wher.length p.whc], .agg #[.slice q.d.ex x.d.exits.length q.d.exc, .slice q.d.pl x.d.players.length q.d.plc, .slice q.d.co x.d.coins.length q.d.coc, .slice q.d.it x.d.items.length q.d.itc, .slice q.d.bo x.d.boxes.length q.d.boc, .int .i64 x.d.room, .int .i64 x.d.player, .int .i64 x.d.box, .slice q.at_ x.at_.length q.atc, .slice q.co x.coins.length q.coc, .slice q.wh x.wher.length q.whc], .slice (some ⟨g, 0, none⟩) 1 1] w fun e w' => e = .returned (.bool true) ∧ Below w.heap.size w w' := by
  have h1 := others_any x (putW x k f) p q [k] (some ⟨g, 0, none⟩) 1 w (putW_shape x k f) (right_fewW9 hx) h hy hL (by simpa using hk) (by simp)
  have h2 : putAll x (putW x k f) [k] = putW x k f := by
    show putW x k (plOf (x.wher.set k f) k) = putW x k f
    rw [plOf_set hk, if_pos rfl]
  rw [h2, decide_eq_true rfl] at h1
  exact h1
theorem lit_one (W : World) (k : Nat) (n : Nat) (hn : W.heap.size = n) : IntsAt (W.alloc (.cells #[.int .i64 (k : Int)] 3)) (some ⟨n, 0, none⟩) [(k : Int)] := by
  subst hn
  exact Blk.ints (Blk.new W 3 _) (by simp [maxLen]) (fun i hi => by
    obtain rfl : i = 0 := by simpa using hi
    rfl)
set_option maxRecDepth 100000 in
set_option maxHeartbeats 2000000 in
theorem holdMoves_not (x : Wd) (p : Wp) (a c i k : Nat) (haa : a ≤ 255) (hcc : c ≤ 255) (hwp : 0 < x.wher.length) (hi : a % x.at_.length = i) (hk : c % x.wher.length = k) (e f : Int) (hR : getW x i k = (x, e)) (hP : dropW x i k = (x, f)) (he : ¬ e = 0) (hf0 : ¬ f = 0) (w : World) (h : WorldAt w p x) (hf : fitsB x = true) : Calls Try.prog 4 #[.agg #[.slice p.d.ex x.d.exits.length p.d.exc, .slice p.d.pl x.d.players.length p.d.plc, .slice p.d.co x.d.coins.length p.d.coc, .slice p.d.it x.d.items.length p.d.itc, .slice p.d.bo x.d.boxes.length p.d.boc, .int .i64 x.d.room, .int .i64 x.d.player, .int .i64 x.d.box, .slice p.at_ x.at_.length p.atc, .slice p.co x.coins.length p.coc, .slice p.wh x.wher.length p.whc], .int .u8 (a : Int), .int .u8 (c : Int)] w fun e w' => e = .returned (.bool true) ∧ Below w.heap.size w w' := by
  have r1 := run_tmod7 a x.at_.length
  have m1 := run_mod7 a x.at_.length
  rw [hi] at r1 m1
  have FT := Lib.hid (fits_fit hf)
  have hlp : 0 < x.at_.length := (right_lens FT.out.right).1
  have hne : ¬ x.at_ = [] := List.length_pos_iff.1 hlp
  have hil : i < x.at_.length := by rw [← hi]; exact Nat.mod_lt _ hlp
  have hlen6 := (right_lens FT.out.right).2.1
  have r2 := run_tmod7 c x.wher.length
  have m2 := run_mod7 c x.wher.length
  rw [hk] at r2 m2
  have hne2 : ¬ x.wher = [] := List.length_pos_iff.1 hwp
  have h0 : ((x.wher.length : Int) == 0) = false := by simp; omega
  have hkl : k < x.wher.length := by rw [← hk]; exact Nat.mod_lt _ hwp
  have hlen16 := (right_lens FT.out.right).2.2.2.1
  have hlen := h.wh.len
  have HWP := Lib.hid hwp
  clear hi hk hlp hwp
  have HR := Lib.hid hR
  have HP := Lib.hid hP
  have e0 : (e == 0) = false := by simpa using he
  have e1 : (e != 0) = true := by simpa using he
  have f0 : (f == 0) = false := by simpa using hf0
  have f1 : (f != 0) = true := by simpa using hf0
  clear hR hP he hf0
  have H_0 := Lib.hid (Holds.new w #[.slice p.d.ex x.d.exits.length p.d.exc, .slice p.d.pl x.d.players.length p.d.plc, .slice p.d.co x.d.coins.length p.d.coc, .slice p.d.it x.d.items.length p.d.itc, .slice p.d.bo x.d.boxes.length p.d.boc, .int .i64 x.d.room, .int .i64 x.d.player, .int .i64 x.d.box, .slice p.at_ x.at_.length p.atc, .slice p.co x.coins.length p.coc, .slice p.wh x.wher.length p.whc] 29)
  have HF := Lib.hid hf
  have HWA := Lib.hid h
  clear hf h
  go_enter Try.func4, Try.ntmps4
  go_wp2_with fail
  generalize w.alloc (.cells #[.slice p.d.ex x.d.exits.length p.d.exc, .slice p.d.pl x.d.players.length p.d.plc, .slice p.d.co x.d.coins.length p.d.coc, .slice p.d.it x.d.items.length p.d.itc, .slice p.d.bo x.d.boxes.length p.d.boc, .int .i64 x.d.room, .int .i64 x.d.player, .int .i64 x.d.box, .slice p.at_ x.at_.length p.atc, .slice p.co x.coins.length p.coc, .slice p.wh x.wher.length p.whc] 29) = V0 at *
  have B_0 := Lib.hid H_0.out.1
  refine (awake9_any _).mono ?_
  rintro e u1 ⟨rfl, b1⟩
  have B_1 := Lib.hid (bl B_0.out b1)
  have H_1 := Lib.hid (H_0.out.call b1)
  clear b1 B_0 H_0
  have hcH := H_1.out.2.2
  have hlH := H_1.out.2.1
  go_wp2_with fail
  refine (fits9_any x p _ (HWA.out.below H_1.out.1 (Nat.le_refl _))).mono ?_
  rintro e u2 ⟨rfl, b2⟩
  rw [HF.out]
  clear hcH hlH
  have B_2 := Lib.hid (bl B_1.out b2)
  have H_2 := Lib.hid (H_1.out.call b2)
  clear b2 B_1 H_1
  have hcH := H_2.out.2.2
  have hlH := H_2.out.2.1
  go_wp2_with fail
  refine (get_as (Shape.refl x) p i k _ FT.out.right (HWA.out.below B_2.out (Nat.le_refl _)) hil HR.out).mono ?_
  rintro e u3 ⟨q3, rfl, g3, b3⟩
  clear hcH hlH
  have B_3 := Lib.hid (bl B_2.out b3)
  have H_3 := Lib.hid (H_2.out.call b3)
  have YA_3 := Lib.hid g3
  clear b3 B_2 H_2 g3
  have hcH := H_3.out.2.2
  have hlH := H_3.out.2.1
  go_wp2_with fail
  clear hcH hlH
  have s4 : (u3.alloc (.cells #[.slice q3.d.ex x.d.exits.length q3.d.exc, .slice q3.d.pl x.d.players.length q3.d.plc, .slice q3.d.co x.d.coins.length q3.d.coc, .slice q3.d.it x.d.items.length q3.d.itc, .slice q3.d.bo x.d.boxes.length q3.d.boc, .int .i64 x.d.room, .int .i64 x.d.player, .int .i64 x.d.box, .slice q3.at_ x.at_.length q3.atc, .slice q3.co x.coins.length q3.coc, .slice q3.wh x.wher.length q3.whc] 29)).heap.size = u3.heap.size + 1 := by simp
  have B_4 := Lib.hid (B_3.out.alloc B_3.out.size (.cells #[.slice q3.d.ex x.d.exits.length q3.d.exc, .slice q3.d.pl x.d.players.length q3.d.plc, .slice q3.d.co x.d.coins.length q3.d.coc, .slice q3.d.it x.d.items.length q3.d.itc, .slice q3.d.bo x.d.boxes.length q3.d.boc, .int .i64 x.d.room, .int .i64 x.d.player, .int .i64 x.d.box, .slice q3.at_ x.at_.length q3.atc, .slice q3.co x.coins.length q3.coc, .slice q3.wh x.wher.length q3.whc] 29))
  have H_4 := Lib.hid (H_3.out.alloc (.cells #[.slice q3.d.ex x.d.exits.length q3.d.exc, .slice q3.d.pl x.d.players.length q3.d.plc, .slice q3.d.co x.d.coins.length q3.d.coc, .slice q3.d.it x.d.items.length q3.d.itc, .slice q3.d.bo x.d.boxes.length q3.d.boc, .int .i64 x.d.room, .int .i64 x.d.player, .int .i64 x.d.box, .slice q3.at_ x.at_.length q3.atc, .slice q3.co x.coins.length q3.coc, .slice q3.wh x.wher.length q3.whc] 29))
  have YA_4 := Lib.hid (YA_3.out.call ((Below.refl _ _).alloc (Nat.le_refl _) (.cells #[.slice q3.d.ex x.d.exits.length q3.d.exc, .slice q3.d.pl x.d.players.length q3.d.plc, .slice q3.d.co x.d.coins.length q3.d.coc, .slice q3.d.it x.d.items.length q3.d.itc, .slice q3.d.bo x.d.boxes.length q3.d.boc, .int .i64 x.d.room, .int .i64 x.d.player, .int .i64 x.d.box, .slice q3.at_ x.at_.length q3.atc, .slice q3.co x.coins.length q3.coc, .slice q3.wh x.wher.length q3.whc] 29)))
  have A_4 := Lib.hid (Holds.newb (w := w) (A := #[.slice q3.d.ex x.d.exits.length q3.d.exc, .slice q3.d.pl x.d.players.length q3.d.plc, .slice q3.d.co x.d.coins.length q3.d.coc, .slice q3.d.it x.d.items.length q3.d.itc, .slice q3.d.bo x.d.boxes.length q3.d.boc, .int .i64 x.d.room, .int .i64 x.d.player, .int .i64 x.d.box, .slice q3.at_ x.at_.length q3.atc, .slice q3.co x.coins.length q3.coc, .slice q3.wh x.wher.length q3.whc]) (t := 29) (n := u3.heap.size) B_3.out rfl)
  clear B_3 H_3 YA_3
  generalize u3.alloc (.cells #[.slice q3.d.ex x.d.exits.length q3.d.exc, .slice q3.d.pl x.d.players.length q3.d.plc, .slice q3.d.co x.d.coins.length q3.d.coc, .slice q3.d.it x.d.items.length q3.d.itc, .slice q3.d.bo x.d.boxes.length q3.d.boc, .int .i64 x.d.room, .int .i64 x.d.player, .int .i64 x.d.box, .slice q3.at_ x.at_.length q3.atc, .slice q3.co x.coins.length q3.coc, .slice q3.wh x.wher.length q3.whc] 29) = V4 at *
  have hcH := H_4.out.2.2
  have hlH := H_4.out.2.1
  have hcA := A_4.out.2.2
  have hlA := A_4.out.2.1
  refine (drop_as (Shape.refl x) p i k _ FT.out.right (HWA.out.below B_4.out (Nat.le_refl _)) hil HP.out).mono ?_
  rintro e u5 ⟨q5, rfl, g5, b5⟩
  clear hcH hlH hcA hlA
  have B_5 := Lib.hid (bl B_4.out b5)
  have H_5 := Lib.hid (H_4.out.call b5)
  have A_5 := Lib.hid (A_4.out.call b5)
  have YA_5 := Lib.hid (YA_4.out.call b5)
  have YB_5 := Lib.hid g5
  clear b5 B_4 H_4 A_4 YA_4 g5
  have hcH := H_5.out.2.2
  have hlH := H_5.out.2.1
  have hcA := A_5.out.2.2
  have hlA := A_5.out.2.1
  go_wp2_with fail
  clear hcH hlH hcA hlA
  have s6 : (u5.alloc (.cells #[.slice q5.d.ex x.d.exits.length q5.d.exc, .slice q5.d.pl x.d.players.length q5.d.plc, .slice q5.d.co x.d.coins.length q5.d.coc, .slice q5.d.it x.d.items.length q5.d.itc, .slice q5.d.bo x.d.boxes.length q5.d.boc, .int .i64 x.d.room, .int .i64 x.d.player, .int .i64 x.d.box, .slice q5.at_ x.at_.length q5.atc, .slice q5.co x.coins.length q5.coc, .slice q5.wh x.wher.length q5.whc] 29)).heap.size = u5.heap.size + 1 := by simp
  have B_6 := Lib.hid (B_5.out.alloc B_5.out.size (.cells #[.slice q5.d.ex x.d.exits.length q5.d.exc, .slice q5.d.pl x.d.players.length q5.d.plc, .slice q5.d.co x.d.coins.length q5.d.coc, .slice q5.d.it x.d.items.length q5.d.itc, .slice q5.d.bo x.d.boxes.length q5.d.boc, .int .i64 x.d.room, .int .i64 x.d.player, .int .i64 x.d.box, .slice q5.at_ x.at_.length q5.atc, .slice q5.co x.coins.length q5.coc, .slice q5.wh x.wher.length q5.whc] 29))
  have H_6 := Lib.hid (H_5.out.alloc (.cells #[.slice q5.d.ex x.d.exits.length q5.d.exc, .slice q5.d.pl x.d.players.length q5.d.plc, .slice q5.d.co x.d.coins.length q5.d.coc, .slice q5.d.it x.d.items.length q5.d.itc, .slice q5.d.bo x.d.boxes.length q5.d.boc, .int .i64 x.d.room, .int .i64 x.d.player, .int .i64 x.d.box, .slice q5.at_ x.at_.length q5.atc, .slice q5.co x.coins.length q5.coc, .slice q5.wh x.wher.length q5.whc] 29))
  have A_6 := Lib.hid (A_5.out.alloc (.cells #[.slice q5.d.ex x.d.exits.length q5.d.exc, .slice q5.d.pl x.d.players.length q5.d.plc, .slice q5.d.co x.d.coins.length q5.d.coc, .slice q5.d.it x.d.items.length q5.d.itc, .slice q5.d.bo x.d.boxes.length q5.d.boc, .int .i64 x.d.room, .int .i64 x.d.player, .int .i64 x.d.box, .slice q5.at_ x.at_.length q5.atc, .slice q5.co x.coins.length q5.coc, .slice q5.wh x.wher.length q5.whc] 29))
  have YA_6 := Lib.hid (YA_5.out.call ((Below.refl _ _).alloc (Nat.le_refl _) (.cells #[.slice q5.d.ex x.d.exits.length q5.d.exc, .slice q5.d.pl x.d.players.length q5.d.plc, .slice q5.d.co x.d.coins.length q5.d.coc, .slice q5.d.it x.d.items.length q5.d.itc, .slice q5.d.bo x.d.boxes.length q5.d.boc, .int .i64 x.d.room, .int .i64 x.d.player, .int .i64 x.d.box, .slice q5.at_ x.at_.length q5.atc, .slice q5.co x.coins.length q5.coc, .slice q5.wh x.wher.length q5.whc] 29)))
  have YB_6 := Lib.hid (YB_5.out.call ((Below.refl _ _).alloc (Nat.le_refl _) (.cells #[.slice q5.d.ex x.d.exits.length q5.d.exc, .slice q5.d.pl x.d.players.length q5.d.plc, .slice q5.d.co x.d.coins.length q5.d.coc, .slice q5.d.it x.d.items.length q5.d.itc, .slice q5.d.bo x.d.boxes.length q5.d.boc, .int .i64 x.d.room, .int .i64 x.d.player, .int .i64 x.d.box, .slice q5.at_ x.at_.length q5.atc, .slice q5.co x.coins.length q5.coc, .slice q5.wh x.wher.length q5.whc] 29)))
  have D_6 := Lib.hid (Holds.newb (w := w) (A := #[.slice q5.d.ex x.d.exits.length q5.d.exc, .slice q5.d.pl x.d.players.length q5.d.plc, .slice q5.d.co x.d.coins.length q5.d.coc, .slice q5.d.it x.d.items.length q5.d.itc, .slice q5.d.bo x.d.boxes.length q5.d.boc, .int .i64 x.d.room, .int .i64 x.d.player, .int .i64 x.d.box, .slice q5.at_ x.at_.length q5.atc, .slice q5.co x.coins.length q5.coc, .slice q5.wh x.wher.length q5.whc]) (t := 29) (n := u5.heap.size) B_5.out rfl)
  clear B_5 H_5 A_5 YA_5 YB_5
  generalize u5.alloc (.cells #[.slice q5.d.ex x.d.exits.length q5.d.exc, .slice q5.d.pl x.d.players.length q5.d.plc, .slice q5.d.co x.d.coins.length q5.d.coc, .slice q5.d.it x.d.items.length q5.d.itc, .slice q5.d.bo x.d.boxes.length q5.d.boc, .int .i64 x.d.room, .int .i64 x.d.player, .int .i64 x.d.box, .slice q5.at_ x.at_.length q5.atc, .slice q5.co x.coins.length q5.coc, .slice q5.wh x.wher.length q5.whc] 29) = V6 at *
  have hcH := H_6.out.2.2
  have hlH := H_6.out.2.1
  have hcA := A_6.out.2.2
  have hlA := A_6.out.2.1
  have hcD := D_6.out.2.2
  have hlD := D_6.out.2.1
  refine (rsame_yes (Shape.refl x) (Shape.refl x) rfl _ p _ YA_6.out (HWA.out.below B_6.out (Nat.le_refl _))).mono ?_
  rintro e u7 ⟨rfl, b7⟩
  clear hcH hlH hcA hlA hcD hlD
  have B_7 := Lib.hid (bl B_6.out b7)
  have H_7 := Lib.hid (H_6.out.call b7)
  have A_7 := Lib.hid (A_6.out.call b7)
  have D_7 := Lib.hid (D_6.out.call b7)
  have YA_7 := Lib.hid (YA_6.out.call b7)
  have YB_7 := Lib.hid (YB_6.out.call b7)
  clear b7 B_6 H_6 A_6 D_6 YA_6 YB_6
  have hcH := H_7.out.2.2
  have hlH := H_7.out.2.1
  have hcA := A_7.out.2.2
  have hlA := A_7.out.2.1
  have hcD := D_7.out.2.2
  have hlD := D_7.out.2.1
  go_wp2_with fail
  refine (rsame_yes (Shape.refl x) (Shape.refl x) rfl _ p _ YB_7.out (HWA.out.below B_7.out (Nat.le_refl _))).mono ?_
  rintro e u8 ⟨rfl, b8⟩
  clear hcH hlH hcA hlA hcD hlD
  have B_8 := Lib.hid (bl B_7.out b8)
  have H_8 := Lib.hid (H_7.out.call b8)
  have A_8 := Lib.hid (A_7.out.call b8)
  have D_8 := Lib.hid (D_7.out.call b8)
  have YA_8 := Lib.hid (YA_7.out.call b8)
  have YB_8 := Lib.hid (YB_7.out.call b8)
  clear b8 B_7 H_7 A_7 D_7 YA_7 YB_7
  have hcH := H_8.out.2.2
  have hlH := H_8.out.2.1
  have hcA := A_8.out.2.2
  have hlA := A_8.out.2.1
  have hcD := D_8.out.2.2
  have hlD := D_8.out.2.1
  go_wp2_with fail
  go_ret
  exact ⟨rfl, B_8.out⟩
set_option maxRecDepth 100000 in
set_option maxHeartbeats 2000000 in
theorem holdMoves_got (x : Wd) (p : Wp) (a c i k : Nat) (haa : a ≤ 255) (hcc : c ≤ 255) (hwp : 0 < x.wher.length) (hi : a % x.at_.length = i) (hk : c % x.wher.length = k) (hR : getW x i k = (putW x k ⟨1, (i : Int)⟩, 0)) (hP : dropW x i k = (x, 5)) (hQ : dropW (putW x k ⟨1, (i : Int)⟩) i k = (x, 0)) (hG : rightW (putW x k ⟨1, (i : Int)⟩) = true) (w : World) (h : WorldAt w p x) (hf : fitsB x = true) : Calls Try.prog 4 #[.agg #[.slice p.d.ex x.d.exits.length p.d.exc, .slice p.d.pl x.d.players.length p.d.plc, .slice p.d.co x.d.coins.length p.d.coc, .slice p.d.it x.d.items.length p.d.itc, .slice p.d.bo x.d.boxes.length p.d.boc, .int .i64 x.d.room, .int .i64 x.d.player, .int .i64 x.d.box, .slice p.at_ x.at_.length p.atc, .slice p.co x.coins.length p.coc, .slice p.wh x.wher.length p.whc], .int .u8 (a : Int), .int .u8 (c : Int)] w fun e w' => e = .returned (.bool true) ∧ Below w.heap.size w w' := by
  have r1 := run_tmod7 a x.at_.length
  have m1 := run_mod7 a x.at_.length
  rw [hi] at r1 m1
  have FT := Lib.hid (fits_fit hf)
  have hlp : 0 < x.at_.length := (right_lens FT.out.right).1
  have hne : ¬ x.at_ = [] := List.length_pos_iff.1 hlp
  have hil : i < x.at_.length := by rw [← hi]; exact Nat.mod_lt _ hlp
  have hlen6 := (right_lens FT.out.right).2.1
  have r2 := run_tmod7 c x.wher.length
  have m2 := run_mod7 c x.wher.length
  rw [hk] at r2 m2
  have hne2 : ¬ x.wher = [] := List.length_pos_iff.1 hwp
  have h0 : ((x.wher.length : Int) == 0) = false := by simp; omega
  have hkl : k < x.wher.length := by rw [← hk]; exact Nat.mod_lt _ hwp
  have hlen16 := (right_lens FT.out.right).2.2.2.1
  have hlen := h.wh.len
  have HWP := Lib.hid hwp
  clear hi hk hlp hwp
  have HR := Lib.hid hR
  have HP := Lib.hid hP
  have HQ := Lib.hid hQ
  have HG := Lib.hid hG
  have SY := Lib.hid (putW_shape x k ⟨1, (i : Int)⟩)
  have hky : k < (putW x k ⟨1, (i : Int)⟩).wher.length := by rw [SY.out.w]; exact hkl
  have HKY := Lib.hid hky
  have HIY := Lib.hid (show i < (putW x k ⟨1, (i : Int)⟩).at_.length from hil)
  have RT := Lib.hid (fun (n : Nat) (hn : n < x.wher.length) (hw : wB x.wher n k = true) => ((put_roots FT.out.right hkl (by simp) HG.out hn).1 hw : rootI (putW x k ⟨1, (i : Int)⟩).wher n = ⟨1, (i : Int)⟩))
  have PN := run_pln9 1 i
  clear hR hP hQ hG hky
  have H_0 := Lib.hid (Holds.new w #[.slice p.d.ex x.d.exits.length p.d.exc, .slice p.d.pl x.d.players.length p.d.plc, .slice p.d.co x.d.coins.length p.d.coc, .slice p.d.it x.d.items.length p.d.itc, .slice p.d.bo x.d.boxes.length p.d.boc, .int .i64 x.d.room, .int .i64 x.d.player, .int .i64 x.d.box, .slice p.at_ x.at_.length p.atc, .slice p.co x.coins.length p.coc, .slice p.wh x.wher.length p.whc] 29)
  have HF := Lib.hid hf
  have HWA := Lib.hid h
  clear hf h
  go_enter Try.func4, Try.ntmps4
  go_wp2_with fail
  generalize w.alloc (.cells #[.slice p.d.ex x.d.exits.length p.d.exc, .slice p.d.pl x.d.players.length p.d.plc, .slice p.d.co x.d.coins.length p.d.coc, .slice p.d.it x.d.items.length p.d.itc, .slice p.d.bo x.d.boxes.length p.d.boc, .int .i64 x.d.room, .int .i64 x.d.player, .int .i64 x.d.box, .slice p.at_ x.at_.length p.atc, .slice p.co x.coins.length p.coc, .slice p.wh x.wher.length p.whc] 29) = V0 at *
  have B_0 := Lib.hid H_0.out.1
  refine (awake9_any _).mono ?_
  rintro e u1 ⟨rfl, b1⟩
  have B_1 := Lib.hid (bl B_0.out b1)
  have H_1 := Lib.hid (H_0.out.call b1)
  clear b1 B_0 H_0
  have hcH := H_1.out.2.2
  have hlH := H_1.out.2.1
  go_wp2_with fail
  refine (fits9_any x p _ (HWA.out.below H_1.out.1 (Nat.le_refl _))).mono ?_
  rintro e u2 ⟨rfl, b2⟩
  rw [HF.out]
  clear hcH hlH
  have B_2 := Lib.hid (bl B_1.out b2)
  have H_2 := Lib.hid (H_1.out.call b2)
  clear b2 B_1 H_1
  have hcH := H_2.out.2.2
  have hlH := H_2.out.2.1
  go_wp2_with fail
  refine (get_as (Shape.refl x) p i k _ FT.out.right (HWA.out.below B_2.out (Nat.le_refl _)) hil HR.out).mono ?_
  rintro e u3 ⟨q3, rfl, g3, b3⟩
  clear hcH hlH
  have B_3 := Lib.hid (bl B_2.out b3)
  have H_3 := Lib.hid (H_2.out.call b3)
  have YA_3 := Lib.hid g3
  clear b3 B_2 H_2 g3
  have hcH := H_3.out.2.2
  have hlH := H_3.out.2.1
  go_wp2_with fail
  clear hcH hlH
  have s4 : (u3.alloc (.cells #[.slice q3.d.ex x.d.exits.length q3.d.exc, .slice q3.d.pl x.d.players.length q3.d.plc, .slice q3.d.co x.d.coins.length q3.d.coc, .slice q3.d.it x.d.items.length q3.d.itc, .slice q3.d.bo x.d.boxes.length q3.d.boc, .int .i64 x.d.room, .int .i64 x.d.player, .int .i64 x.d.box, .slice q3.at_ x.at_.length q3.atc, .slice q3.co x.coins.length q3.coc, .slice q3.wh x.wher.length q3.whc] 29)).heap.size = u3.heap.size + 1 := by simp
  have B_4 := Lib.hid (B_3.out.alloc B_3.out.size (.cells #[.slice q3.d.ex x.d.exits.length q3.d.exc, .slice q3.d.pl x.d.players.length q3.d.plc, .slice q3.d.co x.d.coins.length q3.d.coc, .slice q3.d.it x.d.items.length q3.d.itc, .slice q3.d.bo x.d.boxes.length q3.d.boc, .int .i64 x.d.room, .int .i64 x.d.player, .int .i64 x.d.box, .slice q3.at_ x.at_.length q3.atc, .slice q3.co x.coins.length q3.coc, .slice q3.wh x.wher.length q3.whc] 29))
  have H_4 := Lib.hid (H_3.out.alloc (.cells #[.slice q3.d.ex x.d.exits.length q3.d.exc, .slice q3.d.pl x.d.players.length q3.d.plc, .slice q3.d.co x.d.coins.length q3.d.coc, .slice q3.d.it x.d.items.length q3.d.itc, .slice q3.d.bo x.d.boxes.length q3.d.boc, .int .i64 x.d.room, .int .i64 x.d.player, .int .i64 x.d.box, .slice q3.at_ x.at_.length q3.atc, .slice q3.co x.coins.length q3.coc, .slice q3.wh x.wher.length q3.whc] 29))
  have YA_4 := Lib.hid (YA_3.out.call ((Below.refl _ _).alloc (Nat.le_refl _) (.cells #[.slice q3.d.ex x.d.exits.length q3.d.exc, .slice q3.d.pl x.d.players.length q3.d.plc, .slice q3.d.co x.d.coins.length q3.d.coc, .slice q3.d.it x.d.items.length q3.d.itc, .slice q3.d.bo x.d.boxes.length q3.d.boc, .int .i64 x.d.room, .int .i64 x.d.player, .int .i64 x.d.box, .slice q3.at_ x.at_.length q3.atc, .slice q3.co x.coins.length q3.coc, .slice q3.wh x.wher.length q3.whc] 29)))
  have A_4 := Lib.hid (Holds.newb (w := w) (A := #[.slice q3.d.ex x.d.exits.length q3.d.exc, .slice q3.d.pl x.d.players.length q3.d.plc, .slice q3.d.co x.d.coins.length q3.d.coc, .slice q3.d.it x.d.items.length q3.d.itc, .slice q3.d.bo x.d.boxes.length q3.d.boc, .int .i64 x.d.room, .int .i64 x.d.player, .int .i64 x.d.box, .slice q3.at_ x.at_.length q3.atc, .slice q3.co x.coins.length q3.coc, .slice q3.wh x.wher.length q3.whc]) (t := 29) (n := u3.heap.size) B_3.out rfl)
  clear B_3 H_3 YA_3
  generalize u3.alloc (.cells #[.slice q3.d.ex x.d.exits.length q3.d.exc, .slice q3.d.pl x.d.players.length q3.d.plc, .slice q3.d.co x.d.coins.length q3.d.coc, .slice q3.d.it x.d.items.length q3.d.itc, .slice q3.d.bo x.d.boxes.length q3.d.boc, .int .i64 x.d.room, .int .i64 x.d.player, .int .i64 x.d.box, .slice q3.at_ x.at_.length q3.atc, .slice q3.co x.coins.length q3.coc, .slice q3.wh x.wher.length q3.whc] 29) = V4 at *
  have hcH := H_4.out.2.2
  have hlH := H_4.out.2.1
  have hcA := A_4.out.2.2
  have hlA := A_4.out.2.1
  refine (drop_as (Shape.refl x) p i k _ FT.out.right (HWA.out.below B_4.out (Nat.le_refl _)) hil HP.out).mono ?_
  rintro e u5 ⟨q5, rfl, g5, b5⟩
  clear hcH hlH hcA hlA
  have B_5 := Lib.hid (bl B_4.out b5)
  have H_5 := Lib.hid (H_4.out.call b5)
  have A_5 := Lib.hid (A_4.out.call b5)
  have YA_5 := Lib.hid (YA_4.out.call b5)
  have YB_5 := Lib.hid g5
  clear b5 B_4 H_4 A_4 YA_4 g5
  have hcH := H_5.out.2.2
  have hlH := H_5.out.2.1
  have hcA := A_5.out.2.2
  have hlA := A_5.out.2.1
  go_wp2_with fail
  clear hcH hlH hcA hlA
  have s6 : (u5.alloc (.cells #[.slice q5.d.ex x.d.exits.length q5.d.exc, .slice q5.d.pl x.d.players.length q5.d.plc, .slice q5.d.co x.d.coins.length q5.d.coc, .slice q5.d.it x.d.items.length q5.d.itc, .slice q5.d.bo x.d.boxes.length q5.d.boc, .int .i64 x.d.room, .int .i64 x.d.player, .int .i64 x.d.box, .slice q5.at_ x.at_.length q5.atc, .slice q5.co x.coins.length q5.coc, .slice q5.wh x.wher.length q5.whc] 29)).heap.size = u5.heap.size + 1 := by simp
  have B_6 := Lib.hid (B_5.out.alloc B_5.out.size (.cells #[.slice q5.d.ex x.d.exits.length q5.d.exc, .slice q5.d.pl x.d.players.length q5.d.plc, .slice q5.d.co x.d.coins.length q5.d.coc, .slice q5.d.it x.d.items.length q5.d.itc, .slice q5.d.bo x.d.boxes.length q5.d.boc, .int .i64 x.d.room, .int .i64 x.d.player, .int .i64 x.d.box, .slice q5.at_ x.at_.length q5.atc, .slice q5.co x.coins.length q5.coc, .slice q5.wh x.wher.length q5.whc] 29))
  have H_6 := Lib.hid (H_5.out.alloc (.cells #[.slice q5.d.ex x.d.exits.length q5.d.exc, .slice q5.d.pl x.d.players.length q5.d.plc, .slice q5.d.co x.d.coins.length q5.d.coc, .slice q5.d.it x.d.items.length q5.d.itc, .slice q5.d.bo x.d.boxes.length q5.d.boc, .int .i64 x.d.room, .int .i64 x.d.player, .int .i64 x.d.box, .slice q5.at_ x.at_.length q5.atc, .slice q5.co x.coins.length q5.coc, .slice q5.wh x.wher.length q5.whc] 29))
  have A_6 := Lib.hid (A_5.out.alloc (.cells #[.slice q5.d.ex x.d.exits.length q5.d.exc, .slice q5.d.pl x.d.players.length q5.d.plc, .slice q5.d.co x.d.coins.length q5.d.coc, .slice q5.d.it x.d.items.length q5.d.itc, .slice q5.d.bo x.d.boxes.length q5.d.boc, .int .i64 x.d.room, .int .i64 x.d.player, .int .i64 x.d.box, .slice q5.at_ x.at_.length q5.atc, .slice q5.co x.coins.length q5.coc, .slice q5.wh x.wher.length q5.whc] 29))
  have YA_6 := Lib.hid (YA_5.out.call ((Below.refl _ _).alloc (Nat.le_refl _) (.cells #[.slice q5.d.ex x.d.exits.length q5.d.exc, .slice q5.d.pl x.d.players.length q5.d.plc, .slice q5.d.co x.d.coins.length q5.d.coc, .slice q5.d.it x.d.items.length q5.d.itc, .slice q5.d.bo x.d.boxes.length q5.d.boc, .int .i64 x.d.room, .int .i64 x.d.player, .int .i64 x.d.box, .slice q5.at_ x.at_.length q5.atc, .slice q5.co x.coins.length q5.coc, .slice q5.wh x.wher.length q5.whc] 29)))
  have YB_6 := Lib.hid (YB_5.out.call ((Below.refl _ _).alloc (Nat.le_refl _) (.cells #[.slice q5.d.ex x.d.exits.length q5.d.exc, .slice q5.d.pl x.d.players.length q5.d.plc, .slice q5.d.co x.d.coins.length q5.d.coc, .slice q5.d.it x.d.items.length q5.d.itc, .slice q5.d.bo x.d.boxes.length q5.d.boc, .int .i64 x.d.room, .int .i64 x.d.player, .int .i64 x.d.box, .slice q5.at_ x.at_.length q5.atc, .slice q5.co x.coins.length q5.coc, .slice q5.wh x.wher.length q5.whc] 29)))
  have D_6 := Lib.hid (Holds.newb (w := w) (A := #[.slice q5.d.ex x.d.exits.length q5.d.exc, .slice q5.d.pl x.d.players.length q5.d.plc, .slice q5.d.co x.d.coins.length q5.d.coc, .slice q5.d.it x.d.items.length q5.d.itc, .slice q5.d.bo x.d.boxes.length q5.d.boc, .int .i64 x.d.room, .int .i64 x.d.player, .int .i64 x.d.box, .slice q5.at_ x.at_.length q5.atc, .slice q5.co x.coins.length q5.coc, .slice q5.wh x.wher.length q5.whc]) (t := 29) (n := u5.heap.size) B_5.out rfl)
  clear B_5 H_5 A_5 YA_5 YB_5
  generalize u5.alloc (.cells #[.slice q5.d.ex x.d.exits.length q5.d.exc, .slice q5.d.pl x.d.players.length q5.d.plc, .slice q5.d.co x.d.coins.length q5.d.coc, .slice q5.d.it x.d.items.length q5.d.itc, .slice q5.d.bo x.d.boxes.length q5.d.boc, .int .i64 x.d.room, .int .i64 x.d.player, .int .i64 x.d.box, .slice q5.at_ x.at_.length q5.atc, .slice q5.co x.coins.length q5.coc, .slice q5.wh x.wher.length q5.whc] 29) = V6 at *
  have hcH := H_6.out.2.2
  have hlH := H_6.out.2.1
  have hcA := A_6.out.2.2
  have hlA := A_6.out.2.1
  have hcD := D_6.out.2.2
  have hlD := D_6.out.2.1
  refine (rsame_yes (Shape.refl x) (Shape.refl x) rfl _ p _ YB_6.out (HWA.out.below B_6.out (Nat.le_refl _))).mono ?_
  rintro e u7 ⟨rfl, b7⟩
  clear hcH hlH hcA hlA hcD hlD
  have B_7 := Lib.hid (bl B_6.out b7)
  have H_7 := Lib.hid (H_6.out.call b7)
  have A_7 := Lib.hid (A_6.out.call b7)
  have D_7 := Lib.hid (D_6.out.call b7)
  have YA_7 := Lib.hid (YA_6.out.call b7)
  have YB_7 := Lib.hid (YB_6.out.call b7)
  clear b7 B_6 H_6 A_6 D_6 YA_6 YB_6
  have hcH := H_7.out.2.2
  have hlH := H_7.out.2.1
  have hcA := A_7.out.2.2
  have hlA := A_7.out.2.1
  have hcD := D_7.out.2.2
  have hlD := D_7.out.2.1
  go_wp2_with fail
  refine (drop_as SY.out q3 i k _ HG.out YA_7.out HIY.out HQ.out).mono ?_
  rintro e u8 ⟨q8, rfl, g8, b8⟩
  clear hcH hlH hcA hlA hcD hlD
  have B_8 := Lib.hid (bl B_7.out b8)
  have H_8 := Lib.hid (H_7.out.call b8)
  have A_8 := Lib.hid (A_7.out.call b8)
  have D_8 := Lib.hid (D_7.out.call b8)
  have YA_8 := Lib.hid (YA_7.out.call b8)
  have YB_8 := Lib.hid (YB_7.out.call b8)
  have YC_8 := Lib.hid g8
  clear b8 B_7 H_7 A_7 D_7 YA_7 YB_7 g8
  have hcH := H_8.out.2.2
  have hlH := H_8.out.2.1
  have hcA := A_8.out.2.2
  have hlA := A_8.out.2.1
  have hcD := D_8.out.2.2
  have hlD := D_8.out.2.1
  go_wp2_with fail
  clear hcH hlH hcA hlA hcD hlD
  have s9 : (u8.alloc (.cells #[.slice q8.d.ex x.d.exits.length q8.d.exc, .slice q8.d.pl x.d.players.length q8.d.plc, .slice q8.d.co x.d.coins.length q8.d.coc, .slice q8.d.it x.d.items.length q8.d.itc, .slice q8.d.bo x.d.boxes.length q8.d.boc, .int .i64 x.d.room, .int .i64 x.d.player, .int .i64 x.d.box, .slice q8.at_ x.at_.length q8.atc, .slice q8.co x.coins.length q8.coc, .slice q8.wh x.wher.length q8.whc] 29)).heap.size = u8.heap.size + 1 := by simp
  have B_9 := Lib.hid (B_8.out.alloc B_8.out.size (.cells #[.slice q8.d.ex x.d.exits.length q8.d.exc, .slice q8.d.pl x.d.players.length q8.d.plc, .slice q8.d.co x.d.coins.length q8.d.coc, .slice q8.d.it x.d.items.length q8.d.itc, .slice q8.d.bo x.d.boxes.length q8.d.boc, .int .i64 x.d.room, .int .i64 x.d.player, .int .i64 x.d.box, .slice q8.at_ x.at_.length q8.atc, .slice q8.co x.coins.length q8.coc, .slice q8.wh x.wher.length q8.whc] 29))
  have H_9 := Lib.hid (H_8.out.alloc (.cells #[.slice q8.d.ex x.d.exits.length q8.d.exc, .slice q8.d.pl x.d.players.length q8.d.plc, .slice q8.d.co x.d.coins.length q8.d.coc, .slice q8.d.it x.d.items.length q8.d.itc, .slice q8.d.bo x.d.boxes.length q8.d.boc, .int .i64 x.d.room, .int .i64 x.d.player, .int .i64 x.d.box, .slice q8.at_ x.at_.length q8.atc, .slice q8.co x.coins.length q8.coc, .slice q8.wh x.wher.length q8.whc] 29))
  have A_9 := Lib.hid (A_8.out.alloc (.cells #[.slice q8.d.ex x.d.exits.length q8.d.exc, .slice q8.d.pl x.d.players.length q8.d.plc, .slice q8.d.co x.d.coins.length q8.d.coc, .slice q8.d.it x.d.items.length q8.d.itc, .slice q8.d.bo x.d.boxes.length q8.d.boc, .int .i64 x.d.room, .int .i64 x.d.player, .int .i64 x.d.box, .slice q8.at_ x.at_.length q8.atc, .slice q8.co x.coins.length q8.coc, .slice q8.wh x.wher.length q8.whc] 29))
  have D_9 := Lib.hid (D_8.out.alloc (.cells #[.slice q8.d.ex x.d.exits.length q8.d.exc, .slice q8.d.pl x.d.players.length q8.d.plc, .slice q8.d.co x.d.coins.length q8.d.coc, .slice q8.d.it x.d.items.length q8.d.itc, .slice q8.d.bo x.d.boxes.length q8.d.boc, .int .i64 x.d.room, .int .i64 x.d.player, .int .i64 x.d.box, .slice q8.at_ x.at_.length q8.atc, .slice q8.co x.coins.length q8.coc, .slice q8.wh x.wher.length q8.whc] 29))
  have YA_9 := Lib.hid (YA_8.out.call ((Below.refl _ _).alloc (Nat.le_refl _) (.cells #[.slice q8.d.ex x.d.exits.length q8.d.exc, .slice q8.d.pl x.d.players.length q8.d.plc, .slice q8.d.co x.d.coins.length q8.d.coc, .slice q8.d.it x.d.items.length q8.d.itc, .slice q8.d.bo x.d.boxes.length q8.d.boc, .int .i64 x.d.room, .int .i64 x.d.player, .int .i64 x.d.box, .slice q8.at_ x.at_.length q8.atc, .slice q8.co x.coins.length q8.coc, .slice q8.wh x.wher.length q8.whc] 29)))
  have YB_9 := Lib.hid (YB_8.out.call ((Below.refl _ _).alloc (Nat.le_refl _) (.cells #[.slice q8.d.ex x.d.exits.length q8.d.exc, .slice q8.d.pl x.d.players.length q8.d.plc, .slice q8.d.co x.d.coins.length q8.d.coc, .slice q8.d.it x.d.items.length q8.d.itc, .slice q8.d.bo x.d.boxes.length q8.d.boc, .int .i64 x.d.room, .int .i64 x.d.player, .int .i64 x.d.box, .slice q8.at_ x.at_.length q8.atc, .slice q8.co x.coins.length q8.coc, .slice q8.wh x.wher.length q8.whc] 29)))
  have YC_9 := Lib.hid (YC_8.out.call ((Below.refl _ _).alloc (Nat.le_refl _) (.cells #[.slice q8.d.ex x.d.exits.length q8.d.exc, .slice q8.d.pl x.d.players.length q8.d.plc, .slice q8.d.co x.d.coins.length q8.d.coc, .slice q8.d.it x.d.items.length q8.d.itc, .slice q8.d.bo x.d.boxes.length q8.d.boc, .int .i64 x.d.room, .int .i64 x.d.player, .int .i64 x.d.box, .slice q8.at_ x.at_.length q8.atc, .slice q8.co x.coins.length q8.coc, .slice q8.wh x.wher.length q8.whc] 29)))
  have C_9 := Lib.hid (Holds.newb (w := w) (A := #[.slice q8.d.ex x.d.exits.length q8.d.exc, .slice q8.d.pl x.d.players.length q8.d.plc, .slice q8.d.co x.d.coins.length q8.d.coc, .slice q8.d.it x.d.items.length q8.d.itc, .slice q8.d.bo x.d.boxes.length q8.d.boc, .int .i64 x.d.room, .int .i64 x.d.player, .int .i64 x.d.box, .slice q8.at_ x.at_.length q8.atc, .slice q8.co x.coins.length q8.coc, .slice q8.wh x.wher.length q8.whc]) (t := 29) (n := u8.heap.size) B_8.out rfl)
  clear B_8 H_8 A_8 D_8 YA_8 YB_8 YC_8
  generalize u8.alloc (.cells #[.slice q8.d.ex x.d.exits.length q8.d.exc, .slice q8.d.pl x.d.players.length q8.d.plc, .slice q8.d.co x.d.coins.length q8.d.coc, .slice q8.d.it x.d.items.length q8.d.itc, .slice q8.d.bo x.d.boxes.length q8.d.boc, .int .i64 x.d.room, .int .i64 x.d.player, .int .i64 x.d.box, .slice q8.at_ x.at_.length q8.atc, .slice q8.co x.coins.length q8.coc, .slice q8.wh x.wher.length q8.whc] 29) = V9 at *
  have hcH := H_9.out.2.2
  have hlH := H_9.out.2.1
  have hcA := A_9.out.2.2
  have hlA := A_9.out.2.1
  have hcD := D_9.out.2.2
  have hlD := D_9.out.2.1
  have hcC := C_9.out.2.2
  have hlC := C_9.out.2.1
  refine (rsame_yes (Shape.refl x) (Shape.refl x) rfl _ p _ YC_9.out (HWA.out.below B_9.out (Nat.le_refl _))).mono ?_
  rintro e u10 ⟨rfl, b10⟩
  clear hcH hlH hcA hlA hcD hlD hcC hlC
  have B_10 := Lib.hid (bl B_9.out b10)
  have H_10 := Lib.hid (H_9.out.call b10)
  have A_10 := Lib.hid (A_9.out.call b10)
  have D_10 := Lib.hid (D_9.out.call b10)
  have C_10 := Lib.hid (C_9.out.call b10)
  have YA_10 := Lib.hid (YA_9.out.call b10)
  have YB_10 := Lib.hid (YB_9.out.call b10)
  have YC_10 := Lib.hid (YC_9.out.call b10)
  clear b10 B_9 H_9 A_9 D_9 C_9 YA_9 YB_9 YC_9
  have hcH := H_10.out.2.2
  have hlH := H_10.out.2.1
  have hcA := A_10.out.2.2
  have hlA := A_10.out.2.1
  have hcD := D_10.out.2.2
  have hlD := D_10.out.2.1
  have hcC := C_10.out.2.2
  have hlC := C_10.out.2.1
  go_wp2_with fail
  refine (rright_as SY.out _ _ YA_10.out).mono ?_
  rintro e u11 ⟨rfl, b11⟩
  rw [HG.out]
  clear hcH hlH hcA hlA hcD hlD hcC hlC
  have B_11 := Lib.hid (bl B_10.out b11)
  have H_11 := Lib.hid (H_10.out.call b11)
  have A_11 := Lib.hid (A_10.out.call b11)
  have D_11 := Lib.hid (D_10.out.call b11)
  have C_11 := Lib.hid (C_10.out.call b11)
  have YA_11 := Lib.hid (YA_10.out.call b11)
  have YB_11 := Lib.hid (YB_10.out.call b11)
  have YC_11 := Lib.hid (YC_10.out.call b11)
  clear b11 B_10 H_10 A_10 D_10 C_10 YA_10 YB_10 YC_10
  have hcH := H_11.out.2.2
  have hlH := H_11.out.2.1
  have hcA := A_11.out.2.2
  have hlA := A_11.out.2.1
  have hcD := D_11.out.2.2
  have hlD := D_11.out.2.1
  have hcC := C_11.out.2.2
  have hlC := C_11.out.2.1
  have L1 := Lib.hid (lit_one u11 k _ rfl)
  go_wp2_with fail
  clear hcH hlH hcA hlA hcD hlD hcC hlC
  have s12 : (u11.alloc (.cells #[.int .i64 (k : Int)] 3)).heap.size = u11.heap.size + 1 := by simp
  have B_12 := Lib.hid (B_11.out.alloc B_11.out.size (.cells #[.int .i64 (k : Int)] 3))
  have H_12 := Lib.hid (H_11.out.alloc (.cells #[.int .i64 (k : Int)] 3))
  have A_12 := Lib.hid (A_11.out.alloc (.cells #[.int .i64 (k : Int)] 3))
  have D_12 := Lib.hid (D_11.out.alloc (.cells #[.int .i64 (k : Int)] 3))
  have C_12 := Lib.hid (C_11.out.alloc (.cells #[.int .i64 (k : Int)] 3))
  have YA_12 := Lib.hid (YA_11.out.call ((Below.refl _ _).alloc (Nat.le_refl _) (.cells #[.int .i64 (k : Int)] 3)))
  have YB_12 := Lib.hid (YB_11.out.call ((Below.refl _ _).alloc (Nat.le_refl _) (.cells #[.int .i64 (k : Int)] 3)))
  have YC_12 := Lib.hid (YC_11.out.call ((Below.refl _ _).alloc (Nat.le_refl _) (.cells #[.int .i64 (k : Int)] 3)))
  clear B_11 H_11 A_11 D_11 C_11 YA_11 YB_11 YC_11
  generalize u11.alloc (.cells #[.int .i64 (k : Int)] 3) = V12 at *
  refine (others_one x p q3 k _ _ _ FT.out.right (HWA.out.below B_12.out (Nat.le_refl _)) YA_12.out hkl L1.out).mono ?_
  rintro e u13 ⟨rfl, b13⟩
  have B_13 := Lib.hid (bl B_12.out b13)
  have H_13 := Lib.hid (H_12.out.call b13)
  have A_13 := Lib.hid (A_12.out.call b13)
  have D_13 := Lib.hid (D_12.out.call b13)
  have C_13 := Lib.hid (C_12.out.call b13)
  have YA_13 := Lib.hid (YA_12.out.call b13)
  have YB_13 := Lib.hid (YB_12.out.call b13)
  have YC_13 := Lib.hid (YC_12.out.call b13)
  clear b13 B_12 H_12 A_12 D_12 C_12 YA_12 YB_12 YC_12
  have hcH := H_13.out.2.2
  have hlH := H_13.out.2.1
  have hcA := A_13.out.2.2
  have hlA := A_13.out.2.1
  have hcD := D_13.out.2.2
  have hlD := D_13.out.2.1
  have hcC := C_13.out.2.2
  have hlC := C_13.out.2.1
  go_wp2_with fail
  clear hcH hlH hcA hlA hcD hlD hcC hlC
  go_loopw [15] (fun v wr => ∃ n : Nat, n ≤ x.wher.length ∧ v = .int .i64 n ∧ Below u13.heap.size u13 wr) (fun v _ => x.wher.length - (intOf v).toNat)
  case atStart => exact ⟨0, Nat.zero_le _, rfl, Below.refl _ _⟩
  case round =>
    obtain ⟨n, hn, rfl, hB⟩ := hrel
    have HB := Lib.hid hB
    clear hB
    by_cases hlt : n < x.wher.length
    · have B_14 := Lib.hid (bl B_13.out HB.out)
      have H_14 := Lib.hid (H_13.out.call HB.out)
      have A_14 := Lib.hid (A_13.out.call HB.out)
      have D_14 := Lib.hid (D_13.out.call HB.out)
      have C_14 := Lib.hid (C_13.out.call HB.out)
      have YA_14 := Lib.hid (YA_13.out.call HB.out)
      have YB_14 := Lib.hid (YB_13.out.call HB.out)
      have YC_14 := Lib.hid (YC_13.out.call HB.out)
      have hwn : IntKind.i64.wrap ((n : Int) + 1) = (n : Int) + 1 := IntWalk.i64_in _ (by omega)
      have HB2 := Lib.hid HB.out
      obtain ⟨bw, hbw⟩ : ∃ v, wB x.wher n k = v := ⟨_, rfl⟩
      have hcH := H_14.out.2.2
      have hlH := H_14.out.2.1
      have hcA := A_14.out.2.2
      have hlA := A_14.out.2.1
      go_wp2_with fail
      refine (refwithin_any x p (right_tr FT.out.right) n k hlt _ (HWA.out.below B_14.out (Nat.le_refl _)).wh).mono ?_
      rintro e u91 ⟨rfl, b91⟩
      rw [hbw]
      clear hcH hlH hcA hlA
      have B_15 := Lib.hid (bl B_14.out b91)
      have H_15 := Lib.hid (H_14.out.call b91)
      have A_15 := Lib.hid (A_14.out.call b91)
      have D_15 := Lib.hid (D_14.out.call b91)
      have C_15 := Lib.hid (C_14.out.call b91)
      have YA_15 := Lib.hid (YA_14.out.call b91)
      have YB_15 := Lib.hid (YB_14.out.call b91)
      have YC_15 := Lib.hid (YC_14.out.call b91)
      have HBN := Lib.hid (below_call HB2.out HB2.out.size b91)
      clear b91 B_14 H_14 A_14 D_14 C_14 YA_14 YB_14 YC_14 HB2
      have hcH := H_15.out.2.2
      have hlH := H_15.out.2.1
      have hcA := A_15.out.2.2
      have hlA := A_15.out.2.1
      have hcD := D_15.out.2.2
      have hlD := D_15.out.2.1
      have hcC := C_15.out.2.2
      have hlC := C_15.out.2.1
      cases bw
      ·
        go_wp2_with fail
        go_roundw
        case rel => exact ⟨n + 1, by omega, by go_num, HBN.out⟩
        case measure => simp [intOf]; omega
      · have hrt := RT.out n hlt hbw
        go_wp2_with fail
        refine (rroot_as SY.out q3 HG.out n (by rw [SY.out.w]; exact hlt) _ hrt _ YA_15.out).mono ?_
        rintro e u92 ⟨rfl, b92⟩
        clear hcH hlH hcA hlA hcD hlD hcC hlC
        have B_16 := Lib.hid (bl B_15.out b92)
        have H_16 := Lib.hid (H_15.out.call b92)
        have A_16 := Lib.hid (A_15.out.call b92)
        have D_16 := Lib.hid (D_15.out.call b92)
        have C_16 := Lib.hid (C_15.out.call b92)
        have YA_16 := Lib.hid (YA_15.out.call b92)
        have YB_16 := Lib.hid (YB_15.out.call b92)
        have YC_16 := Lib.hid (YC_15.out.call b92)
        have HBM := Lib.hid (below_call HBN.out HBN.out.size b92)
        clear b92 B_15 H_15 A_15 D_15 C_15 YA_15 YB_15 YC_15 HBN
        go_wp2_with fail
        go_roundw
        case rel => exact ⟨n + 1, by omega, by go_num, HBM.out⟩
        case measure => simp [intOf]; omega
    · have B_14 := Lib.hid (bl B_13.out HB.out)
      have H_14 := Lib.hid (H_13.out.call HB.out)
      have A_14 := Lib.hid (A_13.out.call HB.out)
      have D_14 := Lib.hid (D_13.out.call HB.out)
      have C_14 := Lib.hid (C_13.out.call HB.out)
      have YA_14 := Lib.hid (YA_13.out.call HB.out)
      have YB_14 := Lib.hid (YB_13.out.call HB.out)
      have YC_14 := Lib.hid (YC_13.out.call HB.out)
      have hne9 : n = x.wher.length := by omega
      subst hne9
      have hcH := H_14.out.2.2
      have hlH := H_14.out.2.1
      have hcA := A_14.out.2.2
      have hlA := A_14.out.2.1
      go_wp2_with fail
      go_ret
      exact ⟨rfl, B_14.out⟩
set_option maxRecDepth 100000 in
set_option maxHeartbeats 2000000 in
theorem holdMoves_dropped (x : Wd) (pd : Dp) (b o pac : Nat) (pk pw : Option Addr) (pkc pwc : Nat) (a c i k : Nat) (haa : a ≤ 255) (hcc : c ≤ 255) (hwp : 0 < x.wher.length) (hi : a % x.at_.length = i) (hk : c % x.wher.length = k) (e : Int) (hR : getW x i k = (x, e)) (he : ¬ e = 0) (hP : dropW x i k = (putW x k ⟨0, (roomOf x i : Int)⟩, 0)) (hQ : getW (putW x k ⟨0, (roomOf x i : Int)⟩) i k = (x, 0)) (hG : rightW (putW x k ⟨0, (roomOf x i : Int)⟩) = true) (w : World) (h : WorldAt w ⟨pd, some ⟨b, o, none⟩, pac, pk, pkc, pw, pwc⟩ x) (hf : fitsB x = true) (c0 : w.cell? ⟨b, o + i, none⟩ = some (.int .i64 (roomOf x i : Int))) : Calls Try.prog 4 #[.agg #[.slice pd.ex x.d.exits.length pd.exc, .slice pd.pl x.d.players.length pd.plc, .slice pd.co x.d.coins.length pd.coc, .slice pd.it x.d.items.length pd.itc, .slice pd.bo x.d.boxes.length pd.boc, .int .i64 x.d.room, .int .i64 x.d.player, .int .i64 x.d.box, .slice (some ⟨b, o, none⟩) x.at_.length pac, .slice pk x.coins.length pkc, .slice pw x.wher.length pwc], .int .u8 (a : Int), .int .u8 (c : Int)] w fun e w' => e = .returned (.bool true) ∧ Below w.heap.size w w' := by
  have r1 := run_tmod7 a x.at_.length
  have m1 := run_mod7 a x.at_.length
  rw [hi] at r1 m1
  have FT := Lib.hid (fits_fit hf)
  have hlp : 0 < x.at_.length := (right_lens FT.out.right).1
  have hne : ¬ x.at_ = [] := List.length_pos_iff.1 hlp
  have hil : i < x.at_.length := by rw [← hi]; exact Nat.mod_lt _ hlp
  have hlen6 := (right_lens FT.out.right).2.1
  have r2 := run_tmod7 c x.wher.length
  have m2 := run_mod7 c x.wher.length
  rw [hk] at r2 m2
  have hne2 : ¬ x.wher = [] := List.length_pos_iff.1 hwp
  have h0 : ((x.wher.length : Int) == 0) = false := by simp; omega
  have hkl : k < x.wher.length := by rw [← hk]; exact Nat.mod_lt _ hwp
  have hlen16 := (right_lens FT.out.right).2.2.2.1
  have hlen := h.wh.len
  have HWP := Lib.hid hwp
  clear hi hk hlp hwp
  have HR := Lib.hid hR
  have HP := Lib.hid hP
  have HQ := Lib.hid hQ
  have HG := Lib.hid hG
  have SY := Lib.hid (putW_shape x k ⟨0, (roomOf x i : Int)⟩)
  have HKY := Lib.hid (show k < (putW x k ⟨0, (roomOf x i : Int)⟩).wher.length by rw [SY.out.w]; exact hkl)
  have HIY := Lib.hid (show i < (putW x k ⟨0, (roomOf x i : Int)⟩).at_.length from hil)
  have RT := Lib.hid ((put_roots FT.out.right hkl (by simp) HG.out hkl).1 (wB_self _ _) : rootI (putW x k ⟨0, (roomOf x i : Int)⟩).wher k = ⟨0, (roomOf x i : Int)⟩)
  have C0 := Lib.hid c0
  have e0 : (e == 0) = false := by simpa using he
  have e1 : (e != 0) = true := by simpa using he
  have PQ := run_pls7 0 (roomOf x i)
  clear hR hP hQ hG he c0
  have H_0 := Lib.hid (Holds.new w #[.slice pd.ex x.d.exits.length pd.exc, .slice pd.pl x.d.players.length pd.plc, .slice pd.co x.d.coins.length pd.coc, .slice pd.it x.d.items.length pd.itc, .slice pd.bo x.d.boxes.length pd.boc, .int .i64 x.d.room, .int .i64 x.d.player, .int .i64 x.d.box, .slice (some ⟨b, o, none⟩) x.at_.length pac, .slice pk x.coins.length pkc, .slice pw x.wher.length pwc] 29)
  have HF := Lib.hid hf
  have HWA := Lib.hid h
  clear hf h
  go_enter Try.func4, Try.ntmps4
  go_wp2_with fail
  generalize w.alloc (.cells #[.slice pd.ex x.d.exits.length pd.exc, .slice pd.pl x.d.players.length pd.plc, .slice pd.co x.d.coins.length pd.coc, .slice pd.it x.d.items.length pd.itc, .slice pd.bo x.d.boxes.length pd.boc, .int .i64 x.d.room, .int .i64 x.d.player, .int .i64 x.d.box, .slice (some ⟨b, o, none⟩) x.at_.length pac, .slice pk x.coins.length pkc, .slice pw x.wher.length pwc] 29) = V0 at *
  have B_0 := Lib.hid H_0.out.1
  refine (awake9_any _).mono ?_
  rintro e u1 ⟨rfl, b1⟩
  have B_1 := Lib.hid (bl B_0.out b1)
  have H_1 := Lib.hid (H_0.out.call b1)
  clear b1 B_0 H_0
  have hcH := H_1.out.2.2
  have hlH := H_1.out.2.1
  go_wp2_with fail
  refine (fits9_any x ⟨pd, some ⟨b, o, none⟩, pac, pk, pkc, pw, pwc⟩ _ (HWA.out.below H_1.out.1 (Nat.le_refl _))).mono ?_
  rintro e u2 ⟨rfl, b2⟩
  rw [HF.out]
  clear hcH hlH
  have B_2 := Lib.hid (bl B_1.out b2)
  have H_2 := Lib.hid (H_1.out.call b2)
  clear b2 B_1 H_1
  have hcH := H_2.out.2.2
  have hlH := H_2.out.2.1
  go_wp2_with fail
  refine (get_as (Shape.refl x) ⟨pd, some ⟨b, o, none⟩, pac, pk, pkc, pw, pwc⟩ i k _ FT.out.right (HWA.out.below B_2.out (Nat.le_refl _)) hil HR.out).mono ?_
  rintro e u3 ⟨q3, rfl, g3, b3⟩
  clear hcH hlH
  have B_3 := Lib.hid (bl B_2.out b3)
  have H_3 := Lib.hid (H_2.out.call b3)
  have YA_3 := Lib.hid g3
  clear b3 B_2 H_2 g3
  have hcH := H_3.out.2.2
  have hlH := H_3.out.2.1
  go_wp2_with fail
  clear hcH hlH
  have s4 : (u3.alloc (.cells #[.slice q3.d.ex x.d.exits.length q3.d.exc, .slice q3.d.pl x.d.players.length q3.d.plc, .slice q3.d.co x.d.coins.length q3.d.coc, .slice q3.d.it x.d.items.length q3.d.itc, .slice q3.d.bo x.d.boxes.length q3.d.boc, .int .i64 x.d.room, .int .i64 x.d.player, .int .i64 x.d.box, .slice q3.at_ x.at_.length q3.atc, .slice q3.co x.coins.length q3.coc, .slice q3.wh x.wher.length q3.whc] 29)).heap.size = u3.heap.size + 1 := by simp
  have B_4 := Lib.hid (B_3.out.alloc B_3.out.size (.cells #[.slice q3.d.ex x.d.exits.length q3.d.exc, .slice q3.d.pl x.d.players.length q3.d.plc, .slice q3.d.co x.d.coins.length q3.d.coc, .slice q3.d.it x.d.items.length q3.d.itc, .slice q3.d.bo x.d.boxes.length q3.d.boc, .int .i64 x.d.room, .int .i64 x.d.player, .int .i64 x.d.box, .slice q3.at_ x.at_.length q3.atc, .slice q3.co x.coins.length q3.coc, .slice q3.wh x.wher.length q3.whc] 29))
  have H_4 := Lib.hid (H_3.out.alloc (.cells #[.slice q3.d.ex x.d.exits.length q3.d.exc, .slice q3.d.pl x.d.players.length q3.d.plc, .slice q3.d.co x.d.coins.length q3.d.coc, .slice q3.d.it x.d.items.length q3.d.itc, .slice q3.d.bo x.d.boxes.length q3.d.boc, .int .i64 x.d.room, .int .i64 x.d.player, .int .i64 x.d.box, .slice q3.at_ x.at_.length q3.atc, .slice q3.co x.coins.length q3.coc, .slice q3.wh x.wher.length q3.whc] 29))
  have YA_4 := Lib.hid (YA_3.out.call ((Below.refl _ _).alloc (Nat.le_refl _) (.cells #[.slice q3.d.ex x.d.exits.length q3.d.exc, .slice q3.d.pl x.d.players.length q3.d.plc, .slice q3.d.co x.d.coins.length q3.d.coc, .slice q3.d.it x.d.items.length q3.d.itc, .slice q3.d.bo x.d.boxes.length q3.d.boc, .int .i64 x.d.room, .int .i64 x.d.player, .int .i64 x.d.box, .slice q3.at_ x.at_.length q3.atc, .slice q3.co x.coins.length q3.coc, .slice q3.wh x.wher.length q3.whc] 29)))
  have A_4 := Lib.hid (Holds.newb (w := w) (A := #[.slice q3.d.ex x.d.exits.length q3.d.exc, .slice q3.d.pl x.d.players.length q3.d.plc, .slice q3.d.co x.d.coins.length q3.d.coc, .slice q3.d.it x.d.items.length q3.d.itc, .slice q3.d.bo x.d.boxes.length q3.d.boc, .int .i64 x.d.room, .int .i64 x.d.player, .int .i64 x.d.box, .slice q3.at_ x.at_.length q3.atc, .slice q3.co x.coins.length q3.coc, .slice q3.wh x.wher.length q3.whc]) (t := 29) (n := u3.heap.size) B_3.out rfl)
  clear B_3 H_3 YA_3
  generalize u3.alloc (.cells #[.slice q3.d.ex x.d.exits.length q3.d.exc, .slice q3.d.pl x.d.players.length q3.d.plc, .slice q3.d.co x.d.coins.length q3.d.coc, .slice q3.d.it x.d.items.length q3.d.itc, .slice q3.d.bo x.d.boxes.length q3.d.boc, .int .i64 x.d.room, .int .i64 x.d.player, .int .i64 x.d.box, .slice q3.at_ x.at_.length q3.atc, .slice q3.co x.coins.length q3.coc, .slice q3.wh x.wher.length q3.whc] 29) = V4 at *
  have hcH := H_4.out.2.2
  have hlH := H_4.out.2.1
  have hcA := A_4.out.2.2
  have hlA := A_4.out.2.1
  refine (drop_as (Shape.refl x) ⟨pd, some ⟨b, o, none⟩, pac, pk, pkc, pw, pwc⟩ i k _ FT.out.right (HWA.out.below B_4.out (Nat.le_refl _)) hil HP.out).mono ?_
  rintro e u5 ⟨q5, rfl, g5, b5⟩
  clear hcH hlH hcA hlA
  have B_5 := Lib.hid (bl B_4.out b5)
  have H_5 := Lib.hid (H_4.out.call b5)
  have A_5 := Lib.hid (A_4.out.call b5)
  have YA_5 := Lib.hid (YA_4.out.call b5)
  have YB_5 := Lib.hid g5
  clear b5 B_4 H_4 A_4 YA_4 g5
  have hcH := H_5.out.2.2
  have hlH := H_5.out.2.1
  have hcA := A_5.out.2.2
  have hlA := A_5.out.2.1
  go_wp2_with fail
  clear hcH hlH hcA hlA
  have s6 : (u5.alloc (.cells #[.slice q5.d.ex x.d.exits.length q5.d.exc, .slice q5.d.pl x.d.players.length q5.d.plc, .slice q5.d.co x.d.coins.length q5.d.coc, .slice q5.d.it x.d.items.length q5.d.itc, .slice q5.d.bo x.d.boxes.length q5.d.boc, .int .i64 x.d.room, .int .i64 x.d.player, .int .i64 x.d.box, .slice q5.at_ x.at_.length q5.atc, .slice q5.co x.coins.length q5.coc, .slice q5.wh x.wher.length q5.whc] 29)).heap.size = u5.heap.size + 1 := by simp
  have B_6 := Lib.hid (B_5.out.alloc B_5.out.size (.cells #[.slice q5.d.ex x.d.exits.length q5.d.exc, .slice q5.d.pl x.d.players.length q5.d.plc, .slice q5.d.co x.d.coins.length q5.d.coc, .slice q5.d.it x.d.items.length q5.d.itc, .slice q5.d.bo x.d.boxes.length q5.d.boc, .int .i64 x.d.room, .int .i64 x.d.player, .int .i64 x.d.box, .slice q5.at_ x.at_.length q5.atc, .slice q5.co x.coins.length q5.coc, .slice q5.wh x.wher.length q5.whc] 29))
  have H_6 := Lib.hid (H_5.out.alloc (.cells #[.slice q5.d.ex x.d.exits.length q5.d.exc, .slice q5.d.pl x.d.players.length q5.d.plc, .slice q5.d.co x.d.coins.length q5.d.coc, .slice q5.d.it x.d.items.length q5.d.itc, .slice q5.d.bo x.d.boxes.length q5.d.boc, .int .i64 x.d.room, .int .i64 x.d.player, .int .i64 x.d.box, .slice q5.at_ x.at_.length q5.atc, .slice q5.co x.coins.length q5.coc, .slice q5.wh x.wher.length q5.whc] 29))
  have A_6 := Lib.hid (A_5.out.alloc (.cells #[.slice q5.d.ex x.d.exits.length q5.d.exc, .slice q5.d.pl x.d.players.length q5.d.plc, .slice q5.d.co x.d.coins.length q5.d.coc, .slice q5.d.it x.d.items.length q5.d.itc, .slice q5.d.bo x.d.boxes.length q5.d.boc, .int .i64 x.d.room, .int .i64 x.d.player, .int .i64 x.d.box, .slice q5.at_ x.at_.length q5.atc, .slice q5.co x.coins.length q5.coc, .slice q5.wh x.wher.length q5.whc] 29))
  have YA_6 := Lib.hid (YA_5.out.call ((Below.refl _ _).alloc (Nat.le_refl _) (.cells #[.slice q5.d.ex x.d.exits.length q5.d.exc, .slice q5.d.pl x.d.players.length q5.d.plc, .slice q5.d.co x.d.coins.length q5.d.coc, .slice q5.d.it x.d.items.length q5.d.itc, .slice q5.d.bo x.d.boxes.length q5.d.boc, .int .i64 x.d.room, .int .i64 x.d.player, .int .i64 x.d.box, .slice q5.at_ x.at_.length q5.atc, .slice q5.co x.coins.length q5.coc, .slice q5.wh x.wher.length q5.whc] 29)))
  have YB_6 := Lib.hid (YB_5.out.call ((Below.refl _ _).alloc (Nat.le_refl _) (.cells #[.slice q5.d.ex x.d.exits.length q5.d.exc, .slice q5.d.pl x.d.players.length q5.d.plc, .slice q5.d.co x.d.coins.length q5.d.coc, .slice q5.d.it x.d.items.length q5.d.itc, .slice q5.d.bo x.d.boxes.length q5.d.boc, .int .i64 x.d.room, .int .i64 x.d.player, .int .i64 x.d.box, .slice q5.at_ x.at_.length q5.atc, .slice q5.co x.coins.length q5.coc, .slice q5.wh x.wher.length q5.whc] 29)))
  have D_6 := Lib.hid (Holds.newb (w := w) (A := #[.slice q5.d.ex x.d.exits.length q5.d.exc, .slice q5.d.pl x.d.players.length q5.d.plc, .slice q5.d.co x.d.coins.length q5.d.coc, .slice q5.d.it x.d.items.length q5.d.itc, .slice q5.d.bo x.d.boxes.length q5.d.boc, .int .i64 x.d.room, .int .i64 x.d.player, .int .i64 x.d.box, .slice q5.at_ x.at_.length q5.atc, .slice q5.co x.coins.length q5.coc, .slice q5.wh x.wher.length q5.whc]) (t := 29) (n := u5.heap.size) B_5.out rfl)
  clear B_5 H_5 A_5 YA_5 YB_5
  generalize u5.alloc (.cells #[.slice q5.d.ex x.d.exits.length q5.d.exc, .slice q5.d.pl x.d.players.length q5.d.plc, .slice q5.d.co x.d.coins.length q5.d.coc, .slice q5.d.it x.d.items.length q5.d.itc, .slice q5.d.bo x.d.boxes.length q5.d.boc, .int .i64 x.d.room, .int .i64 x.d.player, .int .i64 x.d.box, .slice q5.at_ x.at_.length q5.atc, .slice q5.co x.coins.length q5.coc, .slice q5.wh x.wher.length q5.whc] 29) = V6 at *
  have hcH := H_6.out.2.2
  have hlH := H_6.out.2.1
  have hcA := A_6.out.2.2
  have hlA := A_6.out.2.1
  have hcD := D_6.out.2.2
  have hlD := D_6.out.2.1
  refine (rsame_yes (Shape.refl x) (Shape.refl x) rfl _ ⟨pd, some ⟨b, o, none⟩, pac, pk, pkc, pw, pwc⟩ _ YA_6.out (HWA.out.below B_6.out (Nat.le_refl _))).mono ?_
  rintro e u7 ⟨rfl, b7⟩
  clear hcH hlH hcA hlA hcD hlD
  have B_7 := Lib.hid (bl B_6.out b7)
  have H_7 := Lib.hid (H_6.out.call b7)
  have A_7 := Lib.hid (A_6.out.call b7)
  have D_7 := Lib.hid (D_6.out.call b7)
  have YA_7 := Lib.hid (YA_6.out.call b7)
  have YB_7 := Lib.hid (YB_6.out.call b7)
  clear b7 B_6 H_6 A_6 D_6 YA_6 YB_6
  have hcH := H_7.out.2.2
  have hlH := H_7.out.2.1
  have hcA := A_7.out.2.2
  have hlA := A_7.out.2.1
  have hcD := D_7.out.2.2
  have hlD := D_7.out.2.1
  go_wp2_with fail
  refine (get_as SY.out q5 i k _ HG.out YB_7.out HIY.out HQ.out).mono ?_
  rintro e u8 ⟨q8, rfl, g8, b8⟩
  clear hcH hlH hcA hlA hcD hlD
  have B_8 := Lib.hid (bl B_7.out b8)
  have H_8 := Lib.hid (H_7.out.call b8)
  have A_8 := Lib.hid (A_7.out.call b8)
  have D_8 := Lib.hid (D_7.out.call b8)
  have YA_8 := Lib.hid (YA_7.out.call b8)
  have YB_8 := Lib.hid (YB_7.out.call b8)
  have YC_8 := Lib.hid g8
  clear b8 B_7 H_7 A_7 D_7 YA_7 YB_7 g8
  have hcH := H_8.out.2.2
  have hlH := H_8.out.2.1
  have hcA := A_8.out.2.2
  have hlA := A_8.out.2.1
  have hcD := D_8.out.2.2
  have hlD := D_8.out.2.1
  go_wp2_with fail
  clear hcH hlH hcA hlA hcD hlD
  have s9 : (u8.alloc (.cells #[.slice q8.d.ex x.d.exits.length q8.d.exc, .slice q8.d.pl x.d.players.length q8.d.plc, .slice q8.d.co x.d.coins.length q8.d.coc, .slice q8.d.it x.d.items.length q8.d.itc, .slice q8.d.bo x.d.boxes.length q8.d.boc, .int .i64 x.d.room, .int .i64 x.d.player, .int .i64 x.d.box, .slice q8.at_ x.at_.length q8.atc, .slice q8.co x.coins.length q8.coc, .slice q8.wh x.wher.length q8.whc] 29)).heap.size = u8.heap.size + 1 := by simp
  have B_9 := Lib.hid (B_8.out.alloc B_8.out.size (.cells #[.slice q8.d.ex x.d.exits.length q8.d.exc, .slice q8.d.pl x.d.players.length q8.d.plc, .slice q8.d.co x.d.coins.length q8.d.coc, .slice q8.d.it x.d.items.length q8.d.itc, .slice q8.d.bo x.d.boxes.length q8.d.boc, .int .i64 x.d.room, .int .i64 x.d.player, .int .i64 x.d.box, .slice q8.at_ x.at_.length q8.atc, .slice q8.co x.coins.length q8.coc, .slice q8.wh x.wher.length q8.whc] 29))
  have H_9 := Lib.hid (H_8.out.alloc (.cells #[.slice q8.d.ex x.d.exits.length q8.d.exc, .slice q8.d.pl x.d.players.length q8.d.plc, .slice q8.d.co x.d.coins.length q8.d.coc, .slice q8.d.it x.d.items.length q8.d.itc, .slice q8.d.bo x.d.boxes.length q8.d.boc, .int .i64 x.d.room, .int .i64 x.d.player, .int .i64 x.d.box, .slice q8.at_ x.at_.length q8.atc, .slice q8.co x.coins.length q8.coc, .slice q8.wh x.wher.length q8.whc] 29))
  have A_9 := Lib.hid (A_8.out.alloc (.cells #[.slice q8.d.ex x.d.exits.length q8.d.exc, .slice q8.d.pl x.d.players.length q8.d.plc, .slice q8.d.co x.d.coins.length q8.d.coc, .slice q8.d.it x.d.items.length q8.d.itc, .slice q8.d.bo x.d.boxes.length q8.d.boc, .int .i64 x.d.room, .int .i64 x.d.player, .int .i64 x.d.box, .slice q8.at_ x.at_.length q8.atc, .slice q8.co x.coins.length q8.coc, .slice q8.wh x.wher.length q8.whc] 29))
  have D_9 := Lib.hid (D_8.out.alloc (.cells #[.slice q8.d.ex x.d.exits.length q8.d.exc, .slice q8.d.pl x.d.players.length q8.d.plc, .slice q8.d.co x.d.coins.length q8.d.coc, .slice q8.d.it x.d.items.length q8.d.itc, .slice q8.d.bo x.d.boxes.length q8.d.boc, .int .i64 x.d.room, .int .i64 x.d.player, .int .i64 x.d.box, .slice q8.at_ x.at_.length q8.atc, .slice q8.co x.coins.length q8.coc, .slice q8.wh x.wher.length q8.whc] 29))
  have YA_9 := Lib.hid (YA_8.out.call ((Below.refl _ _).alloc (Nat.le_refl _) (.cells #[.slice q8.d.ex x.d.exits.length q8.d.exc, .slice q8.d.pl x.d.players.length q8.d.plc, .slice q8.d.co x.d.coins.length q8.d.coc, .slice q8.d.it x.d.items.length q8.d.itc, .slice q8.d.bo x.d.boxes.length q8.d.boc, .int .i64 x.d.room, .int .i64 x.d.player, .int .i64 x.d.box, .slice q8.at_ x.at_.length q8.atc, .slice q8.co x.coins.length q8.coc, .slice q8.wh x.wher.length q8.whc] 29)))
  have YB_9 := Lib.hid (YB_8.out.call ((Below.refl _ _).alloc (Nat.le_refl _) (.cells #[.slice q8.d.ex x.d.exits.length q8.d.exc, .slice q8.d.pl x.d.players.length q8.d.plc, .slice q8.d.co x.d.coins.length q8.d.coc, .slice q8.d.it x.d.items.length q8.d.itc, .slice q8.d.bo x.d.boxes.length q8.d.boc, .int .i64 x.d.room, .int .i64 x.d.player, .int .i64 x.d.box, .slice q8.at_ x.at_.length q8.atc, .slice q8.co x.coins.length q8.coc, .slice q8.wh x.wher.length q8.whc] 29)))
  have YC_9 := Lib.hid (YC_8.out.call ((Below.refl _ _).alloc (Nat.le_refl _) (.cells #[.slice q8.d.ex x.d.exits.length q8.d.exc, .slice q8.d.pl x.d.players.length q8.d.plc, .slice q8.d.co x.d.coins.length q8.d.coc, .slice q8.d.it x.d.items.length q8.d.itc, .slice q8.d.bo x.d.boxes.length q8.d.boc, .int .i64 x.d.room, .int .i64 x.d.player, .int .i64 x.d.box, .slice q8.at_ x.at_.length q8.atc, .slice q8.co x.coins.length q8.coc, .slice q8.wh x.wher.length q8.whc] 29)))
  have C_9 := Lib.hid (Holds.newb (w := w) (A := #[.slice q8.d.ex x.d.exits.length q8.d.exc, .slice q8.d.pl x.d.players.length q8.d.plc, .slice q8.d.co x.d.coins.length q8.d.coc, .slice q8.d.it x.d.items.length q8.d.itc, .slice q8.d.bo x.d.boxes.length q8.d.boc, .int .i64 x.d.room, .int .i64 x.d.player, .int .i64 x.d.box, .slice q8.at_ x.at_.length q8.atc, .slice q8.co x.coins.length q8.coc, .slice q8.wh x.wher.length q8.whc]) (t := 29) (n := u8.heap.size) B_8.out rfl)
  clear B_8 H_8 A_8 D_8 YA_8 YB_8 YC_8
  generalize u8.alloc (.cells #[.slice q8.d.ex x.d.exits.length q8.d.exc, .slice q8.d.pl x.d.players.length q8.d.plc, .slice q8.d.co x.d.coins.length q8.d.coc, .slice q8.d.it x.d.items.length q8.d.itc, .slice q8.d.bo x.d.boxes.length q8.d.boc, .int .i64 x.d.room, .int .i64 x.d.player, .int .i64 x.d.box, .slice q8.at_ x.at_.length q8.atc, .slice q8.co x.coins.length q8.coc, .slice q8.wh x.wher.length q8.whc] 29) = V9 at *
  have hcH := H_9.out.2.2
  have hlH := H_9.out.2.1
  have hcA := A_9.out.2.2
  have hlA := A_9.out.2.1
  have hcD := D_9.out.2.2
  have hlD := D_9.out.2.1
  have hcC := C_9.out.2.2
  have hlC := C_9.out.2.1
  clear hcH hlH hcA hlA hcD hlD hcC hlC
  have KS : Hid (∀ w', Below V9.heap.size V9 w' → Below V9.heap.size V9 w' ∧ (∀ i, w'.cell? ⟨w.heap.size, i, none⟩ = (#[.slice pd.ex x.d.exits.length pd.exc, .slice pd.pl x.d.players.length pd.plc, .slice pd.co x.d.coins.length pd.coc, .slice pd.it x.d.items.length pd.itc, .slice pd.bo x.d.boxes.length pd.boc, .int .i64 x.d.room, .int .i64 x.d.player, .int .i64 x.d.box, .slice (some ⟨b, o, none⟩) x.at_.length pac, .slice pk x.coins.length pkc, .slice pw x.wher.length pwc][i]? : Option Value)) ∧ (∀ i, w'.cell? ⟨u5.heap.size, i, none⟩ = (#[.slice q5.d.ex x.d.exits.length q5.d.exc, .slice q5.d.pl x.d.players.length q5.d.plc, .slice q5.d.co x.d.coins.length q5.d.coc, .slice q5.d.it x.d.items.length q5.d.itc, .slice q5.d.bo x.d.boxes.length q5.d.boc, .int .i64 x.d.room, .int .i64 x.d.player, .int .i64 x.d.box, .slice q5.at_ x.at_.length q5.atc, .slice q5.co x.coins.length q5.coc, .slice q5.wh x.wher.length q5.whc][i]? : Option Value)) ∧ (∀ i, w'.cell? ⟨u8.heap.size, i, none⟩ = (#[.slice q8.d.ex x.d.exits.length q8.d.exc, .slice q8.d.pl x.d.players.length q8.d.plc, .slice q8.d.co x.d.coins.length q8.d.coc, .slice q8.d.it x.d.items.length q8.d.itc, .slice q8.d.bo x.d.boxes.length q8.d.boc, .int .i64 x.d.room, .int .i64 x.d.player, .int .i64 x.d.box, .slice q8.at_ x.at_.length q8.atc, .slice q8.co x.coins.length q8.coc, .slice q8.wh x.wher.length q8.whc][i]? : Option Value)) ∧ w'.cell? ⟨b, o + i, none⟩ = some (.int .i64 (roomOf x i : Int))) := Lib.hid (fun w' hb => ⟨hb, fun i => (hb.cell (p := ⟨w.heap.size, i, none⟩) H_9.out.2.1).trans (H_9.out.2.2 i), fun i => (hb.cell (p := ⟨u5.heap.size, i, none⟩) D_9.out.2.1).trans (D_9.out.2.2 i), fun i => (hb.cell (p := ⟨u8.heap.size, i, none⟩) C_9.out.2.1).trans (C_9.out.2.2 i), cell_call (cell_call C0.out B_9.out) hb⟩)
  refine wp_region_noPanic ?_
  refine wp_region_held_drew (S := (fun w' => Below V9.heap.size V9 w' ∧ (∀ i, w'.cell? ⟨w.heap.size, i, none⟩ = (#[.slice pd.ex x.d.exits.length pd.exc, .slice pd.pl x.d.players.length pd.plc, .slice pd.co x.d.coins.length pd.coc, .slice pd.it x.d.items.length pd.itc, .slice pd.bo x.d.boxes.length pd.boc, .int .i64 x.d.room, .int .i64 x.d.player, .int .i64 x.d.box, .slice (some ⟨b, o, none⟩) x.at_.length pac, .slice pk x.coins.length pkc, .slice pw x.wher.length pwc][i]? : Option Value)) ∧ (∀ i, w'.cell? ⟨u5.heap.size, i, none⟩ = (#[.slice q5.d.ex x.d.exits.length q5.d.exc, .slice q5.d.pl x.d.players.length q5.d.plc, .slice q5.d.co x.d.coins.length q5.d.coc, .slice q5.d.it x.d.items.length q5.d.itc, .slice q5.d.bo x.d.boxes.length q5.d.boc, .int .i64 x.d.room, .int .i64 x.d.player, .int .i64 x.d.box, .slice q5.at_ x.at_.length q5.atc, .slice q5.co x.coins.length q5.coc, .slice q5.wh x.wher.length q5.whc][i]? : Option Value)) ∧ (∀ i, w'.cell? ⟨u8.heap.size, i, none⟩ = (#[.slice q8.d.ex x.d.exits.length q8.d.exc, .slice q8.d.pl x.d.players.length q8.d.plc, .slice q8.d.co x.d.coins.length q8.d.coc, .slice q8.d.it x.d.items.length q8.d.itc, .slice q8.d.bo x.d.boxes.length q8.d.boc, .int .i64 x.d.room, .int .i64 x.d.player, .int .i64 x.d.box, .slice q8.at_ x.at_.length q8.atc, .slice q8.co x.coins.length q8.coc, .slice q8.wh x.wher.length q8.whc][i]? : Option Value)) ∧ w'.cell? ⟨b, o + i, none⟩ = some (.int .i64 (roomOf x i : Int)))) (by kernel_rfl) (by (first | (with_reducible exact KS.out _ (bdrew1 (Below.refl _ _))) | (with_reducible exact KS.out _ (below_call hHeld.1 hHeld.1.size hb9)) | (with_reducible exact hHeld))) (fun hHeld => ?_)
  first
    | (refine wpAnyH_take (i := 0) (v := undef) (by simp only [List.getElem?_toArray, List.getElem?_cons_zero]; rfl) (by kernel_rfl) (by kernel_rfl) (by kernel_rfl) (fun _ _ _ h => h) (Or.inr ⟨by rfl, rfl⟩) (by assumption) ?_; try simp only [Act.put, List.setIfInBounds_toArray, List.set_cons_zero, List.set_cons_succ])
    | (refine wpAnyH_take (i := 0) (v := ?_) (by simp only [List.getElem?_toArray, List.getElem?_cons_zero]; rfl) (by kernel_rfl) (by kernel_rfl) (by kernel_rfl) (fun _ _ _ h => h) (Or.inl ⟨by rfl, ?_⟩) (by assumption) ?_
       rotate_left
       · (intro ww hSw; (try dsimp only at hSw); go_simp; (try with_reducible rfl))
       try simp only [Act.put, List.setIfInBounds_toArray, List.set_cons_zero, List.set_cons_succ])
    | (refine wpAnyH_ready (rs := [0]) (by kernel_rfl) (by simp) (AllReadyH.cons (by simp only [List.getElem?_toArray, List.getElem?_cons_succ, List.getElem?_cons_zero]; rfl) (fun K hK => ?_) AllReadyH.nil)
       go_simp
       first
         | (fail)
       try go_wp2_with fail
       refine hK.out _ _ (by (first | (with_reducible exact KS.out _ (bdrew1 (Below.refl _ _))) | (with_reducible exact KS.out _ (below_call hHeld.1 hHeld.1.size hb9)) | (with_reducible exact hHeld))) (fun hHeld => ?_)
       clear hK K
       try simp only [Act.put, List.setIfInBounds_toArray, List.set_cons_zero, List.set_cons_succ])
  first
    | (refine wpAnyH_take (i := 1) (v := undef) (by simp only [List.getElem?_toArray, List.getElem?_cons_succ, List.getElem?_cons_zero]; rfl) (by kernel_rfl) (by kernel_rfl) (by kernel_rfl) (fun _ _ _ h => h) (Or.inr ⟨by rfl, rfl⟩) (by assumption) ?_; try simp only [Act.put, List.setIfInBounds_toArray, List.set_cons_zero, List.set_cons_succ])
    | (refine wpAnyH_take (i := 1) (v := ?_) (by simp only [List.getElem?_toArray, List.getElem?_cons_succ, List.getElem?_cons_zero]; rfl) (by kernel_rfl) (by kernel_rfl) (by kernel_rfl) (fun _ _ _ h => h) (Or.inl ⟨by rfl, ?_⟩) (by assumption) ?_
       rotate_left
       · (intro ww hSw; (try dsimp only at hSw); go_simp; (try with_reducible rfl))
       try simp only [Act.put, List.setIfInBounds_toArray, List.set_cons_zero, List.set_cons_succ])
    | (refine wpAnyH_ready (rs := [1]) (by kernel_rfl) (by simp) (AllReadyH.cons (by simp only [List.getElem?_toArray, List.getElem?_cons_succ, List.getElem?_cons_zero]; rfl) (fun K hK => ?_) AllReadyH.nil)
       go_simp
       first
         | (fail)
       try go_wp2_with fail
       refine hK.out _ _ (by (first | (with_reducible exact KS.out _ (bdrew1 (Below.refl _ _))) | (with_reducible exact KS.out _ (below_call hHeld.1 hHeld.1.size hb9)) | (with_reducible exact hHeld))) (fun hHeld => ?_)
       clear hK K
       try simp only [Act.put, List.setIfInBounds_toArray, List.set_cons_zero, List.set_cons_succ])
  first
    | (refine wpAnyH_take (i := 2) (v := undef) (by simp only [List.getElem?_toArray, List.getElem?_cons_succ, List.getElem?_cons_zero]; rfl) (by kernel_rfl) (by kernel_rfl) (by kernel_rfl) (fun _ _ _ h => h) (Or.inr ⟨by rfl, rfl⟩) (by assumption) ?_; try simp only [Act.put, List.setIfInBounds_toArray, List.set_cons_zero, List.set_cons_succ])
    | (refine wpAnyH_take (i := 2) (v := ?_) (by simp only [List.getElem?_toArray, List.getElem?_cons_succ, List.getElem?_cons_zero]; rfl) (by kernel_rfl) (by kernel_rfl) (by kernel_rfl) (fun _ _ _ h => h) (Or.inl ⟨by rfl, ?_⟩) (by assumption) ?_
       rotate_left
       · (intro ww hSw; (try dsimp only at hSw); go_simp; (try with_reducible rfl))
       try simp only [Act.put, List.setIfInBounds_toArray, List.set_cons_zero, List.set_cons_succ])
    | (refine wpAnyH_ready (rs := [2]) (by kernel_rfl) (by simp) (AllReadyH.cons (by simp only [List.getElem?_toArray, List.getElem?_cons_succ, List.getElem?_cons_zero]; rfl) (fun K hK => ?_) AllReadyH.nil)
       go_simp
       first
         | (fail)
       try go_wp2_with fail
       refine hK.out _ _ (by (first | (with_reducible exact KS.out _ (bdrew1 (Below.refl _ _))) | (with_reducible exact KS.out _ (below_call hHeld.1 hHeld.1.size hb9)) | (with_reducible exact hHeld))) (fun hHeld => ?_)
       clear hK K
       try simp only [Act.put, List.setIfInBounds_toArray, List.set_cons_zero, List.set_cons_succ])
  first
    | (refine wpAnyH_take (i := 3) (v := undef) (by simp only [List.getElem?_toArray, List.getElem?_cons_succ, List.getElem?_cons_zero]; rfl) (by kernel_rfl) (by kernel_rfl) (by kernel_rfl) (fun _ _ _ h => h) (Or.inr ⟨by rfl, rfl⟩) (by assumption) ?_; try simp only [Act.put, List.setIfInBounds_toArray, List.set_cons_zero, List.set_cons_succ])
    | (refine wpAnyH_take (i := 3) (v := ?_) (by simp only [List.getElem?_toArray, List.getElem?_cons_succ, List.getElem?_cons_zero]; rfl) (by kernel_rfl) (by kernel_rfl) (by kernel_rfl) (fun _ _ _ h => h) (Or.inl ⟨by rfl, ?_⟩) (by assumption) ?_
       rotate_left
       · (intro ww hSw; (try dsimp only at hSw); go_simp; (try with_reducible rfl))
       try simp only [Act.put, List.setIfInBounds_toArray, List.set_cons_zero, List.set_cons_succ])
    | (refine wpAnyH_ready (rs := [3]) (by kernel_rfl) (by simp) (AllReadyH.cons (by simp only [List.getElem?_toArray, List.getElem?_cons_succ, List.getElem?_cons_zero]; rfl) (fun K hK => ?_) AllReadyH.nil)
       go_simp
       first
         | (fail)
       try go_wp2_with fail
       refine hK.out _ _ (by (first | (with_reducible exact KS.out _ (bdrew1 (Below.refl _ _))) | (with_reducible exact KS.out _ (below_call hHeld.1 hHeld.1.size hb9)) | (with_reducible exact hHeld))) (fun hHeld => ?_)
       clear hK K
       try simp only [Act.put, List.setIfInBounds_toArray, List.set_cons_zero, List.set_cons_succ])
  first
    | (refine wpAnyH_take (i := 4) (v := undef) (by simp only [List.getElem?_toArray, List.getElem?_cons_succ, List.getElem?_cons_zero]; rfl) (by kernel_rfl) (by kernel_rfl) (by kernel_rfl) (fun _ _ _ h => h) (Or.inr ⟨by rfl, rfl⟩) (by assumption) ?_; try simp only [Act.put, List.setIfInBounds_toArray, List.set_cons_zero, List.set_cons_succ])
    | (refine wpAnyH_take (i := 4) (v := ?_) (by simp only [List.getElem?_toArray, List.getElem?_cons_succ, List.getElem?_cons_zero]; rfl) (by kernel_rfl) (by kernel_rfl) (by kernel_rfl) (fun _ _ _ h => h) (Or.inl ⟨by rfl, ?_⟩) (by assumption) ?_
       rotate_left
       · (intro ww hSw; (try dsimp only at hSw); go_simp; (try with_reducible rfl))
       try simp only [Act.put, List.setIfInBounds_toArray, List.set_cons_zero, List.set_cons_succ])
    | (refine wpAnyH_ready (rs := [4]) (by kernel_rfl) (by simp) (AllReadyH.cons (by simp only [List.getElem?_toArray, List.getElem?_cons_succ, List.getElem?_cons_zero]; rfl) (fun K hK => ?_) AllReadyH.nil)
       go_simp
       first
         | (fail)
       try go_wp2_with fail
       refine hK.out _ _ (by (first | (with_reducible exact KS.out _ (bdrew1 (Below.refl _ _))) | (with_reducible exact KS.out _ (below_call hHeld.1 hHeld.1.size hb9)) | (with_reducible exact hHeld))) (fun hHeld => ?_)
       clear hK K
       try simp only [Act.put, List.setIfInBounds_toArray, List.set_cons_zero, List.set_cons_succ])
  first
    | (refine wpAnyH_take (i := 5) (v := undef) (by simp only [List.getElem?_toArray, List.getElem?_cons_succ, List.getElem?_cons_zero]; rfl) (by kernel_rfl) (by kernel_rfl) (by kernel_rfl) (fun _ _ _ h => h) (Or.inr ⟨by rfl, rfl⟩) (by assumption) ?_; try simp only [Act.put, List.setIfInBounds_toArray, List.set_cons_zero, List.set_cons_succ])
    | (refine wpAnyH_ready (rs := [5]) (by kernel_rfl) (by simp) (AllReadyH.cons (by simp only [List.getElem?_toArray, List.getElem?_cons_succ, List.getElem?_cons_zero]; rfl) (fun K hK => ?_) AllReadyH.nil)
       go_simp; refine (rsame_yes (Shape.refl x) (Shape.refl x) rfl q8 ⟨pd, some ⟨b, o, none⟩, pac, pk, pkc, pw, pwc⟩ _ (YC_9.out.below hHeld.1 (Nat.le_refl _)) (HWA.out.below (below_call B_9.out B_9.out.size hHeld.1) (Nat.le_refl _))).mono ?_; rintro e w9 ⟨rfl, hb9⟩; try go_wp2_with fail
       refine hK.out _ _ (by (first | (with_reducible exact KS.out _ (bdrew1 (Below.refl _ _))) | (with_reducible exact KS.out _ (below_call hHeld.1 hHeld.1.size hb9)) | (with_reducible exact hHeld))) (fun hHeld => ?_)
       clear hK K
       try simp only [Act.put, List.setIfInBounds_toArray, List.set_cons_zero, List.set_cons_succ])
  first
    | (refine wpAnyH_take (i := 6) (v := undef) (by simp only [List.getElem?_toArray, List.getElem?_cons_succ, List.getElem?_cons_zero]; rfl) (by kernel_rfl) (by kernel_rfl) (by kernel_rfl) (fun _ _ _ h => h) (Or.inr ⟨by rfl, rfl⟩) (by assumption) ?_; try simp only [Act.put, List.setIfInBounds_toArray, List.set_cons_zero, List.set_cons_succ])
    | (refine wpAnyH_take (i := 6) (v := ?_) (by simp only [List.getElem?_toArray, List.getElem?_cons_succ, List.getElem?_cons_zero]; rfl) (by kernel_rfl) (by kernel_rfl) (by kernel_rfl) (fun _ _ _ h => h) (Or.inl ⟨by rfl, ?_⟩) (by assumption) ?_
       rotate_left
       · (intro ww hSw; (try dsimp only at hSw); go_simp; (try with_reducible rfl))
       try simp only [Act.put, List.setIfInBounds_toArray, List.set_cons_zero, List.set_cons_succ])
    | (refine wpAnyH_ready (rs := [6]) (by kernel_rfl) (by simp) (AllReadyH.cons (by simp only [List.getElem?_toArray, List.getElem?_cons_succ, List.getElem?_cons_zero]; rfl) (fun K hK => ?_) AllReadyH.nil)
       go_simp
       first
         | (fail)
       try go_wp2_with fail
       refine hK.out _ _ (by (first | (with_reducible exact KS.out _ (bdrew1 (Below.refl _ _))) | (with_reducible exact KS.out _ (below_call hHeld.1 hHeld.1.size hb9)) | (with_reducible exact hHeld))) (fun hHeld => ?_)
       clear hK K
       try simp only [Act.put, List.setIfInBounds_toArray, List.set_cons_zero, List.set_cons_succ])
  first
    | (refine wpAnyH_take (i := 7) (v := undef) (by simp only [List.getElem?_toArray, List.getElem?_cons_succ, List.getElem?_cons_zero]; rfl) (by kernel_rfl) (by kernel_rfl) (by kernel_rfl) (fun _ _ _ h => h) (Or.inr ⟨by rfl, rfl⟩) (by assumption) ?_; try simp only [Act.put, List.setIfInBounds_toArray, List.set_cons_zero, List.set_cons_succ])
    | (refine wpAnyH_take (i := 7) (v := ?_) (by simp only [List.getElem?_toArray, List.getElem?_cons_succ, List.getElem?_cons_zero]; rfl) (by kernel_rfl) (by kernel_rfl) (by kernel_rfl) (fun _ _ _ h => h) (Or.inl ⟨by rfl, ?_⟩) (by assumption) ?_
       rotate_left
       · (intro ww hSw; (try dsimp only at hSw); go_simp; (try with_reducible rfl))
       try simp only [Act.put, List.setIfInBounds_toArray, List.set_cons_zero, List.set_cons_succ])
    | (refine wpAnyH_ready (rs := [7]) (by kernel_rfl) (by simp) (AllReadyH.cons (by simp only [List.getElem?_toArray, List.getElem?_cons_succ, List.getElem?_cons_zero]; rfl) (fun K hK => ?_) AllReadyH.nil)
       go_simp
       first
         | (fail)
       try go_wp2_with fail
       refine hK.out _ _ (by (first | (with_reducible exact KS.out _ (bdrew1 (Below.refl _ _))) | (with_reducible exact KS.out _ (below_call hHeld.1 hHeld.1.size hb9)) | (with_reducible exact hHeld))) (fun hHeld => ?_)
       clear hK K
       try simp only [Act.put, List.setIfInBounds_toArray, List.set_cons_zero, List.set_cons_succ])
  first
    | (refine wpAnyH_take (i := 8) (v := undef) (by simp only [List.getElem?_toArray, List.getElem?_cons_succ, List.getElem?_cons_zero]; rfl) (by kernel_rfl) (by kernel_rfl) (by kernel_rfl) (fun _ _ _ h => h) (Or.inr ⟨by rfl, rfl⟩) (by assumption) ?_; try simp only [Act.put, List.setIfInBounds_toArray, List.set_cons_zero, List.set_cons_succ])
    | (refine wpAnyH_take (i := 8) (v := ?_) (by simp only [List.getElem?_toArray, List.getElem?_cons_succ, List.getElem?_cons_zero]; rfl) (by kernel_rfl) (by kernel_rfl) (by kernel_rfl) (fun _ _ _ h => h) (Or.inl ⟨by rfl, ?_⟩) (by assumption) ?_
       rotate_left
       · (intro ww hSw; (try dsimp only at hSw); go_simp; (try with_reducible rfl))
       try simp only [Act.put, List.setIfInBounds_toArray, List.set_cons_zero, List.set_cons_succ])
    | (refine wpAnyH_ready (rs := [8]) (by kernel_rfl) (by simp) (AllReadyH.cons (by simp only [List.getElem?_toArray, List.getElem?_cons_succ, List.getElem?_cons_zero]; rfl) (fun K hK => ?_) AllReadyH.nil)
       go_simp
       first
         | (fail)
       try go_wp2_with fail
       refine hK.out _ _ (by (first | (with_reducible exact KS.out _ (bdrew1 (Below.refl _ _))) | (with_reducible exact KS.out _ (below_call hHeld.1 hHeld.1.size hb9)) | (with_reducible exact hHeld))) (fun hHeld => ?_)
       clear hK K
       try simp only [Act.put, List.setIfInBounds_toArray, List.set_cons_zero, List.set_cons_succ])
  first
    | (refine wpAnyH_take (i := 9) (v := undef) (by simp only [List.getElem?_toArray, List.getElem?_cons_succ, List.getElem?_cons_zero]; rfl) (by kernel_rfl) (by kernel_rfl) (by kernel_rfl) (fun _ _ _ h => h) (Or.inr ⟨by rfl, rfl⟩) (by assumption) ?_; try simp only [Act.put, List.setIfInBounds_toArray, List.set_cons_zero, List.set_cons_succ])
    | (refine wpAnyH_ready (rs := [9]) (by kernel_rfl) (by simp) (AllReadyH.cons (by simp only [List.getElem?_toArray, List.getElem?_cons_succ, List.getElem?_cons_zero]; rfl) (fun K hK => ?_) AllReadyH.nil)
       go_simp; refine (rright_as SY.out q5 _ (YB_9.out.below hHeld.1 (Nat.le_refl _))).mono ?_; rintro e w9 ⟨rfl, hb9⟩; rw [HG.out]; try go_wp2_with fail
       refine hK.out _ _ (by (first | (with_reducible exact KS.out _ (bdrew1 (Below.refl _ _))) | (with_reducible exact KS.out _ (below_call hHeld.1 hHeld.1.size hb9)) | (with_reducible exact hHeld))) (fun hHeld => ?_)
       clear hK K
       try simp only [Act.put, List.setIfInBounds_toArray, List.set_cons_zero, List.set_cons_succ])
  first
    | (refine wpAnyH_take (i := 10) (v := undef) (by simp only [List.getElem?_toArray, List.getElem?_cons_succ, List.getElem?_cons_zero]; rfl) (by kernel_rfl) (by kernel_rfl) (by kernel_rfl) (fun _ _ _ h => h) (Or.inr ⟨by rfl, rfl⟩) (by assumption) ?_; try simp only [Act.put, List.setIfInBounds_toArray, List.set_cons_zero, List.set_cons_succ])
    | (refine wpAnyH_take (i := 10) (v := ?_) (by simp only [List.getElem?_toArray, List.getElem?_cons_succ, List.getElem?_cons_zero]; rfl) (by kernel_rfl) (by kernel_rfl) (by kernel_rfl) (fun _ _ _ h => h) (Or.inl ⟨by rfl, ?_⟩) (by assumption) ?_
       rotate_left
       · (intro ww hSw; (try dsimp only at hSw); go_simp; (try with_reducible rfl))
       try simp only [Act.put, List.setIfInBounds_toArray, List.set_cons_zero, List.set_cons_succ])
    | (refine wpAnyH_ready (rs := [10]) (by kernel_rfl) (by simp) (AllReadyH.cons (by simp only [List.getElem?_toArray, List.getElem?_cons_succ, List.getElem?_cons_zero]; rfl) (fun K hK => ?_) AllReadyH.nil)
       go_simp
       first
         | (fail)
       try go_wp2_with fail
       refine hK.out _ _ (by (first | (with_reducible exact KS.out _ (bdrew1 (Below.refl _ _))) | (with_reducible exact KS.out _ (below_call hHeld.1 hHeld.1.size hb9)) | (with_reducible exact hHeld))) (fun hHeld => ?_)
       clear hK K
       try simp only [Act.put, List.setIfInBounds_toArray, List.set_cons_zero, List.set_cons_succ])
  first
    | (refine wpAnyH_take (i := 11) (v := undef) (by simp only [List.getElem?_toArray, List.getElem?_cons_succ, List.getElem?_cons_zero]; rfl) (by kernel_rfl) (by kernel_rfl) (by kernel_rfl) (fun _ _ _ h => h) (Or.inr ⟨by rfl, rfl⟩) (by assumption) ?_; try simp only [Act.put, List.setIfInBounds_toArray, List.set_cons_zero, List.set_cons_succ])
    | (refine wpAnyH_take (i := 11) (v := ?_) (by simp only [List.getElem?_toArray, List.getElem?_cons_succ, List.getElem?_cons_zero]; rfl) (by kernel_rfl) (by kernel_rfl) (by kernel_rfl) (fun _ _ _ h => h) (Or.inl ⟨by rfl, ?_⟩) (by assumption) ?_
       rotate_left
       · (intro ww hSw; (try dsimp only at hSw); go_simp; (try with_reducible rfl))
       try simp only [Act.put, List.setIfInBounds_toArray, List.set_cons_zero, List.set_cons_succ])
    | (refine wpAnyH_ready (rs := [11]) (by kernel_rfl) (by simp) (AllReadyH.cons (by simp only [List.getElem?_toArray, List.getElem?_cons_succ, List.getElem?_cons_zero]; rfl) (fun K hK => ?_) AllReadyH.nil)
       go_simp
       first
         | (fail)
       try go_wp2_with fail
       refine hK.out _ _ (by (first | (with_reducible exact KS.out _ (bdrew1 (Below.refl _ _))) | (with_reducible exact KS.out _ (below_call hHeld.1 hHeld.1.size hb9)) | (with_reducible exact hHeld))) (fun hHeld => ?_)
       clear hK K
       try simp only [Act.put, List.setIfInBounds_toArray, List.set_cons_zero, List.set_cons_succ])
  first
    | (refine wpAnyH_take (i := 12) (v := undef) (by simp only [List.getElem?_toArray, List.getElem?_cons_succ, List.getElem?_cons_zero]; rfl) (by kernel_rfl) (by kernel_rfl) (by kernel_rfl) (fun _ _ _ h => h) (Or.inr ⟨by rfl, rfl⟩) (by assumption) ?_; try simp only [Act.put, List.setIfInBounds_toArray, List.set_cons_zero, List.set_cons_succ])
    | (refine wpAnyH_take (i := 12) (v := ?_) (by simp only [List.getElem?_toArray, List.getElem?_cons_succ, List.getElem?_cons_zero]; rfl) (by kernel_rfl) (by kernel_rfl) (by kernel_rfl) (fun _ _ _ h => h) (Or.inl ⟨by rfl, ?_⟩) (by assumption) ?_
       rotate_left
       · (intro ww hSw; (try dsimp only at hSw); go_simp; (try with_reducible rfl))
       try simp only [Act.put, List.setIfInBounds_toArray, List.set_cons_zero, List.set_cons_succ])
    | (refine wpAnyH_ready (rs := [12]) (by kernel_rfl) (by simp) (AllReadyH.cons (by simp only [List.getElem?_toArray, List.getElem?_cons_succ, List.getElem?_cons_zero]; rfl) (fun K hK => ?_) AllReadyH.nil)
       go_simp
       first
         | (fail)
       try go_wp2_with fail
       refine hK.out _ _ (by (first | (with_reducible exact KS.out _ (bdrew1 (Below.refl _ _))) | (with_reducible exact KS.out _ (below_call hHeld.1 hHeld.1.size hb9)) | (with_reducible exact hHeld))) (fun hHeld => ?_)
       clear hK K
       try simp only [Act.put, List.setIfInBounds_toArray, List.set_cons_zero, List.set_cons_succ])
  first
    | (refine wpAnyH_take (i := 13) (v := undef) (by simp only [List.getElem?_toArray, List.getElem?_cons_succ, List.getElem?_cons_zero]; rfl) (by kernel_rfl) (by kernel_rfl) (by kernel_rfl) (fun _ _ _ h => h) (Or.inr ⟨by rfl, rfl⟩) (by assumption) ?_; try simp only [Act.put, List.setIfInBounds_toArray, List.set_cons_zero, List.set_cons_succ])
    | (refine wpAnyH_take (i := 13) (v := ?_) (by simp only [List.getElem?_toArray, List.getElem?_cons_succ, List.getElem?_cons_zero]; rfl) (by kernel_rfl) (by kernel_rfl) (by kernel_rfl) (fun _ _ _ h => h) (Or.inl ⟨by rfl, ?_⟩) (by assumption) ?_
       rotate_left
       · (intro ww hSw; (try dsimp only at hSw); go_simp; (try with_reducible rfl))
       try simp only [Act.put, List.setIfInBounds_toArray, List.set_cons_zero, List.set_cons_succ])
    | (refine wpAnyH_ready (rs := [13]) (by kernel_rfl) (by simp) (AllReadyH.cons (by simp only [List.getElem?_toArray, List.getElem?_cons_succ, List.getElem?_cons_zero]; rfl) (fun K hK => ?_) AllReadyH.nil)
       go_simp
       first
         | (fail)
       try go_wp2_with fail
       refine hK.out _ _ (by (first | (with_reducible exact KS.out _ (bdrew1 (Below.refl _ _))) | (with_reducible exact KS.out _ (below_call hHeld.1 hHeld.1.size hb9)) | (with_reducible exact hHeld))) (fun hHeld => ?_)
       clear hK K
       try simp only [Act.put, List.setIfInBounds_toArray, List.set_cons_zero, List.set_cons_succ])
  first
    | (refine wpAnyH_take (i := 15) (v := undef) (by simp only [List.getElem?_toArray, List.getElem?_cons_succ, List.getElem?_cons_zero]; rfl) (by kernel_rfl) (by kernel_rfl) (by kernel_rfl) (fun _ _ _ h => h) (Or.inr ⟨by rfl, rfl⟩) (by assumption) ?_; try simp only [Act.put, List.setIfInBounds_toArray, List.set_cons_zero, List.set_cons_succ])
    | (refine wpAnyH_take (i := 15) (v := ?_) (by simp only [List.getElem?_toArray, List.getElem?_cons_succ, List.getElem?_cons_zero]; rfl) (by kernel_rfl) (by kernel_rfl) (by kernel_rfl) (fun _ _ _ h => h) (Or.inl ⟨by rfl, ?_⟩) (by assumption) ?_
       rotate_left
       · (intro ww hSw; (try dsimp only at hSw); go_simp; (try with_reducible rfl))
       try simp only [Act.put, List.setIfInBounds_toArray, List.set_cons_zero, List.set_cons_succ])
    | (refine wpAnyH_ready (rs := [15]) (by kernel_rfl) (by simp) (AllReadyH.cons (by simp only [List.getElem?_toArray, List.getElem?_cons_succ, List.getElem?_cons_zero]; rfl) (fun K hK => ?_) AllReadyH.nil)
       go_simp
       first
         | (fail)
       try go_wp2_with fail
       refine hK.out _ _ (by (first | (with_reducible exact KS.out _ (bdrew1 (Below.refl _ _))) | (with_reducible exact KS.out _ (below_call hHeld.1 hHeld.1.size hb9)) | (with_reducible exact hHeld))) (fun hHeld => ?_)
       clear hK K
       try simp only [Act.put, List.setIfInBounds_toArray, List.set_cons_zero, List.set_cons_succ])
  first
    | (refine wpAnyH_take (i := 16) (v := undef) (by simp only [List.getElem?_toArray, List.getElem?_cons_succ, List.getElem?_cons_zero]; rfl) (by kernel_rfl) (by kernel_rfl) (by kernel_rfl) (fun _ _ _ h => h) (Or.inr ⟨by rfl, rfl⟩) (by assumption) ?_; try simp only [Act.put, List.setIfInBounds_toArray, List.set_cons_zero, List.set_cons_succ])
    | (refine wpAnyH_take (i := 16) (v := ?_) (by simp only [List.getElem?_toArray, List.getElem?_cons_succ, List.getElem?_cons_zero]; rfl) (by kernel_rfl) (by kernel_rfl) (by kernel_rfl) (fun _ _ _ h => h) (Or.inl ⟨by rfl, ?_⟩) (by assumption) ?_
       rotate_left
       · (intro ww hSw; (try dsimp only at hSw); go_simp; (try with_reducible rfl))
       try simp only [Act.put, List.setIfInBounds_toArray, List.set_cons_zero, List.set_cons_succ])
    | (refine wpAnyH_ready (rs := [16]) (by kernel_rfl) (by simp) (AllReadyH.cons (by simp only [List.getElem?_toArray, List.getElem?_cons_succ, List.getElem?_cons_zero]; rfl) (fun K hK => ?_) AllReadyH.nil)
       go_simp
       first
         | (fail)
       try go_wp2_with fail
       refine hK.out _ _ (by (first | (with_reducible exact KS.out _ (bdrew1 (Below.refl _ _))) | (with_reducible exact KS.out _ (below_call hHeld.1 hHeld.1.size hb9)) | (with_reducible exact hHeld))) (fun hHeld => ?_)
       clear hK K
       try simp only [Act.put, List.setIfInBounds_toArray, List.set_cons_zero, List.set_cons_succ])
  first
    | (refine wpAnyH_take (i := 17) (v := undef) (by simp only [List.getElem?_toArray, List.getElem?_cons_succ, List.getElem?_cons_zero]; rfl) (by kernel_rfl) (by kernel_rfl) (by kernel_rfl) (fun _ _ _ h => h) (Or.inr ⟨by rfl, rfl⟩) (by assumption) ?_; try simp only [Act.put, List.setIfInBounds_toArray, List.set_cons_zero, List.set_cons_succ])
    | (refine wpAnyH_take (i := 17) (v := ?_) (by simp only [List.getElem?_toArray, List.getElem?_cons_succ, List.getElem?_cons_zero]; rfl) (by kernel_rfl) (by kernel_rfl) (by kernel_rfl) (fun _ _ _ h => h) (Or.inl ⟨by rfl, ?_⟩) (by assumption) ?_
       rotate_left
       · (intro ww hSw; (try dsimp only at hSw); go_simp; (try with_reducible rfl))
       try simp only [Act.put, List.setIfInBounds_toArray, List.set_cons_zero, List.set_cons_succ])
    | (refine wpAnyH_ready (rs := [17]) (by kernel_rfl) (by simp) (AllReadyH.cons (by simp only [List.getElem?_toArray, List.getElem?_cons_succ, List.getElem?_cons_zero]; rfl) (fun K hK => ?_) AllReadyH.nil)
       go_simp
       first
         | (fail)
       try go_wp2_with fail
       refine hK.out _ _ (by (first | (with_reducible exact KS.out _ (bdrew1 (Below.refl _ _))) | (with_reducible exact KS.out _ (below_call hHeld.1 hHeld.1.size hb9)) | (with_reducible exact hHeld))) (fun hHeld => ?_)
       clear hK K
       try simp only [Act.put, List.setIfInBounds_toArray, List.set_cons_zero, List.set_cons_succ])
  first
    | (refine wpAnyH_take (i := 18) (v := undef) (by simp only [List.getElem?_toArray, List.getElem?_cons_succ, List.getElem?_cons_zero]; rfl) (by kernel_rfl) (by kernel_rfl) (by kernel_rfl) (fun _ _ _ h => h) (Or.inr ⟨by rfl, rfl⟩) (by assumption) ?_; try simp only [Act.put, List.setIfInBounds_toArray, List.set_cons_zero, List.set_cons_succ])
    | (refine wpAnyH_take (i := 18) (v := ?_) (by simp only [List.getElem?_toArray, List.getElem?_cons_succ, List.getElem?_cons_zero]; rfl) (by kernel_rfl) (by kernel_rfl) (by kernel_rfl) (fun _ _ _ h => h) (Or.inl ⟨by rfl, ?_⟩) (by assumption) ?_
       rotate_left
       · (intro ww hSw; (try dsimp only at hSw); go_simp; (try with_reducible rfl))
       try simp only [Act.put, List.setIfInBounds_toArray, List.set_cons_zero, List.set_cons_succ])
    | (refine wpAnyH_ready (rs := [18]) (by kernel_rfl) (by simp) (AllReadyH.cons (by simp only [List.getElem?_toArray, List.getElem?_cons_succ, List.getElem?_cons_zero]; rfl) (fun K hK => ?_) AllReadyH.nil)
       go_simp
       first
         | (fail)
       try go_wp2_with fail
       refine hK.out _ _ (by (first | (with_reducible exact KS.out _ (bdrew1 (Below.refl _ _))) | (with_reducible exact KS.out _ (below_call hHeld.1 hHeld.1.size hb9)) | (with_reducible exact hHeld))) (fun hHeld => ?_)
       clear hK K
       try simp only [Act.put, List.setIfInBounds_toArray, List.set_cons_zero, List.set_cons_succ])
  first
    | (refine wpAnyH_take (i := 19) (v := undef) (by simp only [List.getElem?_toArray, List.getElem?_cons_succ, List.getElem?_cons_zero]; rfl) (by kernel_rfl) (by kernel_rfl) (by kernel_rfl) (fun _ _ _ h => h) (Or.inr ⟨by rfl, rfl⟩) (by assumption) ?_; try simp only [Act.put, List.setIfInBounds_toArray, List.set_cons_zero, List.set_cons_succ])
    | (refine wpAnyH_take (i := 19) (v := ?_) (by simp only [List.getElem?_toArray, List.getElem?_cons_succ, List.getElem?_cons_zero]; rfl) (by kernel_rfl) (by kernel_rfl) (by kernel_rfl) (fun _ _ _ h => h) (Or.inl ⟨by rfl, ?_⟩) (by assumption) ?_
       rotate_left
       · (intro ww hSw; (try dsimp only at hSw); go_simp; (try with_reducible rfl))
       try simp only [Act.put, List.setIfInBounds_toArray, List.set_cons_zero, List.set_cons_succ])
    | (refine wpAnyH_ready (rs := [19]) (by kernel_rfl) (by simp) (AllReadyH.cons (by simp only [List.getElem?_toArray, List.getElem?_cons_succ, List.getElem?_cons_zero]; rfl) (fun K hK => ?_) AllReadyH.nil)
       go_simp
       first
         | (fail)
       try go_wp2_with fail
       refine hK.out _ _ (by (first | (with_reducible exact KS.out _ (bdrew1 (Below.refl _ _))) | (with_reducible exact KS.out _ (below_call hHeld.1 hHeld.1.size hb9)) | (with_reducible exact hHeld))) (fun hHeld => ?_)
       clear hK K
       try simp only [Act.put, List.setIfInBounds_toArray, List.set_cons_zero, List.set_cons_succ])
  first
    | (refine wpAnyH_take (i := 20) (v := undef) (by simp only [List.getElem?_toArray, List.getElem?_cons_succ, List.getElem?_cons_zero]; rfl) (by kernel_rfl) (by kernel_rfl) (by kernel_rfl) (fun _ _ _ h => h) (Or.inr ⟨by rfl, rfl⟩) (by assumption) ?_; try simp only [Act.put, List.setIfInBounds_toArray, List.set_cons_zero, List.set_cons_succ])
    | (refine wpAnyH_take (i := 20) (v := ?_) (by simp only [List.getElem?_toArray, List.getElem?_cons_succ, List.getElem?_cons_zero]; rfl) (by kernel_rfl) (by kernel_rfl) (by kernel_rfl) (fun _ _ _ h => h) (Or.inl ⟨by rfl, ?_⟩) (by assumption) ?_
       rotate_left
       · (intro ww hSw; (try dsimp only at hSw); go_simp; (try with_reducible rfl))
       try simp only [Act.put, List.setIfInBounds_toArray, List.set_cons_zero, List.set_cons_succ])
    | (refine wpAnyH_ready (rs := [20]) (by kernel_rfl) (by simp) (AllReadyH.cons (by simp only [List.getElem?_toArray, List.getElem?_cons_succ, List.getElem?_cons_zero]; rfl) (fun K hK => ?_) AllReadyH.nil)
       go_simp
       first
         | (fail)
       try go_wp2_with fail
       refine hK.out _ _ (by (first | (with_reducible exact KS.out _ (bdrew1 (Below.refl _ _))) | (with_reducible exact KS.out _ (below_call hHeld.1 hHeld.1.size hb9)) | (with_reducible exact hHeld))) (fun hHeld => ?_)
       clear hK K
       try simp only [Act.put, List.setIfInBounds_toArray, List.set_cons_zero, List.set_cons_succ])
  first
    | (refine wpAnyH_take (i := 14) (v := undef) (by simp only [List.getElem?_toArray, List.getElem?_cons_succ, List.getElem?_cons_zero]; rfl) (by kernel_rfl) (by kernel_rfl) (by kernel_rfl) (fun _ _ _ h => h) (Or.inr ⟨by rfl, rfl⟩) (by assumption) ?_; try simp only [Act.put, List.setIfInBounds_toArray, List.set_cons_zero, List.set_cons_succ])
    | (refine wpAnyH_ready (rs := [14]) (by kernel_rfl) (by simp) (AllReadyH.cons (by simp only [List.getElem?_toArray, List.getElem?_cons_succ, List.getElem?_cons_zero]; rfl) (fun K hK => ?_) AllReadyH.nil)
       go_simp; refine (rroot_as SY.out q5 HG.out k HKY.out _ RT.out _ (YB_9.out.below hHeld.1 (Nat.le_refl _))).mono ?_; rintro e w9 ⟨rfl, hb9⟩; try go_wp2_with fail
       refine hK.out _ _ (by (first | (with_reducible exact KS.out _ (bdrew1 (Below.refl _ _))) | (with_reducible exact KS.out _ (below_call hHeld.1 hHeld.1.size hb9)) | (with_reducible exact hHeld))) (fun hHeld => ?_)
       clear hK K
       try simp only [Act.put, List.setIfInBounds_toArray, List.set_cons_zero, List.set_cons_succ])
  first
    | (refine wpAnyH_take (i := 21) (v := undef) (by simp only [List.getElem?_toArray, List.getElem?_cons_succ, List.getElem?_cons_zero]; rfl) (by kernel_rfl) (by kernel_rfl) (by kernel_rfl) (fun _ _ _ h => h) (Or.inr ⟨by rfl, rfl⟩) (by assumption) ?_; try simp only [Act.put, List.setIfInBounds_toArray, List.set_cons_zero, List.set_cons_succ])
    | (refine wpAnyH_take (i := 21) (v := ?_) (by simp only [List.getElem?_toArray, List.getElem?_cons_succ, List.getElem?_cons_zero]; rfl) (by kernel_rfl) (by kernel_rfl) (by kernel_rfl) (fun _ _ _ h => h) (Or.inl ⟨by rfl, ?_⟩) (by assumption) ?_
       rotate_left
       · (intro ww hSw; (try dsimp only at hSw); go_simp; (try with_reducible rfl))
       try simp only [Act.put, List.setIfInBounds_toArray, List.set_cons_zero, List.set_cons_succ])
    | (refine wpAnyH_ready (rs := [21]) (by kernel_rfl) (by simp) (AllReadyH.cons (by simp only [List.getElem?_toArray, List.getElem?_cons_succ, List.getElem?_cons_zero]; rfl) (fun K hK => ?_) AllReadyH.nil)
       go_simp
       first
         | (fail)
       try go_wp2_with fail
       refine hK.out _ _ (by (first | (with_reducible exact KS.out _ (bdrew1 (Below.refl _ _))) | (with_reducible exact KS.out _ (below_call hHeld.1 hHeld.1.size hb9)) | (with_reducible exact hHeld))) (fun hHeld => ?_)
       clear hK K
       try simp only [Act.put, List.setIfInBounds_toArray, List.set_cons_zero, List.set_cons_succ])
  first
    | (refine wpAnyH_take (i := 22) (v := undef) (by simp only [List.getElem?_toArray, List.getElem?_cons_succ, List.getElem?_cons_zero]; rfl) (by kernel_rfl) (by kernel_rfl) (by kernel_rfl) (fun _ _ _ h => h) (Or.inr ⟨by rfl, rfl⟩) (by assumption) ?_; try simp only [Act.put, List.setIfInBounds_toArray, List.set_cons_zero, List.set_cons_succ])
    | (refine wpAnyH_take (i := 22) (v := ?_) (by simp only [List.getElem?_toArray, List.getElem?_cons_succ, List.getElem?_cons_zero]; rfl) (by kernel_rfl) (by kernel_rfl) (by kernel_rfl) (fun _ _ _ h => h) (Or.inl ⟨by rfl, ?_⟩) (by assumption) ?_
       rotate_left
       · (intro ww hSw; (try dsimp only at hSw); go_simp; (try with_reducible rfl))
       try simp only [Act.put, List.setIfInBounds_toArray, List.set_cons_zero, List.set_cons_succ])
    | (refine wpAnyH_ready (rs := [22]) (by kernel_rfl) (by simp) (AllReadyH.cons (by simp only [List.getElem?_toArray, List.getElem?_cons_succ, List.getElem?_cons_zero]; rfl) (fun K hK => ?_) AllReadyH.nil)
       go_simp
       first
         | (fail)
       try go_wp2_with fail
       refine hK.out _ _ (by (first | (with_reducible exact KS.out _ (bdrew1 (Below.refl _ _))) | (with_reducible exact KS.out _ (below_call hHeld.1 hHeld.1.size hb9)) | (with_reducible exact hHeld))) (fun hHeld => ?_)
       clear hK K
       try simp only [Act.put, List.setIfInBounds_toArray, List.set_cons_zero, List.set_cons_succ])
  first
    | (refine wpAnyH_take (i := 23) (v := undef) (by simp only [List.getElem?_toArray, List.getElem?_cons_succ, List.getElem?_cons_zero]; rfl) (by kernel_rfl) (by kernel_rfl) (by kernel_rfl) (fun _ _ _ h => h) (Or.inr ⟨by rfl, rfl⟩) (by assumption) ?_; try simp only [Act.put, List.setIfInBounds_toArray, List.set_cons_zero, List.set_cons_succ])
    | (refine wpAnyH_take (i := 23) (v := ?_) (by simp only [List.getElem?_toArray, List.getElem?_cons_succ, List.getElem?_cons_zero]; rfl) (by kernel_rfl) (by kernel_rfl) (by kernel_rfl) (fun _ _ _ h => h) (Or.inl ⟨by rfl, ?_⟩) (by assumption) ?_
       rotate_left
       · (intro ww hSw; (try dsimp only at hSw); go_simp; (try with_reducible rfl))
       try simp only [Act.put, List.setIfInBounds_toArray, List.set_cons_zero, List.set_cons_succ])
    | (refine wpAnyH_ready (rs := [23]) (by kernel_rfl) (by simp) (AllReadyH.cons (by simp only [List.getElem?_toArray, List.getElem?_cons_succ, List.getElem?_cons_zero]; rfl) (fun K hK => ?_) AllReadyH.nil)
       go_simp
       first
         | (fail)
       try go_wp2_with fail
       refine hK.out _ _ (by (first | (with_reducible exact KS.out _ (bdrew1 (Below.refl _ _))) | (with_reducible exact KS.out _ (below_call hHeld.1 hHeld.1.size hb9)) | (with_reducible exact hHeld))) (fun hHeld => ?_)
       clear hK K
       try simp only [Act.put, List.setIfInBounds_toArray, List.set_cons_zero, List.set_cons_succ])
  refine wpAnyH_done (by kernel_rfl) ?_ _
  refine NoPanic.normal ?_
  have hB9 := Lib.hid hHeld.1
  clear hHeld
  have BE := Lib.hid (below_call B_9.out B_9.out.size hB9.out)
  go_wp2_with fail
  go_ret
  exact ⟨rfl, BE.out⟩
theorem walk_holdMoves (x : Wd) (p : Wp) (a c : Int) (w : World) (ha : (Lit.int .u8 a).wf = true) (hc : (Lit.int .u8 c).wf = true) (h : WorldAt w p x) : Calls Try.prog 4 #[.agg #[.slice p.d.ex x.d.exits.length p.d.exc, .slice p.d.pl x.d.players.length p.d.plc, .slice p.d.co x.d.coins.length p.d.coc, .slice p.d.it x.d.items.length p.d.itc, .slice p.d.bo x.d.boxes.length p.d.boc, .int .i64 x.d.room, .int .i64 x.d.player, .int .i64 x.d.box, .slice p.at_ x.at_.length p.atc, .slice p.co x.coins.length p.coc, .slice p.wh x.wher.length p.whc], .int .u8 a, .int .u8 c] w fun e w' => e = .returned (.bool true) ∧ Below w.heap.size w w' := by
  cases hf : fitsB x
  · exact holdMoves_no x p a c w h hf
  by_cases hn : x.wher = []
  · exact holdMoves_none x p a c w h hf (by rw [hn]; rfl)
  have h1 := wf_u8 ha
  have h2 := wf_u8 hc
  obtain ⟨m1, rfl⟩ : ∃ m : Nat, a = m := ⟨a.toNat, by omega⟩
  obtain ⟨m2, rfl⟩ : ∃ m : Nat, c = m := ⟨c.toNat, by omega⟩
  have hx := (fits_fit hf).right
  have hwp : 0 < x.wher.length := List.length_pos_iff.2 hn
  obtain ⟨i, hi⟩ : ∃ i, m1 % x.at_.length = i := ⟨_, rfl⟩
  obtain ⟨k, hk⟩ : ∃ k, m2 % x.wher.length = k := ⟨_, rfl⟩
  have hil : i < x.at_.length := by rw [← hi]; exact Nat.mod_lt _ (right_lens hx).1
  have hkl : k < x.wher.length := by rw [← hk]; exact Nat.mod_lt _ hwp
  have hr := room_at hx hil
  have G := take_cases x (k : Int) ⟨0, (roomOf x i : Int)⟩ ⟨1, (i : Int)⟩
  have D := take_cases x (k : Int) ⟨1, (i : Int)⟩ ⟨0, (roomOf x i : Int)⟩
  have hin : ¬ inB (k : Int) x.wher.length = false := by simp [inB, hkl]
  have hfg : ¬ (⟨1, (i : Int)⟩ : Pl) = ⟨0, (roomOf x i : Int)⟩ := by simp
  rcases G with ⟨h3, _⟩ | ⟨k', hk', _, G⟩
  · exact absurd h3 hin
  obtain rfl : k = k' := by omega
  rcases D with ⟨h3, _⟩ | ⟨k', hk', _, D⟩
  · exact absurd h3 hin
  obtain rfl : k = k' := by omega
  by_cases hg0 : plOf x.wher k = ⟨0, (roomOf x i : Int)⟩ ∧ ¬ roomI x ⟨1, (i : Int)⟩ = 0
  · rcases G with ⟨g1, _⟩ | ⟨_, g2, _⟩ | ⟨g1, g2, g3⟩
    · exact absurd hg0.1 g1
    · exact absurd g2 hg0.2
    rcases D with ⟨_, d2⟩ | ⟨d1, _⟩ | ⟨d1, _⟩
    · have hG := take_right hx (item := (k : Int)) (f := ⟨0, (roomOf x i : Int)⟩) (g := ⟨1, (i : Int)⟩) (place_player hx hil) (by simp) (by simp)
      rw [g3] at hG
      exact holdMoves_got x p m1 m2 i k (by omega) (by omega) hwp hi hk g3 d2 (take_back hx hkl (by simp) hfg g1) hG w h hf
    · rw [g1] at d1; simp at d1
    · rw [g1] at d1; simp at d1
  have hR : ∃ e, getW x i k = (x, e) ∧ ¬ e = 0 := by
    rcases G with ⟨_, g3⟩ | ⟨_, _, g3⟩ | ⟨g1, g2, _⟩
    · exact ⟨5, g3, by decide⟩
    · exact ⟨9, g3, by decide⟩
    · exact absurd ⟨g1, g2⟩ hg0
  obtain ⟨e, hR, he⟩ := hR
  rcases D with ⟨_, d3⟩ | ⟨_, _, d3⟩ | ⟨d1, d2, d3⟩
  · exact holdMoves_not x p m1 m2 i k (by omega) (by omega) hwp hi hk e 5 hR d3 he (by decide) w h hf
  · exact holdMoves_not x p m1 m2 i k (by omega) (by omega) hwp hi hk e 9 hR d3 he (by decide) w h hf
  · have hG := take_right hx (item := (k : Int)) (f := ⟨1, (i : Int)⟩) (g := ⟨0, (roomOf x i : Int)⟩) (place_room hx hil) (by simp) (by simp)
    rw [d3] at hG
    obtain ⟨b, o, ea, hb, hc⟩ := h.at_.at_ hil
    have c0 := hc _ hil
    rw [hr.1] at c0
    obtain ⟨pd, pa, pac, pk, pkc, pw, pwc⟩ := p
    simp only at ea
    subst ea
    exact holdMoves_dropped x pd b o pac pk pw pkc pwc m1 m2 i k (by omega) (by omega) hwp hi hk e hR he d3 (take_back hx hkl (by simp) (fun e => hfg e.symm) d1) hG w h hf c0
set_option maxRecDepth 100000 in
theorem lifted_holdMoves (os : Os) (started : os.Started) (H : Type) (enc : TypeId × Value → H) :
    ReturnsInHanded {} Try.checked os 4 .any (Rows.holdMovesSpec.pre6 enc Try.prog Try.f4 Rows.holdMovesRow.domain false) (Rows.holdMovesSpec.post enc Try.prog Try.f4 false true false false) := by
  refine returnsInHanded_of_change (C := Try.checked) (by kernel_rfl) started (by kernel_rfl) Try.func4
    (ChangeSpec.witness6 (enc := enc) (C := Try.checked) false ⟨#[], #[.agg #[.slice none 0 0, .slice none 0 0, .slice none 0 0, .slice none 0 0, .slice none 0 0, .int .i64 0, .int .i64 0, .int .i64 0, .slice none 0 0, .slice none 0 0, .slice none 0 0], .int .u8 0, .int .u8 0], []⟩ 8 (by kernel_rfl) (by kernel_rfl) (by kernel_rfl) (by kernel_rfl)) ?_
  intro W base args ds gs before hval0 hW hcnd _
  have hval : ∀ (j : Nat) t v, Try.f4.params[j]? = some t → args[j]? = some v → Value.okWide Try.prog W .any base t v := hval0
  have hW' := hW
  obtain ⟨p, q, hA0, hV, rfl, hfz, hnd⟩ := hW
  have hA : DataW.TrodAll enc Try.prog W 0 (fun _ => true) true Try.f4.params.toList args.toList ds p := hA0
  rw [Try.params4] at hA hval
  obtain ⟨v0, vs0, d0, ds0, p0, q0, hargs, rfl, rfl, h0, r0⟩ := trodAll_cons hA
  obtain ⟨v1, vs1, d1, ds1, p1, q1, rfl, rfl, rfl, h1, r1⟩ := trodAll_cons r0
  obtain ⟨v2, vs2, d2, ds2, p2, q2, rfl, rfl, rfl, h2, r2⟩ := trodAll_cons r1
  obtain ⟨rfl, rfl, rfl⟩ := trodAll_nil r2
  obtain rfl : args = #[v0, v1, v2] := by cases args; simp_all
  obtain ⟨rfl, rfl⟩ := trodVars_none hV
  obtain ⟨wx0, wp0, rfl, m0⟩ := read_world (hval 0 29 v0 rfl rfl) h0
  obtain ⟨a1, rfl, rfl, rfl, w1⟩ := open_int Try.underlying5 (hval 1 5 v1 rfl rfl) h1
  obtain ⟨a2, rfl, rfl, rfl, w2⟩ := open_int Try.underlying5 (hval 2 5 v2 rfl rfl) h2
  clear hA0 hval0
  simp only [List.append_nil] at hW'
  refine (walk_holdMoves wx0 wp0 a1 a2 W w1 w2 m0).mono fun e W' ⟨he, hg⟩ => ?_
  subst he
  exact ⟨_, rfl, law_post (by kernel_rfl) rfl (by rw [Try.params4]; decide +kernel) rfl rfl Try.underlying4 hW' hg⟩

/-- ████ THE STATEMENT ████ -/
theorem proved_holdMoves : Rows.HoldMovesSaid :=
  OpenClaim.holds_of_wide 4 Try.f4 rfl rfl rfl rfl rfl rfl rfl ⟨rfl, rfl, rfl, rfl, rfl⟩ rfl rfl rfl rfl rfl (by kernel_rfl) Try.func4 (by kernel_rfl)
    (of_decide_eq_true (by kernel_rfl)) (by unfold Func.isWrapper; first | (rw [if_pos (by decide +kernel)]; kernel_rfl) | (rw [if_neg (by decide +kernel)]; exact ⟨rfl, rfl⟩))
    (fun os started H enc _ => lifted_holdMoves os started H enc)
#print axioms proved_holdMoves
end Go.Proofs.Ytjlipbcmkibkcaa
