/- desc.May. -/
import Derived.Test.YtniblphklgbpnaaRows
import Derived.Test.YtniblphklgbpnaaKit
import Derived.Test.YtniblphklgbpnaaStrs
import Derived.Test.YtniblphklgbpnaaCoin
import Derived.Test.YtniblphklgbpnaaBlk
import Derived.Test.YtniblphklgbpnaaHolds
import Derived.Test.YtniblphklgbpnaaWorldMath
import Derived.Test.YtniblphklgbpnaaWorldAt
import Derived.Test.YtniblphklgbpnaaDescA
import Derived.Test.YtniblphklgbpnaaDescRooms
import Derived.Test.YtniblphklgbpnaaDescB
import Derived.Test.YtniblphklgbpnaaDescMay
import Derived.Deep.QuietTactic
import Derived.BigQuiet
import Derived.WalkKit
import Derived.ProofKit
import Derived.OpenShut
import Derived.IntWalk
namespace Go.Proofs.Ytniblphklgbpnaa
open Go.ChangeShapes Go.WideShapes Go.ChangeAt Go.RowKit
set_option linter.unusedVariables false
open Go.RowKit
theorem ints3 {w : World} {n : Nat} {t : TypeId} {a b c : Int} (h : Blk w n t #[.int .i64 a, .int .i64 b, .int .i64 c]) : IntsAt w (some ⟨n, 0, none⟩) [a, b, c] :=
  h.ints (by simp [maxLen]) (fun i hi => by
    obtain rfl | rfl | rfl : i = 0 ∨ i = 1 ∨ i = 2 := by simp at hi; omega
    · rfl
    · rfl
    · rfl)
set_option maxRecDepth 100000 in
theorem may_any (d : Ds) (p : Dp) (w : World) (h : DescAt w p d) :
    Calls Try.prog 11 #[.agg #[.slice p.ex d.exits.length p.exc, .slice p.pl d.players.length p.plc, .slice p.co d.coins.length p.coc, .slice p.it d.items.length p.itc, .slice p.bo d.boxes.length p.boc, .int .i64 d.room, .int .i64 d.player, .int .i64 d.box]] w fun e w' => e = .returned (.bool (mayD d)) ∧ Below w.heap.size w w' := by
  have H := Lib.hid h
  clear h
  have HN := Lib.hid (Holds.new w #[.slice p.ex d.exits.length p.exc, .slice p.pl d.players.length p.plc, .slice p.co d.coins.length p.coc, .slice p.it d.items.length p.itc, .slice p.bo d.boxes.length p.boc, .int .i64 d.room, .int .i64 d.player, .int .i64 d.box] 26)
  cases hx : roomsB d.exits
  · have HX := Lib.hid hx
    have HD := Lib.hid (show mayD d = false by simp [mayD, hx])
    clear hx
    go_enter Try.func11, Try.ntmps11
    go_wp2_with fail
    refine (arerooms_any _ _ _ _ (H.out.ex.alloc _)).mono ?_
    rintro e w1 ⟨rfl, b1⟩
    rw [HX.out]
    have HB := Lib.hid (HN.out.call b1)
    clear b1
    go_wp2_with fail
    go_ret
    exact ⟨ret_bool HD.out.symm, HB.out.1⟩
  cases hy : mayPlB d
  · have HX := Lib.hid hx
    have HY := Lib.hid hy
    have HD := Lib.hid (show mayD d = false by simp [mayD, hy])
    clear hx hy
    go_enter Try.func11, Try.ntmps11
    go_wp2_with fail
    refine (arerooms_any _ _ _ _ (H.out.ex.alloc _)).mono ?_
    rintro e w1 ⟨rfl, b1⟩
    rw [HX.out]
    have HB := Lib.hid (HN.out.call b1)
    clear b1
    have hc := HB.out.2.2
    go_wp2_with fail
    clear hc
    refine (mayplayers_any d p w1 (H.out.below HB.out.1 (Nat.le_refl _)).pl (H.out.below HB.out.1 (Nat.le_refl _)).co).mono ?_
    rintro e w2 ⟨rfl, b2⟩
    rw [HY.out]
    have HB2 := Lib.hid (HB.out.call b2)
    clear b2
    go_wp2_with fail
    go_ret
    exact ⟨ret_bool HD.out.symm, HB2.out.1⟩
  cases hz : capsB [d.room, d.player, d.box]
  · have HX := Lib.hid hx
    have HY := Lib.hid hy
    have HZ := Lib.hid hz
    have HD := Lib.hid (show mayD d = false by simp [mayD, hz])
    clear hx hy hz
    go_enter Try.func11, Try.ntmps11
    go_wp2_with fail
    refine (arerooms_any _ _ _ _ (H.out.ex.alloc _)).mono ?_
    rintro e w1 ⟨rfl, b1⟩
    rw [HX.out]
    have HB := Lib.hid (HN.out.call b1)
    clear b1
    have hc := HB.out.2.2
    go_wp2_with fail
    clear hc
    refine (mayplayers_any d p w1 (H.out.below HB.out.1 (Nat.le_refl _)).pl (H.out.below HB.out.1 (Nat.le_refl _)).co).mono ?_
    rintro e w2 ⟨rfl, b2⟩
    rw [HY.out]
    have HB2 := Lib.hid (HB.out.call b2)
    clear b2
    have hc := HB2.out.2.2
    go_wp2_with fail
    clear hc
    refine (arecaps_any _ _ _ _ (ints3 (Blk.new _ _ _))).mono ?_
    rintro e w3 ⟨rfl, rfl⟩
    rw [HZ.out]
    go_wp2_with fail
    go_ret
    exact ⟨ret_bool HD.out.symm, (HB2.out.alloc _).1⟩
  · have HX := Lib.hid hx
    have HY := Lib.hid hy
    have HZ := Lib.hid hz
    have HD := Lib.hid (show mayD d = mayItB d by simp [mayD, hx, hy, hz])
    clear hx hy hz
    go_enter Try.func11, Try.ntmps11
    go_wp2_with fail
    refine (arerooms_any _ _ _ _ (H.out.ex.alloc _)).mono ?_
    rintro e w1 ⟨rfl, b1⟩
    rw [HX.out]
    have HB := Lib.hid (HN.out.call b1)
    clear b1
    have hc := HB.out.2.2
    go_wp2_with fail
    clear hc
    refine (mayplayers_any d p w1 (H.out.below HB.out.1 (Nat.le_refl _)).pl (H.out.below HB.out.1 (Nat.le_refl _)).co).mono ?_
    rintro e w2 ⟨rfl, b2⟩
    rw [HY.out]
    have HB2 := Lib.hid (HB.out.call b2)
    clear b2
    have hc := HB2.out.2.2
    have hls := HB2.out.2.1
    go_wp2_with fail
    refine (arecaps_any _ _ _ _ (ints3 (Blk.new _ _ _))).mono ?_
    rintro e w3 ⟨rfl, rfl⟩
    rw [HZ.out]
    go_wp2_with fail
    clear hc
    have HB3 := Lib.hid (HB2.out.alloc (.cells #[.int .i64 d.room, .int .i64 d.player, .int .i64 d.box] 3))
    refine (mayitems_any d p _ (H.out.below HB3.out.1 (Nat.le_refl _))).mono ?_
    rintro e w4 ⟨rfl, b4⟩
    go_wp2_with fail
    go_ret
    exact ⟨ret_bool HD.out.symm, (HB3.out.call b4).1⟩
end Go.Proofs.Ytniblphklgbpnaa
