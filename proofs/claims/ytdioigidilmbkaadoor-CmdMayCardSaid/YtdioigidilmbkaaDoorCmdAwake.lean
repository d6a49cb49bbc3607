/- cmd: awake: the answers that the document fixes. -/
import Derived.Test.YtdioigidilmbkaaDoorRows
import Derived.Test.YtdioigidilmbkaaDoorKit
import Derived.Test.YtdioigidilmbkaaDoorStrs
import Derived.Test.YtdioigidilmbkaaDoorStrTab
import Derived.Test.YtdioigidilmbkaaDoorCmdMath
import Derived.Test.YtdioigidilmbkaaDoorCmdA
import Derived.Test.YtdioigidilmbkaaDoorNameMath
import Derived.Test.YtdioigidilmbkaaDoorCmdNames1
import Derived.Test.YtdioigidilmbkaaDoorCmdSame
import Derived.Test.YtdioigidilmbkaaDoorCmdMay
import Derived.Test.YtdioigidilmbkaaDoorCmdRefSame
import Derived.WalkKit
import Derived.ProofKit
import Derived.OpenShut
import Derived.IntWalk
namespace Go.Proofs.YtdioigidilmbkaaDoor
open Go.ChangeShapes Go.WideShapes Go.ChangeAt Go.RowKit
set_option linter.unusedVariables false
open Go.RowKit
set_option maxRecDepth 10000
theorem ints_one (x : Int) (w : World) : IntsAt (w.alloc (.cells #[.int .i64 x] 3)) (some ⟨w.heap.size, 0, none⟩) [x] := by
  refine ⟨by simp [maxLen], .inr ⟨w.heap.size, 0, rfl, by simp, fun i hi => ?_⟩⟩
  rw [World.cell?_alloc_at _ _ _ _ rfl]
  match i, hi with
  | 0, _ => rfl
theorem kind_trade (w : World) (ht : KTab w) : Calls Tryd.prog 13 #[.string ⟨#[116, 114, 97, 100, 101]⟩] w fun e w' => e = .returned (.tuple #[.int .i64 8, .bool true]) ∧ w = w' := kind_any [116, 114, 97, 100, 101] w ht
theorem kind_empty (w : World) (ht : KTab w) : Calls Tryd.prog 13 #[.string ⟨#[]⟩] w fun e w' => e = .returned (.tuple #[.int .i64 0, .bool false]) ∧ w = w' := kind_any [] w ht
theorem dir_west (w : World) (ht : WTab w) : Calls Tryd.prog 15 #[.string ⟨#[119, 101, 115, 116]⟩] w fun e w' => e = .returned (.tuple #[.int .i64 3, .bool true]) ∧ w = w' := dir_any [119, 101, 115, 116] w ht
theorem dir_up (w : World) (ht : WTab w) : Calls Tryd.prog 15 #[.string ⟨#[117, 112]⟩] w fun e w' => e = .returned (.tuple #[.int .i64 0, .bool false]) ∧ w = w' := dir_any [117, 112] w ht
theorem may_lit (k d i : Int) (v : Bool) (w : World) (hv : mayB ⟨k, d, i, 0, 0, [], 0, [], 0⟩ = v) : Calls Tryd.prog 9 #[.agg #[.int .i64 k, .int .i64 d, .int .i64 i, .int .i64 0, .int .i64 0, .slice none 0 0, .int .i64 0, .slice none 0 0, .int .i64 0]] w fun e w' => e = .returned (.bool v) ∧ Below w.heap.size w w' := by
  subst hv
  exact may_any ⟨k, d, i, 0, 0, [], 0, [], 0⟩ none none 0 0 w (IntsAt.nil _ _) (IntsAt.nil _ _)
theorem name_own (w : World) (ht : KTab w) : Calls Tryd.prog 17 #[.int .i64 10] w fun e w' => e = .returned (.string ⟨#[111, 119, 110]⟩) ∧ Below w.heap.size w w' := name_any 10 w ht
theorem name_no (w : World) (ht : KTab w) : Calls Tryd.prog 17 #[.int .i64 0] w fun e w' => e = .returned (.string ⟨#[]⟩) ∧ Below w.heap.size w w' := name_any 0 w ht
theorem way_north (w : World) (ht : WTab w) : Calls Tryd.prog 19 #[.int .i64 0] w fun e w' => e = .returned (.string ⟨#[110, 111, 114, 116, 104]⟩) ∧ Below w.heap.size w w' := way_any 0 w ht
theorem same_lit (x y : Int) (v : Bool) (n m : Nat) (w : World) (hn : n = w.heap.size) (hm : m = w.heap.size + 1) (hv : decide (x = y) = v) :
    Calls Tryd.prog 11 #[.agg #[.int .i64 0, .int .i64 0, .int .i64 0, .int .i64 0, .int .i64 0, .slice (some ⟨n, 0, none⟩) 1 1, .int .i64 0, .slice none 0 0, .int .i64 0], .agg #[.int .i64 0, .int .i64 0, .int .i64 0, .int .i64 0, .int .i64 0, .slice (some ⟨m, 0, none⟩) 1 1, .int .i64 0, .slice none 0 0, .int .i64 0]]
      ((w.alloc (.cells #[.int .i64 x] 3)).alloc (.cells #[.int .i64 y] 3)) fun e w' => e = .returned (.bool v) ∧ Below ((w.alloc (.cells #[.int .i64 x] 3)).alloc (.cells #[.int .i64 y] 3)).heap.size ((w.alloc (.cells #[.int .i64 x] 3)).alloc (.cells #[.int .i64 y] 3)) w' := by
  subst hv hn hm
  have h := same_any ⟨0, 0, 0, 0, 0, [x], 0, [], 0⟩ ⟨0, 0, 0, 0, 0, [y], 0, [], 0⟩ (some ⟨w.heap.size, 0, none⟩) none (some ⟨w.heap.size + 1, 0, none⟩) none 1 0 1 0 _ ((ints_one x w).alloc (.cells #[.int .i64 y] 3)) (IntsAt.nil _ _) (by have := ints_one y (w.alloc (.cells #[.int .i64 x] 3)); rwa [show (w.alloc (.cells #[.int .i64 x] 3)).heap.size = w.heap.size + 1 by simp] at this) (IntsAt.nil _ _)
  rw [show sameB ⟨0, 0, 0, 0, 0, [x], 0, [], 0⟩ ⟨0, 0, 0, 0, 0, [y], 0, [], 0⟩ = decide (x = y) by simp [sameB, numsB]] at h
  exact h

set_option maxHeartbeats 2000000 in
theorem awake_any (w : World) (hk : KTab w) (hw : WTab w) : Calls Tryd.prog 7 #[] w fun e w' => e = .returned (.bool true) ∧ Below w.heap.size w w' := by
  have HK := Lib.hid hk
  have HW := Lib.hid hw
  clear hk hw
  go_enter Tryd.func7, Tryd.ntmps7
  go_wp2_with fail
  refine (kind_trade _ HK.out).mono ?_
  rintro e w' ⟨rfl, rfl⟩
  go_wp2_with fail
  refine (dir_west _ HW.out).mono ?_
  rintro e w' ⟨rfl, rfl⟩
  go_wp2_with fail
  refine (kind_empty _ HK.out).mono ?_
  rintro e w' ⟨rfl, rfl⟩
  go_wp2_with fail
  refine (dir_up _ HW.out).mono ?_
  rintro e w' ⟨rfl, rfl⟩
  go_wp2_with fail
  refine (may_lit 9 0 0 true _ rfl).mono ?_
  rintro e w1 ⟨rfl, b1⟩
  go_wp2_with fail
  refine (may_lit 9 0 1 false _ rfl).mono ?_
  rintro e w2 ⟨rfl, b2⟩
  go_wp2_with fail
  have B2 := Lib.hid (bl b1 b2)
  clear b1 b2
  refine (may_lit 1 3 0 true _ rfl).mono ?_
  rintro e w3 ⟨rfl, b3⟩
  go_wp2_with fail
  have B3 := Lib.hid (bl B2.out b3)
  clear b3 B2
  refine (may_lit 1 4 0 false _ rfl).mono ?_
  rintro e w4 ⟨rfl, b4⟩
  go_wp2_with fail
  have B4 := Lib.hid (bl B3.out b4)
  clear b4 B3
  refine (may_lit 0 0 0 false _ rfl).mono ?_
  rintro e w5 ⟨rfl, b5⟩
  go_wp2_with fail
  have B5 := Lib.hid (bl B4.out b5)
  clear b5 B4
  refine (name_own _ (HK.out.below B5.out)).mono ?_
  rintro e w6 ⟨rfl, b6⟩
  go_wp2_with fail
  have B6 := Lib.hid (bl B5.out b6)
  clear b6 B5
  refine (way_north _ (HW.out.below B6.out)).mono ?_
  rintro e w7 ⟨rfl, b7⟩
  go_wp2_with fail
  have B7 := Lib.hid (bl B6.out b7)
  clear b7 B6
  refine (name_no _ (HK.out.below B7.out)).mono ?_
  rintro e w8 ⟨rfl, b8⟩
  go_wp2_with fail
  have B8 := Lib.hid (bl B7.out b8)
  clear b8 B7
  refine (same_lit 1 1 true _ _ _ (by simp) (by simp) rfl).mono ?_
  rintro e w9 ⟨rfl, b9⟩
  have B9 := Lib.hid (B8.out.trans (((Below.refl _ _).alloc (Nat.le_refl _) _).alloc (by simp) _ |>.trans (b9.mono (by simp; omega)) |>.mono B8.out.size))
  clear b9 B8
  go_wp2_with fail
  refine (same_lit 1 2 false _ _ _ (by simp) (by simp) rfl).mono ?_
  rintro e w10 ⟨rfl, b10⟩
  have B10 := Lib.hid (B9.out.trans (((Below.refl _ _).alloc (Nat.le_refl _) _).alloc (by simp) _ |>.trans (b10.mono (by simp; omega)) |>.mono B9.out.size))
  clear b10 B9
  go_wp2_with fail
  go_ret
  exact ⟨rfl, B10.out⟩
end Go.Proofs.YtdioigidilmbkaaDoor
