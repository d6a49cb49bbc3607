/- cmd: within: a command's fields within their limits. -/
import Derived.Test.YtdioigidilmbkaaDoorRows
import Derived.Test.YtdioigidilmbkaaDoorKit
import Derived.Test.YtdioigidilmbkaaDoorStrs
import Derived.Test.YtdioigidilmbkaaDoorCmdMath
import Derived.Test.YtdioigidilmbkaaDoorCmdA
import Derived.Test.YtdioigidilmbkaaDoorHolds
import Derived.Deep.QuietTactic
import Derived.BigQuiet
import Derived.WalkKit
import Derived.ProofKit
import Derived.OpenShut
import Derived.IntWalk
namespace Go.Proofs.YtdioigidilmbkaaDoor
open Go.ChangeShapes Go.WideShapes Go.ChangeAt Go.RowKit
set_option linter.unusedVariables false
open Go.RowKit
theorem ints_five (a b c d e : Int) (w : World) : IntsAt (w.alloc (.cells #[.int .i64 a, .int .i64 b, .int .i64 c, .int .i64 d, .int .i64 e] 3)) (some ⟨w.heap.size, 0, none⟩) [a, b, c, d, e] := by
  refine ⟨by simp [maxLen], .inr ⟨w.heap.size, 0, rfl, by simp, fun i hi => ?_⟩⟩
  rw [World.cell?_alloc_at _ _ _ _ rfl]
  match i, hi with
  | 0, _ => rfl
  | 1, _ => rfl
  | 2, _ => rfl
  | 3, _ => rfl
  | 4, _ => rfl
theorem are_five (n : Nat) (a b c d e : Int) (w : World) (hn : n = w.heap.size) : Calls Tryd.prog 31 #[.slice (some ⟨n, 0, none⟩) 5 5] (w.alloc (.cells #[.int .i64 a, .int .i64 b, .int .i64 c, .int .i64 d, .int .i64 e] 3)) fun e' w' => e' = .returned (.bool (areB [a, b, c, d, e])) ∧ (w.alloc (.cells #[.int .i64 a, .int .i64 b, .int .i64 c, .int .i64 d, .int .i64 e] 3)) = w' := by
  subst hn
  exact are_any (some ⟨w.heap.size, 0, none⟩) 5 [a, b, c, d, e] _ (ints_five a b c d e w)

theorem within_any (c : Cm) (ga wa : Option Addr) (gc wc : Nat) (w : World) (h1 : IntsAt w ga c.gives) (h2 : IntsAt w wa c.wants) :
    Calls Tryd.prog 22 #[.agg #[.int .i64 c.kind, .int .i64 c.dir, .int .i64 c.item, .int .i64 c.box, .int .i64 c.who, .slice ga c.gives.length gc, .int .i64 c.pay, .slice wa c.wants.length wc, .int .i64 c.fee]] w fun e w' => e = .returned (.bool (withinB c)) ∧ Below w.heap.size w w' := by
  have H1 := Lib.hid h1
  have H2 := Lib.hid h2
  clear h1 h2
  cases k1 : isDirB c.dir
  · have K1 := Lib.hid k1
    have HB := Lib.hid (show withinB c = false by simp [withinB, k1])
    clear k1
    go_enter Tryd.func22, Tryd.ntmps22
    go_wp2_with fail
    refine (isdir_any _ _).mono ?_
    rintro e w' ⟨rfl, rfl⟩
    rw [K1.out]
    go_wp2_with fail
    go_ret
    exact ⟨ret_bool HB.out.symm, (Below.refl _ _).alloc (Nat.le_refl _) _⟩
  · cases k2 : areB [c.item, c.box, c.who, c.pay, c.fee]
    · have K1 := Lib.hid k1
      have K2 := Lib.hid k2
      have HB := Lib.hid (show withinB c = false by simp [withinB, k2])
      clear k1 k2
      go_enter Tryd.func22, Tryd.ntmps22
      go_wp2_with fail
      refine (isdir_any _ _).mono ?_
      rintro e w' ⟨rfl, rfl⟩
      rw [K1.out]
      go_wp2_with fail
      refine (are_five _ _ _ _ _ _ _ (by simp)).mono ?_
      rintro e w' ⟨rfl, rfl⟩
      rw [K2.out]
      go_wp2_with fail
      go_ret
      exact ⟨ret_bool HB.out.symm, ((Below.refl _ _).alloc (Nat.le_refl _) _).alloc (by simp) _⟩
    · cases k3 : sideB c.gives
      · have K1 := Lib.hid k1
        have K2 := Lib.hid k2
        have K3 := Lib.hid k3
        have HB := Lib.hid (show withinB c = false by simp [withinB, k3])
        clear k1 k2 k3
        go_enter Tryd.func22, Tryd.ntmps22
        go_wp2_with fail
        refine (isdir_any _ _).mono ?_
        rintro e w' ⟨rfl, rfl⟩
        rw [K1.out]
        go_wp2_with fail
        refine (are_five _ _ _ _ _ _ _ (by simp)).mono ?_
        rintro e w' ⟨rfl, rfl⟩
        rw [K2.out]
        go_wp2_with fail
        refine (side_any _ _ _ _ ((H1.out.alloc _).alloc _)).mono ?_
        rintro e w' ⟨rfl, rfl⟩
        rw [K3.out]
        go_wp2_with fail
        go_ret
        exact ⟨ret_bool HB.out.symm, ((Below.refl _ _).alloc (Nat.le_refl _) _).alloc (by simp) _⟩
      · have K1 := Lib.hid k1
        have K2 := Lib.hid k2
        have K3 := Lib.hid k3
        have HB := Lib.hid (show withinB c = sideB c.wants by simp [withinB, k1, k2, k3])
        clear k1 k2 k3
        go_enter Tryd.func22, Tryd.ntmps22
        go_wp2_with fail
        refine (isdir_any _ _).mono ?_
        rintro e w' ⟨rfl, rfl⟩
        rw [K1.out]
        go_wp2_with fail
        refine (are_five _ _ _ _ _ _ _ (by simp)).mono ?_
        rintro e w' ⟨rfl, rfl⟩
        rw [K2.out]
        go_wp2_with fail
        refine (side_any _ _ _ _ ((H1.out.alloc _).alloc _)).mono ?_
        rintro e w' ⟨rfl, rfl⟩
        rw [K3.out]
        go_wp2_with fail
        refine (side_any _ _ _ _ ((H2.out.alloc _).alloc _)).mono ?_
        rintro e w' ⟨rfl, rfl⟩
        go_wp2_with fail
        go_ret
        exact ⟨ret_bool HB.out.symm, ((Below.refl _ _).alloc (Nat.le_refl _) _).alloc (by simp) _⟩
end Go.Proofs.YtdioigidilmbkaaDoor
