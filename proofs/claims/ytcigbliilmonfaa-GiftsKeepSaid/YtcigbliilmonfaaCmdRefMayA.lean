/- The document's own May, of commands. -/
import Derived.Test.YtcigbliilmonfaaRows
import Derived.Test.YtcigbliilmonfaaKit
import Derived.Test.YtcigbliilmonfaaGMem
import Derived.Test.YtcigbliilmonfaaCmdMath
import Derived.Test.YtcigbliilmonfaaCmdA
import Derived.Deep.QuietTactic
import Derived.BigQuiet
import Derived.WalkKit
import Derived.ProofKit
import Derived.OpenShut
import Derived.IntWalk
namespace Go.Proofs.Ytcigbliilmonfaa
open Go.ChangeShapes Go.WideShapes Go.ChangeAt Go.RowKit
set_option linter.unusedVariables false
open Go.RowKit
set_option maxHeartbeats 1000000 in
set_option maxRecDepth 100000 in
theorem refmay_go1 (D i b h p f : Int) (gs ws : List Int) (ga wa : Option Addr) (gc wc : Nat) (w : World) (d0 : 0 ≤ D) (d3 : D ≤ 3) (h1 : IntsAt w ga gs) (h2 : IntsAt w wa ws) :
    Calls Try.prog 10 #[.agg #[.int .i64 1, .int .i64 D, .int .i64 i, .int .i64 b, .int .i64 h, .slice ga gs.length gc, .int .i64 p, .slice wa ws.length wc, .int .i64 f]] w fun e w' => e = .returned (.bool (refMayB ⟨1, D, i, b, h, gs, p, ws, f⟩)) ∧ Below w.heap.size w w' := by
  have HB := Lib.hid (show refMayB ⟨1, D, i, b, h, gs, p, ws, f⟩ = (cfitB i false && cfitB b false && cfitB h false && cfitB p false && cfitB f false && rowB gs false && rowB ws false) by
    simp [refMayB, headB, isKindB, isDirB, has, d0, show D < 4 by omega]; try omega)
  have H1 := Lib.hid h1
  have H2 := Lib.hid h2
  clear h1 h2
  by_cases dz : D = 0
  · subst dz
    go_enter Try.func10, Try.ntmps10
    go_wp2_with (first | (go_at_call 24; (with_reducible refine (cfit_any _ _ _).mono ?_); rintro e w' ⟨rfl, rfl⟩) | (go_at_call 25; (with_reducible refine (row_any _ _ _ _ _ (H1.out.alloc _)).mono ?_); rintro e w' ⟨rfl, rfl⟩) | (go_at_call 25; (with_reducible refine (row_any _ _ _ _ _ (H2.out.alloc _)).mono ?_); rintro e w' ⟨rfl, rfl⟩))
    all_goals
      go_ret
      exact ⟨ret_bool (by rw [HB.out]; simp [*]), (Below.refl _ _).alloc (Nat.le_refl _) _⟩
  · have hd : (D != 0) = true := by simpa using dz
    clear dz
    go_enter Try.func10, Try.ntmps10
    go_wp2_with (first | (go_at_call 24; (with_reducible refine (cfit_any _ _ _).mono ?_); rintro e w' ⟨rfl, rfl⟩) | (go_at_call 25; (with_reducible refine (row_any _ _ _ _ _ (H1.out.alloc _)).mono ?_); rintro e w' ⟨rfl, rfl⟩) | (go_at_call 25; (with_reducible refine (row_any _ _ _ _ _ (H2.out.alloc _)).mono ?_); rintro e w' ⟨rfl, rfl⟩))
    all_goals
      go_ret
      exact ⟨ret_bool (by rw [HB.out]; simp [*]), (Below.refl _ _).alloc (Nat.le_refl _) _⟩
set_option maxRecDepth 100000 in
theorem refmay_1 (D i b h p f : Int) (gs ws : List Int) (ga wa : Option Addr) (gc wc : Nat) (w : World) (h1 : IntsAt w ga gs) (h2 : IntsAt w wa ws) :
    Calls Try.prog 10 #[.agg #[.int .i64 1, .int .i64 D, .int .i64 i, .int .i64 b, .int .i64 h, .slice ga gs.length gc, .int .i64 p, .slice wa ws.length wc, .int .i64 f]] w fun e w' => e = .returned (.bool (refMayB ⟨1, D, i, b, h, gs, p, ws, f⟩)) ∧ Below w.heap.size w w' := by
  by_cases d0 : 0 ≤ D
  case neg =>
    have HF := Lib.hid (show refMayB ⟨1, D, i, b, h, gs, p, ws, f⟩ = false by simp [refMayB, headB, isDirB, d0])
    clear h1 h2
    go_enter Try.func10, Try.ntmps10
    go_wp2_with fail
    go_ret
    exact ⟨ret_bool HF.out.symm, (Below.refl _ _).alloc (Nat.le_refl _) _⟩
  by_cases d3 : D ≤ 3
  case neg =>
    have HF := Lib.hid (show refMayB ⟨1, D, i, b, h, gs, p, ws, f⟩ = false by simp [refMayB, headB, isDirB, show ¬ D < 4 by omega])
    clear h1 h2
    go_enter Try.func10, Try.ntmps10
    go_wp2_with fail
    go_ret
    exact ⟨ret_bool HF.out.symm, (Below.refl _ _).alloc (Nat.le_refl _) _⟩
  exact refmay_go1 D i b h p f gs ws ga wa gc wc w d0 d3 h1 h2
set_option maxHeartbeats 1000000 in
set_option maxRecDepth 100000 in
theorem refmay_go2 (D i b h p f : Int) (gs ws : List Int) (ga wa : Option Addr) (gc wc : Nat) (w : World) (d0 : 0 ≤ D) (d3 : D ≤ 3) (h1 : IntsAt w ga gs) (h2 : IntsAt w wa ws) :
    Calls Try.prog 10 #[.agg #[.int .i64 2, .int .i64 D, .int .i64 i, .int .i64 b, .int .i64 h, .slice ga gs.length gc, .int .i64 p, .slice wa ws.length wc, .int .i64 f]] w fun e w' => e = .returned (.bool (refMayB ⟨2, D, i, b, h, gs, p, ws, f⟩)) ∧ Below w.heap.size w w' := by
  have HB := Lib.hid (show refMayB ⟨2, D, i, b, h, gs, p, ws, f⟩ = (cfitB i false && cfitB b false && cfitB h true && cfitB p false && cfitB f false && rowB gs false && rowB ws false) by
    simp [refMayB, headB, isKindB, isDirB, has, d0, show D < 4 by omega]; try omega)
  have H1 := Lib.hid h1
  have H2 := Lib.hid h2
  clear h1 h2
  by_cases dz : D = 0
  · subst dz
    go_enter Try.func10, Try.ntmps10
    go_wp2_with (first | (go_at_call 24; (with_reducible refine (cfit_any _ _ _).mono ?_); rintro e w' ⟨rfl, rfl⟩) | (go_at_call 25; (with_reducible refine (row_any _ _ _ _ _ (H1.out.alloc _)).mono ?_); rintro e w' ⟨rfl, rfl⟩) | (go_at_call 25; (with_reducible refine (row_any _ _ _ _ _ (H2.out.alloc _)).mono ?_); rintro e w' ⟨rfl, rfl⟩))
    all_goals
      go_ret
      exact ⟨ret_bool (by rw [HB.out]; simp [*]), (Below.refl _ _).alloc (Nat.le_refl _) _⟩
  · have hd : (D != 0) = true := by simpa using dz
    clear dz
    go_enter Try.func10, Try.ntmps10
    go_wp2_with (first | (go_at_call 24; (with_reducible refine (cfit_any _ _ _).mono ?_); rintro e w' ⟨rfl, rfl⟩) | (go_at_call 25; (with_reducible refine (row_any _ _ _ _ _ (H1.out.alloc _)).mono ?_); rintro e w' ⟨rfl, rfl⟩) | (go_at_call 25; (with_reducible refine (row_any _ _ _ _ _ (H2.out.alloc _)).mono ?_); rintro e w' ⟨rfl, rfl⟩))
    all_goals
      go_ret
      exact ⟨ret_bool (by rw [HB.out]; simp [*]), (Below.refl _ _).alloc (Nat.le_refl _) _⟩
set_option maxRecDepth 100000 in
theorem refmay_2 (D i b h p f : Int) (gs ws : List Int) (ga wa : Option Addr) (gc wc : Nat) (w : World) (h1 : IntsAt w ga gs) (h2 : IntsAt w wa ws) :
    Calls Try.prog 10 #[.agg #[.int .i64 2, .int .i64 D, .int .i64 i, .int .i64 b, .int .i64 h, .slice ga gs.length gc, .int .i64 p, .slice wa ws.length wc, .int .i64 f]] w fun e w' => e = .returned (.bool (refMayB ⟨2, D, i, b, h, gs, p, ws, f⟩)) ∧ Below w.heap.size w w' := by
  by_cases d0 : 0 ≤ D
  case neg =>
    have HF := Lib.hid (show refMayB ⟨2, D, i, b, h, gs, p, ws, f⟩ = false by simp [refMayB, headB, isDirB, d0])
    clear h1 h2
    go_enter Try.func10, Try.ntmps10
    go_wp2_with fail
    go_ret
    exact ⟨ret_bool HF.out.symm, (Below.refl _ _).alloc (Nat.le_refl _) _⟩
  by_cases d3 : D ≤ 3
  case neg =>
    have HF := Lib.hid (show refMayB ⟨2, D, i, b, h, gs, p, ws, f⟩ = false by simp [refMayB, headB, isDirB, show ¬ D < 4 by omega])
    clear h1 h2
    go_enter Try.func10, Try.ntmps10
    go_wp2_with fail
    go_ret
    exact ⟨ret_bool HF.out.symm, (Below.refl _ _).alloc (Nat.le_refl _) _⟩
  exact refmay_go2 D i b h p f gs ws ga wa gc wc w d0 d3 h1 h2
set_option maxHeartbeats 1000000 in
set_option maxRecDepth 100000 in
theorem refmay_go3 (D i b h p f : Int) (gs ws : List Int) (ga wa : Option Addr) (gc wc : Nat) (w : World) (d0 : 0 ≤ D) (d3 : D ≤ 3) (dz : D = 0) (h1 : IntsAt w ga gs) (h2 : IntsAt w wa ws) :
    Calls Try.prog 10 #[.agg #[.int .i64 3, .int .i64 D, .int .i64 i, .int .i64 b, .int .i64 h, .slice ga gs.length gc, .int .i64 p, .slice wa ws.length wc, .int .i64 f]] w fun e w' => e = .returned (.bool (refMayB ⟨3, D, i, b, h, gs, p, ws, f⟩)) ∧ Below w.heap.size w w' := by
  have HB := Lib.hid (show refMayB ⟨3, D, i, b, h, gs, p, ws, f⟩ = (cfitB i true && cfitB b false && cfitB h false && cfitB p false && cfitB f false && rowB gs false && rowB ws false) by
    simp [refMayB, headB, isKindB, isDirB, has, dz]; try omega)
  have H1 := Lib.hid h1
  have H2 := Lib.hid h2
  clear h1 h2
  subst dz
  go_enter Try.func10, Try.ntmps10
  go_wp2_with (first | (go_at_call 24; (with_reducible refine (cfit_any _ _ _).mono ?_); rintro e w' ⟨rfl, rfl⟩) | (go_at_call 25; (with_reducible refine (row_any _ _ _ _ _ (H1.out.alloc _)).mono ?_); rintro e w' ⟨rfl, rfl⟩) | (go_at_call 25; (with_reducible refine (row_any _ _ _ _ _ (H2.out.alloc _)).mono ?_); rintro e w' ⟨rfl, rfl⟩))
  all_goals
    go_ret
    exact ⟨ret_bool (by rw [HB.out]; simp [*]), (Below.refl _ _).alloc (Nat.le_refl _) _⟩
set_option maxRecDepth 100000 in
theorem refmay_3 (D i b h p f : Int) (gs ws : List Int) (ga wa : Option Addr) (gc wc : Nat) (w : World) (h1 : IntsAt w ga gs) (h2 : IntsAt w wa ws) :
    Calls Try.prog 10 #[.agg #[.int .i64 3, .int .i64 D, .int .i64 i, .int .i64 b, .int .i64 h, .slice ga gs.length gc, .int .i64 p, .slice wa ws.length wc, .int .i64 f]] w fun e w' => e = .returned (.bool (refMayB ⟨3, D, i, b, h, gs, p, ws, f⟩)) ∧ Below w.heap.size w w' := by
  by_cases d0 : 0 ≤ D
  case neg =>
    have HF := Lib.hid (show refMayB ⟨3, D, i, b, h, gs, p, ws, f⟩ = false by simp [refMayB, headB, isDirB, d0])
    clear h1 h2
    go_enter Try.func10, Try.ntmps10
    go_wp2_with fail
    go_ret
    exact ⟨ret_bool HF.out.symm, (Below.refl _ _).alloc (Nat.le_refl _) _⟩
  by_cases d3 : D ≤ 3
  case neg =>
    have HF := Lib.hid (show refMayB ⟨3, D, i, b, h, gs, p, ws, f⟩ = false by simp [refMayB, headB, isDirB, show ¬ D < 4 by omega])
    clear h1 h2
    go_enter Try.func10, Try.ntmps10
    go_wp2_with fail
    go_ret
    exact ⟨ret_bool HF.out.symm, (Below.refl _ _).alloc (Nat.le_refl _) _⟩
  by_cases dz : D = 0
  case neg =>
    have HF := Lib.hid (show refMayB ⟨3, D, i, b, h, gs, p, ws, f⟩ = false by simp [refMayB, headB, dz])
    have hd : (D != 0) = true := by simpa using dz
    clear h1 h2 dz
    go_enter Try.func10, Try.ntmps10
    go_wp2_with fail
    go_ret
    exact ⟨ret_bool HF.out.symm, (Below.refl _ _).alloc (Nat.le_refl _) _⟩
  exact refmay_go3 D i b h p f gs ws ga wa gc wc w d0 d3 dz h1 h2
set_option maxHeartbeats 1000000 in
set_option maxRecDepth 100000 in
theorem refmay_go4 (D i b h p f : Int) (gs ws : List Int) (ga wa : Option Addr) (gc wc : Nat) (w : World) (d0 : 0 ≤ D) (d3 : D ≤ 3) (dz : D = 0) (h1 : IntsAt w ga gs) (h2 : IntsAt w wa ws) :
    Calls Try.prog 10 #[.agg #[.int .i64 4, .int .i64 D, .int .i64 i, .int .i64 b, .int .i64 h, .slice ga gs.length gc, .int .i64 p, .slice wa ws.length wc, .int .i64 f]] w fun e w' => e = .returned (.bool (refMayB ⟨4, D, i, b, h, gs, p, ws, f⟩)) ∧ Below w.heap.size w w' := by
  have HB := Lib.hid (show refMayB ⟨4, D, i, b, h, gs, p, ws, f⟩ = (cfitB i true && cfitB b false && cfitB h false && cfitB p false && cfitB f false && rowB gs false && rowB ws false) by
    simp [refMayB, headB, isKindB, isDirB, has, dz]; try omega)
  have H1 := Lib.hid h1
  have H2 := Lib.hid h2
  clear h1 h2
  subst dz
  go_enter Try.func10, Try.ntmps10
  go_wp2_with (first | (go_at_call 24; (with_reducible refine (cfit_any _ _ _).mono ?_); rintro e w' ⟨rfl, rfl⟩) | (go_at_call 25; (with_reducible refine (row_any _ _ _ _ _ (H1.out.alloc _)).mono ?_); rintro e w' ⟨rfl, rfl⟩) | (go_at_call 25; (with_reducible refine (row_any _ _ _ _ _ (H2.out.alloc _)).mono ?_); rintro e w' ⟨rfl, rfl⟩))
  all_goals
    go_ret
    exact ⟨ret_bool (by rw [HB.out]; simp [*]), (Below.refl _ _).alloc (Nat.le_refl _) _⟩
set_option maxRecDepth 100000 in
theorem refmay_4 (D i b h p f : Int) (gs ws : List Int) (ga wa : Option Addr) (gc wc : Nat) (w : World) (h1 : IntsAt w ga gs) (h2 : IntsAt w wa ws) :
    Calls Try.prog 10 #[.agg #[.int .i64 4, .int .i64 D, .int .i64 i, .int .i64 b, .int .i64 h, .slice ga gs.length gc, .int .i64 p, .slice wa ws.length wc, .int .i64 f]] w fun e w' => e = .returned (.bool (refMayB ⟨4, D, i, b, h, gs, p, ws, f⟩)) ∧ Below w.heap.size w w' := by
  by_cases d0 : 0 ≤ D
  case neg =>
    have HF := Lib.hid (show refMayB ⟨4, D, i, b, h, gs, p, ws, f⟩ = false by simp [refMayB, headB, isDirB, d0])
    clear h1 h2
    go_enter Try.func10, Try.ntmps10
    go_wp2_with fail
    go_ret
    exact ⟨ret_bool HF.out.symm, (Below.refl _ _).alloc (Nat.le_refl _) _⟩
  by_cases d3 : D ≤ 3
  case neg =>
    have HF := Lib.hid (show refMayB ⟨4, D, i, b, h, gs, p, ws, f⟩ = false by simp [refMayB, headB, isDirB, show ¬ D < 4 by omega])
    clear h1 h2
    go_enter Try.func10, Try.ntmps10
    go_wp2_with fail
    go_ret
    exact ⟨ret_bool HF.out.symm, (Below.refl _ _).alloc (Nat.le_refl _) _⟩
  by_cases dz : D = 0
  case neg =>
    have HF := Lib.hid (show refMayB ⟨4, D, i, b, h, gs, p, ws, f⟩ = false by simp [refMayB, headB, dz])
    have hd : (D != 0) = true := by simpa using dz
    clear h1 h2 dz
    go_enter Try.func10, Try.ntmps10
    go_wp2_with fail
    go_ret
    exact ⟨ret_bool HF.out.symm, (Below.refl _ _).alloc (Nat.le_refl _) _⟩
  exact refmay_go4 D i b h p f gs ws ga wa gc wc w d0 d3 dz h1 h2
set_option maxHeartbeats 1000000 in
set_option maxRecDepth 100000 in
theorem refmay_go5 (D i b h p f : Int) (gs ws : List Int) (ga wa : Option Addr) (gc wc : Nat) (w : World) (d0 : 0 ≤ D) (d3 : D ≤ 3) (dz : D = 0) (h1 : IntsAt w ga gs) (h2 : IntsAt w wa ws) :
    Calls Try.prog 10 #[.agg #[.int .i64 5, .int .i64 D, .int .i64 i, .int .i64 b, .int .i64 h, .slice ga gs.length gc, .int .i64 p, .slice wa ws.length wc, .int .i64 f]] w fun e w' => e = .returned (.bool (refMayB ⟨5, D, i, b, h, gs, p, ws, f⟩)) ∧ Below w.heap.size w w' := by
  have HB := Lib.hid (show refMayB ⟨5, D, i, b, h, gs, p, ws, f⟩ = (cfitB i true && cfitB b true && cfitB h false && cfitB p false && cfitB f false && rowB gs false && rowB ws false) by
    simp [refMayB, headB, isKindB, isDirB, has, dz]; try omega)
  have H1 := Lib.hid h1
  have H2 := Lib.hid h2
  clear h1 h2
  subst dz
  go_enter Try.func10, Try.ntmps10
  go_wp2_with (first | (go_at_call 24; (with_reducible refine (cfit_any _ _ _).mono ?_); rintro e w' ⟨rfl, rfl⟩) | (go_at_call 25; (with_reducible refine (row_any _ _ _ _ _ (H1.out.alloc _)).mono ?_); rintro e w' ⟨rfl, rfl⟩) | (go_at_call 25; (with_reducible refine (row_any _ _ _ _ _ (H2.out.alloc _)).mono ?_); rintro e w' ⟨rfl, rfl⟩))
  all_goals
    go_ret
    exact ⟨ret_bool (by rw [HB.out]; simp [*]), (Below.refl _ _).alloc (Nat.le_refl _) _⟩
set_option maxRecDepth 100000 in
theorem refmay_5 (D i b h p f : Int) (gs ws : List Int) (ga wa : Option Addr) (gc wc : Nat) (w : World) (h1 : IntsAt w ga gs) (h2 : IntsAt w wa ws) :
    Calls Try.prog 10 #[.agg #[.int .i64 5, .int .i64 D, .int .i64 i, .int .i64 b, .int .i64 h, .slice ga gs.length gc, .int .i64 p, .slice wa ws.length wc, .int .i64 f]] w fun e w' => e = .returned (.bool (refMayB ⟨5, D, i, b, h, gs, p, ws, f⟩)) ∧ Below w.heap.size w w' := by
  by_cases d0 : 0 ≤ D
  case neg =>
    have HF := Lib.hid (show refMayB ⟨5, D, i, b, h, gs, p, ws, f⟩ = false by simp [refMayB, headB, isDirB, d0])
    clear h1 h2
    go_enter Try.func10, Try.ntmps10
    go_wp2_with fail
    go_ret
    exact ⟨ret_bool HF.out.symm, (Below.refl _ _).alloc (Nat.le_refl _) _⟩
  by_cases d3 : D ≤ 3
  case neg =>
    have HF := Lib.hid (show refMayB ⟨5, D, i, b, h, gs, p, ws, f⟩ = false by simp [refMayB, headB, isDirB, show ¬ D < 4 by omega])
    clear h1 h2
    go_enter Try.func10, Try.ntmps10
    go_wp2_with fail
    go_ret
    exact ⟨ret_bool HF.out.symm, (Below.refl _ _).alloc (Nat.le_refl _) _⟩
  by_cases dz : D = 0
  case neg =>
    have HF := Lib.hid (show refMayB ⟨5, D, i, b, h, gs, p, ws, f⟩ = false by simp [refMayB, headB, dz])
    have hd : (D != 0) = true := by simpa using dz
    clear h1 h2 dz
    go_enter Try.func10, Try.ntmps10
    go_wp2_with fail
    go_ret
    exact ⟨ret_bool HF.out.symm, (Below.refl _ _).alloc (Nat.le_refl _) _⟩
  exact refmay_go5 D i b h p f gs ws ga wa gc wc w d0 d3 dz h1 h2
end Go.Proofs.Ytcigbliilmonfaa
