/- The document's own Same, Few, of commands. -/
import Derived.Test.YtgmkcddgkgcbbaaGreatGCmdC
namespace Go.Proofs.YtgmkcddgkgcbbaaGreat
open Go.ChangeShapes Go.WideShapes Go.ChangeAt Go.RowKit
open Lib (hid)
set_option linter.unusedVariables false
set_option maxRecDepth 100000
section
theorem bcell {W w1 : World} (hb : Below W.heap.size W w1) : ∀ b o, b < W.heap.size → w1.cell? ⟨b, o, none⟩ = W.cell? ⟨b, o, none⟩ := fun b o h => hb.cell (p := ⟨b, o, none⟩) h
def cfewB (c : Cm) : Bool := decide (c.gives.length ≤ 40) && decide (c.wants.length ≤ 40)
theorem cfew_any (c : Cm) (ga wa : Option Addr) (gc wc : Nat) (w : World) (h1 : IntsAt w ga c.gives) (h2 : IntsAt w wa c.wants) :
 Calls Tryz.prog 7 #[.agg #[.int .i64 c.kind, .int .i64 c.dir, .int .i64 c.item, .int .i64 c.box, .int .i64 c.who, .slice ga c.gives.length gc, .int .i64 c.pay, .slice wa c.wants.length wc, .int .i64 c.fee]] w fun e w' => e = .returned (.bool (cfewB c)) ∧ Below w.heap.size w w' := by
 have l1 := h1.len
 have l2 := h2.len
 clear h1 h2
 by_cases k1 : c.gives.length ≤ 40
 ·by_cases k2 : c.wants.length ≤ 40
  ·have HF := hid (show cfewB c = true by simp [cfewB, k1, k2])
   go_enter Tryz.func7, Tryz.ntmps7
   go_wp2_with fail
   go_ret
   exact ⟨by rw [HF.out]; simp; omega, (Below.refl _ _).alloc (Nat.le_refl _) _⟩
  ·have HF := hid (show cfewB c = false by simp [cfewB, k2])
   go_enter Tryz.func7, Tryz.ntmps7
   go_wp2_with fail
   go_ret
   exact ⟨by rw [HF.out]; simp; omega, (Below.refl _ _).alloc (Nat.le_refl _) _⟩
 ·have HF := hid (show cfewB c = false by simp [cfewB, k1])
  go_enter Tryz.func7, Tryz.ntmps7
  go_wp2_with fail
  go_ret
  exact ⟨ret_bool HF.out.symm, (Below.refl _ _).alloc (Nat.le_refl _) _⟩
end
section
set_option maxHeartbeats 1000000 in
theorem refmay_go1 (D i b h p f : Int) (gs ws : List Int) (ga wa : Option Addr) (gc wc : Nat) (w : World) (d0 : 0 ≤ D) (d3 : D ≤ 3) (h1 : IntsAt w ga gs) (h2 : IntsAt w wa ws) :
 Calls Tryz.prog 20 #[.agg #[.int .i64 1, .int .i64 D, .int .i64 i, .int .i64 b, .int .i64 h, .slice ga gs.length gc, .int .i64 p, .slice wa ws.length wc, .int .i64 f]] w fun e w' => e = .returned (.bool (refMayB ⟨1, D, i, b, h, gs, p, ws, f⟩)) ∧ Below w.heap.size w w' := by
 have HB := hid (show refMayB ⟨1, D, i, b, h, gs, p, ws, f⟩ = (cfitB i false && cfitB b false && cfitB h false && cfitB p false && cfitB f false && rowB gs false && rowB ws false) by
  simp [refMayB, headB, isKindB, isDirB, has, d0, show D < 4 by omega]; try omega)
 have H1 := hid h1
 have H2 := hid h2
 clear h1 h2
 by_cases dz : D = 0
 ·subst dz
  go_enter Tryz.func20, Tryz.ntmps20
  go_wp2_with (first | (go_at_call 63; (with_reducible refine (cfit_any _ _ _).mono ?_); rintro e w' ⟨rfl, rfl⟩) | (go_at_call 64; (with_reducible refine (row_any _ _ _ _ _ (H1.out.alloc _)).mono ?_); rintro e w' ⟨rfl, rfl⟩) | (go_at_call 64; (with_reducible refine (row_any _ _ _ _ _ (H2.out.alloc _)).mono ?_); rintro e w' ⟨rfl, rfl⟩))
  all_goals
   go_ret
   exact ⟨ret_bool (by rw [HB.out]; simp [*]), (Below.refl _ _).alloc (Nat.le_refl _) _⟩
 ·have hd : (D != 0) = true := by simpa using dz
  clear dz
  go_enter Tryz.func20, Tryz.ntmps20
  go_wp2_with (first | (go_at_call 63; (with_reducible refine (cfit_any _ _ _).mono ?_); rintro e w' ⟨rfl, rfl⟩) | (go_at_call 64; (with_reducible refine (row_any _ _ _ _ _ (H1.out.alloc _)).mono ?_); rintro e w' ⟨rfl, rfl⟩) | (go_at_call 64; (with_reducible refine (row_any _ _ _ _ _ (H2.out.alloc _)).mono ?_); rintro e w' ⟨rfl, rfl⟩))
  all_goals
   go_ret
   exact ⟨ret_bool (by rw [HB.out]; simp [*]), (Below.refl _ _).alloc (Nat.le_refl _) _⟩
theorem refmay_1 (D i b h p f : Int) (gs ws : List Int) (ga wa : Option Addr) (gc wc : Nat) (w : World) (h1 : IntsAt w ga gs) (h2 : IntsAt w wa ws) :
 Calls Tryz.prog 20 #[.agg #[.int .i64 1, .int .i64 D, .int .i64 i, .int .i64 b, .int .i64 h, .slice ga gs.length gc, .int .i64 p, .slice wa ws.length wc, .int .i64 f]] w fun e w' => e = .returned (.bool (refMayB ⟨1, D, i, b, h, gs, p, ws, f⟩)) ∧ Below w.heap.size w w' := by
 by_cases d0 : 0 ≤ D
 case neg =>
  have HF := hid (show refMayB ⟨1, D, i, b, h, gs, p, ws, f⟩ = false by simp [refMayB, headB, isDirB, d0])
  clear h1 h2
  go_enter Tryz.func20, Tryz.ntmps20
  go_wp2_with fail
  go_ret
  exact ⟨ret_bool HF.out.symm, (Below.refl _ _).alloc (Nat.le_refl _) _⟩
 by_cases d3 : D ≤ 3
 case neg =>
  have HF := hid (show refMayB ⟨1, D, i, b, h, gs, p, ws, f⟩ = false by simp [refMayB, headB, isDirB, show ¬ D < 4 by omega])
  clear h1 h2
  go_enter Tryz.func20, Tryz.ntmps20
  go_wp2_with fail
  go_ret
  exact ⟨ret_bool HF.out.symm, (Below.refl _ _).alloc (Nat.le_refl _) _⟩
 exact refmay_go1 D i b h p f gs ws ga wa gc wc w d0 d3 h1 h2
set_option maxHeartbeats 1000000 in
theorem refmay_go2 (D i b h p f : Int) (gs ws : List Int) (ga wa : Option Addr) (gc wc : Nat) (w : World) (d0 : 0 ≤ D) (d3 : D ≤ 3) (h1 : IntsAt w ga gs) (h2 : IntsAt w wa ws) :
 Calls Tryz.prog 20 #[.agg #[.int .i64 2, .int .i64 D, .int .i64 i, .int .i64 b, .int .i64 h, .slice ga gs.length gc, .int .i64 p, .slice wa ws.length wc, .int .i64 f]] w fun e w' => e = .returned (.bool (refMayB ⟨2, D, i, b, h, gs, p, ws, f⟩)) ∧ Below w.heap.size w w' := by
 have HB := hid (show refMayB ⟨2, D, i, b, h, gs, p, ws, f⟩ = (cfitB i false && cfitB b false && cfitB h true && cfitB p false && cfitB f false && rowB gs false && rowB ws false) by
  simp [refMayB, headB, isKindB, isDirB, has, d0, show D < 4 by omega]; try omega)
 have H1 := hid h1
 have H2 := hid h2
 clear h1 h2
 by_cases dz : D = 0
 ·subst dz
  go_enter Tryz.func20, Tryz.ntmps20
  go_wp2_with (first | (go_at_call 63; (with_reducible refine (cfit_any _ _ _).mono ?_); rintro e w' ⟨rfl, rfl⟩) | (go_at_call 64; (with_reducible refine (row_any _ _ _ _ _ (H1.out.alloc _)).mono ?_); rintro e w' ⟨rfl, rfl⟩) | (go_at_call 64; (with_reducible refine (row_any _ _ _ _ _ (H2.out.alloc _)).mono ?_); rintro e w' ⟨rfl, rfl⟩))
  all_goals
   go_ret
   exact ⟨ret_bool (by rw [HB.out]; simp [*]), (Below.refl _ _).alloc (Nat.le_refl _) _⟩
 ·have hd : (D != 0) = true := by simpa using dz
  clear dz
  go_enter Tryz.func20, Tryz.ntmps20
  go_wp2_with (first | (go_at_call 63; (with_reducible refine (cfit_any _ _ _).mono ?_); rintro e w' ⟨rfl, rfl⟩) | (go_at_call 64; (with_reducible refine (row_any _ _ _ _ _ (H1.out.alloc _)).mono ?_); rintro e w' ⟨rfl, rfl⟩) | (go_at_call 64; (with_reducible refine (row_any _ _ _ _ _ (H2.out.alloc _)).mono ?_); rintro e w' ⟨rfl, rfl⟩))
  all_goals
   go_ret
   exact ⟨ret_bool (by rw [HB.out]; simp [*]), (Below.refl _ _).alloc (Nat.le_refl _) _⟩
theorem refmay_2 (D i b h p f : Int) (gs ws : List Int) (ga wa : Option Addr) (gc wc : Nat) (w : World) (h1 : IntsAt w ga gs) (h2 : IntsAt w wa ws) :
 Calls Tryz.prog 20 #[.agg #[.int .i64 2, .int .i64 D, .int .i64 i, .int .i64 b, .int .i64 h, .slice ga gs.length gc, .int .i64 p, .slice wa ws.length wc, .int .i64 f]] w fun e w' => e = .returned (.bool (refMayB ⟨2, D, i, b, h, gs, p, ws, f⟩)) ∧ Below w.heap.size w w' := by
 by_cases d0 : 0 ≤ D
 case neg =>
  have HF := hid (show refMayB ⟨2, D, i, b, h, gs, p, ws, f⟩ = false by simp [refMayB, headB, isDirB, d0])
  clear h1 h2
  go_enter Tryz.func20, Tryz.ntmps20
  go_wp2_with fail
  go_ret
  exact ⟨ret_bool HF.out.symm, (Below.refl _ _).alloc (Nat.le_refl _) _⟩
 by_cases d3 : D ≤ 3
 case neg =>
  have HF := hid (show refMayB ⟨2, D, i, b, h, gs, p, ws, f⟩ = false by simp [refMayB, headB, isDirB, show ¬ D < 4 by omega])
  clear h1 h2
  go_enter Tryz.func20, Tryz.ntmps20
  go_wp2_with fail
  go_ret
  exact ⟨ret_bool HF.out.symm, (Below.refl _ _).alloc (Nat.le_refl _) _⟩
 exact refmay_go2 D i b h p f gs ws ga wa gc wc w d0 d3 h1 h2
set_option maxHeartbeats 1000000 in
theorem refmay_go3 (D i b h p f : Int) (gs ws : List Int) (ga wa : Option Addr) (gc wc : Nat) (w : World) (d0 : 0 ≤ D) (d3 : D ≤ 3) (dz : D = 0) (h1 : IntsAt w ga gs) (h2 : IntsAt w wa ws) :
 Calls Tryz.prog 20 #[.agg #[.int .i64 3, .int .i64 D, .int .i64 i, .int .i64 b, .int .i64 h, .slice ga gs.length gc, .int .i64 p, .slice wa ws.length wc, .int .i64 f]] w fun e w' => e = .returned (.bool (refMayB ⟨3, D, i, b, h, gs, p, ws, f⟩)) ∧ Below w.heap.size w w' := by
 have HB := hid (show refMayB ⟨3, D, i, b, h, gs, p, ws, f⟩ = (cfitB i true && cfitB b false && cfitB h false && cfitB p false && cfitB f false && rowB gs false && rowB ws false) by
  simp [refMayB, headB, isKindB, isDirB, has, dz]; try omega)
 have H1 := hid h1
 have H2 := hid h2
 clear h1 h2
 subst dz
 go_enter Tryz.func20, Tryz.ntmps20
 go_wp2_with (first | (go_at_call 63; (with_reducible refine (cfit_any _ _ _).mono ?_); rintro e w' ⟨rfl, rfl⟩) | (go_at_call 64; (with_reducible refine (row_any _ _ _ _ _ (H1.out.alloc _)).mono ?_); rintro e w' ⟨rfl, rfl⟩) | (go_at_call 64; (with_reducible refine (row_any _ _ _ _ _ (H2.out.alloc _)).mono ?_); rintro e w' ⟨rfl, rfl⟩))
 all_goals
  go_ret
  exact ⟨ret_bool (by rw [HB.out]; simp [*]), (Below.refl _ _).alloc (Nat.le_refl _) _⟩
theorem refmay_3 (D i b h p f : Int) (gs ws : List Int) (ga wa : Option Addr) (gc wc : Nat) (w : World) (h1 : IntsAt w ga gs) (h2 : IntsAt w wa ws) :
 Calls Tryz.prog 20 #[.agg #[.int .i64 3, .int .i64 D, .int .i64 i, .int .i64 b, .int .i64 h, .slice ga gs.length gc, .int .i64 p, .slice wa ws.length wc, .int .i64 f]] w fun e w' => e = .returned (.bool (refMayB ⟨3, D, i, b, h, gs, p, ws, f⟩)) ∧ Below w.heap.size w w' := by
 by_cases d0 : 0 ≤ D
 case neg =>
  have HF := hid (show refMayB ⟨3, D, i, b, h, gs, p, ws, f⟩ = false by simp [refMayB, headB, isDirB, d0])
  clear h1 h2
  go_enter Tryz.func20, Tryz.ntmps20
  go_wp2_with fail
  go_ret
  exact ⟨ret_bool HF.out.symm, (Below.refl _ _).alloc (Nat.le_refl _) _⟩
 by_cases d3 : D ≤ 3
 case neg =>
  have HF := hid (show refMayB ⟨3, D, i, b, h, gs, p, ws, f⟩ = false by simp [refMayB, headB, isDirB, show ¬ D < 4 by omega])
  clear h1 h2
  go_enter Tryz.func20, Tryz.ntmps20
  go_wp2_with fail
  go_ret
  exact ⟨ret_bool HF.out.symm, (Below.refl _ _).alloc (Nat.le_refl _) _⟩
 by_cases dz : D = 0
 case neg =>
  have HF := hid (show refMayB ⟨3, D, i, b, h, gs, p, ws, f⟩ = false by simp [refMayB, headB, dz])
  have hd : (D != 0) = true := by simpa using dz
  clear h1 h2 dz
  go_enter Tryz.func20, Tryz.ntmps20
  go_wp2_with fail
  go_ret
  exact ⟨ret_bool HF.out.symm, (Below.refl _ _).alloc (Nat.le_refl _) _⟩
 exact refmay_go3 D i b h p f gs ws ga wa gc wc w d0 d3 dz h1 h2
set_option maxHeartbeats 1000000 in
theorem refmay_go4 (D i b h p f : Int) (gs ws : List Int) (ga wa : Option Addr) (gc wc : Nat) (w : World) (d0 : 0 ≤ D) (d3 : D ≤ 3) (dz : D = 0) (h1 : IntsAt w ga gs) (h2 : IntsAt w wa ws) :
 Calls Tryz.prog 20 #[.agg #[.int .i64 4, .int .i64 D, .int .i64 i, .int .i64 b, .int .i64 h, .slice ga gs.length gc, .int .i64 p, .slice wa ws.length wc, .int .i64 f]] w fun e w' => e = .returned (.bool (refMayB ⟨4, D, i, b, h, gs, p, ws, f⟩)) ∧ Below w.heap.size w w' := by
 have HB := hid (show refMayB ⟨4, D, i, b, h, gs, p, ws, f⟩ = (cfitB i true && cfitB b false && cfitB h false && cfitB p false && cfitB f false && rowB gs false && rowB ws false) by
  simp [refMayB, headB, isKindB, isDirB, has, dz]; try omega)
 have H1 := hid h1
 have H2 := hid h2
 clear h1 h2
 subst dz
 go_enter Tryz.func20, Tryz.ntmps20
 go_wp2_with (first | (go_at_call 63; (with_reducible refine (cfit_any _ _ _).mono ?_); rintro e w' ⟨rfl, rfl⟩) | (go_at_call 64; (with_reducible refine (row_any _ _ _ _ _ (H1.out.alloc _)).mono ?_); rintro e w' ⟨rfl, rfl⟩) | (go_at_call 64; (with_reducible refine (row_any _ _ _ _ _ (H2.out.alloc _)).mono ?_); rintro e w' ⟨rfl, rfl⟩))
 all_goals
  go_ret
  exact ⟨ret_bool (by rw [HB.out]; simp [*]), (Below.refl _ _).alloc (Nat.le_refl _) _⟩
theorem refmay_4 (D i b h p f : Int) (gs ws : List Int) (ga wa : Option Addr) (gc wc : Nat) (w : World) (h1 : IntsAt w ga gs) (h2 : IntsAt w wa ws) :
 Calls Tryz.prog 20 #[.agg #[.int .i64 4, .int .i64 D, .int .i64 i, .int .i64 b, .int .i64 h, .slice ga gs.length gc, .int .i64 p, .slice wa ws.length wc, .int .i64 f]] w fun e w' => e = .returned (.bool (refMayB ⟨4, D, i, b, h, gs, p, ws, f⟩)) ∧ Below w.heap.size w w' := by
 by_cases d0 : 0 ≤ D
 case neg =>
  have HF := hid (show refMayB ⟨4, D, i, b, h, gs, p, ws, f⟩ = false by simp [refMayB, headB, isDirB, d0])
  clear h1 h2
  go_enter Tryz.func20, Tryz.ntmps20
  go_wp2_with fail
  go_ret
  exact ⟨ret_bool HF.out.symm, (Below.refl _ _).alloc (Nat.le_refl _) _⟩
 by_cases d3 : D ≤ 3
 case neg =>
  have HF := hid (show refMayB ⟨4, D, i, b, h, gs, p, ws, f⟩ = false by simp [refMayB, headB, isDirB, show ¬ D < 4 by omega])
  clear h1 h2
  go_enter Tryz.func20, Tryz.ntmps20
  go_wp2_with fail
  go_ret
  exact ⟨ret_bool HF.out.symm, (Below.refl _ _).alloc (Nat.le_refl _) _⟩
 by_cases dz : D = 0
 case neg =>
  have HF := hid (show refMayB ⟨4, D, i, b, h, gs, p, ws, f⟩ = false by simp [refMayB, headB, dz])
  have hd : (D != 0) = true := by simpa using dz
  clear h1 h2 dz
  go_enter Tryz.func20, Tryz.ntmps20
  go_wp2_with fail
  go_ret
  exact ⟨ret_bool HF.out.symm, (Below.refl _ _).alloc (Nat.le_refl _) _⟩
 exact refmay_go4 D i b h p f gs ws ga wa gc wc w d0 d3 dz h1 h2
set_option maxHeartbeats 1000000 in
theorem refmay_go5 (D i b h p f : Int) (gs ws : List Int) (ga wa : Option Addr) (gc wc : Nat) (w : World) (d0 : 0 ≤ D) (d3 : D ≤ 3) (dz : D = 0) (h1 : IntsAt w ga gs) (h2 : IntsAt w wa ws) :
 Calls Tryz.prog 20 #[.agg #[.int .i64 5, .int .i64 D, .int .i64 i, .int .i64 b, .int .i64 h, .slice ga gs.length gc, .int .i64 p, .slice wa ws.length wc, .int .i64 f]] w fun e w' => e = .returned (.bool (refMayB ⟨5, D, i, b, h, gs, p, ws, f⟩)) ∧ Below w.heap.size w w' := by
 have HB := hid (show refMayB ⟨5, D, i, b, h, gs, p, ws, f⟩ = (cfitB i true && cfitB b true && cfitB h false && cfitB p false && cfitB f false && rowB gs false && rowB ws false) by
  simp [refMayB, headB, isKindB, isDirB, has, dz]; try omega)
 have H1 := hid h1
 have H2 := hid h2
 clear h1 h2
 subst dz
 go_enter Tryz.func20, Tryz.ntmps20
 go_wp2_with (first | (go_at_call 63; (with_reducible refine (cfit_any _ _ _).mono ?_); rintro e w' ⟨rfl, rfl⟩) | (go_at_call 64; (with_reducible refine (row_any _ _ _ _ _ (H1.out.alloc _)).mono ?_); rintro e w' ⟨rfl, rfl⟩) | (go_at_call 64; (with_reducible refine (row_any _ _ _ _ _ (H2.out.alloc _)).mono ?_); rintro e w' ⟨rfl, rfl⟩))
 all_goals
  go_ret
  exact ⟨ret_bool (by rw [HB.out]; simp [*]), (Below.refl _ _).alloc (Nat.le_refl _) _⟩
theorem refmay_5 (D i b h p f : Int) (gs ws : List Int) (ga wa : Option Addr) (gc wc : Nat) (w : World) (h1 : IntsAt w ga gs) (h2 : IntsAt w wa ws) :
 Calls Tryz.prog 20 #[.agg #[.int .i64 5, .int .i64 D, .int .i64 i, .int .i64 b, .int .i64 h, .slice ga gs.length gc, .int .i64 p, .slice wa ws.length wc, .int .i64 f]] w fun e w' => e = .returned (.bool (refMayB ⟨5, D, i, b, h, gs, p, ws, f⟩)) ∧ Below w.heap.size w w' := by
 by_cases d0 : 0 ≤ D
 case neg =>
  have HF := hid (show refMayB ⟨5, D, i, b, h, gs, p, ws, f⟩ = false by simp [refMayB, headB, isDirB, d0])
  clear h1 h2
  go_enter Tryz.func20, Tryz.ntmps20
  go_wp2_with fail
  go_ret
  exact ⟨ret_bool HF.out.symm, (Below.refl _ _).alloc (Nat.le_refl _) _⟩
 by_cases d3 : D ≤ 3
 case neg =>
  have HF := hid (show refMayB ⟨5, D, i, b, h, gs, p, ws, f⟩ = false by simp [refMayB, headB, isDirB, show ¬ D < 4 by omega])
  clear h1 h2
  go_enter Tryz.func20, Tryz.ntmps20
  go_wp2_with fail
  go_ret
  exact ⟨ret_bool HF.out.symm, (Below.refl _ _).alloc (Nat.le_refl _) _⟩
 by_cases dz : D = 0
 case neg =>
  have HF := hid (show refMayB ⟨5, D, i, b, h, gs, p, ws, f⟩ = false by simp [refMayB, headB, dz])
  have hd : (D != 0) = true := by simpa using dz
  clear h1 h2 dz
  go_enter Tryz.func20, Tryz.ntmps20
  go_wp2_with fail
  go_ret
  exact ⟨ret_bool HF.out.symm, (Below.refl _ _).alloc (Nat.le_refl _) _⟩
 exact refmay_go5 D i b h p f gs ws ga wa gc wc w d0 d3 dz h1 h2
end
section
set_option maxHeartbeats 1000000 in
theorem refmay_go6 (D i b h p f : Int) (gs ws : List Int) (ga wa : Option Addr) (gc wc : Nat) (w : World) (d0 : 0 ≤ D) (d3 : D ≤ 3) (dz : D = 0) (h1 : IntsAt w ga gs) (h2 : IntsAt w wa ws) :
 Calls Tryz.prog 20 #[.agg #[.int .i64 6, .int .i64 D, .int .i64 i, .int .i64 b, .int .i64 h, .slice ga gs.length gc, .int .i64 p, .slice wa ws.length wc, .int .i64 f]] w fun e w' => e = .returned (.bool (refMayB ⟨6, D, i, b, h, gs, p, ws, f⟩)) ∧ Below w.heap.size w w' := by
 have HB := hid (show refMayB ⟨6, D, i, b, h, gs, p, ws, f⟩ = (cfitB i true && cfitB b true && cfitB h false && cfitB p false && cfitB f false && rowB gs false && rowB ws false) by
  simp [refMayB, headB, isKindB, isDirB, has, dz]; try omega)
 have H1 := hid h1
 have H2 := hid h2
 clear h1 h2
 subst dz
 go_enter Tryz.func20, Tryz.ntmps20
 go_wp2_with (first | (go_at_call 63; (with_reducible refine (cfit_any _ _ _).mono ?_); rintro e w' ⟨rfl, rfl⟩) | (go_at_call 64; (with_reducible refine (row_any _ _ _ _ _ (H1.out.alloc _)).mono ?_); rintro e w' ⟨rfl, rfl⟩) | (go_at_call 64; (with_reducible refine (row_any _ _ _ _ _ (H2.out.alloc _)).mono ?_); rintro e w' ⟨rfl, rfl⟩))
 all_goals
  go_ret
  exact ⟨ret_bool (by rw [HB.out]; simp [*]), (Below.refl _ _).alloc (Nat.le_refl _) _⟩
theorem refmay_6 (D i b h p f : Int) (gs ws : List Int) (ga wa : Option Addr) (gc wc : Nat) (w : World) (h1 : IntsAt w ga gs) (h2 : IntsAt w wa ws) :
 Calls Tryz.prog 20 #[.agg #[.int .i64 6, .int .i64 D, .int .i64 i, .int .i64 b, .int .i64 h, .slice ga gs.length gc, .int .i64 p, .slice wa ws.length wc, .int .i64 f]] w fun e w' => e = .returned (.bool (refMayB ⟨6, D, i, b, h, gs, p, ws, f⟩)) ∧ Below w.heap.size w w' := by
 by_cases d0 : 0 ≤ D
 case neg =>
  have HF := hid (show refMayB ⟨6, D, i, b, h, gs, p, ws, f⟩ = false by simp [refMayB, headB, isDirB, d0])
  clear h1 h2
  go_enter Tryz.func20, Tryz.ntmps20
  go_wp2_with fail
  go_ret
  exact ⟨ret_bool HF.out.symm, (Below.refl _ _).alloc (Nat.le_refl _) _⟩
 by_cases d3 : D ≤ 3
 case neg =>
  have HF := hid (show refMayB ⟨6, D, i, b, h, gs, p, ws, f⟩ = false by simp [refMayB, headB, isDirB, show ¬ D < 4 by omega])
  clear h1 h2
  go_enter Tryz.func20, Tryz.ntmps20
  go_wp2_with fail
  go_ret
  exact ⟨ret_bool HF.out.symm, (Below.refl _ _).alloc (Nat.le_refl _) _⟩
 by_cases dz : D = 0
 case neg =>
  have HF := hid (show refMayB ⟨6, D, i, b, h, gs, p, ws, f⟩ = false by simp [refMayB, headB, dz])
  have hd : (D != 0) = true := by simpa using dz
  clear h1 h2 dz
  go_enter Tryz.func20, Tryz.ntmps20
  go_wp2_with fail
  go_ret
  exact ⟨ret_bool HF.out.symm, (Below.refl _ _).alloc (Nat.le_refl _) _⟩
 exact refmay_go6 D i b h p f gs ws ga wa gc wc w d0 d3 dz h1 h2
set_option maxHeartbeats 1000000 in
theorem refmay_go7 (D i b h p f : Int) (gs ws : List Int) (ga wa : Option Addr) (gc wc : Nat) (w : World) (d0 : 0 ≤ D) (d3 : D ≤ 3) (dz : D = 0) (h1 : IntsAt w ga gs) (h2 : IntsAt w wa ws) :
 Calls Tryz.prog 20 #[.agg #[.int .i64 7, .int .i64 D, .int .i64 i, .int .i64 b, .int .i64 h, .slice ga gs.length gc, .int .i64 p, .slice wa ws.length wc, .int .i64 f]] w fun e w' => e = .returned (.bool (refMayB ⟨7, D, i, b, h, gs, p, ws, f⟩)) ∧ Below w.heap.size w w' := by
 have HB := hid (show refMayB ⟨7, D, i, b, h, gs, p, ws, f⟩ = (cfitB i true && cfitB b false && cfitB h true && cfitB p false && cfitB f false && rowB gs false && rowB ws false) by
  simp [refMayB, headB, isKindB, isDirB, has, dz]; try omega)
 have H1 := hid h1
 have H2 := hid h2
 clear h1 h2
 subst dz
 go_enter Tryz.func20, Tryz.ntmps20
 go_wp2_with (first | (go_at_call 63; (with_reducible refine (cfit_any _ _ _).mono ?_); rintro e w' ⟨rfl, rfl⟩) | (go_at_call 64; (with_reducible refine (row_any _ _ _ _ _ (H1.out.alloc _)).mono ?_); rintro e w' ⟨rfl, rfl⟩) | (go_at_call 64; (with_reducible refine (row_any _ _ _ _ _ (H2.out.alloc _)).mono ?_); rintro e w' ⟨rfl, rfl⟩))
 all_goals
  go_ret
  exact ⟨ret_bool (by rw [HB.out]; simp [*]), (Below.refl _ _).alloc (Nat.le_refl _) _⟩
theorem refmay_7 (D i b h p f : Int) (gs ws : List Int) (ga wa : Option Addr) (gc wc : Nat) (w : World) (h1 : IntsAt w ga gs) (h2 : IntsAt w wa ws) :
 Calls Tryz.prog 20 #[.agg #[.int .i64 7, .int .i64 D, .int .i64 i, .int .i64 b, .int .i64 h, .slice ga gs.length gc, .int .i64 p, .slice wa ws.length wc, .int .i64 f]] w fun e w' => e = .returned (.bool (refMayB ⟨7, D, i, b, h, gs, p, ws, f⟩)) ∧ Below w.heap.size w w' := by
 by_cases d0 : 0 ≤ D
 case neg =>
  have HF := hid (show refMayB ⟨7, D, i, b, h, gs, p, ws, f⟩ = false by simp [refMayB, headB, isDirB, d0])
  clear h1 h2
  go_enter Tryz.func20, Tryz.ntmps20
  go_wp2_with fail
  go_ret
  exact ⟨ret_bool HF.out.symm, (Below.refl _ _).alloc (Nat.le_refl _) _⟩
 by_cases d3 : D ≤ 3
 case neg =>
  have HF := hid (show refMayB ⟨7, D, i, b, h, gs, p, ws, f⟩ = false by simp [refMayB, headB, isDirB, show ¬ D < 4 by omega])
  clear h1 h2
  go_enter Tryz.func20, Tryz.ntmps20
  go_wp2_with fail
  go_ret
  exact ⟨ret_bool HF.out.symm, (Below.refl _ _).alloc (Nat.le_refl _) _⟩
 by_cases dz : D = 0
 case neg =>
  have HF := hid (show refMayB ⟨7, D, i, b, h, gs, p, ws, f⟩ = false by simp [refMayB, headB, dz])
  have hd : (D != 0) = true := by simpa using dz
  clear h1 h2 dz
  go_enter Tryz.func20, Tryz.ntmps20
  go_wp2_with fail
  go_ret
  exact ⟨ret_bool HF.out.symm, (Below.refl _ _).alloc (Nat.le_refl _) _⟩
 exact refmay_go7 D i b h p f gs ws ga wa gc wc w d0 d3 dz h1 h2
set_option maxHeartbeats 1000000 in
theorem refmay_go8 (D i b h p f : Int) (gs ws : List Int) (ga wa : Option Addr) (gc wc : Nat) (w : World) (d0 : 0 ≤ D) (d3 : D ≤ 3) (dz : D = 0) (h1 : IntsAt w ga gs) (h2 : IntsAt w wa ws) :
 Calls Tryz.prog 20 #[.agg #[.int .i64 8, .int .i64 D, .int .i64 i, .int .i64 b, .int .i64 h, .slice ga gs.length gc, .int .i64 p, .slice wa ws.length wc, .int .i64 f]] w fun e w' => e = .returned (.bool (refMayB ⟨8, D, i, b, h, gs, p, ws, f⟩)) ∧ Below w.heap.size w w' := by
 have HB := hid (show refMayB ⟨8, D, i, b, h, gs, p, ws, f⟩ = (cfitB i false && cfitB b false && cfitB h true && cfitB p true && cfitB f true && rowB gs true && rowB ws true) by
  simp [refMayB, headB, isKindB, isDirB, has, dz]; try omega)
 have H1 := hid h1
 have H2 := hid h2
 clear h1 h2
 subst dz
 go_enter Tryz.func20, Tryz.ntmps20
 go_wp2_with (first | (go_at_call 63; (with_reducible refine (cfit_any _ _ _).mono ?_); rintro e w' ⟨rfl, rfl⟩) | (go_at_call 64; (with_reducible refine (row_any _ _ _ _ _ (H1.out.alloc _)).mono ?_); rintro e w' ⟨rfl, rfl⟩) | (go_at_call 64; (with_reducible refine (row_any _ _ _ _ _ (H2.out.alloc _)).mono ?_); rintro e w' ⟨rfl, rfl⟩))
 all_goals
  go_ret
  exact ⟨ret_bool (by rw [HB.out]; simp [*]), (Below.refl _ _).alloc (Nat.le_refl _) _⟩
theorem refmay_8 (D i b h p f : Int) (gs ws : List Int) (ga wa : Option Addr) (gc wc : Nat) (w : World) (h1 : IntsAt w ga gs) (h2 : IntsAt w wa ws) :
 Calls Tryz.prog 20 #[.agg #[.int .i64 8, .int .i64 D, .int .i64 i, .int .i64 b, .int .i64 h, .slice ga gs.length gc, .int .i64 p, .slice wa ws.length wc, .int .i64 f]] w fun e w' => e = .returned (.bool (refMayB ⟨8, D, i, b, h, gs, p, ws, f⟩)) ∧ Below w.heap.size w w' := by
 by_cases d0 : 0 ≤ D
 case neg =>
  have HF := hid (show refMayB ⟨8, D, i, b, h, gs, p, ws, f⟩ = false by simp [refMayB, headB, isDirB, d0])
  clear h1 h2
  go_enter Tryz.func20, Tryz.ntmps20
  go_wp2_with fail
  go_ret
  exact ⟨ret_bool HF.out.symm, (Below.refl _ _).alloc (Nat.le_refl _) _⟩
 by_cases d3 : D ≤ 3
 case neg =>
  have HF := hid (show refMayB ⟨8, D, i, b, h, gs, p, ws, f⟩ = false by simp [refMayB, headB, isDirB, show ¬ D < 4 by omega])
  clear h1 h2
  go_enter Tryz.func20, Tryz.ntmps20
  go_wp2_with fail
  go_ret
  exact ⟨ret_bool HF.out.symm, (Below.refl _ _).alloc (Nat.le_refl _) _⟩
 by_cases dz : D = 0
 case neg =>
  have HF := hid (show refMayB ⟨8, D, i, b, h, gs, p, ws, f⟩ = false by simp [refMayB, headB, dz])
  have hd : (D != 0) = true := by simpa using dz
  clear h1 h2 dz
  go_enter Tryz.func20, Tryz.ntmps20
  go_wp2_with fail
  go_ret
  exact ⟨ret_bool HF.out.symm, (Below.refl _ _).alloc (Nat.le_refl _) _⟩
 exact refmay_go8 D i b h p f gs ws ga wa gc wc w d0 d3 dz h1 h2
set_option maxHeartbeats 1000000 in
theorem refmay_go9 (D i b h p f : Int) (gs ws : List Int) (ga wa : Option Addr) (gc wc : Nat) (w : World) (d0 : 0 ≤ D) (d3 : D ≤ 3) (dz : D = 0) (h1 : IntsAt w ga gs) (h2 : IntsAt w wa ws) :
 Calls Tryz.prog 20 #[.agg #[.int .i64 9, .int .i64 D, .int .i64 i, .int .i64 b, .int .i64 h, .slice ga gs.length gc, .int .i64 p, .slice wa ws.length wc, .int .i64 f]] w fun e w' => e = .returned (.bool (refMayB ⟨9, D, i, b, h, gs, p, ws, f⟩)) ∧ Below w.heap.size w w' := by
 have HB := hid (show refMayB ⟨9, D, i, b, h, gs, p, ws, f⟩ = (cfitB i false && cfitB b false && cfitB h false && cfitB p false && cfitB f false && rowB gs false && rowB ws false) by
  simp [refMayB, headB, isKindB, isDirB, has, dz]; try omega)
 have H1 := hid h1
 have H2 := hid h2
 clear h1 h2
 subst dz
 go_enter Tryz.func20, Tryz.ntmps20
 go_wp2_with (first | (go_at_call 63; (with_reducible refine (cfit_any _ _ _).mono ?_); rintro e w' ⟨rfl, rfl⟩) | (go_at_call 64; (with_reducible refine (row_any _ _ _ _ _ (H1.out.alloc _)).mono ?_); rintro e w' ⟨rfl, rfl⟩) | (go_at_call 64; (with_reducible refine (row_any _ _ _ _ _ (H2.out.alloc _)).mono ?_); rintro e w' ⟨rfl, rfl⟩))
 all_goals
  go_ret
  exact ⟨ret_bool (by rw [HB.out]; simp [*]), (Below.refl _ _).alloc (Nat.le_refl _) _⟩
theorem refmay_9 (D i b h p f : Int) (gs ws : List Int) (ga wa : Option Addr) (gc wc : Nat) (w : World) (h1 : IntsAt w ga gs) (h2 : IntsAt w wa ws) :
 Calls Tryz.prog 20 #[.agg #[.int .i64 9, .int .i64 D, .int .i64 i, .int .i64 b, .int .i64 h, .slice ga gs.length gc, .int .i64 p, .slice wa ws.length wc, .int .i64 f]] w fun e w' => e = .returned (.bool (refMayB ⟨9, D, i, b, h, gs, p, ws, f⟩)) ∧ Below w.heap.size w w' := by
 by_cases d0 : 0 ≤ D
 case neg =>
  have HF := hid (show refMayB ⟨9, D, i, b, h, gs, p, ws, f⟩ = false by simp [refMayB, headB, isDirB, d0])
  clear h1 h2
  go_enter Tryz.func20, Tryz.ntmps20
  go_wp2_with fail
  go_ret
  exact ⟨ret_bool HF.out.symm, (Below.refl _ _).alloc (Nat.le_refl _) _⟩
 by_cases d3 : D ≤ 3
 case neg =>
  have HF := hid (show refMayB ⟨9, D, i, b, h, gs, p, ws, f⟩ = false by simp [refMayB, headB, isDirB, show ¬ D < 4 by omega])
  clear h1 h2
  go_enter Tryz.func20, Tryz.ntmps20
  go_wp2_with fail
  go_ret
  exact ⟨ret_bool HF.out.symm, (Below.refl _ _).alloc (Nat.le_refl _) _⟩
 by_cases dz : D = 0
 case neg =>
  have HF := hid (show refMayB ⟨9, D, i, b, h, gs, p, ws, f⟩ = false by simp [refMayB, headB, dz])
  have hd : (D != 0) = true := by simpa using dz
  clear h1 h2 dz
  go_enter Tryz.func20, Tryz.ntmps20
  go_wp2_with fail
  go_ret
  exact ⟨ret_bool HF.out.symm, (Below.refl _ _).alloc (Nat.le_refl _) _⟩
 exact refmay_go9 D i b h p f gs ws ga wa gc wc w d0 d3 dz h1 h2
set_option maxHeartbeats 1000000 in
theorem refmay_go10 (D i b h p f : Int) (gs ws : List Int) (ga wa : Option Addr) (gc wc : Nat) (w : World) (d0 : 0 ≤ D) (d3 : D ≤ 3) (dz : D = 0) (h1 : IntsAt w ga gs) (h2 : IntsAt w wa ws) :
 Calls Tryz.prog 20 #[.agg #[.int .i64 10, .int .i64 D, .int .i64 i, .int .i64 b, .int .i64 h, .slice ga gs.length gc, .int .i64 p, .slice wa ws.length wc, .int .i64 f]] w fun e w' => e = .returned (.bool (refMayB ⟨10, D, i, b, h, gs, p, ws, f⟩)) ∧ Below w.heap.size w w' := by
 have HB := hid (show refMayB ⟨10, D, i, b, h, gs, p, ws, f⟩ = (cfitB i false && cfitB b false && cfitB h false && cfitB p false && cfitB f false && rowB gs false && rowB ws false) by
  simp [refMayB, headB, isKindB, isDirB, has, dz]; try omega)
 have H1 := hid h1
 have H2 := hid h2
 clear h1 h2
 subst dz
 go_enter Tryz.func20, Tryz.ntmps20
 go_wp2_with (first | (go_at_call 63; (with_reducible refine (cfit_any _ _ _).mono ?_); rintro e w' ⟨rfl, rfl⟩) | (go_at_call 64; (with_reducible refine (row_any _ _ _ _ _ (H1.out.alloc _)).mono ?_); rintro e w' ⟨rfl, rfl⟩) | (go_at_call 64; (with_reducible refine (row_any _ _ _ _ _ (H2.out.alloc _)).mono ?_); rintro e w' ⟨rfl, rfl⟩))
 all_goals
  go_ret
  exact ⟨ret_bool (by rw [HB.out]; simp [*]), (Below.refl _ _).alloc (Nat.le_refl _) _⟩
theorem refmay_10 (D i b h p f : Int) (gs ws : List Int) (ga wa : Option Addr) (gc wc : Nat) (w : World) (h1 : IntsAt w ga gs) (h2 : IntsAt w wa ws) :
 Calls Tryz.prog 20 #[.agg #[.int .i64 10, .int .i64 D, .int .i64 i, .int .i64 b, .int .i64 h, .slice ga gs.length gc, .int .i64 p, .slice wa ws.length wc, .int .i64 f]] w fun e w' => e = .returned (.bool (refMayB ⟨10, D, i, b, h, gs, p, ws, f⟩)) ∧ Below w.heap.size w w' := by
 by_cases d0 : 0 ≤ D
 case neg =>
  have HF := hid (show refMayB ⟨10, D, i, b, h, gs, p, ws, f⟩ = false by simp [refMayB, headB, isDirB, d0])
  clear h1 h2
  go_enter Tryz.func20, Tryz.ntmps20
  go_wp2_with fail
  go_ret
  exact ⟨ret_bool HF.out.symm, (Below.refl _ _).alloc (Nat.le_refl _) _⟩
 by_cases d3 : D ≤ 3
 case neg =>
  have HF := hid (show refMayB ⟨10, D, i, b, h, gs, p, ws, f⟩ = false by simp [refMayB, headB, isDirB, show ¬ D < 4 by omega])
  clear h1 h2
  go_enter Tryz.func20, Tryz.ntmps20
  go_wp2_with fail
  go_ret
  exact ⟨ret_bool HF.out.symm, (Below.refl _ _).alloc (Nat.le_refl _) _⟩
 by_cases dz : D = 0
 case neg =>
  have HF := hid (show refMayB ⟨10, D, i, b, h, gs, p, ws, f⟩ = false by simp [refMayB, headB, dz])
  have hd : (D != 0) = true := by simpa using dz
  clear h1 h2 dz
  go_enter Tryz.func20, Tryz.ntmps20
  go_wp2_with fail
  go_ret
  exact ⟨ret_bool HF.out.symm, (Below.refl _ _).alloc (Nat.le_refl _) _⟩
 exact refmay_go10 D i b h p f gs ws ga wa gc wc w d0 d3 dz h1 h2

theorem rcmay_any (c : Cm) (ga wa : Option Addr) (gc wc : Nat) (w : World) (h1 : IntsAt w ga c.gives) (h2 : IntsAt w wa c.wants) :
 Calls Tryz.prog 20 #[.agg #[.int .i64 c.kind, .int .i64 c.dir, .int .i64 c.item, .int .i64 c.box, .int .i64 c.who, .slice ga c.gives.length gc, .int .i64 c.pay, .slice wa c.wants.length wc, .int .i64 c.fee]] w fun e w' => e = .returned (.bool (refMayB c)) ∧ Below w.heap.size w w' := by
 cases hk : isKindB c.kind
 ·have HF := hid (show refMayB c = false by simp [refMayB, headB, hk])
  simp only [isKindB, Bool.and_eq_false_iff, decide_eq_false_iff_not] at hk
  clear h1 h2
  rcases hk with hk | hk
  all_goals
   go_enter Tryz.func20, Tryz.ntmps20
   go_wp2_with fail
   all_goals
    go_ret
    exact ⟨ret_bool HF.out.symm, (Below.refl _ _).alloc (Nat.le_refl _) _⟩
 ·obtain ⟨k, d, i, b, h, gs, p, ws, f⟩ := c
  simp only at hk h1 h2 ⊢
  rcases kinds hk with rfl | rfl | rfl | rfl | rfl | rfl | rfl | rfl | rfl | rfl
  ·exact refmay_1 d i b h p f gs ws ga wa gc wc w h1 h2
  ·exact refmay_2 d i b h p f gs ws ga wa gc wc w h1 h2
  ·exact refmay_3 d i b h p f gs ws ga wa gc wc w h1 h2
  ·exact refmay_4 d i b h p f gs ws ga wa gc wc w h1 h2
  ·exact refmay_5 d i b h p f gs ws ga wa gc wc w h1 h2
  ·exact refmay_6 d i b h p f gs ws ga wa gc wc w h1 h2
  ·exact refmay_7 d i b h p f gs ws ga wa gc wc w h1 h2
  ·exact refmay_8 d i b h p f gs ws ga wa gc wc w h1 h2
  ·exact refmay_9 d i b h p f gs ws ga wa gc wc w h1 h2
  ·exact refmay_10 d i b h p f gs ws ga wa gc wc w h1 h2
end
end Go.Proofs.YtgmkcddgkgcbbaaGreat
