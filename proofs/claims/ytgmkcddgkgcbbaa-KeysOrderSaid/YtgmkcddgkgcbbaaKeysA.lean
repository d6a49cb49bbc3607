/- keys: which is less; what compares two; whether a number is of one; the place of a key, the key of a place. -/
import Derived.Test.YtgmkcddgkgcbbaaTk
import Derived.Test.YtgmkcddgkgcbbaaKeysMath
import Derived.Sort.Grow
namespace Go.Proofs.Ytgmkcddgkgcbbaa
open Go.ChangeShapes Go.WideShapes Go.ChangeAt Go.RowKit
open Lib (hid)
set_option linter.unusedVariables false
set_option maxRecDepth 100000
open Go.RowKit Go
def cmpI (x y : Int) : Int := if x < y then -1 else if y < x then 1 else 0
theorem two_k (w : World) (A B : Array Value) (t u : TypeId) : Below w.heap.size w ((w.alloc (.cells A t)).alloc (.cells B u)) := ((Below.refl _ _).alloc (Nat.le_refl _) _).alloc (by simp) _
theorem refless_any (a b : Pl) (w : World) : Calls Try.prog 10 #[.agg #[.int .i64 a.kind, .int .i64 a.id], .agg #[.int .i64 b.kind, .int .i64 b.id]] w fun e w' => e = .returned (.bool (lessK a b)) ∧ Below w.heap.size w w' := by
 have HB := hid (two_k w #[.int .i64 a.kind, .int .i64 a.id] #[.int .i64 b.kind, .int .i64 b.id] 24 24)
 by_cases h1 : a.kind < b.kind
 ·have HR := hid (show lessK a b = true by simp [lessK, h1])
  go_enter Try.func10, Try.ntmps10
  go_wp2_with fail
  go_ret
  exact ⟨ret_bool HR.out.symm, HB.out⟩
 ·by_cases h2 : a.kind = b.kind
  ·by_cases h3 : a.id < b.id
   ·have HR := hid (show lessK a b = true by simp [lessK, h2, h3])
    have h4 : (a.kind == b.kind) = true := by simpa using h2
    clear h2
    go_enter Try.func10, Try.ntmps10
    go_wp2_with fail
    go_ret
    exact ⟨ret_bool HR.out.symm, HB.out⟩
   ·have HR := hid (show lessK a b = false by simp [lessK, h2, h3])
    have h4 : (a.kind == b.kind) = true := by simpa using h2
    clear h2
    go_enter Try.func10, Try.ntmps10
    go_wp2_with fail
    go_ret
    exact ⟨ret_bool HR.out.symm, HB.out⟩
  ·have HR := hid (show lessK a b = false by simp [lessK, h1, h2])
   have h4 : (a.kind == b.kind) = false := by simpa using h2
   clear h2
   go_enter Try.func10, Try.ntmps10
   go_wp2_with fail
   go_ret
   exact ⟨ret_bool HR.out.symm, HB.out⟩
theorem ret_numK {x y : Int} (h : x = y) : (Ending.returned (.int .i64 x)) = .returned (.int .i64 y) := by rw [h]
theorem nan_any (x : Int) (w : World) : Calls Try.prog 26 #[.int .i64 x] w fun e w' => e = .returned (.bool false) ∧ w' = w := by
 have hx : (x != x) = false := by simp
 go_enter Try.func26, Try.ntmps26
 go_wp2_with fail
 go_ret
 exact ⟨rfl, rfl⟩
theorem cmpi_any (x y : Int) (w : World) : Calls Try.prog 23 #[.int .i64 x, .int .i64 y] w fun e w' => e = .returned (.int .i64 (cmpI x y)) ∧ w' = w := by
 by_cases h1 : x < y
 ·have HR := hid (show cmpI x y = -1 by simp [cmpI, h1])
  go_enter Try.func23, Try.ntmps23
  go_wp2_with fail
  refine (nan_any _ _).mono ?_
  rintro e w' ⟨rfl, rfl⟩
  go_wp2_with fail
  refine (nan_any _ _).mono ?_
  rintro e w' ⟨rfl, rfl⟩
  go_wp2_with fail
  go_ret
  exact ⟨ret_numK HR.out.symm, rfl⟩
 ·by_cases h2 : y < x
  ·have HR := hid (show cmpI x y = 1 by simp [cmpI, h1, h2])
   go_enter Try.func23, Try.ntmps23
   go_wp2_with fail
   refine (nan_any _ _).mono ?_
   rintro e w' ⟨rfl, rfl⟩
   go_wp2_with fail
   refine (nan_any _ _).mono ?_
   rintro e w' ⟨rfl, rfl⟩
   go_wp2_with fail
   go_ret
   exact ⟨ret_numK HR.out.symm, rfl⟩
  ·have HR := hid (show cmpI x y = 0 by simp [cmpI, h1, h2])
   go_enter Try.func23, Try.ntmps23
   go_wp2_with fail
   refine (nan_any _ _).mono ?_
   rintro e w' ⟨rfl, rfl⟩
   go_wp2_with fail
   refine (nan_any _ _).mono ?_
   rintro e w' ⟨rfl, rfl⟩
   go_wp2_with fail
   go_ret
   exact ⟨ret_numK HR.out.symm, rfl⟩
/-- The first one that isn't 0. -/
def orK (x y : Int) : Int := if x = 0 then y else x
theorem or_any (b c : Nat) (x y : Int) (w : World) (h0 : w.cell? ⟨b, 0, none⟩ = some (.int .i64 x)) (h1 : w.cell? ⟨b, 1, none⟩ = some (.int .i64 y)) :
 Calls Try.prog 22 #[.slice (some ⟨b, 0, none⟩) 2 c] w fun e w' => e = .returned (.int .i64 (orK x y)) ∧ w' = w := by
 go_enter Try.func22, Try.ntmps22
 go_wp2_with fail
 go_loopw [5, 8] (fun _ i wr => wr = w ∧ ((i = .int .i64 0) ∨ (i = .int .i64 1 ∧ x = 0) ∨ (i = .int .i64 2 ∧ x = 0 ∧ y = 0))) (fun _ i _ => 2 - (intOf i).toNat)
 case atStart => exact ⟨rfl, .inl rfl⟩
 case round =>
  obtain ⟨rfl, hrel⟩ := hrel
  rcases hrel with rfl | ⟨rfl, hx⟩ | ⟨rfl, hx, hy⟩
  ·by_cases hx : x = 0
   ·have hq : (x != 0) = false := by simpa using hx
    have HX := hid hx
    clear hx
    go_wp2_with fail
    go_roundw
    case rel => exact ⟨by trivial, .inr (.inl ⟨rfl, HX.out⟩)⟩
    case measure => simp [intOf]
   ·have hq : (x != 0) = true := by simpa using hx
    have HR := hid (show orK x y = x by simp [orK, hx])
    clear hx
    go_wp2_with fail
    go_ret
    exact ⟨ret_numK HR.out.symm, rfl⟩
  ·by_cases hy : y = 0
   ·have hq : (y != 0) = false := by simpa using hy
    have HX := hid hx
    have HY := hid hy
    clear hx hy
    go_wp2_with fail
    go_roundw
    case rel => exact ⟨by trivial, .inr (.inr ⟨rfl, HX.out, HY.out⟩)⟩
    case measure => simp [intOf]
   ·have hq : (y != 0) = true := by simpa using hy
    have HR := hid (show orK x y = y by simp [orK, hx])
    clear hx hy
    go_wp2_with fail
    go_ret
    exact ⟨ret_numK HR.out.symm, rfl⟩
  ·have HR := hid (show orK x y = 0 by simp [orK, hx, hy])
   clear hx hy
   go_wp2_with fail
   go_ret
   exact ⟨ret_numK HR.out.symm, rfl⟩
def cmpK (a b : Pl) : Int := orK (cmpI a.kind b.kind) (cmpI a.id b.id)
theorem cmpK_less (a b : Pl) : decide (cmpK a b < 0) = lessK a b := by
 unfold cmpK orK lessK
 unfold cmpI
 by_cases h1 : a.kind < b.kind
 ·simp [h1]
 ·by_cases h2 : b.kind < a.kind
  ·have h3 : ¬ a.kind = b.kind := by omega
   simp [h1, h2, h3]
  ·have h3 : a.kind = b.kind := by omega
   by_cases h4 : a.id < b.id
   ·simp [h3, h4]
   ·by_cases h5 : b.id < a.id <;> simp [h3, h4, h5]
open Go.Sort in
theorem compare_any (a b : Pl) (w : World) : Calls Try.prog 19 #[.agg #[.int .i64 a.kind, .int .i64 a.id], .agg #[.int .i64 b.kind, .int .i64 b.id]] w fun e w' => e = .returned (.int .i64 (cmpK a b)) ∧ ∃ q os', w' = grow (w.drewN q) os' := by
 have HA := hid ((Blk.new w 24 #[.int .i64 a.kind, .int .i64 a.id]).alloc (.cells #[.int .i64 b.kind, .int .i64 b.id] 24))
 have HB := hid (Blk.newn (w.alloc (.cells #[.int .i64 a.kind, .int .i64 a.id] 24)) 24 #[.int .i64 b.kind, .int .i64 b.id] (n := w.heap.size + 1) (by simp))
 have HG := hid (show ∃ q os', ((w.alloc (.cells #[.int .i64 a.kind, .int .i64 a.id] 24)).alloc (.cells #[.int .i64 b.kind, .int .i64 b.id] 24)).drew = grow (w.drewN q) os' from ⟨1, _, by rw [alloc_eq_grow, alloc_eq_grow, grow_grow]; rfl⟩)
 go_enter Try.func19, Try.ntmps19
 go_wp2_with fail
 generalize (w.alloc (.cells #[.int .i64 a.kind, .int .i64 a.id] 24)).alloc (.cells #[.int .i64 b.kind, .int .i64 b.id] 24) = V at *
 have HA1 := hid HA.out.drew
 have HB1 := hid HB.out.drew
 have KA := hid HA.out.drew.cell
 have KB := hid HB.out.drew.cell
 refine tkS (S := (fun w' => (∀ ii, w'.cell? ⟨w.heap.size, ii, none⟩ = (#[.int .i64 a.kind, .int .i64 a.id][ii]? : Option Value)) ∧ (∀ ii, w'.cell? ⟨w.heap.size + 1, ii, none⟩ = (#[.int .i64 b.kind, .int .i64 b.id][ii]? : Option Value)))) (by (first | (with_reducible exact ⟨KA.out, KB.out⟩))) (fun hHeld => ?_)
 refine tkl [0, 1, 2, 3, 5, 6, 7, 8] ?_
 iterate 8
  refine tW ?_
  try go_frame
 refine rdy1 4 (fun K hK => ?_)
 go_simp
 refine (cmpi_any _ _ _).mono ?_; rintro e9 w9 ⟨rfl, rfl⟩
 try go_wp2_with fail
 refine hK.out _ _ (by (first | (with_reducible exact ⟨KA.out, KB.out⟩))) (fun hHeld => ?_)
 clear hK K
 try go_frame
 refine rdy1 9 (fun K hK => ?_)
 go_simp
 refine (cmpi_any _ _ _).mono ?_; rintro e9 w9 ⟨rfl, rfl⟩
 try go_wp2_with fail
 refine hK.out _ _ (by (first | (with_reducible exact ⟨KA.out, KB.out⟩))) (fun hHeld => ?_)
 clear hK K
 try go_frame
 generalize V.drew = V1 at *
 have HC := hid (Blk.new V1 3 #[.int .i64 (cmpI a.kind b.kind), .int .i64 (cmpI a.id b.id)])
 have HG2 := hid (show ∃ q os', V1.alloc (.cells #[.int .i64 (cmpI a.kind b.kind), .int .i64 (cmpI a.id b.id)] 3) = grow (w.drewN q) os' from by obtain ⟨q, os, h⟩ := HG.out; exact ⟨q, _, by rw [h, alloc_eq_grow, grow_grow]⟩)
 refine rdy1 10 (fun K hK => ?_)
 go_simp
 try go_wp2_with fail
 refine hK.out _ _ (by (first | (exact ⟨(HA1.out.alloc _).cell, (HB1.out.alloc _).cell⟩))) (fun hHeld => ?_)
 clear hK K
 try go_frame
 refine rdy1 11 (fun K hK => ?_)
 go_simp
 refine (or_any _ _ _ _ _ (HC.out.cell 0) (HC.out.cell 1)).mono ?_; rintro e9 w9 ⟨rfl, rfl⟩
 try go_wp2_with fail
 refine hK.out _ _ (by (first | (exact ⟨(HA1.out.alloc _).cell, (HB1.out.alloc _).cell⟩))) (fun hHeld => ?_)
 clear hK K
 try go_frame
 refine tkl [12] (tW ?_)
 try go_frame
 refine tkD ?_
 go_wp2_with fail
 go_ret
 exact ⟨rfl, HG2.out⟩
end Go.Proofs.Ytgmkcddgkgcbbaa
