/- cmd: kinds, ways, numbers and lists within their limits; lists held against one another, by the code and by the document's own definition. -/
import Derived.Test.YtgmkcddgkgcbbaaGreatGCmdN
import Derived.RegionTactic
import Derived.BigRegion
import Derived.Test.YtgmkcddgkgcbbaaGreatTk
namespace Go.Proofs.YtgmkcddgkgcbbaaGreat
open Go.ChangeShapes Go.WideShapes Go.ChangeAt Go.RowKit
open Lib (hid)
set_option linter.unusedVariables false
set_option maxRecDepth 100000
section

theorem iskind_any (n : Int) (w : World) : Calls Tryz.prog 41 #[.int .i64 n] w fun e w' => e = .returned (.bool (isKindB n)) ∧ w = w' := by
 unfold isKindB
 by_cases h1 : 1 ≤ n <;> by_cases h2 : n ≤ 10
 all_goals
  go_enter Tryz.func41, Tryz.ntmps41
  go_wp2_with fail
  go_ret
  exact ⟨by simp [*], rfl⟩
theorem isdir_any (n : Int) (w : World) : Calls Tryz.prog 75 #[.int .i64 n] w fun e w' => e = .returned (.bool (isDirB n)) ∧ w = w' := by
 unfold isDirB
 by_cases h1 : 0 ≤ n <;> by_cases h2 : n < 4
 all_goals
  go_enter Tryz.func75, Tryz.ntmps75
  go_wp2_with fail
  go_ret
  exact ⟨by simp [*], rfl⟩
theorem cfit_any (n : Int) (b : Bool) (w : World) : Calls Tryz.prog 63 #[.int .i64 n, .bool b] w fun e w' => e = .returned (.bool (cfitB n b)) ∧ w = w' := by
 cases b
 ·
  go_enter Tryz.func63, Tryz.ntmps63
  go_wp2_with fail
  go_ret
  exact ⟨rfl, rfl⟩
 ·by_cases h1 : 0 ≤ n <;> by_cases h2 : n ≤ 1073741824
  all_goals
   have HB := hid (show cfitB n true = okN n from rfl)
   go_enter Tryz.func63, Tryz.ntmps63
   go_wp2_with fail
   go_ret
   exact ⟨ret_bool (by rw [HB.out]; simp [okN, *]), rfl⟩

theorem areB_snoc {xs : List Int} {k : Nat} (h : k < xs.length) (ha : areB (xs.take k) = true) (hk : okN xs[k] = true) : areB (xs.take (k + 1)) = true := by
 rw [List.take_succ_eq_append_getElem h]
 simp only [areB, List.all_append] at *
 simp [ha, hk]
theorem areB_no {xs : List Int} {k : Nat} (h : k < xs.length) (hk : okN xs[k] = false) : areB xs = false := by
 rw [Bool.eq_false_iff]; intro h2
 have := List.all_eq_true.1 h2 xs[k] (List.getElem_mem h)
 rw [hk] at this; cases this
theorem areB_all {xs : List Int} (h : areB (xs.take xs.length) = true) : areB xs = true := by
 rwa [List.take_of_length_le (Nat.le_refl _)] at h

theorem are_any (a : Option Addr) (cap : Nat) (xs : List Int) (w : World) (h : IntsAt w a xs) :
 Calls Tryz.prog 76 #[.slice a xs.length cap] w fun e w' => e = .returned (.bool (areB xs)) ∧ w = w' := by
 have hl := h.len
 have H := hid h
 clear h
 go_enter Tryz.func76, Tryz.ntmps76
 go_wp2_with fail
 go_loop [4, 7] (fun _ i => ∃ k : Nat, k ≤ xs.length ∧ i = .int .i64 k ∧ areB (xs.take k) = true) (fun _ i => xs.length - (intOf i).toNat)
 case atStart => exact ⟨0, Nat.zero_le _, rfl, rfl⟩
 case round =>
  obtain ⟨k, hk, rfl, ha⟩ := hrel
  have HA := hid ha
  clear ha
  by_cases hlt : k < xs.length
  ·obtain ⟨b, off, rfl, hb, hc⟩ := H.out.at_ hlt
   have hcell := hc k hlt
   clear hc
   have HS := hid (areB_snoc hlt HA.out)
   have HN := hid (areB_no hlt)
   by_cases h0 : 0 ≤ xs[k] <;> by_cases h1 : xs[k] ≤ 1073741824
   ·have H2 := hid (HS.out (by simp [okN, h0, h1]))
    go_wp2_with fail
    go_round
    case rel => exact ⟨k + 1, by omega, by go_num, H2.out⟩
    case measure => simp [intOf]; omega
   all_goals
    have H2 := hid (HN.out (by simp [okN]; omega))
    go_wp2_with fail
    go_ret
    exact ⟨ret_bool H2.out.symm, rfl⟩
  ·have hke : k = xs.length := by omega
   subst hke
   have H2 := hid (areB_all HA.out)
   go_wp2_with fail
   go_ret
   exact ⟨ret_bool H2.out.symm, rfl⟩

theorem side_any (a : Option Addr) (cap : Nat) (xs : List Int) (w : World) (h : IntsAt w a xs) :
 Calls Tryz.prog 77 #[.slice a xs.length cap] w fun e w' => e = .returned (.bool (sideB xs)) ∧ w = w' := by
 have hl := h.len
 have H := hid h
 clear h
 by_cases h1 : xs.length ≤ 16
 ·have HB := hid (show sideB xs = areB xs by simp [sideB, h1])
  go_enter Tryz.func77, Tryz.ntmps77
  go_wp2_with fail
  refine (are_any a cap xs _ H.out).mono ?_
  rintro e w' ⟨rfl, rfl⟩
  go_wp2_with fail
  go_ret
  exact ⟨ret_bool HB.out.symm, rfl⟩
 ·have HB := hid (show sideB xs = false by simp [sideB]; omega)
  go_enter Tryz.func77, Tryz.ntmps77
  go_wp2_with fail
  go_ret
  exact ⟨ret_bool HB.out.symm, rfl⟩

theorem row_any (a : Option Addr) (cap : Nat) (xs : List Int) (b : Bool) (w : World) (h : IntsAt w a xs) :
 Calls Tryz.prog 64 #[.slice a xs.length cap, .bool b] w fun e w' => e = .returned (.bool (rowB xs b)) ∧ w = w' := by
 have hl := h.len
 have H := hid h
 clear h
 cases b
 ·have HB := hid (show rowB xs false = decide (xs.length = 0) from rfl)
  by_cases h0 : xs.length = 0
  ·have h2 := hid h0
   rw [h0]
   clear h0
   go_enter Tryz.func64, Tryz.ntmps64
   go_wp2_with fail
   go_ret
   exact ⟨ret_bool (by rw [HB.out, h2.out]; rfl), rfl⟩
  ·have hb : ((xs.length : Int) == 0) = false := by rw [beq_eq_false_iff_ne]; omega
   have h2 := hid h0
   clear h0
   go_enter Tryz.func64, Tryz.ntmps64
   go_wp2_with fail
   go_ret
   exact ⟨ret_bool (by rw [HB.out]; simp [h2.out]), rfl⟩
 ·have HB := hid (show rowB xs true = (areB xs && decide (xs.length ≤ 16)) from rfl)
  go_enter Tryz.func64, Tryz.ntmps64
  go_wp2_with fail
  go_loop [5] (fun i => ∃ k : Nat, k ≤ xs.length ∧ i = .int .i64 k ∧ areB (xs.take k) = true) (fun i => xs.length - (intOf i).toNat)
  case atStart => exact ⟨0, Nat.zero_le _, rfl, rfl⟩
  case round =>
   obtain ⟨k, hk, rfl, ha⟩ := hrel
   have HA := hid ha
   clear ha
   by_cases hlt : k < xs.length
   ·obtain ⟨b, off, rfl, hb, hc⟩ := H.out.at_ hlt
    have hcell := hc k hlt
    clear hc
    have HS := hid (areB_snoc hlt HA.out)
    have HN := hid (areB_no hlt)
    cases ho : okN xs[k]
    ·have H2 := hid (HN.out ho)
     have HF := hid (show cfitB xs[k] true = false from ho)
     clear ho
     go_wp2_with fail
     refine (cfit_any _ _ _).mono ?_
     rintro e w' ⟨rfl, rfl⟩
     rw [HF.out]
     go_wp2_with fail
     go_ret
     exact ⟨ret_bool (by rw [HB.out, H2.out]; rfl), rfl⟩
    ·have H2 := hid (HS.out ho)
     have HF := hid (show cfitB xs[k] true = true from ho)
     clear ho
     go_wp2_with fail
     refine (cfit_any _ _ _).mono ?_
     rintro e w' ⟨rfl, rfl⟩
     rw [HF.out]
     go_wp2_with fail
     go_round
     case rel => exact ⟨k + 1, by omega, by go_num, H2.out⟩
     case measure => simp [intOf]; omega
   ·have hke : k = xs.length := by omega
    subst hke
    have H2 := hid (areB_all HA.out)
    go_wp2_with fail
    go_ret
    exact ⟨ret_bool (by rw [HB.out, H2.out, Bool.true_and]; exact decide_eq_decide.2 (by omega)), rfl⟩
end
section
theorem ints_five (a b c d e : Int) (w : World) : IntsAt (w.alloc (.cells #[.int .i64 a, .int .i64 b, .int .i64 c, .int .i64 d, .int .i64 e] 3)) (some ⟨w.heap.size, 0, none⟩) [a, b, c, d, e] := by
 refine ⟨by simp [maxLen], .inr ⟨w.heap.size, 0, rfl, by simp, fun i hi => ?_⟩⟩
 rw [World.cell?_alloc_at _ _ _ _ rfl]
 match i, hi with
 | 0, _ => rfl
 | 1, _ => rfl
 | 2, _ => rfl
 | 3, _ => rfl
 | 4, _ => rfl
theorem are_five (n : Nat) (a b c d e : Int) (w : World) (hn : n = w.heap.size) : Calls Tryz.prog 76 #[.slice (some ⟨n, 0, none⟩) 5 5] (w.alloc (.cells #[.int .i64 a, .int .i64 b, .int .i64 c, .int .i64 d, .int .i64 e] 3)) fun e' w' => e' = .returned (.bool (areB [a, b, c, d, e])) ∧ (w.alloc (.cells #[.int .i64 a, .int .i64 b, .int .i64 c, .int .i64 d, .int .i64 e] 3)) = w' := by
 subst hn
 exact are_any (some ⟨w.heap.size, 0, none⟩) 5 [a, b, c, d, e] _ (ints_five a b c d e w)

theorem within_any (c : Cm) (ga wa : Option Addr) (gc wc : Nat) (w : World) (h1 : IntsAt w ga c.gives) (h2 : IntsAt w wa c.wants) :
 Calls Tryz.prog 42 #[.agg #[.int .i64 c.kind, .int .i64 c.dir, .int .i64 c.item, .int .i64 c.box, .int .i64 c.who, .slice ga c.gives.length gc, .int .i64 c.pay, .slice wa c.wants.length wc, .int .i64 c.fee]] w fun e w' => e = .returned (.bool (withinB c)) ∧ Below w.heap.size w w' := by
 have H1 := hid h1
 have H2 := hid h2
 clear h1 h2
 cases k1 : isDirB c.dir
 ·have K1 := hid k1
  have HB := hid (show withinB c = false by simp [withinB, k1])
  clear k1
  go_enter Tryz.func42, Tryz.ntmps42
  go_wp2_with fail
  refine (isdir_any _ _).mono ?_
  rintro e w' ⟨rfl, rfl⟩
  rw [K1.out]
  go_wp2_with fail
  go_ret
  exact ⟨ret_bool HB.out.symm, (Below.refl _ _).alloc (Nat.le_refl _) _⟩
 ·cases k2 : areB [c.item, c.box, c.who, c.pay, c.fee]
  ·have K1 := hid k1
   have K2 := hid k2
   have HB := hid (show withinB c = false by simp [withinB, k2])
   clear k1 k2
   go_enter Tryz.func42, Tryz.ntmps42
   go_wp2_with fail
   refine (isdir_any _ _).mono ?_
   rintro e w' ⟨rfl, rfl⟩
   rw [K1.out]
   go_wp2_with fail
   refine (are_five _ _ _ _ _ _ _ (by simp)).mono ?_
   rintro e w' ⟨rfl, rfl⟩
   rw [K2.out]
   go_wp2_with fail
   go_ret
   exact ⟨ret_bool HB.out.symm, ((Below.refl _ _).alloc (Nat.le_refl _) _).alloc (by simp) _⟩
  ·cases k3 : sideB c.gives
   ·have K1 := hid k1
    have K2 := hid k2
    have K3 := hid k3
    have HB := hid (show withinB c = false by simp [withinB, k3])
    clear k1 k2 k3
    go_enter Tryz.func42, Tryz.ntmps42
    go_wp2_with fail
    refine (isdir_any _ _).mono ?_
    rintro e w' ⟨rfl, rfl⟩
    rw [K1.out]
    go_wp2_with fail
    refine (are_five _ _ _ _ _ _ _ (by simp)).mono ?_
    rintro e w' ⟨rfl, rfl⟩
    rw [K2.out]
    go_wp2_with fail
    refine (side_any _ _ _ _ ((H1.out.alloc _).alloc _)).mono ?_
    rintro e w' ⟨rfl, rfl⟩
    rw [K3.out]
    go_wp2_with fail
    go_ret
    exact ⟨ret_bool HB.out.symm, ((Below.refl _ _).alloc (Nat.le_refl _) _).alloc (by simp) _⟩
   ·have K1 := hid k1
    have K2 := hid k2
    have K3 := hid k3
    have HB := hid (show withinB c = sideB c.wants by simp [withinB, k1, k2, k3])
    clear k1 k2 k3
    go_enter Tryz.func42, Tryz.ntmps42
    go_wp2_with fail
    refine (isdir_any _ _).mono ?_
    rintro e w' ⟨rfl, rfl⟩
    rw [K1.out]
    go_wp2_with fail
    refine (are_five _ _ _ _ _ _ _ (by simp)).mono ?_
    rintro e w' ⟨rfl, rfl⟩
    rw [K2.out]
    go_wp2_with fail
    refine (side_any _ _ _ _ ((H1.out.alloc _).alloc _)).mono ?_
    rintro e w' ⟨rfl, rfl⟩
    rw [K3.out]
    go_wp2_with fail
    refine (side_any _ _ _ _ ((H2.out.alloc _).alloc _)).mono ?_
    rintro e w' ⟨rfl, rfl⟩
    go_wp2_with fail
    go_ret
    exact ⟨ret_bool HB.out.symm, ((Below.refl _ _).alloc (Nat.le_refl _) _).alloc (by simp) _⟩
end
section
/-- What a call hands back: a command, in memory of which all that was there is as it was. -/
def GivesCmd (c : Cm) (w : World) (e : Ending) (w' : World) : Prop :=
 ∃ ga gc wa wc, e = .returned (.agg #[.int .i64 c.kind, .int .i64 c.dir, .int .i64 c.item, .int .i64 c.box, .int .i64 c.who, .slice ga c.gives.length gc, .int .i64 c.pay, .slice wa c.wants.length wc, .int .i64 c.fee]) ∧ IntsAt w' ga c.gives ∧ IntsAt w' wa c.wants ∧ Below w.heap.size w w'


theorem own_1 (d i b h p f : Int) (gs ws : List Int) (ga wa : Option Addr) (gc wc : Nat) (w : World) :
 Calls Tryz.prog 44 #[.agg #[.int .i64 1, .int .i64 d, .int .i64 i, .int .i64 b, .int .i64 h, .slice ga gs.length gc, .int .i64 p, .slice wa ws.length wc, .int .i64 f]] w fun e w' => e = .returned (.agg #[.int .i64 1, .int .i64 d, .int .i64 0, .int .i64 0, .int .i64 0, .slice none 0 0, .int .i64 0, .slice none 0 0, .int .i64 0]) ∧ Below w.heap.size w w' := by
 go_enter Tryz.func44, Tryz.ntmps44
 go_wp2_with fail
 refine bodyPost_ret (v := .agg #[.int .i64 1, .int .i64 d, .int .i64 0, .int .i64 0, .int .i64 0, .slice none 0 0, .int .i64 0, .slice none 0 0, .int .i64 0]) (by simp [results, Tryz.results44, go_sem]) rfl ⟨rfl, ?_⟩
 repeat (first | exact Below.refl _ _ | refine Below.alloc ?_ (by first | (simp; done) | (simp; omega)) _)
theorem own_2 (d i b h p f : Int) (gs ws : List Int) (ga wa : Option Addr) (gc wc : Nat) (w : World) :
 Calls Tryz.prog 44 #[.agg #[.int .i64 2, .int .i64 d, .int .i64 i, .int .i64 b, .int .i64 h, .slice ga gs.length gc, .int .i64 p, .slice wa ws.length wc, .int .i64 f]] w fun e w' => e = .returned (.agg #[.int .i64 2, .int .i64 d, .int .i64 0, .int .i64 0, .int .i64 h, .slice none 0 0, .int .i64 0, .slice none 0 0, .int .i64 0]) ∧ Below w.heap.size w w' := by
 go_enter Tryz.func44, Tryz.ntmps44
 go_wp2_with fail
 go_region
 go_wp2_with fail
 refine bodyPost_ret (v := .agg #[.int .i64 2, .int .i64 d, .int .i64 0, .int .i64 0, .int .i64 h, .slice none 0 0, .int .i64 0, .slice none 0 0, .int .i64 0]) (by simp [results, Tryz.results44, go_sem]) rfl ⟨rfl, ?_⟩
 repeat (first | exact Below.refl _ _ | refine Below.drew ?_ | refine Below.alloc ?_ (by first | (simp; done) | (simp; omega)) _)
theorem own_3 (d i b h p f : Int) (gs ws : List Int) (ga wa : Option Addr) (gc wc : Nat) (w : World) :
 Calls Tryz.prog 44 #[.agg #[.int .i64 3, .int .i64 d, .int .i64 i, .int .i64 b, .int .i64 h, .slice ga gs.length gc, .int .i64 p, .slice wa ws.length wc, .int .i64 f]] w fun e w' => e = .returned (.agg #[.int .i64 3, .int .i64 0, .int .i64 i, .int .i64 0, .int .i64 0, .slice none 0 0, .int .i64 0, .slice none 0 0, .int .i64 0]) ∧ Below w.heap.size w w' := by
 go_enter Tryz.func44, Tryz.ntmps44
 go_wp2_with fail
 refine bodyPost_ret (v := .agg #[.int .i64 3, .int .i64 0, .int .i64 i, .int .i64 0, .int .i64 0, .slice none 0 0, .int .i64 0, .slice none 0 0, .int .i64 0]) (by simp [results, Tryz.results44, go_sem]) rfl ⟨rfl, ?_⟩
 repeat (first | exact Below.refl _ _ | refine Below.alloc ?_ (by first | (simp; done) | (simp; omega)) _)
theorem own_4 (d i b h p f : Int) (gs ws : List Int) (ga wa : Option Addr) (gc wc : Nat) (w : World) :
 Calls Tryz.prog 44 #[.agg #[.int .i64 4, .int .i64 d, .int .i64 i, .int .i64 b, .int .i64 h, .slice ga gs.length gc, .int .i64 p, .slice wa ws.length wc, .int .i64 f]] w fun e w' => e = .returned (.agg #[.int .i64 4, .int .i64 0, .int .i64 i, .int .i64 0, .int .i64 0, .slice none 0 0, .int .i64 0, .slice none 0 0, .int .i64 0]) ∧ Below w.heap.size w w' := by
 go_enter Tryz.func44, Tryz.ntmps44
 go_wp2_with fail
 refine bodyPost_ret (v := .agg #[.int .i64 4, .int .i64 0, .int .i64 i, .int .i64 0, .int .i64 0, .slice none 0 0, .int .i64 0, .slice none 0 0, .int .i64 0]) (by simp [results, Tryz.results44, go_sem]) rfl ⟨rfl, ?_⟩
 repeat (first | exact Below.refl _ _ | refine Below.alloc ?_ (by first | (simp; done) | (simp; omega)) _)
theorem own_5 (d i b h p f : Int) (gs ws : List Int) (ga wa : Option Addr) (gc wc : Nat) (w : World) :
 Calls Tryz.prog 44 #[.agg #[.int .i64 5, .int .i64 d, .int .i64 i, .int .i64 b, .int .i64 h, .slice ga gs.length gc, .int .i64 p, .slice wa ws.length wc, .int .i64 f]] w fun e w' => e = .returned (.agg #[.int .i64 5, .int .i64 0, .int .i64 i, .int .i64 b, .int .i64 0, .slice none 0 0, .int .i64 0, .slice none 0 0, .int .i64 0]) ∧ Below w.heap.size w w' := by
 go_enter Tryz.func44, Tryz.ntmps44
 go_wp2_with fail
 go_region
 go_wp2_with fail
 refine bodyPost_ret (v := .agg #[.int .i64 5, .int .i64 0, .int .i64 i, .int .i64 b, .int .i64 0, .slice none 0 0, .int .i64 0, .slice none 0 0, .int .i64 0]) (by simp [results, Tryz.results44, go_sem]) rfl ⟨rfl, ?_⟩
 repeat (first | exact Below.refl _ _ | refine Below.drew ?_ | refine Below.alloc ?_ (by first | (simp; done) | (simp; omega)) _)
theorem own_6 (d i b h p f : Int) (gs ws : List Int) (ga wa : Option Addr) (gc wc : Nat) (w : World) :
 Calls Tryz.prog 44 #[.agg #[.int .i64 6, .int .i64 d, .int .i64 i, .int .i64 b, .int .i64 h, .slice ga gs.length gc, .int .i64 p, .slice wa ws.length wc, .int .i64 f]] w fun e w' => e = .returned (.agg #[.int .i64 6, .int .i64 0, .int .i64 i, .int .i64 b, .int .i64 0, .slice none 0 0, .int .i64 0, .slice none 0 0, .int .i64 0]) ∧ Below w.heap.size w w' := by
 go_enter Tryz.func44, Tryz.ntmps44
 go_wp2_with fail
 go_region
 go_wp2_with fail
 refine bodyPost_ret (v := .agg #[.int .i64 6, .int .i64 0, .int .i64 i, .int .i64 b, .int .i64 0, .slice none 0 0, .int .i64 0, .slice none 0 0, .int .i64 0]) (by simp [results, Tryz.results44, go_sem]) rfl ⟨rfl, ?_⟩
 repeat (first | exact Below.refl _ _ | refine Below.drew ?_ | refine Below.alloc ?_ (by first | (simp; done) | (simp; omega)) _)
theorem own_7 (d i b h p f : Int) (gs ws : List Int) (ga wa : Option Addr) (gc wc : Nat) (w : World) :
 Calls Tryz.prog 44 #[.agg #[.int .i64 7, .int .i64 d, .int .i64 i, .int .i64 b, .int .i64 h, .slice ga gs.length gc, .int .i64 p, .slice wa ws.length wc, .int .i64 f]] w fun e w' => e = .returned (.agg #[.int .i64 7, .int .i64 0, .int .i64 i, .int .i64 0, .int .i64 h, .slice none 0 0, .int .i64 0, .slice none 0 0, .int .i64 0]) ∧ Below w.heap.size w w' := by
 go_enter Tryz.func44, Tryz.ntmps44
 go_wp2_with fail
 go_region
 go_wp2_with fail
 refine bodyPost_ret (v := .agg #[.int .i64 7, .int .i64 0, .int .i64 i, .int .i64 0, .int .i64 h, .slice none 0 0, .int .i64 0, .slice none 0 0, .int .i64 0]) (by simp [results, Tryz.results44, go_sem]) rfl ⟨rfl, ?_⟩
 repeat (first | exact Below.refl _ _ | refine Below.drew ?_ | refine Below.alloc ?_ (by first | (simp; done) | (simp; omega)) _)
theorem own_8 (d i b h p f : Int) (gs ws : List Int) (ga wa : Option Addr) (gc wc : Nat) (w : World) :
 Calls Tryz.prog 44 #[.agg #[.int .i64 8, .int .i64 d, .int .i64 i, .int .i64 b, .int .i64 h, .slice ga gs.length gc, .int .i64 p, .slice wa ws.length wc, .int .i64 f]] w fun e w' => e = .returned (.agg #[.int .i64 8, .int .i64 0, .int .i64 0, .int .i64 0, .int .i64 h, .slice ga gs.length gc, .int .i64 p, .slice wa ws.length wc, .int .i64 f]) ∧ Below w.heap.size w w' := by
 go_enter Tryz.func44, Tryz.ntmps44
 go_wp2_with fail
 go_region
 go_wp2_with fail
 go_region
 go_wp2_with fail
 refine bodyPost_ret (v := .agg #[.int .i64 8, .int .i64 0, .int .i64 0, .int .i64 0, .int .i64 h, .slice ga gs.length gc, .int .i64 p, .slice wa ws.length wc, .int .i64 f]) (by simp [results, Tryz.results44, go_sem]) rfl ⟨rfl, ?_⟩
 repeat (first | exact Below.refl _ _ | refine Below.drew ?_ | refine Below.alloc ?_ (by first | (simp; done) | (simp; omega)) _)
theorem own_9 (d i b h p f : Int) (gs ws : List Int) (ga wa : Option Addr) (gc wc : Nat) (w : World) :
 Calls Tryz.prog 44 #[.agg #[.int .i64 9, .int .i64 d, .int .i64 i, .int .i64 b, .int .i64 h, .slice ga gs.length gc, .int .i64 p, .slice wa ws.length wc, .int .i64 f]] w fun e w' => e = .returned (.agg #[.int .i64 9, .int .i64 0, .int .i64 0, .int .i64 0, .int .i64 0, .slice none 0 0, .int .i64 0, .slice none 0 0, .int .i64 0]) ∧ Below w.heap.size w w' := by
 go_enter Tryz.func44, Tryz.ntmps44
 go_wp2_with fail
 refine bodyPost_ret (v := .agg #[.int .i64 9, .int .i64 0, .int .i64 0, .int .i64 0, .int .i64 0, .slice none 0 0, .int .i64 0, .slice none 0 0, .int .i64 0]) (by simp [results, Tryz.results44, go_sem]) rfl ⟨rfl, ?_⟩
 repeat (first | exact Below.refl _ _ | refine Below.alloc ?_ (by first | (simp; done) | (simp; omega)) _)
theorem own_10 (d i b h p f : Int) (gs ws : List Int) (ga wa : Option Addr) (gc wc : Nat) (w : World) :
 Calls Tryz.prog 44 #[.agg #[.int .i64 10, .int .i64 d, .int .i64 i, .int .i64 b, .int .i64 h, .slice ga gs.length gc, .int .i64 p, .slice wa ws.length wc, .int .i64 f]] w fun e w' => e = .returned (.agg #[.int .i64 10, .int .i64 0, .int .i64 0, .int .i64 0, .int .i64 0, .slice none 0 0, .int .i64 0, .slice none 0 0, .int .i64 0]) ∧ Below w.heap.size w w' := by
 go_enter Tryz.func44, Tryz.ntmps44
 go_wp2_with fail
 refine bodyPost_ret (v := .agg #[.int .i64 10, .int .i64 0, .int .i64 0, .int .i64 0, .int .i64 0, .slice none 0 0, .int .i64 0, .slice none 0 0, .int .i64 0]) (by simp [results, Tryz.results44, go_sem]) rfl ⟨rfl, ?_⟩
 repeat (first | exact Below.refl _ _ | refine Below.alloc ?_ (by first | (simp; done) | (simp; omega)) _)
end
section
theorem nums_any (c : Cm) (ga wa : Option Addr) (gc wc : Nat) (w : World) :
 Calls Tryz.prog 78 #[.agg #[.int .i64 c.kind, .int .i64 c.dir, .int .i64 c.item, .int .i64 c.box, .int .i64 c.who, .slice ga c.gives.length gc, .int .i64 c.pay, .slice wa c.wants.length wc, .int .i64 c.fee]] w fun e w' => e = .returned (.agg #[.int .i64 c.kind, .int .i64 c.dir, .int .i64 c.item, .int .i64 c.box, .int .i64 c.who, .int .i64 c.pay, .int .i64 c.fee]) ∧ Below w.heap.size w w' := by
 go_enter Tryz.func78, Tryz.ntmps78
 go_wp2_with fail
 exact bodyPost_ret (v := .agg #[.int .i64 c.kind, .int .i64 c.dir, .int .i64 c.item, .int .i64 c.box, .int .i64 c.who, .int .i64 c.pay, .int .i64 c.fee]) (by simp [results, Tryz.results78, go_sem]) rfl ⟨rfl, ((Below.refl _ _).alloc (Nat.le_refl _) _).alloc (by simp) _⟩

theorem run_nums (a b : Cm) (w : World) : (binOp .eql 105 (.agg #[.int .i64 a.kind, .int .i64 a.dir, .int .i64 a.item, .int .i64 a.box, .int .i64 a.who, .int .i64 a.pay, .int .i64 a.fee]) (.agg #[.int .i64 b.kind, .int .i64 b.dir, .int .i64 b.item, .int .i64 b.box, .int .i64 b.who, .int .i64 b.pay, .int .i64 b.fee])).run Tryz.prog w = .ok (.bool (numsB a b)) w := by
 obtain ⟨a1, a2, a3, a4, a5, a6, a7, a8, a9⟩ := a
 obtain ⟨b1, b2, b3, b4, b5, b6, b7, b8, b9⟩ := b
 simp only [numsB]
 by_cases e1 : a1 = b1
 ·by_cases e2 : a2 = b2
  ·by_cases e3 : a3 = b3
   ·by_cases e4 : a4 = b4
    ·by_cases e5 : a5 = b5
     ·by_cases e7 : a7 = b7
      ·by_cases e9 : a9 = b9
       ·subst e1 e2 e3 e4 e5 e7 e9; rw [run_eql_struct]; go_simp
       ·rw [run_eql_struct]; go_simp
      ·rw [run_eql_struct]; go_simp
     ·rw [run_eql_struct]; go_simp
    ·rw [run_eql_struct]; go_simp
   ·rw [run_eql_struct]; go_simp
  ·rw [run_eql_struct]; go_simp
 ·rw [run_eql_struct]; go_simp

theorem csame_no (a b : Cm) (ga wa gb wb : Option Addr) (gca wca gcb wcb : Nat) (w : World) (hn : numsB a b = false) :
 Calls Tryz.prog 43 #[.agg #[.int .i64 a.kind, .int .i64 a.dir, .int .i64 a.item, .int .i64 a.box, .int .i64 a.who, .slice ga a.gives.length gca, .int .i64 a.pay, .slice wa a.wants.length wca, .int .i64 a.fee], .agg #[.int .i64 b.kind, .int .i64 b.dir, .int .i64 b.item, .int .i64 b.box, .int .i64 b.who, .slice gb b.gives.length gcb, .int .i64 b.pay, .slice wb b.wants.length wcb, .int .i64 b.fee]] w fun e w' => e = .returned (.bool (sameB a b)) ∧ Below w.heap.size w w' := by
 have HS := hid (show sameB a b = false by simp [sameB, hn])
 have hrun := run_nums a b
 rw [hn] at hrun
 clear hn
 go_enter Tryz.func43, Tryz.ntmps43
 go_wp2_with fail
 refine tkS (S := (fun w' => (Below w.heap.size w w' ∧ w.heap.size < w'.heap.size ∧ ∀ i, w'.cell? ⟨w.heap.size, i, none⟩ = (#[.int .i64 a.kind, .int .i64 a.dir, .int .i64 a.item, .int .i64 a.box, .int .i64 a.who, .slice ga a.gives.length gca, .int .i64 a.pay, .slice wa a.wants.length wca, .int .i64 a.fee][i]? : Option Value)) ∧ (Below w.heap.size w w' ∧ w.heap.size + 1 < w'.heap.size ∧ ∀ i, w'.cell? ⟨w.heap.size + 1, i, none⟩ = (#[.int .i64 b.kind, .int .i64 b.dir, .int .i64 b.item, .int .i64 b.box, .int .i64 b.who, .slice gb b.gives.length gcb, .int .i64 b.pay, .slice wb b.wants.length wcb, .int .i64 b.fee][i]? : Option Value)))) (by (exact Holds.two _ _ _ _ _)) (fun hHeld => ?_)
 refine tkl [0, 2, 1, 3, 4, 5, 6, 7, 8, 9, 10, 11, 12, 13, 14, 15, 16, 17, 18, 19] ?_
 iterate 20
  first
   | refine tW ?_ | refine tN ?_
   | (refine rT (fun K hK => ?_)
      go_simp
      first
       | (go_at_call 78; refine (nums_any _ _ _ _ _ _).mono ?_; rintro e w1 ⟨rfl, hb⟩)
      try go_wp2_with fail
      refine hK.out _ _ (by (exact Holds.call2 (by assumption) hb)) (fun hHeld => ?_)
      clear hK K)
  try go_frame
 refine tkD ?_
 have hB := hid (show Below w.heap.size w _ from (by assumption : Holds _ _ _ _ ∧ _).1.1)
 go_wp2_with fail
 go_ret
 exact ⟨ret_bool HS.out.symm, hB.out⟩

theorem csame_yes (v : Bool) (a b : Cm) (ga wa gb wb : Option Addr) (gca wca gcb wcb : Nat) (w : World) (hn : numsB a b = true) (hg : decide (a.gives = b.gives) = v) (h1 : IntsAt w ga a.gives) (h2 : IntsAt w wa a.wants) (h3 : IntsAt w gb b.gives) (h4 : IntsAt w wb b.wants) :
 Calls Tryz.prog 43 #[.agg #[.int .i64 a.kind, .int .i64 a.dir, .int .i64 a.item, .int .i64 a.box, .int .i64 a.who, .slice ga a.gives.length gca, .int .i64 a.pay, .slice wa a.wants.length wca, .int .i64 a.fee], .agg #[.int .i64 b.kind, .int .i64 b.dir, .int .i64 b.item, .int .i64 b.box, .int .i64 b.who, .slice gb b.gives.length gcb, .int .i64 b.pay, .slice wb b.wants.length wcb, .int .i64 b.fee]] w fun e w' => e = .returned (.bool (sameB a b)) ∧ Below w.heap.size w w' := by
 have HS := hid (show sameB a b = (v && decide (a.wants = b.wants)) by simp [sameB, hn, ← hg])
 have hrun := run_nums a b
 rw [hn] at hrun
 have HG := hid hg
 have H1 := hid h1
 have H2 := hid h2
 have H3 := hid h3
 have H4 := hid h4
 clear hn hg h1 h2 h3 h4
 cases v
 all_goals
  go_enter Tryz.func43, Tryz.ntmps43
  go_wp2_with fail
  refine tkS (S := (fun w' => (Below w.heap.size w w' ∧ w.heap.size < w'.heap.size ∧ ∀ i, w'.cell? ⟨w.heap.size, i, none⟩ = (#[.int .i64 a.kind, .int .i64 a.dir, .int .i64 a.item, .int .i64 a.box, .int .i64 a.who, .slice ga a.gives.length gca, .int .i64 a.pay, .slice wa a.wants.length wca, .int .i64 a.fee][i]? : Option Value)) ∧ (Below w.heap.size w w' ∧ w.heap.size + 1 < w'.heap.size ∧ ∀ i, w'.cell? ⟨w.heap.size + 1, i, none⟩ = (#[.int .i64 b.kind, .int .i64 b.dir, .int .i64 b.item, .int .i64 b.box, .int .i64 b.who, .slice gb b.gives.length gcb, .int .i64 b.pay, .slice wb b.wants.length wcb, .int .i64 b.fee][i]? : Option Value)))) (by (exact Holds.two _ _ _ _ _)) (fun hHeld => ?_)
  refine tkl [0, 2, 1, 3, 4, 5, 6, 7, 8, 9, 10, 11, 12, 13, 14, 15, 16, 17, 18, 19] ?_
  iterate 20
   first
    | refine tW ?_ | refine tN ?_
    | (refine rT (fun K hK => ?_)
       go_simp
       first
        | (go_at_call 78; refine (nums_any _ _ _ _ _ _).mono ?_; rintro e w1 ⟨rfl, hb⟩)
        | (go_at_call 79; with_reducible refine (equal_any _ _ _ _ _ _ _ (H1.out.below hHeld.1.1 (Nat.le_refl _)) (H3.out.below hHeld.1.1 (Nat.le_refl _))).mono ?_; rintro e w1 ⟨rfl, hb⟩; rw [HG.out])
        | (go_at_call 79; with_reducible refine (equal_any _ _ _ _ _ _ _ (H2.out.below hHeld.1.1 (Nat.le_refl _)) (H4.out.below hHeld.1.1 (Nat.le_refl _))).mono ?_; rintro e w1 ⟨rfl, hb⟩)
       try go_wp2_with fail
       refine hK.out _ _ (by (exact Holds.call2 (by assumption) hb)) (fun hHeld => ?_)
       clear hK K)
   try go_frame
  refine tkD ?_
  have hB := hid (show Below w.heap.size w _ from (by assumption : Holds _ _ _ _ ∧ _).1.1)
  go_wp2_with fail
  go_ret
  exact ⟨ret_bool HS.out.symm, hB.out⟩

theorem csame_any (a b : Cm) (ga wa gb wb : Option Addr) (gca wca gcb wcb : Nat) (w : World) (h1 : IntsAt w ga a.gives) (h2 : IntsAt w wa a.wants) (h3 : IntsAt w gb b.gives) (h4 : IntsAt w wb b.wants) :
 Calls Tryz.prog 43 #[.agg #[.int .i64 a.kind, .int .i64 a.dir, .int .i64 a.item, .int .i64 a.box, .int .i64 a.who, .slice ga a.gives.length gca, .int .i64 a.pay, .slice wa a.wants.length wca, .int .i64 a.fee], .agg #[.int .i64 b.kind, .int .i64 b.dir, .int .i64 b.item, .int .i64 b.box, .int .i64 b.who, .slice gb b.gives.length gcb, .int .i64 b.pay, .slice wb b.wants.length wcb, .int .i64 b.fee]] w fun e w' => e = .returned (.bool (sameB a b)) ∧ Below w.heap.size w w' := by
 cases hn : numsB a b
 ·exact csame_no a b ga wa gb wb gca wca gcb wcb w hn
 ·exact csame_yes _ a b ga wa gb wb gca wca gcb wcb w hn rfl h1 h2 h3 h4
end
section
theorem own_any (c : Cm) (ga wa : Option Addr) (gc wc : Nat) (w : World) (hk : isKindB c.kind = true) (h1 : IntsAt w ga c.gives) (h2 : IntsAt w wa c.wants) :
 Calls Tryz.prog 44 #[.agg #[.int .i64 c.kind, .int .i64 c.dir, .int .i64 c.item, .int .i64 c.box, .int .i64 c.who, .slice ga c.gives.length gc, .int .i64 c.pay, .slice wa c.wants.length wc, .int .i64 c.fee]] w (GivesCmd (ownC c) w) := by
 obtain ⟨k, d, i, b, h, gs, p, ws, f⟩ := c
 simp only at hk h1 h2 ⊢
 rcases kinds hk with rfl | rfl | rfl | rfl | rfl | rfl | rfl | rfl | rfl | rfl
 case inr.inr.inr.inr.inr.inr.inr.inl =>
  refine (own_8 d i b h p f gs ws ga wa gc wc w).mono ?_
  rintro e w1 ⟨rfl, hb⟩
  exact ⟨ga, gc, wa, wc, by simp [ownC, keep, keepL], by simpa [ownC, keepL] using h1.below hb (Nat.le_refl _), by simpa [ownC, keepL] using h2.below hb (Nat.le_refl _), hb⟩
 case inl => exact (own_1 d i b h p f gs ws ga wa gc wc w).mono fun e w1 ⟨he, hb⟩ => ⟨none, 0, none, 0, by rw [he]; simp [ownC, keep, keepL], IntsAt.nil _ _, IntsAt.nil _ _, hb⟩
 case inr.inl => exact (own_2 d i b h p f gs ws ga wa gc wc w).mono fun e w1 ⟨he, hb⟩ => ⟨none, 0, none, 0, by rw [he]; simp [ownC, keep, keepL], IntsAt.nil _ _, IntsAt.nil _ _, hb⟩
 case inr.inr.inl => exact (own_3 d i b h p f gs ws ga wa gc wc w).mono fun e w1 ⟨he, hb⟩ => ⟨none, 0, none, 0, by rw [he]; simp [ownC, keep, keepL], IntsAt.nil _ _, IntsAt.nil _ _, hb⟩
 case inr.inr.inr.inl => exact (own_4 d i b h p f gs ws ga wa gc wc w).mono fun e w1 ⟨he, hb⟩ => ⟨none, 0, none, 0, by rw [he]; simp [ownC, keep, keepL], IntsAt.nil _ _, IntsAt.nil _ _, hb⟩
 case inr.inr.inr.inr.inl => exact (own_5 d i b h p f gs ws ga wa gc wc w).mono fun e w1 ⟨he, hb⟩ => ⟨none, 0, none, 0, by rw [he]; simp [ownC, keep, keepL], IntsAt.nil _ _, IntsAt.nil _ _, hb⟩
 case inr.inr.inr.inr.inr.inl => exact (own_6 d i b h p f gs ws ga wa gc wc w).mono fun e w1 ⟨he, hb⟩ => ⟨none, 0, none, 0, by rw [he]; simp [ownC, keep, keepL], IntsAt.nil _ _, IntsAt.nil _ _, hb⟩
 case inr.inr.inr.inr.inr.inr.inl => exact (own_7 d i b h p f gs ws ga wa gc wc w).mono fun e w1 ⟨he, hb⟩ => ⟨none, 0, none, 0, by rw [he]; simp [ownC, keep, keepL], IntsAt.nil _ _, IntsAt.nil _ _, hb⟩
 case inr.inr.inr.inr.inr.inr.inr.inr.inl => exact (own_9 d i b h p f gs ws ga wa gc wc w).mono fun e w1 ⟨he, hb⟩ => ⟨none, 0, none, 0, by rw [he]; simp [ownC, keep, keepL], IntsAt.nil _ _, IntsAt.nil _ _, hb⟩
 case inr.inr.inr.inr.inr.inr.inr.inr.inr => exact (own_10 d i b h p f gs ws ga wa gc wc w).mono fun e w1 ⟨he, hb⟩ => ⟨none, 0, none, 0, by rw [he]; simp [ownC, keep, keepL], IntsAt.nil _ _, IntsAt.nil _ _, hb⟩

theorem may_no (c : Cm) (ga wa : Option Addr) (gc wc : Nat) (w : World) (hk : isKindB c.kind = false) :
 Calls Tryz.prog 18 #[.agg #[.int .i64 c.kind, .int .i64 c.dir, .int .i64 c.item, .int .i64 c.box, .int .i64 c.who, .slice ga c.gives.length gc, .int .i64 c.pay, .slice wa c.wants.length wc, .int .i64 c.fee]] w fun e w' => e = .returned (.bool (mayB c)) ∧ Below w.heap.size w w' := by
 have HS := hid (show mayB c = false by simp [mayB, hk])
 have HK := hid hk
 clear hk
 go_enter Tryz.func18, Tryz.ntmps18
 go_wp2_with fail
 refine tkS (S := (fun w' => Below w.heap.size w w' ∧ w.heap.size < w'.heap.size ∧ ∀ i, w'.cell? ⟨w.heap.size, i, none⟩ = (#[.int .i64 c.kind, .int .i64 c.dir, .int .i64 c.item, .int .i64 c.box, .int .i64 c.who, .slice ga c.gives.length gc, .int .i64 c.pay, .slice wa c.wants.length wc, .int .i64 c.fee][i]? : Option Value))) (by (exact (Holds.new _ _ _).drew)) (fun hHeld => ?_)
 refine tkl [0, 1, 2, 3, 4, 5, 6, 7, 8, 9, 10, 11, 12, 13] ?_
 iterate 14
  first
   | refine tW ?_ | refine tN ?_
   | (refine rT (fun K hK => ?_)
      go_simp
      first
       | (go_at_call 41; refine (iskind_any _ _).mono ?_; rintro e w1 ⟨rfl, rfl⟩; rw [HK.out])
      try go_wp2_with fail
      refine hK.out _ _ (by (exact (Holds.new _ _ _).drew)) (fun hHeld => ?_)
      clear hK K)
  try go_frame
 refine tkD ?_
 have hB := hid (show Below w.heap.size w _ from (by assumption : Holds _ _ _ _).1)
 go_wp2_with fail
 go_ret
 exact ⟨ret_bool HS.out.symm, hB.out⟩

theorem may_within (v : Bool) (c : Cm) (ga wa : Option Addr) (gc wc : Nat) (w : World) (hk : isKindB c.kind = true) (hv : withinB c = v) (h1 : IntsAt w ga c.gives) (h2 : IntsAt w wa c.wants) :
 Calls Tryz.prog 18 #[.agg #[.int .i64 c.kind, .int .i64 c.dir, .int .i64 c.item, .int .i64 c.box, .int .i64 c.who, .slice ga c.gives.length gc, .int .i64 c.pay, .slice wa c.wants.length wc, .int .i64 c.fee]] w fun e w' => e = .returned (.bool (mayB c)) ∧ Below w.heap.size w w' := by
 have HS := hid (show mayB c = (v && sameB c (ownC c)) by simp [mayB, hk, hv])
 have HK := hid hk
 have HV := hid hv
 have H1 := hid h1
 have H2 := hid h2
 clear hk hv h1 h2
 cases v
 all_goals
  go_enter Tryz.func18, Tryz.ntmps18
  go_wp2_with fail
  refine tkS (S := (fun w' => Below w.heap.size w w' ∧ w.heap.size < w'.heap.size ∧ ∀ i, w'.cell? ⟨w.heap.size, i, none⟩ = (#[.int .i64 c.kind, .int .i64 c.dir, .int .i64 c.item, .int .i64 c.box, .int .i64 c.who, .slice ga c.gives.length gc, .int .i64 c.pay, .slice wa c.wants.length wc, .int .i64 c.fee][i]? : Option Value))) (by (exact (Holds.new _ _ _).drew)) (fun hHeld => ?_)
  refine tkl [0, 1, 2, 3, 4, 5, 6, 7, 8, 9, 10, 11, 12, 13] ?_
  iterate 14
   first
    | refine tW ?_ | refine tN ?_
    | (refine rT (fun K hK => ?_)
       go_simp
       first
        | (go_at_call 41; refine (iskind_any _ _).mono ?_; rintro e w1 ⟨rfl, rfl⟩; rw [HK.out])
        | (go_at_call 42; refine (within_any _ _ _ _ _ _ (H1.out.below hHeld.1 (Nat.le_refl _)) (H2.out.below hHeld.1 (Nat.le_refl _))).mono ?_; rintro e w1 ⟨rfl, hb⟩; rw [HV.out])
        | (go_at_call 44; refine (own_any _ _ _ _ _ _ HK.out (H1.out.below hHeld.1 (Nat.le_refl _)) (H2.out.below hHeld.1 (Nat.le_refl _))).mono ?_; rintro e w1 ⟨g2, gc2, u2, uc2, rfl, hg2, hu2, hb⟩)
        | (go_at_call 43; refine (csame_any _ _ _ _ _ _ _ _ _ _ _ (H1.out.below hHeld.1 (Nat.le_refl _)) (H2.out.below hHeld.1 (Nat.le_refl _)) hg2 hu2).mono ?_; rintro e w1 ⟨rfl, hb⟩)
       try go_wp2_with fail
       refine hK.out _ _ (by (first | (exact (Holds.new _ _ _).drew) | (exact Holds.call hHeld hb))) (fun hHeld => ?_)
       clear hK K)
   try go_frame
  refine tkD ?_
  have hB := hid (show Below w.heap.size w _ from (by assumption : Holds _ _ _ _).1)
  go_wp2_with fail
  go_ret
  exact ⟨ret_bool HS.out.symm, hB.out⟩

theorem cmay_any (c : Cm) (ga wa : Option Addr) (gc wc : Nat) (w : World) (h1 : IntsAt w ga c.gives) (h2 : IntsAt w wa c.wants) :
 Calls Tryz.prog 18 #[.agg #[.int .i64 c.kind, .int .i64 c.dir, .int .i64 c.item, .int .i64 c.box, .int .i64 c.who, .slice ga c.gives.length gc, .int .i64 c.pay, .slice wa c.wants.length wc, .int .i64 c.fee]] w fun e w' => e = .returned (.bool (mayB c)) ∧ Below w.heap.size w w' := by
 cases hk : isKindB c.kind
 ·exact may_no c ga wa gc wc w hk
 ·exact may_within _ c ga wa gc wc w hk rfl h1 h2
end
end Go.Proofs.YtgmkcddgkgcbbaaGreat
