import Derived.Test.YtcabeagmdfpdlaaDoorRows
import Derived.Test.YtcabeagmdfpdlaaDoorKit
import Derived.Test.YtcabeagmdfpdlaaDoorStrs
import Derived.Test.YtcabeagmdfpdlaaDoorJTab
import Derived.Test.YtcabeagmdfpdlaaDoorJBlk
import Derived.Test.YtcabeagmdfpdlaaDoorClone
import Derived.Test.YtcabeagmdfpdlaaDoorJMath
import Derived.Test.YtcabeagmdfpdlaaDoorJNum
import Derived.Test.YtcabeagmdfpdlaaDoorJTokWord
import Derived.Test.YtcabeagmdfpdlaaDoorJTokRefWord
import Derived.Test.YtcabeagmdfpdlaaDoorJTokJoin
import Derived.Test.YtcabeagmdfpdlaaDoorJCmdA
import Derived.Test.YtcabeagmdfpdlaaDoorJCmdNames1
import Derived.Test.YtcabeagmdfpdlaaDoorJCmdRefNames
import Derived.Test.YtcabeagmdfpdlaaDoorJRepMath
import Derived.Test.YtcabeagmdfpdlaaDoorJRepItems
import Derived.Test.YtcabeagmdfpdlaaDoorJRepA
import Derived.Test.YtcabeagmdfpdlaaDoorJRepSame
import Derived.Test.YtcabeagmdfpdlaaDoorJRepRefMay
import Derived.Test.YtcabeagmdfpdlaaDoorJRepWords
import Derived.Test.YtcabeagmdfpdlaaDoorJRepRefMath
import Derived.Test.YtcabeagmdfpdlaaDoorJRepPut3
import Derived.Deep.RegionHeld3
import Derived.Laws.Concat
import Derived.WalkKit
import Derived.ProofKit
import Derived.OpenShut
import Derived.IntWalk
/- The document's own Put, of answers. -/
namespace Go.Proofs.YtcabeagmdfpdlaaDoor
open Go.ChangeShapes Go.WideShapes Go.ChangeAt Go.RowKit
set_option linter.unusedVariables false
open Go.RowKit Go
theorem refn_any (n : Int) (w : World) (h : okN n = true) : Calls Tryd.prog 20 #[.int .i64 n] w fun e w' => e = .returned (.string ⟨(nw n).toArray⟩) ∧ Below w.heap.size w w' := by
  have h1 := okN_nat h
  have hw := refword_any n.toNat w (by omega)
  rw [show ((n.toNat : Nat) : Int) = n by omega] at hw
  have HW := Lib.hid hw
  clear hw
  go_enter Tryd.func20, Tryd.ntmps20
  go_wp2_with fail
  refine HW.out.mono ?_
  rintro e w1 ⟨rfl, b1⟩
  go_wp2_with fail
  go_ret
  exact ⟨rfl, b1⟩
theorem add_run (x y z : List UInt8) (hx : x.length ≤ 8388608) (hy : y.length ≤ 8388608) (hz : x ++ y = z) (w : World) : (Op.stringOp .add ⟨x.toArray⟩ ⟨y.toArray⟩).run Tryd.prog w = .ok (.string ⟨z.toArray⟩) w := by
  subst hz; exact run_string_add_lists w x y (by omega) (by omega)
/-- A place's word between gaps. -/
def inW (k : Int) : List UInt8 := 32 :: (placeOf k ++ [32])
theorem in_str (k : Int) (h : pkB k = true) : (#[.string ⟨#[32, 105, 110, 32]⟩, .string ⟨#[32, 119, 105, 116, 104, 32]⟩, .string ⟨#[32, 98, 111, 120, 32]⟩] : Array Value)[k.toNat]? = some (.string ⟨(inW k).toArray⟩) := by
  simp [pkB] at h
  obtain rfl | rfl | rfl : k = 0 ∨ k = 1 ∨ k = 2 := by omega
  all_goals rfl
theorem in_len (k : Int) (h : pkB k = true) : (inW k).length ≤ 6 := by
  have := (place_plain h).2
  simp [inW]; omega
theorem rputOut_eq {r : Rp} {t : List UInt8} (h : rmayB r = true) (ht : textR r = t) : rputOut r = .tuple #[.string ⟨t.toArray⟩, .int .i64 0] := by
  simp [rputOut, rputS, rputN, h, str, ht]
theorem keep_cell {W W1 : World} {p : Addr} {v : Value} (hb : Below W.heap.size W W1) (h : W.cell? p = some v) : W1.cell? p = some v := (hb.cell (World.block_lt_of_cell? W p h)).trans h
section
variable (m c : Int) (ps : List Int) (is : List Sn) (pa ia : Option Addr) (pc ic : Nat) (w : World)
set_option maxRecDepth 100000 in
set_option maxHeartbeats 4000000 in
theorem refput_no (e k : Int) (hm : rmayB ⟨e, k, m, ps, is, c⟩ = false) (i1 : IntsAt w pa ps) (i2 : SnsAt w ia is) :
    Calls Tryd.prog 11 #[.agg #[.int .i64 e, .int .i64 k, .int .i64 m, .slice pa ps.length pc, .slice ia is.length ic, .int .i64 c]] w fun e' w' => e' = .returned (rputOut ⟨e, k, m, ps, is, c⟩) ∧ Below w.heap.size w w' := by
  rw [show rputOut ⟨e, k, m, ps, is, c⟩ = .tuple #[.string ⟨#[]⟩, .int .i64 2] by simp [rputOut, rputS, rputN, hm, str]]
  have HM := Lib.hid hm
  clear hm
  have I1 := Lib.hid (i1.alloc (.cells #[.int .i64 e, .int .i64 k, .int .i64 m, .slice pa ps.length pc, .slice ia is.length ic, .int .i64 c] 26))
  have I2 := Lib.hid (i2.alloc (.cells #[.int .i64 e, .int .i64 k, .int .i64 m, .slice pa ps.length pc, .slice ia is.length ic, .int .i64 c] 26))
  have BL := Lib.hid (show Below w.heap.size w (w.alloc (.cells #[.int .i64 e, .int .i64 k, .int .i64 m, .slice pa ps.length pc, .slice ia is.length ic, .int .i64 c] 26)) from (Below.refl _ _).alloc (Nat.le_refl _) _)
  have HC := Lib.hid (show ∀ i, (w.alloc (.cells #[.int .i64 e, .int .i64 k, .int .i64 m, .slice pa ps.length pc, .slice ia is.length ic, .int .i64 c] 26)).cell? ⟨w.heap.size, i, none⟩ = (#[.int .i64 e, .int .i64 k, .int .i64 m, .slice pa ps.length pc, .slice ia is.length ic, .int .i64 c][i]? : Option Value) from fun i => World.cell?_alloc_at _ _ _ _ rfl)
  have HS := Lib.hid (show w.heap.size < (w.alloc (.cells #[.int .i64 e, .int .i64 k, .int .i64 m, .slice pa ps.length pc, .slice ia is.length ic, .int .i64 c] 26)).heap.size by simp)
  clear i1 i2
  go_enter Tryd.func11, Tryd.ntmps11
  go_wp2_with fail
  generalize (w.alloc (.cells #[.int .i64 e, .int .i64 k, .int .i64 m, .slice pa ps.length pc, .slice ia is.length ic, .int .i64 c] 26)) = W0 at *
  have HK := Lib.hid (fun (W : World) (h : Below W0.heap.size W0 W) => (fun i => (h.cell (p := ⟨w.heap.size, i, none⟩) HS.out).trans (HC.out i) : ∀ i, W.cell? ⟨w.heap.size, i, none⟩ = (#[.int .i64 e, .int .i64 k, .int .i64 m, .slice pa ps.length pc, .slice ia is.length ic, .int .i64 c][i]? : Option Value)))
  clear HC
  refine (rrefmay_any ⟨e, k, m, ps, is, c⟩ pa ia pc ic W0 I1.out I2.out).mono ?_
  rintro e' w1 ⟨rfl, b1⟩
  rw [HM.out]
  have B1 := Lib.hid b1
  have hA := HK.out _ b1
  clear b1
  go_wp2_with fail
  go_ret2
  exact ⟨rfl, bl BL.out B1.out⟩
set_option maxRecDepth 100000 in
set_option maxHeartbeats 4000000 in
theorem refput_err (e k : Int) (h0 : ¬ e = 0) (hm : rmayB ⟨e, k, m, ps, is, c⟩ = true) (i1 : IntsAt w pa ps) (i2 : SnsAt w ia is) :
    Calls Tryd.prog 11 #[.agg #[.int .i64 e, .int .i64 k, .int .i64 m, .slice pa ps.length pc, .slice ia is.length ic, .int .i64 c]] w fun e' w' => e' = .returned (rputOut ⟨e, k, m, ps, is, c⟩) ∧ Below w.heap.size w w' := by
  rw [rputOut_eq hm (text_err h0)]
  have HO := Lib.hid (err_ok (fits_of hm))
  have hd : (e != 0) = true := by simpa using h0
  have ha := add_run [101, 114, 114, 111, 114, 32] (nw e) ([101, 114, 114, 111, 114, 32] ++ nw e) (by decide) (by have := nw_len HO.out; simp only at this; omega) rfl
  generalize [101, 114, 114, 111, 114, 32] ++ nw e = T at *
  have HM := Lib.hid hm
  clear hm h0
  have I1 := Lib.hid (i1.alloc (.cells #[.int .i64 e, .int .i64 k, .int .i64 m, .slice pa ps.length pc, .slice ia is.length ic, .int .i64 c] 26))
  have I2 := Lib.hid (i2.alloc (.cells #[.int .i64 e, .int .i64 k, .int .i64 m, .slice pa ps.length pc, .slice ia is.length ic, .int .i64 c] 26))
  have BL := Lib.hid (show Below w.heap.size w (w.alloc (.cells #[.int .i64 e, .int .i64 k, .int .i64 m, .slice pa ps.length pc, .slice ia is.length ic, .int .i64 c] 26)) from (Below.refl _ _).alloc (Nat.le_refl _) _)
  have HC := Lib.hid (show ∀ i, (w.alloc (.cells #[.int .i64 e, .int .i64 k, .int .i64 m, .slice pa ps.length pc, .slice ia is.length ic, .int .i64 c] 26)).cell? ⟨w.heap.size, i, none⟩ = (#[.int .i64 e, .int .i64 k, .int .i64 m, .slice pa ps.length pc, .slice ia is.length ic, .int .i64 c][i]? : Option Value) from fun i => World.cell?_alloc_at _ _ _ _ rfl)
  have HS := Lib.hid (show w.heap.size < (w.alloc (.cells #[.int .i64 e, .int .i64 k, .int .i64 m, .slice pa ps.length pc, .slice ia is.length ic, .int .i64 c] 26)).heap.size by simp)
  clear i1 i2
  go_enter Tryd.func11, Tryd.ntmps11
  go_wp2_with fail
  generalize (w.alloc (.cells #[.int .i64 e, .int .i64 k, .int .i64 m, .slice pa ps.length pc, .slice ia is.length ic, .int .i64 c] 26)) = W0 at *
  have HK := Lib.hid (fun (W : World) (h : Below W0.heap.size W0 W) => (fun i => (h.cell (p := ⟨w.heap.size, i, none⟩) HS.out).trans (HC.out i) : ∀ i, W.cell? ⟨w.heap.size, i, none⟩ = (#[.int .i64 e, .int .i64 k, .int .i64 m, .slice pa ps.length pc, .slice ia is.length ic, .int .i64 c][i]? : Option Value)))
  clear HC
  refine (rrefmay_any ⟨e, k, m, ps, is, c⟩ pa ia pc ic W0 I1.out I2.out).mono ?_
  rintro e' w1 ⟨rfl, b1⟩
  rw [HM.out]
  have B1 := Lib.hid b1
  have hA := HK.out _ b1
  clear b1
  go_wp2_with fail
  refine (refn_any e _ HO.out).mono ?_
  rintro e' w2 ⟨rfl, b2⟩
  have B2 := Lib.hid (bl B1.out b2)
  clear b2
  go_wp2_with fail
  go_ret2
  exact ⟨rfl, bl BL.out B2.out⟩
set_option maxRecDepth 100000 in
set_option maxHeartbeats 4000000 in
theorem refput_else (k : Int) (h1 : ¬ (k = 1 ∨ k = 2)) (h9 : ¬ k = 9) (h10 : ¬ k = 10) (hm : rmayB ⟨0, k, m, ps, is, c⟩ = true) (i1 : IntsAt w pa ps) (i2 : SnsAt w ia is) :
    Calls Tryd.prog 11 #[.agg #[.int .i64 0, .int .i64 k, .int .i64 m, .slice pa ps.length pc, .slice ia is.length ic, .int .i64 c]] w fun e' w' => e' = .returned (rputOut ⟨0, k, m, ps, is, c⟩) ∧ Below w.heap.size w w' := by
  rw [rputOut_eq hm (text_else h1 h9 h10)]
  have hk := (fits_of hm).kind rfl
  simp only at hk
  have e1 : (k == 1) = false := by rw [beq_eq_false_iff_ne]; omega
  have e2 : (k == 2) = false := by rw [beq_eq_false_iff_ne]; omega
  have e9 : (k == 9) = false := by rw [beq_eq_false_iff_ne]; omega
  have e10 : (k == 10) = false := by rw [beq_eq_false_iff_ne]; omega
  have l9 : k < 9 := by omega
  have HM := Lib.hid hm
  clear hm h1 h9 h10 hk
  have I1 := Lib.hid (i1.alloc (.cells #[.int .i64 0, .int .i64 k, .int .i64 m, .slice pa ps.length pc, .slice ia is.length ic, .int .i64 c] 26))
  have I2 := Lib.hid (i2.alloc (.cells #[.int .i64 0, .int .i64 k, .int .i64 m, .slice pa ps.length pc, .slice ia is.length ic, .int .i64 c] 26))
  have BL := Lib.hid (show Below w.heap.size w (w.alloc (.cells #[.int .i64 0, .int .i64 k, .int .i64 m, .slice pa ps.length pc, .slice ia is.length ic, .int .i64 c] 26)) from (Below.refl _ _).alloc (Nat.le_refl _) _)
  have HC := Lib.hid (show ∀ i, (w.alloc (.cells #[.int .i64 0, .int .i64 k, .int .i64 m, .slice pa ps.length pc, .slice ia is.length ic, .int .i64 c] 26)).cell? ⟨w.heap.size, i, none⟩ = (#[.int .i64 0, .int .i64 k, .int .i64 m, .slice pa ps.length pc, .slice ia is.length ic, .int .i64 c][i]? : Option Value) from fun i => World.cell?_alloc_at _ _ _ _ rfl)
  have HS := Lib.hid (show w.heap.size < (w.alloc (.cells #[.int .i64 0, .int .i64 k, .int .i64 m, .slice pa ps.length pc, .slice ia is.length ic, .int .i64 c] 26)).heap.size by simp)
  clear i1 i2
  go_enter Tryd.func11, Tryd.ntmps11
  go_wp2_with fail
  generalize (w.alloc (.cells #[.int .i64 0, .int .i64 k, .int .i64 m, .slice pa ps.length pc, .slice ia is.length ic, .int .i64 c] 26)) = W0 at *
  have HK := Lib.hid (fun (W : World) (h : Below W0.heap.size W0 W) => (fun i => (h.cell (p := ⟨w.heap.size, i, none⟩) HS.out).trans (HC.out i) : ∀ i, W.cell? ⟨w.heap.size, i, none⟩ = (#[.int .i64 0, .int .i64 k, .int .i64 m, .slice pa ps.length pc, .slice ia is.length ic, .int .i64 c][i]? : Option Value)))
  clear HC
  refine (rrefmay_any ⟨0, k, m, ps, is, c⟩ pa ia pc ic W0 I1.out I2.out).mono ?_
  rintro e' w1 ⟨rfl, b1⟩
  rw [HM.out]
  have B1 := Lib.hid b1
  have hA := HK.out _ b1
  clear b1
  go_wp2_with fail
  refine (refname_any k _).mono ?_
  rintro e' w2 ⟨rfl, b2⟩
  have B2 := Lib.hid (bl B1.out b2)
  have hB := HK.out _ B2.out
  clear b2 hA
  go_wp2_with fail
  go_ret2
  exact ⟨rfl, bl BL.out B2.out⟩
set_option maxRecDepth 100000 in
set_option maxHeartbeats 4000000 in
theorem refput_move (k : Int) (h : k = 1 ∨ k = 2) (hm : rmayB ⟨0, k, m, ps, is, c⟩ = true) (i1 : IntsAt w pa ps) (i2 : SnsAt w ia is) :
    Calls Tryd.prog 11 #[.agg #[.int .i64 0, .int .i64 k, .int .i64 m, .slice pa ps.length pc, .slice ia is.length ic, .int .i64 c]] w fun e' w' => e' = .returned (rputOut ⟨0, k, m, ps, is, c⟩) ∧ Below w.heap.size w w' := by
  rw [rputOut_eq hm (text_move h)]
  have HO := Lib.hid (fits_of hm).room
  have ln := name_len k
  have ha1 := add_run (nameOf k) [32] (nameOf k ++ [32]) (by omega) (by decide) rfl
  have ha2 := add_run (nameOf k ++ [32]) (nw m) ((nameOf k ++ [32]) ++ nw m) (by simp; omega) (by have := nw_len HO.out; simp only at this; omega) rfl
  generalize (nameOf k ++ [32]) ++ nw m = T2 at *
  generalize nameOf k ++ [32] = T1 at *
  have e9 : (k == 9) = false := by rw [beq_eq_false_iff_ne]; omega
  have e10 : (k == 10) = false := by rw [beq_eq_false_iff_ne]; omega
  have l9 : k < 9 := by omega
  have ek : (k == 1) = true ∨ (k == 1) = false ∧ (k == 2) = true := by rcases h with rfl | rfl <;> simp
  have HM := Lib.hid hm
  clear hm h ln
  have I1 := Lib.hid (i1.alloc (.cells #[.int .i64 0, .int .i64 k, .int .i64 m, .slice pa ps.length pc, .slice ia is.length ic, .int .i64 c] 26))
  have I2 := Lib.hid (i2.alloc (.cells #[.int .i64 0, .int .i64 k, .int .i64 m, .slice pa ps.length pc, .slice ia is.length ic, .int .i64 c] 26))
  have BL := Lib.hid (show Below w.heap.size w (w.alloc (.cells #[.int .i64 0, .int .i64 k, .int .i64 m, .slice pa ps.length pc, .slice ia is.length ic, .int .i64 c] 26)) from (Below.refl _ _).alloc (Nat.le_refl _) _)
  have HC := Lib.hid (show ∀ i, (w.alloc (.cells #[.int .i64 0, .int .i64 k, .int .i64 m, .slice pa ps.length pc, .slice ia is.length ic, .int .i64 c] 26)).cell? ⟨w.heap.size, i, none⟩ = (#[.int .i64 0, .int .i64 k, .int .i64 m, .slice pa ps.length pc, .slice ia is.length ic, .int .i64 c][i]? : Option Value) from fun i => World.cell?_alloc_at _ _ _ _ rfl)
  have HS := Lib.hid (show w.heap.size < (w.alloc (.cells #[.int .i64 0, .int .i64 k, .int .i64 m, .slice pa ps.length pc, .slice ia is.length ic, .int .i64 c] 26)).heap.size by simp)
  clear i1 i2
  go_enter Tryd.func11, Tryd.ntmps11
  go_wp2_with fail
  generalize (w.alloc (.cells #[.int .i64 0, .int .i64 k, .int .i64 m, .slice pa ps.length pc, .slice ia is.length ic, .int .i64 c] 26)) = W0 at *
  have HK := Lib.hid (fun (W : World) (h : Below W0.heap.size W0 W) => (fun i => (h.cell (p := ⟨w.heap.size, i, none⟩) HS.out).trans (HC.out i) : ∀ i, W.cell? ⟨w.heap.size, i, none⟩ = (#[.int .i64 0, .int .i64 k, .int .i64 m, .slice pa ps.length pc, .slice ia is.length ic, .int .i64 c][i]? : Option Value)))
  clear HC
  refine (rrefmay_any ⟨0, k, m, ps, is, c⟩ pa ia pc ic W0 I1.out I2.out).mono ?_
  rintro e' w1 ⟨rfl, b1⟩
  rw [HM.out]
  have B1 := Lib.hid b1
  have hA := HK.out _ b1
  clear b1
  go_wp2_with fail
  refine (refname_any k _).mono ?_
  rintro e' w2 ⟨rfl, b2⟩
  have B2 := Lib.hid (bl B1.out b2)
  have hB := HK.out _ B2.out
  clear b2 hA
  rcases ek with ek | ⟨ek, ek2⟩
  all_goals
    go_wp2_with fail
    refine (refn_any m _ HO.out).mono ?_
    rintro e' w3 ⟨rfl, b3⟩
    have B3 := Lib.hid (bl B2.out b3)
    have hC := HK.out _ B3.out
    clear b3
    go_wp2_with fail
    go_ret2
    exact ⟨rfl, bl BL.out B3.out⟩
end
end Go.Proofs.YtcabeagmdfpdlaaDoor
/- The document's own Put, of what one has. -/
namespace Go.Proofs.YtcabeagmdfpdlaaDoor
open Go.ChangeShapes Go.WideShapes Go.ChangeAt Go.RowKit
set_option linter.unusedVariables false
open Go.RowKit Go
section
variable (m c : Int) (ps : List Int) (is : List Sn) (pa ia : Option Addr) (pc ic : Nat) (w : World)
set_option maxRecDepth 100000 in
set_option maxHeartbeats 4000000 in
theorem refput_own (hm : rmayB ⟨0, 10, m, ps, is, c⟩ = true) (i1 : IntsAt w pa ps) (i2 : SnsAt w ia is) :
    Calls Tryd.prog 11 #[.agg #[.int .i64 0, .int .i64 10, .int .i64 m, .slice pa ps.length pc, .slice ia is.length ic, .int .i64 c]] w fun e' w' => e' = .returned (rputOut ⟨0, 10, m, ps, is, c⟩) ∧ Below w.heap.size w w' := by
  rw [rputOut_eq hm text_own]
  have HO := Lib.hid (fits_of hm).coins
  have HIT := Lib.hid (fits_of hm).items
  have HLI := Lib.hid (fits_of hm).ilen
  have lm : (nw c).length ≤ 10 := nw_len HO.out
  have ln : (nameOf 10).length ≤ 5 := name_len 10
  have ha1 := add_run (nameOf 10) [32] (nameOf 10 ++ [32]) (by omega) (by decide) rfl
  have ha2 := add_run (nameOf 10 ++ [32]) (nw c) ((nameOf 10 ++ [32]) ++ nw c) (by simp; omega) (by omega) rfl
  have ha3 := add_run ((nameOf 10 ++ [32]) ++ nw c) [32, 105, 116, 101, 109, 115] (((nameOf 10 ++ [32]) ++ nw c) ++ [32, 105, 116, 101, 109, 115]) (by simp; omega) (by decide) rfl
  have HTL := Lib.hid (show (((nameOf 10 ++ [32]) ++ nw c) ++ [32, 105, 116, 101, 109, 115]).length ≤ 400 by simp; omega)
  generalize ((nameOf 10 ++ [32]) ++ nw c) ++ [32, 105, 116, 101, 109, 115] = T0 at *
  generalize (nameOf 10 ++ [32]) ++ nw c = T2 at *
  generalize nameOf 10 ++ [32] = T1 at *
  have HM := Lib.hid hm
  clear hm ln lm
  have I1 := Lib.hid (i1.alloc (.cells #[.int .i64 0, .int .i64 10, .int .i64 m, .slice pa ps.length pc, .slice ia is.length ic, .int .i64 c] 26))
  have I2 := Lib.hid (i2.alloc (.cells #[.int .i64 0, .int .i64 10, .int .i64 m, .slice pa ps.length pc, .slice ia is.length ic, .int .i64 c] 26))
  have BL := Lib.hid (show Below w.heap.size w (w.alloc (.cells #[.int .i64 0, .int .i64 10, .int .i64 m, .slice pa ps.length pc, .slice ia is.length ic, .int .i64 c] 26)) from (Below.refl _ _).alloc (Nat.le_refl _) _)
  have HC := Lib.hid (show ∀ i, (w.alloc (.cells #[.int .i64 0, .int .i64 10, .int .i64 m, .slice pa ps.length pc, .slice ia is.length ic, .int .i64 c] 26)).cell? ⟨w.heap.size, i, none⟩ = (#[.int .i64 0, .int .i64 10, .int .i64 m, .slice pa ps.length pc, .slice ia is.length ic, .int .i64 c][i]? : Option Value) from fun i => World.cell?_alloc_at _ _ _ _ rfl)
  have HS := Lib.hid (show w.heap.size < (w.alloc (.cells #[.int .i64 0, .int .i64 10, .int .i64 m, .slice pa ps.length pc, .slice ia is.length ic, .int .i64 c] 26)).heap.size by simp)
  clear i1 i2
  go_enter Tryd.func11, Tryd.ntmps11
  go_wp2_with fail
  generalize (w.alloc (.cells #[.int .i64 0, .int .i64 10, .int .i64 m, .slice pa ps.length pc, .slice ia is.length ic, .int .i64 c] 26)) = W0 at *
  have HK := Lib.hid (fun (W : World) (h : Below W0.heap.size W0 W) => (fun i => (h.cell (p := ⟨w.heap.size, i, none⟩) HS.out).trans (HC.out i) : ∀ i, W.cell? ⟨w.heap.size, i, none⟩ = (#[.int .i64 0, .int .i64 10, .int .i64 m, .slice pa ps.length pc, .slice ia is.length ic, .int .i64 c][i]? : Option Value)))
  clear HC
  refine (rrefmay_any ⟨0, 10, m, ps, is, c⟩ pa ia pc ic W0 I1.out I2.out).mono ?_
  rintro e' w1 ⟨rfl, b1⟩
  rw [HM.out]
  have B1 := Lib.hid b1
  have hA := HK.out _ b1
  clear b1
  go_wp2_with fail
  refine (refname_any 10 _).mono ?_
  rintro e' w2 ⟨rfl, b2⟩
  have B2 := Lib.hid (bl B1.out b2)
  have hB := HK.out _ B2.out
  clear b2 hA
  go_wp2_with fail
  refine (refn_any c _ HO.out).mono ?_
  rintro e' w3 ⟨rfl, b3⟩
  have BZ := Lib.hid (bl B2.out b3)
  have hC := HK.out _ BZ.out
  clear b3 hB
  go_wp2_with fail
  clear hC ha1 ha2 ha3
  go_loopw [4, 6] (fun s i wr => ∃ j : Nat, j ≤ is.length ∧ i = .int .i64 j ∧ s = .string ⟨(T0 ++ (is.take j).flatMap seenT).toArray⟩ ∧ Below W0.heap.size W0 wr) (fun _ i _ => is.length - (intOf i).toNat)
  case atStart => exact ⟨0, Nat.zero_le _, rfl, by simp, BZ.out⟩
  case round =>
    obtain ⟨j, hj, rfl, rfl, hbel⟩ := hrel
    have HBL := Lib.hid hbel
    clear hbel
    by_cases hlt : j < is.length
    · obtain ⟨xb, xo, rfl, hxb, hxc⟩ := I2.out.at_ hlt
      obtain ⟨p1, p2, p3⟩ := snB_parts (HIT.out _ (List.getElem_mem hlt))
      have HTS := Lib.hid (itake_succ is j hlt)
      have tl : (T0 ++ (is.take j).flatMap seenT).length ≤ 1000 := by
        have h1 := itake_len (is.take j) (fun s hs => HIT.out s (List.mem_of_mem_take hs))
        have h2 := List.length_take_le' j is
        have := HTL.out; have := HLI.out
        rw [List.length_append]
        have h3 : 30 * (is.take j).length ≤ 30 * 16 := Nat.mul_le_mul_left _ (by omega)
        omega
      have HX := Lib.hid (hxc j hlt)
      have hwr : IntKind.i64.wrap ((j : Int) + 1) = (j : Int) + 1 := IntWalk.i64_in _ (by have h1 : is.length ≤ 16 := HLI.out; omega)
      clear hxc
      have HST : Hid (seenT is[j] = ((32 :: nw is[j].item) ++ inW is[j].kind) ++ nw is[j].id) := Lib.hid rfl
      generalize is[j] = x at *
      obtain ⟨xi, xk, xd⟩ := x
      simp only at p1 p2 p3
      have P2 := Lib.hid p2
      have P3 := Lib.hid p3
      have hg := in_str xk p1
      have hgl := in_len xk p1
      have k0 : 0 ≤ xk := by simp [pkB] at p1; omega
      have k3 : xk < 3 := by simp [pkB] at p1; omega
      have n1 := nw_len p2
      have n2 := nw_len p3
      have HT := Lib.hid (show T0 ++ (is.take (j + 1)).flatMap seenT = (((((T0 ++ (is.take j).flatMap seenT) ++ [32]) ++ nw xi) ++ inW xk) ++ nw xd) by rw [HTS.out, HST.out]; simp)
      clear p1 p2 p3 HST HTS
      generalize T0 ++ (is.take j).flatMap seenT = T at *
      have ha1 := add_run T [32] (T ++ [32]) (by omega) (by decide) rfl
      have ha2 := add_run (T ++ [32]) (nw xi) ((T ++ [32]) ++ nw xi) (by simp; omega) (by omega) rfl
      have ha3 := add_run ((T ++ [32]) ++ nw xi) (inW xk) (((T ++ [32]) ++ nw xi) ++ inW xk) (by simp; omega) (by omega) rfl
      have ha4 := add_run (((T ++ [32]) ++ nw xi) ++ inW xk) (nw xd) ((((T ++ [32]) ++ nw xi) ++ inW xk) ++ nw xd) (by simp; omega) (by omega) rfl
      generalize (((T ++ [32]) ++ nw xi) ++ inW xk) ++ nw xd = T4 at *
      generalize ((T ++ [32]) ++ nw xi) ++ inW xk = T3 at *
      generalize (T ++ [32]) ++ nw xi = T2 at *
      generalize T ++ [32] = T1 at *
      generalize inW xk = yk at *
      have SF := Lib.hid (fun (W : World) (h : Below W0.heap.size W0 W) => (⟨h, HK.out W h, (h.cell (p := ⟨xb, xo + j * 3, none⟩) hxb).trans HX.out.1, (h.cell (p := ⟨xb, xo + j * 3 + 1, none⟩) hxb).trans HX.out.2.1, (h.cell (p := ⟨xb, xo + j * 3 + 2, none⟩) hxb).trans HX.out.2.2⟩ :
        Below W0.heap.size W0 W ∧ (∀ i, W.cell? ⟨w.heap.size, i, none⟩ = (#[.int .i64 0, .int .i64 10, .int .i64 m, .slice pa ps.length pc, .slice (some ⟨xb, xo, none⟩) is.length ic, .int .i64 c][i]? : Option Value)) ∧ W.cell? ⟨xb, xo + j * 3, none⟩ = some (.int .i64 xi) ∧ W.cell? ⟨xb, xo + j * 3 + 1, none⟩ = some (.int .i64 xk) ∧ W.cell? ⟨xb, xo + j * 3 + 2, none⟩ = some (.int .i64 xd)))
      have BD := Lib.hid (show Below W0.heap.size W0 wr.drew from ⟨HBL.out.os, HBL.out.tape, HBL.out.output, HBL.out.size, HBL.out.block⟩)
      have hA := HK.out _ HBL.out
      have HH := Lib.hid hg
      have HTL4 := Lib.hid tl
      clear hg hgl n1 n2 tl
      go_wp2_with fail
      clear hA
      refine wp_region_noPanic ?_
      refine wp_region_held_drew (S := (fun w' => Below W0.heap.size W0 w' ∧ (∀ i, w'.cell? ⟨w.heap.size, i, none⟩ = (#[.int .i64 0, .int .i64 10, .int .i64 m, .slice pa ps.length pc, .slice (some ⟨xb, xo, none⟩) is.length ic, .int .i64 c][i]? : Option Value)) ∧ w'.cell? ⟨xb, xo + j * 3, none⟩ = some (.int .i64 xi) ∧ w'.cell? ⟨xb, xo + j * 3 + 1, none⟩ = some (.int .i64 xk) ∧ w'.cell? ⟨xb, xo + j * 3 + 2, none⟩ = some (.int .i64 xd))) (by kernel_rfl) (by (first | (exact ⟨SF.out _ (bl hHeld.1.1 HCB.out), keep_cell HCB.out hHeld.2⟩) | (exact SF.out _ BD.out) | (exact SF.out _ (bl hHeld.1 HCB.out)) | (exact SF.out _ (hHeld.1.alloc hHeld.1.size _)))) (fun hHeld => ?_)
      refine wpAnyH_take (i := 0) (v := ?_) (by simp only [List.getElem?_toArray, List.getElem?_cons_zero]; rfl) (by kernel_rfl) (by kernel_rfl) (by kernel_rfl) (fun _ _ _ h => h) (Or.inl ⟨by rfl, ?_⟩) (by assumption) ?_
      rotate_left
      · (intro ww hSw; (try dsimp only at hSw); go_simp; (try with_reducible rfl))
      try simp only [Act.put, List.setIfInBounds_toArray, List.set_cons_zero, List.set_cons_succ]
      refine wpAnyH_take (i := 1) (v := ?_) (by simp only [List.getElem?_toArray, List.getElem?_cons_succ, List.getElem?_cons_zero]; rfl) (by kernel_rfl) (by kernel_rfl) (by kernel_rfl) (fun _ _ _ h => h) (Or.inl ⟨by rfl, ?_⟩) (by assumption) ?_
      rotate_left
      · (intro ww hSw; (try dsimp only at hSw); go_simp; (try with_reducible rfl))
      try simp only [Act.put, List.setIfInBounds_toArray, List.set_cons_zero, List.set_cons_succ]
      refine wpAnyH_take (i := 2) (v := ?_) (by simp only [List.getElem?_toArray, List.getElem?_cons_succ, List.getElem?_cons_zero]; rfl) (by kernel_rfl) (by kernel_rfl) (by kernel_rfl) (fun _ _ _ h => h) (Or.inl ⟨by rfl, ?_⟩) (by assumption) ?_
      rotate_left
      · (intro ww hSw; (try dsimp only at hSw); go_simp; (try with_reducible rfl))
      try simp only [Act.put, List.setIfInBounds_toArray, List.set_cons_zero, List.set_cons_succ]
      refine wpAnyH_take (i := 3) (v := ?_) (by simp only [List.getElem?_toArray, List.getElem?_cons_succ, List.getElem?_cons_zero]; rfl) (by kernel_rfl) (by kernel_rfl) (by kernel_rfl) (fun _ _ _ h => h) (Or.inl ⟨by rfl, ?_⟩) (by assumption) ?_
      rotate_left
      · (intro ww hSw; (try dsimp only at hSw); go_simp; (try with_reducible rfl))
      try simp only [Act.put, List.setIfInBounds_toArray, List.set_cons_zero, List.set_cons_succ]
      refine wpAnyH_take (i := 4) (v := ?_) (by simp only [List.getElem?_toArray, List.getElem?_cons_succ, List.getElem?_cons_zero]; rfl) (by kernel_rfl) (by kernel_rfl) (by kernel_rfl) (fun _ _ _ h => h) (Or.inl ⟨by rfl, ?_⟩) (by assumption) ?_
      rotate_left
      · (intro ww hSw; (try dsimp only at hSw); go_simp; (try with_reducible rfl))
      try simp only [Act.put, List.setIfInBounds_toArray, List.set_cons_zero, List.set_cons_succ]
      refine wpAnyH_take (i := 5) (v := ?_) (by simp only [List.getElem?_toArray, List.getElem?_cons_succ, List.getElem?_cons_zero]; rfl) (by kernel_rfl) (by kernel_rfl) (by kernel_rfl) (fun _ _ _ h => h) (Or.inl ⟨by rfl, ?_⟩) (by assumption) ?_
      rotate_left
      · (intro ww hSw; (try dsimp only at hSw); go_simp; (try with_reducible rfl))
      try simp only [Act.put, List.setIfInBounds_toArray, List.set_cons_zero, List.set_cons_succ]
      refine wpAnyH_take (i := 6) (v := ?_) (by simp only [List.getElem?_toArray, List.getElem?_cons_succ, List.getElem?_cons_zero]; rfl) (by kernel_rfl) (by kernel_rfl) (by kernel_rfl) (fun _ _ _ h => h) (Or.inl ⟨by rfl, ?_⟩) (by assumption) ?_
      rotate_left
      · (intro ww hSw; (try dsimp only at hSw); go_simp; (try with_reducible rfl))
      try simp only [Act.put, List.setIfInBounds_toArray, List.set_cons_zero, List.set_cons_succ]
      refine wpAnyH_take (i := 7) (v := ?_) (by simp only [List.getElem?_toArray, List.getElem?_cons_succ, List.getElem?_cons_zero]; rfl) (by kernel_rfl) (by kernel_rfl) (by kernel_rfl) (fun _ _ _ h => h) (Or.inl ⟨by rfl, ?_⟩) (by assumption) ?_
      rotate_left
      · (intro ww hSw; (try dsimp only at hSw); go_simp; (try with_reducible rfl))
      try simp only [Act.put, List.setIfInBounds_toArray, List.set_cons_zero, List.set_cons_succ]
      refine wpAnyH_take (i := 11) (v := ?_) (by simp only [List.getElem?_toArray, List.getElem?_cons_succ, List.getElem?_cons_zero]; rfl) (by kernel_rfl) (by kernel_rfl) (by kernel_rfl) (fun _ _ _ h => h) (Or.inl ⟨by rfl, ?_⟩) (by assumption) ?_
      rotate_left
      · (intro ww hSw; (try dsimp only at hSw); go_simp; (try with_reducible rfl))
      try simp only [Act.put, List.setIfInBounds_toArray, List.set_cons_zero, List.set_cons_succ]
      refine wpAnyH_take (i := 12) (v := ?_) (by simp only [List.getElem?_toArray, List.getElem?_cons_succ, List.getElem?_cons_zero]; rfl) (by kernel_rfl) (by kernel_rfl) (by kernel_rfl) (fun _ _ _ h => h) (Or.inl ⟨by rfl, ?_⟩) (by assumption) ?_
      rotate_left
      · (intro ww hSw; (try dsimp only at hSw); go_simp; (try with_reducible rfl))
      try simp only [Act.put, List.setIfInBounds_toArray, List.set_cons_zero, List.set_cons_succ]
      refine wpAnyH_take (i := 13) (v := ?_) (by simp only [List.getElem?_toArray, List.getElem?_cons_succ, List.getElem?_cons_zero]; rfl) (by kernel_rfl) (by kernel_rfl) (by kernel_rfl) (fun _ _ _ h => h) (Or.inl ⟨by rfl, ?_⟩) (by assumption) ?_
      rotate_left
      · (intro ww hSw; (try dsimp only at hSw); go_simp; (try with_reducible rfl))
      try simp only [Act.put, List.setIfInBounds_toArray, List.set_cons_zero, List.set_cons_succ]
      refine wpAnyH_take (i := 14) (v := ?_) (by simp only [List.getElem?_toArray, List.getElem?_cons_succ, List.getElem?_cons_zero]; rfl) (by kernel_rfl) (by kernel_rfl) (by kernel_rfl) (fun _ _ _ h => h) (Or.inl ⟨by rfl, ?_⟩) (by assumption) ?_
      rotate_left
      · (intro ww hSw; (try dsimp only at hSw); go_simp; (try with_reducible rfl))
      try simp only [Act.put, List.setIfInBounds_toArray, List.set_cons_zero, List.set_cons_succ]
      refine wpAnyH_take (i := 15) (v := ?_) (by simp only [List.getElem?_toArray, List.getElem?_cons_succ, List.getElem?_cons_zero]; rfl) (by kernel_rfl) (by kernel_rfl) (by kernel_rfl) (fun _ _ _ h => h) (Or.inl ⟨by rfl, ?_⟩) (by assumption) ?_
      rotate_left
      · (intro ww hSw; (try dsimp only at hSw); go_simp; (try with_reducible rfl))
      try simp only [Act.put, List.setIfInBounds_toArray, List.set_cons_zero, List.set_cons_succ]
      refine wpAnyH_take (i := 16) (v := ?_) (by simp only [List.getElem?_toArray, List.getElem?_cons_succ, List.getElem?_cons_zero]; rfl) (by kernel_rfl) (by kernel_rfl) (by kernel_rfl) (fun _ _ _ h => h) (Or.inl ⟨by rfl, ?_⟩) (by assumption) ?_
      rotate_left
      · (intro ww hSw; (try dsimp only at hSw); go_simp; (try with_reducible rfl))
      try simp only [Act.put, List.setIfInBounds_toArray, List.set_cons_zero, List.set_cons_succ]
      refine wpAnyH_take (i := 17) (v := ?_) (by simp only [List.getElem?_toArray, List.getElem?_cons_succ, List.getElem?_cons_zero]; rfl) (by kernel_rfl) (by kernel_rfl) (by kernel_rfl) (fun _ _ _ h => h) (Or.inl ⟨by rfl, ?_⟩) (by assumption) ?_
      rotate_left
      · (intro ww hSw; (try dsimp only at hSw); go_simp; (try with_reducible rfl))
      try simp only [Act.put, List.setIfInBounds_toArray, List.set_cons_zero, List.set_cons_succ]
      refine wpAnyH_take (i := 21) (v := ?_) (by simp only [List.getElem?_toArray, List.getElem?_cons_succ, List.getElem?_cons_zero]; rfl) (by kernel_rfl) (by kernel_rfl) (by kernel_rfl) (fun _ _ _ h => h) (Or.inl ⟨by rfl, ?_⟩) (by assumption) ?_
      rotate_left
      · (intro ww hSw; (try dsimp only at hSw); go_simp; (try with_reducible rfl))
      try simp only [Act.put, List.setIfInBounds_toArray, List.set_cons_zero, List.set_cons_succ]
      refine wpAnyH_take (i := 22) (v := ?_) (by simp only [List.getElem?_toArray, List.getElem?_cons_succ, List.getElem?_cons_zero]; rfl) (by kernel_rfl) (by kernel_rfl) (by kernel_rfl) (fun _ _ _ h => h) (Or.inl ⟨by rfl, ?_⟩) (by assumption) ?_
      rotate_left
      · (intro ww hSw; (try dsimp only at hSw); go_simp; (try with_reducible rfl))
      try simp only [Act.put, List.setIfInBounds_toArray, List.set_cons_zero, List.set_cons_succ]
      refine wpAnyH_take (i := 23) (v := ?_) (by simp only [List.getElem?_toArray, List.getElem?_cons_succ, List.getElem?_cons_zero]; rfl) (by kernel_rfl) (by kernel_rfl) (by kernel_rfl) (fun _ _ _ h => h) (Or.inl ⟨by rfl, ?_⟩) (by assumption) ?_
      rotate_left
      · (intro ww hSw; (try dsimp only at hSw); go_simp; (try with_reducible rfl))
      try simp only [Act.put, List.setIfInBounds_toArray, List.set_cons_zero, List.set_cons_succ]
      refine wpAnyH_take (i := 24) (v := ?_) (by simp only [List.getElem?_toArray, List.getElem?_cons_succ, List.getElem?_cons_zero]; rfl) (by kernel_rfl) (by kernel_rfl) (by kernel_rfl) (fun _ _ _ h => h) (Or.inl ⟨by rfl, ?_⟩) (by assumption) ?_
      rotate_left
      · (intro ww hSw; (try dsimp only at hSw); go_simp; (try with_reducible rfl))
      try simp only [Act.put, List.setIfInBounds_toArray, List.set_cons_zero, List.set_cons_succ]
      refine wpAnyH_take (i := 25) (v := ?_) (by simp only [List.getElem?_toArray, List.getElem?_cons_succ, List.getElem?_cons_zero]; rfl) (by kernel_rfl) (by kernel_rfl) (by kernel_rfl) (fun _ _ _ h => h) (Or.inl ⟨by rfl, ?_⟩) (by assumption) ?_
      rotate_left
      · (intro ww hSw; (try dsimp only at hSw); go_simp; (try with_reducible rfl))
      try simp only [Act.put, List.setIfInBounds_toArray, List.set_cons_zero, List.set_cons_succ]
      refine wpAnyH_take (i := 26) (v := ?_) (by simp only [List.getElem?_toArray, List.getElem?_cons_succ, List.getElem?_cons_zero]; rfl) (by kernel_rfl) (by kernel_rfl) (by kernel_rfl) (fun _ _ _ h => h) (Or.inl ⟨by rfl, ?_⟩) (by assumption) ?_
      rotate_left
      · (intro ww hSw; (try dsimp only at hSw); go_simp; (try with_reducible rfl))
      try simp only [Act.put, List.setIfInBounds_toArray, List.set_cons_zero, List.set_cons_succ]
      refine wpAnyH_take (i := 27) (v := ?_) (by simp only [List.getElem?_toArray, List.getElem?_cons_succ, List.getElem?_cons_zero]; rfl) (by kernel_rfl) (by kernel_rfl) (by kernel_rfl) (fun _ _ _ h => h) (Or.inl ⟨by rfl, ?_⟩) (by assumption) ?_
      rotate_left
      · (intro ww hSw; (try dsimp only at hSw); go_simp; (try with_reducible rfl))
      try simp only [Act.put, List.setIfInBounds_toArray, List.set_cons_zero, List.set_cons_succ]
      refine wpAnyH_ready (rs := [8, 10]) (by kernel_rfl) (by simp) (AllReadyH.cons (by simp only [List.getElem?_toArray, List.getElem?_cons_succ, List.getElem?_cons_zero]; rfl) (fun K hK => ?_) (AllReadyH.cons (by simp only [List.getElem?_toArray, List.getElem?_cons_succ, List.getElem?_cons_zero]; rfl) (fun K hK => ?_) AllReadyH.nil))
      ·
        go_simp
        go_at_call 20; (with_reducible refine (refn_any xi _ P2.out).mono ?_); rintro e' wA ⟨rfl, hb⟩; have HCB := Lib.hid hb; clear hb
        try go_wp2_with fail
        refine hK.out _ _ (by (first | (exact ⟨SF.out _ (bl hHeld.1.1 HCB.out), keep_cell HCB.out hHeld.2⟩) | (exact SF.out _ BD.out) | (exact SF.out _ (bl hHeld.1 HCB.out)) | (exact SF.out _ (hHeld.1.alloc hHeld.1.size _)))) (fun hHeld => ?_)
        clear hK K
        try simp only [Act.put, List.setIfInBounds_toArray, List.set_cons_zero, List.set_cons_succ]
        clear HCB
        refine wpAnyH_take (i := 9) (v := ?_) (by simp only [List.getElem?_toArray, List.getElem?_cons_succ, List.getElem?_cons_zero]; rfl) (by kernel_rfl) (by kernel_rfl) (by kernel_rfl) (fun _ _ _ h => h) (Or.inl ⟨by rfl, ?_⟩) (by assumption) ?_
        rotate_left
        · (intro ww hSw; (try dsimp only at hSw); go_simp; (try with_reducible rfl))
        try simp only [Act.put, List.setIfInBounds_toArray, List.set_cons_zero, List.set_cons_succ]
        refine wpAnyH_ready (rs := [10, 28]) (by kernel_rfl) (by simp) (AllReadyH.cons (by simp only [List.getElem?_toArray, List.getElem?_cons_succ, List.getElem?_cons_zero]; rfl) (fun K hK => ?_) (AllReadyH.cons (by simp only [List.getElem?_toArray, List.getElem?_cons_succ, List.getElem?_cons_zero]; rfl) (fun K hK => ?_) AllReadyH.nil))
        ·
          go_simp
          try go_wp2_with fail
          refine hK.out _ _ (by (first | (exact ⟨SF.out _ (bl hHeld.1.1 HCB.out), keep_cell HCB.out hHeld.2⟩) | (exact SF.out _ BD.out) | (exact SF.out _ (bl hHeld.1 HCB.out)) | (exact SF.out _ (hHeld.1.alloc hHeld.1.size _)))) (fun hHeld => ?_)
          clear hK K
          try simp only [Act.put, List.setIfInBounds_toArray, List.set_cons_zero, List.set_cons_succ]
          have hRow : (wA.alloc (.cells #[.string ⟨#[32, 105, 110, 32]⟩, .string ⟨#[32, 119, 105, 116, 104, 32]⟩, .string ⟨#[32, 98, 111, 120, 32]⟩] 9)).cell? ⟨wA.heap.size, xk.toNat, none⟩ = some (.string ⟨yk.toArray⟩) := (World.cell?_alloc_at _ _ _ _ rfl).trans HH.out
          refine wpAnyH_mono (S' := fun w' => (Below W0.heap.size W0 w' ∧ (∀ i, w'.cell? ⟨w.heap.size, i, none⟩ = (#[.int .i64 0, .int .i64 10, .int .i64 m, .slice pa ps.length pc, .slice (some ⟨xb, xo, none⟩) is.length ic, .int .i64 c][i]? : Option Value)) ∧ w'.cell? ⟨xb, xo + j * 3, none⟩ = some (.int .i64 xi) ∧ w'.cell? ⟨xb, xo + j * 3 + 1, none⟩ = some (.int .i64 xk) ∧ w'.cell? ⟨xb, xo + j * 3 + 2, none⟩ = some (.int .i64 xd)) ∧ w'.cell? ⟨wA.heap.size, xk.toNat, none⟩ = some (.string ⟨yk.toArray⟩)) (fun ww h => h.1) _ _ _ _ ?_
          have hHeld := And.intro hHeld hRow
          clear hRow
          refine wpAnyH_take (i := 18) (v := ?_) (by simp only [List.getElem?_toArray, List.getElem?_cons_succ, List.getElem?_cons_zero]; rfl) (by kernel_rfl) (by kernel_rfl) (by kernel_rfl) (fun _ _ _ h => h) (Or.inl ⟨by rfl, ?_⟩) (by assumption) ?_
          rotate_left
          · (intro ww hSw; (try dsimp only at hSw); go_simp; (try with_reducible rfl))
          try simp only [Act.put, List.setIfInBounds_toArray, List.set_cons_zero, List.set_cons_succ]
          refine wpAnyH_take (i := 19) (v := ?_) (by simp only [List.getElem?_toArray, List.getElem?_cons_succ, List.getElem?_cons_zero]; rfl) (by kernel_rfl) (by kernel_rfl) (by kernel_rfl) (fun _ _ _ h => h) (Or.inl ⟨by rfl, ?_⟩) (by assumption) ?_
          rotate_left
          · (intro ww hSw; (try dsimp only at hSw); go_simp; (try with_reducible rfl))
          try simp only [Act.put, List.setIfInBounds_toArray, List.set_cons_zero, List.set_cons_succ]
          refine wpAnyH_take (i := 20) (v := ?_) (by simp only [List.getElem?_toArray, List.getElem?_cons_succ, List.getElem?_cons_zero]; rfl) (by kernel_rfl) (by kernel_rfl) (by kernel_rfl) (fun _ _ _ h => h) (Or.inl ⟨by rfl, ?_⟩) (by assumption) ?_
          rotate_left
          · (intro ww hSw; (try dsimp only at hSw); go_simp; (try with_reducible rfl))
          try simp only [Act.put, List.setIfInBounds_toArray, List.set_cons_zero, List.set_cons_succ]
          refine wpAnyH_ready (rs := [28]) (by kernel_rfl) (by simp) (AllReadyH.cons (by simp only [List.getElem?_toArray, List.getElem?_cons_succ, List.getElem?_cons_zero]; rfl) (fun K hK => ?_) AllReadyH.nil)
          go_simp
          go_at_call 20; (with_reducible refine (refn_any xd _ P3.out).mono ?_); rintro e' wB ⟨rfl, hb⟩; have HCB := Lib.hid hb; clear hb
          try go_wp2_with fail
          refine hK.out _ _ (by (first | (exact ⟨SF.out _ (bl hHeld.1.1 HCB.out), keep_cell HCB.out hHeld.2⟩) | (exact SF.out _ BD.out) | (exact SF.out _ (bl hHeld.1 HCB.out)) | (exact SF.out _ (hHeld.1.alloc hHeld.1.size _)))) (fun hHeld => ?_)
          clear hK K
          try simp only [Act.put, List.setIfInBounds_toArray, List.set_cons_zero, List.set_cons_succ]
          clear HCB
          refine wpAnyH_take (i := 29) (v := ?_) (by simp only [List.getElem?_toArray, List.getElem?_cons_succ, List.getElem?_cons_zero]; rfl) (by kernel_rfl) (by kernel_rfl) (by kernel_rfl) (fun _ _ _ h => h) (Or.inl ⟨by rfl, ?_⟩) (by assumption) ?_
          rotate_left
          · (intro ww hSw; (try dsimp only at hSw); go_simp; (try with_reducible rfl))
          try simp only [Act.put, List.setIfInBounds_toArray, List.set_cons_zero, List.set_cons_succ]
          refine wpAnyH_take (i := 30) (v := ?_) (by simp only [List.getElem?_toArray, List.getElem?_cons_succ, List.getElem?_cons_zero]; rfl) (by kernel_rfl) (by kernel_rfl) (by kernel_rfl) (fun _ _ _ h => h) (Or.inl ⟨by rfl, ?_⟩) (by assumption) ?_
          rotate_left
          · (intro ww hSw; (try dsimp only at hSw); go_simp; (try with_reducible rfl))
          try simp only [Act.put, List.setIfInBounds_toArray, List.set_cons_zero, List.set_cons_succ]
          refine wpAnyH_done (by kernel_rfl) ?_ _
          refine NoPanic.normal ?_
          have BF := Lib.hid hHeld.1.1
          go_wp2_with fail
          go_roundw
          case rel => exact ⟨j + 1, by omega, by go_num, by rw [HT.out], BF.out⟩
          case measure => simp [intOf]; omega
        ·
          go_simp
          go_at_call 20; (with_reducible refine (refn_any xd _ P3.out).mono ?_); rintro e' wB ⟨rfl, hb⟩; have HCB := Lib.hid hb; clear hb
          try go_wp2_with fail
          refine hK.out _ _ (by (first | (exact ⟨SF.out _ (bl hHeld.1.1 HCB.out), keep_cell HCB.out hHeld.2⟩) | (exact SF.out _ BD.out) | (exact SF.out _ (bl hHeld.1 HCB.out)) | (exact SF.out _ (hHeld.1.alloc hHeld.1.size _)))) (fun hHeld => ?_)
          clear hK K
          try simp only [Act.put, List.setIfInBounds_toArray, List.set_cons_zero, List.set_cons_succ]
          clear HCB
          refine wpAnyH_ready (rs := [10]) (by kernel_rfl) (by simp) (AllReadyH.cons (by simp only [List.getElem?_toArray, List.getElem?_cons_succ, List.getElem?_cons_zero]; rfl) (fun K hK => ?_) AllReadyH.nil)
          go_simp
          try go_wp2_with fail
          refine hK.out _ _ (by (first | (exact ⟨SF.out _ (bl hHeld.1.1 HCB.out), keep_cell HCB.out hHeld.2⟩) | (exact SF.out _ BD.out) | (exact SF.out _ (bl hHeld.1 HCB.out)) | (exact SF.out _ (hHeld.1.alloc hHeld.1.size _)))) (fun hHeld => ?_)
          clear hK K
          try simp only [Act.put, List.setIfInBounds_toArray, List.set_cons_zero, List.set_cons_succ]
          have hRow : (wB.alloc (.cells #[.string ⟨#[32, 105, 110, 32]⟩, .string ⟨#[32, 119, 105, 116, 104, 32]⟩, .string ⟨#[32, 98, 111, 120, 32]⟩] 9)).cell? ⟨wB.heap.size, xk.toNat, none⟩ = some (.string ⟨yk.toArray⟩) := (World.cell?_alloc_at _ _ _ _ rfl).trans HH.out
          refine wpAnyH_mono (S' := fun w' => (Below W0.heap.size W0 w' ∧ (∀ i, w'.cell? ⟨w.heap.size, i, none⟩ = (#[.int .i64 0, .int .i64 10, .int .i64 m, .slice pa ps.length pc, .slice (some ⟨xb, xo, none⟩) is.length ic, .int .i64 c][i]? : Option Value)) ∧ w'.cell? ⟨xb, xo + j * 3, none⟩ = some (.int .i64 xi) ∧ w'.cell? ⟨xb, xo + j * 3 + 1, none⟩ = some (.int .i64 xk) ∧ w'.cell? ⟨xb, xo + j * 3 + 2, none⟩ = some (.int .i64 xd)) ∧ w'.cell? ⟨wB.heap.size, xk.toNat, none⟩ = some (.string ⟨yk.toArray⟩)) (fun ww h => h.1) _ _ _ _ ?_
          have hHeld := And.intro hHeld hRow
          clear hRow
          refine wpAnyH_take (i := 18) (v := ?_) (by simp only [List.getElem?_toArray, List.getElem?_cons_succ, List.getElem?_cons_zero]; rfl) (by kernel_rfl) (by kernel_rfl) (by kernel_rfl) (fun _ _ _ h => h) (Or.inl ⟨by rfl, ?_⟩) (by assumption) ?_
          rotate_left
          · (intro ww hSw; (try dsimp only at hSw); go_simp; (try with_reducible rfl))
          try simp only [Act.put, List.setIfInBounds_toArray, List.set_cons_zero, List.set_cons_succ]
          refine wpAnyH_take (i := 19) (v := ?_) (by simp only [List.getElem?_toArray, List.getElem?_cons_succ, List.getElem?_cons_zero]; rfl) (by kernel_rfl) (by kernel_rfl) (by kernel_rfl) (fun _ _ _ h => h) (Or.inl ⟨by rfl, ?_⟩) (by assumption) ?_
          rotate_left
          · (intro ww hSw; (try dsimp only at hSw); go_simp; (try with_reducible rfl))
          try simp only [Act.put, List.setIfInBounds_toArray, List.set_cons_zero, List.set_cons_succ]
          refine wpAnyH_take (i := 20) (v := ?_) (by simp only [List.getElem?_toArray, List.getElem?_cons_succ, List.getElem?_cons_zero]; rfl) (by kernel_rfl) (by kernel_rfl) (by kernel_rfl) (fun _ _ _ h => h) (Or.inl ⟨by rfl, ?_⟩) (by assumption) ?_
          rotate_left
          · (intro ww hSw; (try dsimp only at hSw); go_simp; (try with_reducible rfl))
          try simp only [Act.put, List.setIfInBounds_toArray, List.set_cons_zero, List.set_cons_succ]
          refine wpAnyH_take (i := 29) (v := ?_) (by simp only [List.getElem?_toArray, List.getElem?_cons_succ, List.getElem?_cons_zero]; rfl) (by kernel_rfl) (by kernel_rfl) (by kernel_rfl) (fun _ _ _ h => h) (Or.inl ⟨by rfl, ?_⟩) (by assumption) ?_
          rotate_left
          · (intro ww hSw; (try dsimp only at hSw); go_simp; (try with_reducible rfl))
          try simp only [Act.put, List.setIfInBounds_toArray, List.set_cons_zero, List.set_cons_succ]
          refine wpAnyH_take (i := 30) (v := ?_) (by simp only [List.getElem?_toArray, List.getElem?_cons_succ, List.getElem?_cons_zero]; rfl) (by kernel_rfl) (by kernel_rfl) (by kernel_rfl) (fun _ _ _ h => h) (Or.inl ⟨by rfl, ?_⟩) (by assumption) ?_
          rotate_left
          · (intro ww hSw; (try dsimp only at hSw); go_simp; (try with_reducible rfl))
          try simp only [Act.put, List.setIfInBounds_toArray, List.set_cons_zero, List.set_cons_succ]
          refine wpAnyH_done (by kernel_rfl) ?_ _
          refine NoPanic.normal ?_
          have BF := Lib.hid hHeld.1.1
          go_wp2_with fail
          go_roundw
          case rel => exact ⟨j + 1, by omega, by go_num, by rw [HT.out], BF.out⟩
          case measure => simp [intOf]; omega
      ·
        go_simp
        try go_wp2_with fail
        refine hK.out _ _ (by (first | (exact ⟨SF.out _ (bl hHeld.1.1 HCB.out), keep_cell HCB.out hHeld.2⟩) | (exact SF.out _ BD.out) | (exact SF.out _ (bl hHeld.1 HCB.out)) | (exact SF.out _ (hHeld.1.alloc hHeld.1.size _)))) (fun hHeld => ?_)
        clear hK K
        try simp only [Act.put, List.setIfInBounds_toArray, List.set_cons_zero, List.set_cons_succ]
        have hRow : (wr.drew.alloc (.cells #[.string ⟨#[32, 105, 110, 32]⟩, .string ⟨#[32, 119, 105, 116, 104, 32]⟩, .string ⟨#[32, 98, 111, 120, 32]⟩] 9)).cell? ⟨wr.heap.size, xk.toNat, none⟩ = some (.string ⟨yk.toArray⟩) := (World.cell?_alloc_at _ _ _ _ rfl).trans HH.out
        refine wpAnyH_mono (S' := fun w' => (Below W0.heap.size W0 w' ∧ (∀ i, w'.cell? ⟨w.heap.size, i, none⟩ = (#[.int .i64 0, .int .i64 10, .int .i64 m, .slice pa ps.length pc, .slice (some ⟨xb, xo, none⟩) is.length ic, .int .i64 c][i]? : Option Value)) ∧ w'.cell? ⟨xb, xo + j * 3, none⟩ = some (.int .i64 xi) ∧ w'.cell? ⟨xb, xo + j * 3 + 1, none⟩ = some (.int .i64 xk) ∧ w'.cell? ⟨xb, xo + j * 3 + 2, none⟩ = some (.int .i64 xd)) ∧ w'.cell? ⟨wr.heap.size, xk.toNat, none⟩ = some (.string ⟨yk.toArray⟩)) (fun ww h => h.1) _ _ _ _ ?_
        have hHeld := And.intro hHeld hRow
        clear hRow
        refine wpAnyH_take (i := 18) (v := ?_) (by simp only [List.getElem?_toArray, List.getElem?_cons_succ, List.getElem?_cons_zero]; rfl) (by kernel_rfl) (by kernel_rfl) (by kernel_rfl) (fun _ _ _ h => h) (Or.inl ⟨by rfl, ?_⟩) (by assumption) ?_
        rotate_left
        · (intro ww hSw; (try dsimp only at hSw); go_simp; (try with_reducible rfl))
        try simp only [Act.put, List.setIfInBounds_toArray, List.set_cons_zero, List.set_cons_succ]
        refine wpAnyH_take (i := 19) (v := ?_) (by simp only [List.getElem?_toArray, List.getElem?_cons_succ, List.getElem?_cons_zero]; rfl) (by kernel_rfl) (by kernel_rfl) (by kernel_rfl) (fun _ _ _ h => h) (Or.inl ⟨by rfl, ?_⟩) (by assumption) ?_
        rotate_left
        · (intro ww hSw; (try dsimp only at hSw); go_simp; (try with_reducible rfl))
        try simp only [Act.put, List.setIfInBounds_toArray, List.set_cons_zero, List.set_cons_succ]
        refine wpAnyH_ready (rs := [8]) (by kernel_rfl) (by simp) (AllReadyH.cons (by simp only [List.getElem?_toArray, List.getElem?_cons_succ, List.getElem?_cons_zero]; rfl) (fun K hK => ?_) AllReadyH.nil)
        go_simp
        go_at_call 20; (with_reducible refine (refn_any xi _ P2.out).mono ?_); rintro e' wA ⟨rfl, hb⟩; have HCB := Lib.hid hb; clear hb
        try go_wp2_with fail
        refine hK.out _ _ (by (first | (exact ⟨SF.out _ (bl hHeld.1.1 HCB.out), keep_cell HCB.out hHeld.2⟩) | (exact SF.out _ BD.out) | (exact SF.out _ (bl hHeld.1 HCB.out)) | (exact SF.out _ (hHeld.1.alloc hHeld.1.size _)))) (fun hHeld => ?_)
        clear hK K
        try simp only [Act.put, List.setIfInBounds_toArray, List.set_cons_zero, List.set_cons_succ]
        clear HCB
        refine wpAnyH_take (i := 9) (v := ?_) (by simp only [List.getElem?_toArray, List.getElem?_cons_succ, List.getElem?_cons_zero]; rfl) (by kernel_rfl) (by kernel_rfl) (by kernel_rfl) (fun _ _ _ h => h) (Or.inl ⟨by rfl, ?_⟩) (by assumption) ?_
        rotate_left
        · (intro ww hSw; (try dsimp only at hSw); go_simp; (try with_reducible rfl))
        try simp only [Act.put, List.setIfInBounds_toArray, List.set_cons_zero, List.set_cons_succ]
        refine wpAnyH_take (i := 20) (v := ?_) (by simp only [List.getElem?_toArray, List.getElem?_cons_succ, List.getElem?_cons_zero]; rfl) (by kernel_rfl) (by kernel_rfl) (by kernel_rfl) (fun _ _ _ h => h) (Or.inl ⟨by rfl, ?_⟩) (by assumption) ?_
        rotate_left
        · (intro ww hSw; (try dsimp only at hSw); go_simp; (try with_reducible rfl))
        try simp only [Act.put, List.setIfInBounds_toArray, List.set_cons_zero, List.set_cons_succ]
        refine wpAnyH_ready (rs := [28]) (by kernel_rfl) (by simp) (AllReadyH.cons (by simp only [List.getElem?_toArray, List.getElem?_cons_succ, List.getElem?_cons_zero]; rfl) (fun K hK => ?_) AllReadyH.nil)
        go_simp
        go_at_call 20; (with_reducible refine (refn_any xd _ P3.out).mono ?_); rintro e' wB ⟨rfl, hb⟩; have HCB := Lib.hid hb; clear hb
        try go_wp2_with fail
        refine hK.out _ _ (by (first | (exact ⟨SF.out _ (bl hHeld.1.1 HCB.out), keep_cell HCB.out hHeld.2⟩) | (exact SF.out _ BD.out) | (exact SF.out _ (bl hHeld.1 HCB.out)) | (exact SF.out _ (hHeld.1.alloc hHeld.1.size _)))) (fun hHeld => ?_)
        clear hK K
        try simp only [Act.put, List.setIfInBounds_toArray, List.set_cons_zero, List.set_cons_succ]
        clear HCB
        refine wpAnyH_take (i := 29) (v := ?_) (by simp only [List.getElem?_toArray, List.getElem?_cons_succ, List.getElem?_cons_zero]; rfl) (by kernel_rfl) (by kernel_rfl) (by kernel_rfl) (fun _ _ _ h => h) (Or.inl ⟨by rfl, ?_⟩) (by assumption) ?_
        rotate_left
        · (intro ww hSw; (try dsimp only at hSw); go_simp; (try with_reducible rfl))
        try simp only [Act.put, List.setIfInBounds_toArray, List.set_cons_zero, List.set_cons_succ]
        refine wpAnyH_take (i := 30) (v := ?_) (by simp only [List.getElem?_toArray, List.getElem?_cons_succ, List.getElem?_cons_zero]; rfl) (by kernel_rfl) (by kernel_rfl) (by kernel_rfl) (fun _ _ _ h => h) (Or.inl ⟨by rfl, ?_⟩) (by assumption) ?_
        rotate_left
        · (intro ww hSw; (try dsimp only at hSw); go_simp; (try with_reducible rfl))
        try simp only [Act.put, List.setIfInBounds_toArray, List.set_cons_zero, List.set_cons_succ]
        refine wpAnyH_done (by kernel_rfl) ?_ _
        refine NoPanic.normal ?_
        have BF := Lib.hid hHeld.1.1
        go_wp2_with fail
        go_roundw
        case rel => exact ⟨j + 1, by omega, by go_num, by rw [HT.out], BF.out⟩
        case measure => simp [intOf]; omega
    · have hje : j = is.length := by omega
      subst hje
      rw [show is.take is.length = is from List.take_of_length_le (Nat.le_refl _)]
      have hA := HK.out _ HBL.out
      go_wp2_with fail
      go_ret2
      exact ⟨rfl, bl BL.out HBL.out⟩
end
end Go.Proofs.YtcabeagmdfpdlaaDoor
/- The document's own Put, of a look. -/
namespace Go.Proofs.YtcabeagmdfpdlaaDoor
open Go.ChangeShapes Go.WideShapes Go.ChangeAt Go.RowKit
set_option linter.unusedVariables false
open Go.RowKit Go
section
variable (m c : Int) (ps : List Int) (is : List Sn) (pa ia : Option Addr) (pc ic : Nat) (w : World)
set_option maxRecDepth 100000 in
set_option maxHeartbeats 4000000 in
theorem refput_look (hm : rmayB ⟨0, 9, m, ps, is, c⟩ = true) (i1 : IntsAt w pa ps) (i2 : SnsAt w ia is) :
    Calls Tryd.prog 11 #[.agg #[.int .i64 0, .int .i64 9, .int .i64 m, .slice pa ps.length pc, .slice ia is.length ic, .int .i64 c]] w fun e' w' => e' = .returned (rputOut ⟨0, 9, m, ps, is, c⟩) ∧ Below w.heap.size w w' := by
  rw [rputOut_eq hm text_look]
  have HO := Lib.hid (fits_of hm).room
  have HPT := Lib.hid (fits_of hm).players
  have HLP := Lib.hid (show ps.length ≤ 16 from (fits_of hm).plen)
  have HIT := Lib.hid (fits_of hm).items
  have HLI := Lib.hid (fits_of hm).ilen
  have lm : (nw m).length ≤ 10 := nw_len HO.out
  have ln : (nameOf 9).length ≤ 5 := name_len 9
  have lp := ptake_len ps (fits_of hm).players
  have ha1 := add_run (nameOf 9) [32] (nameOf 9 ++ [32]) (by omega) (by decide) rfl
  have ha2 := add_run (nameOf 9 ++ [32]) (nw m) ((nameOf 9 ++ [32]) ++ nw m) (by simp; omega) (by omega) rfl
  have ha3 := add_run ((nameOf 9 ++ [32]) ++ nw m) [32, 112, 108, 97, 121, 101, 114, 115] (((nameOf 9 ++ [32]) ++ nw m) ++ [32, 112, 108, 97, 121, 101, 114, 115]) (by simp; omega) (by decide) rfl
  have HL3 := Lib.hid (show (((nameOf 9 ++ [32]) ++ nw m) ++ [32, 112, 108, 97, 121, 101, 114, 115]).length ≤ 200 by simp; omega)
  generalize ((nameOf 9 ++ [32]) ++ nw m) ++ [32, 112, 108, 97, 121, 101, 114, 115] = T3 at *
  generalize (nameOf 9 ++ [32]) ++ nw m = T2 at *
  generalize nameOf 9 ++ [32] = T1 at *
  have hi4 := add_run (T3 ++ ps.flatMap fun n => sp (nw n)) [32, 105, 116, 101, 109, 115] ((T3 ++ ps.flatMap fun n => sp (nw n)) ++ [32, 105, 116, 101, 109, 115]) (by have := HL3.out; have := HLP.out; have h3 : 11 * ps.length ≤ 11 * 16 := Nat.mul_le_mul_left _ (by omega); rw [List.length_append]; omega) (by decide) rfl
  have HTL := Lib.hid (show ((T3 ++ ps.flatMap fun n => sp (nw n)) ++ [32, 105, 116, 101, 109, 115]).length ≤ 400 by have := HL3.out; have := HLP.out; have h3 : 11 * ps.length ≤ 11 * 16 := Nat.mul_le_mul_left _ (by omega); rw [List.length_append, List.length_append]; simp only [List.length_cons, List.length_nil]; omega)
  have HI4 := Lib.hid hi4
  generalize (T3 ++ ps.flatMap fun n => sp (nw n)) ++ [32, 105, 116, 101, 109, 115] = T0 at *
  clear hi4 lp
  have HM := Lib.hid hm
  clear hm ln lm
  have I1 := Lib.hid (i1.alloc (.cells #[.int .i64 0, .int .i64 9, .int .i64 m, .slice pa ps.length pc, .slice ia is.length ic, .int .i64 c] 26))
  have I2 := Lib.hid (i2.alloc (.cells #[.int .i64 0, .int .i64 9, .int .i64 m, .slice pa ps.length pc, .slice ia is.length ic, .int .i64 c] 26))
  have BL := Lib.hid (show Below w.heap.size w (w.alloc (.cells #[.int .i64 0, .int .i64 9, .int .i64 m, .slice pa ps.length pc, .slice ia is.length ic, .int .i64 c] 26)) from (Below.refl _ _).alloc (Nat.le_refl _) _)
  have HC := Lib.hid (show ∀ i, (w.alloc (.cells #[.int .i64 0, .int .i64 9, .int .i64 m, .slice pa ps.length pc, .slice ia is.length ic, .int .i64 c] 26)).cell? ⟨w.heap.size, i, none⟩ = (#[.int .i64 0, .int .i64 9, .int .i64 m, .slice pa ps.length pc, .slice ia is.length ic, .int .i64 c][i]? : Option Value) from fun i => World.cell?_alloc_at _ _ _ _ rfl)
  have HS := Lib.hid (show w.heap.size < (w.alloc (.cells #[.int .i64 0, .int .i64 9, .int .i64 m, .slice pa ps.length pc, .slice ia is.length ic, .int .i64 c] 26)).heap.size by simp)
  clear i1 i2
  go_enter Tryd.func11, Tryd.ntmps11
  go_wp2_with fail
  generalize (w.alloc (.cells #[.int .i64 0, .int .i64 9, .int .i64 m, .slice pa ps.length pc, .slice ia is.length ic, .int .i64 c] 26)) = W0 at *
  have HK := Lib.hid (fun (W : World) (h : Below W0.heap.size W0 W) => (fun i => (h.cell (p := ⟨w.heap.size, i, none⟩) HS.out).trans (HC.out i) : ∀ i, W.cell? ⟨w.heap.size, i, none⟩ = (#[.int .i64 0, .int .i64 9, .int .i64 m, .slice pa ps.length pc, .slice ia is.length ic, .int .i64 c][i]? : Option Value)))
  clear HC
  refine (rrefmay_any ⟨0, 9, m, ps, is, c⟩ pa ia pc ic W0 I1.out I2.out).mono ?_
  rintro e' w1 ⟨rfl, b1⟩
  rw [HM.out]
  have B1 := Lib.hid b1
  have hA := HK.out _ b1
  clear b1
  go_wp2_with fail
  refine (refname_any 9 _).mono ?_
  rintro e' w2 ⟨rfl, b2⟩
  have B2 := Lib.hid (bl B1.out b2)
  have hB := HK.out _ B2.out
  clear b2 hA
  go_wp2_with fail
  refine (refn_any m _ HO.out).mono ?_
  rintro e' w3 ⟨rfl, b3⟩
  have B3 := Lib.hid (bl B2.out b3)
  have hC := HK.out _ B3.out
  clear b3 hB
  go_wp2_with fail
  clear hC ha1 ha2 ha3
  go_loopw [4, 5] (fun s i wr => ∃ j : Nat, j ≤ ps.length ∧ i = .int .i64 j ∧ s = .string ⟨(T3 ++ (ps.take j).flatMap fun n => sp (nw n)).toArray⟩ ∧ Below W0.heap.size W0 wr) (fun _ i _ => ps.length - (intOf i).toNat)
  case atStart => exact ⟨0, Nat.zero_le _, rfl, by simp, B3.out⟩
  case round =>
  obtain ⟨j, hj, rfl, rfl, hbel⟩ := hrel
  have HBL := Lib.hid hbel
  clear hbel
  by_cases hlt : j < ps.length
  · have hA := HK.out _ HBL.out
    obtain ⟨xb, xo, rfl, hxb, hxc⟩ := I1.out.at_ hlt
    have h1 := (HBL.out.cell (p := ⟨xb, xo + j, none⟩) hxb).trans (hxc j hlt)
    have hn := HPT.out _ (List.getElem_mem hlt)
    have hwr : IntKind.i64.wrap ((j : Int) + 1) = (j : Int) + 1 := IntWalk.i64_in _ (by have h1 := HLP.out; omega)
    have HTS := Lib.hid (ptake_succ ps j hlt)
    have tl : (T3 ++ (ps.take j).flatMap fun n => sp (nw n)).length ≤ 1000 := by
      have h1 := ptake_len (ps.take j) (fun s hs => HPT.out s (List.mem_of_mem_take hs))
      have h2 := List.length_take_le' j ps
      have := HL3.out; have := HLP.out
      rw [List.length_append]
      have h3 : 11 * (ps.take j).length ≤ 11 * 16 := Nat.mul_le_mul_left _ (by omega)
      omega
    generalize ps[j] = n at *
    have HNO := Lib.hid hn
    have n1 : (nw n).length ≤ 10 := nw_len hn
    have HT := Lib.hid (show (T3 ++ (ps.take (j + 1)).flatMap fun n => sp (nw n)) = ((T3 ++ (ps.take j).flatMap fun n => sp (nw n)) ++ [32]) ++ nw n by rw [HTS.out]; simp [sp])
    clear hxc hn HTS
    generalize (T3 ++ (ps.take j).flatMap fun n => sp (nw n)) = T at *
    have ha1 := add_run T [32] (T ++ [32]) (by omega) (by decide) rfl
    have ha2 := add_run (T ++ [32]) (nw n) ((T ++ [32]) ++ nw n) (by simp; omega) (by omega) rfl
    generalize (T ++ [32]) ++ nw n = T2 at *
    generalize T ++ [32] = T1 at *
    clear n1 tl
    go_wp2_with fail
    refine (refn_any n _ HNO.out).mono ?_
    rintro e' w3 ⟨rfl, b3⟩
    have B3 := Lib.hid (bl HBL.out b3)
    clear b3
    go_wp2_with fail
    go_roundw
    case rel => exact ⟨j + 1, by omega, by go_num, by rw [HT.out], B3.out⟩
    case measure => simp [intOf]; omega
  have hje : j = ps.length := by omega
  subst hje
  rw [show ps.take ps.length = ps from List.take_of_length_le (Nat.le_refl _)]
  have hA := HK.out _ HBL.out
  have hi4 := HI4.out
  have BZ := Lib.hid HBL.out
  clear HBL hlt hj
  go_wp2_with fail
  clear hA hi4 B3
  go_loopw [4, 6] (fun s i wr => ∃ j : Nat, j ≤ is.length ∧ i = .int .i64 j ∧ s = .string ⟨(T0 ++ (is.take j).flatMap seenT).toArray⟩ ∧ Below W0.heap.size W0 wr) (fun _ i _ => is.length - (intOf i).toNat)
  case atStart => exact ⟨0, Nat.zero_le _, rfl, by simp, BZ.out⟩
  case round =>
    obtain ⟨j, hj, rfl, rfl, hbel⟩ := hrel
    have HBL := Lib.hid hbel
    clear hbel
    by_cases hlt : j < is.length
    · obtain ⟨xb, xo, rfl, hxb, hxc⟩ := I2.out.at_ hlt
      obtain ⟨p1, p2, p3⟩ := snB_parts (HIT.out _ (List.getElem_mem hlt))
      have HTS := Lib.hid (itake_succ is j hlt)
      have tl : (T0 ++ (is.take j).flatMap seenT).length ≤ 1000 := by
        have h1 := itake_len (is.take j) (fun s hs => HIT.out s (List.mem_of_mem_take hs))
        have h2 := List.length_take_le' j is
        have := HTL.out; have := HLI.out
        rw [List.length_append]
        have h3 : 30 * (is.take j).length ≤ 30 * 16 := Nat.mul_le_mul_left _ (by omega)
        omega
      have HX := Lib.hid (hxc j hlt)
      have hwr : IntKind.i64.wrap ((j : Int) + 1) = (j : Int) + 1 := IntWalk.i64_in _ (by have h1 : is.length ≤ 16 := HLI.out; omega)
      clear hxc
      have HST : Hid (seenT is[j] = ((32 :: nw is[j].item) ++ inW is[j].kind) ++ nw is[j].id) := Lib.hid rfl
      generalize is[j] = x at *
      obtain ⟨xi, xk, xd⟩ := x
      simp only at p1 p2 p3
      have P2 := Lib.hid p2
      have P3 := Lib.hid p3
      have hg := in_str xk p1
      have hgl := in_len xk p1
      have k0 : 0 ≤ xk := by simp [pkB] at p1; omega
      have k3 : xk < 3 := by simp [pkB] at p1; omega
      have n1 := nw_len p2
      have n2 := nw_len p3
      have HT := Lib.hid (show T0 ++ (is.take (j + 1)).flatMap seenT = (((((T0 ++ (is.take j).flatMap seenT) ++ [32]) ++ nw xi) ++ inW xk) ++ nw xd) by rw [HTS.out, HST.out]; simp)
      clear p1 p2 p3 HST HTS
      generalize T0 ++ (is.take j).flatMap seenT = T at *
      have ha1 := add_run T [32] (T ++ [32]) (by omega) (by decide) rfl
      have ha2 := add_run (T ++ [32]) (nw xi) ((T ++ [32]) ++ nw xi) (by simp; omega) (by omega) rfl
      have ha3 := add_run ((T ++ [32]) ++ nw xi) (inW xk) (((T ++ [32]) ++ nw xi) ++ inW xk) (by simp; omega) (by omega) rfl
      have ha4 := add_run (((T ++ [32]) ++ nw xi) ++ inW xk) (nw xd) ((((T ++ [32]) ++ nw xi) ++ inW xk) ++ nw xd) (by simp; omega) (by omega) rfl
      generalize (((T ++ [32]) ++ nw xi) ++ inW xk) ++ nw xd = T4 at *
      generalize ((T ++ [32]) ++ nw xi) ++ inW xk = T3 at *
      generalize (T ++ [32]) ++ nw xi = T2 at *
      generalize T ++ [32] = T1 at *
      generalize inW xk = yk at *
      have SF := Lib.hid (fun (W : World) (h : Below W0.heap.size W0 W) => (⟨h, HK.out W h, (h.cell (p := ⟨xb, xo + j * 3, none⟩) hxb).trans HX.out.1, (h.cell (p := ⟨xb, xo + j * 3 + 1, none⟩) hxb).trans HX.out.2.1, (h.cell (p := ⟨xb, xo + j * 3 + 2, none⟩) hxb).trans HX.out.2.2⟩ :
        Below W0.heap.size W0 W ∧ (∀ i, W.cell? ⟨w.heap.size, i, none⟩ = (#[.int .i64 0, .int .i64 9, .int .i64 m, .slice pa ps.length pc, .slice (some ⟨xb, xo, none⟩) is.length ic, .int .i64 c][i]? : Option Value)) ∧ W.cell? ⟨xb, xo + j * 3, none⟩ = some (.int .i64 xi) ∧ W.cell? ⟨xb, xo + j * 3 + 1, none⟩ = some (.int .i64 xk) ∧ W.cell? ⟨xb, xo + j * 3 + 2, none⟩ = some (.int .i64 xd)))
      have BD := Lib.hid (show Below W0.heap.size W0 wr.drew from ⟨HBL.out.os, HBL.out.tape, HBL.out.output, HBL.out.size, HBL.out.block⟩)
      have hA := HK.out _ HBL.out
      have HH := Lib.hid hg
      have HTL4 := Lib.hid tl
      clear hg hgl n1 n2 tl
      go_wp2_with fail
      clear hA
      refine wp_region_noPanic ?_
      refine wp_region_held_drew (S := (fun w' => Below W0.heap.size W0 w' ∧ (∀ i, w'.cell? ⟨w.heap.size, i, none⟩ = (#[.int .i64 0, .int .i64 9, .int .i64 m, .slice pa ps.length pc, .slice (some ⟨xb, xo, none⟩) is.length ic, .int .i64 c][i]? : Option Value)) ∧ w'.cell? ⟨xb, xo + j * 3, none⟩ = some (.int .i64 xi) ∧ w'.cell? ⟨xb, xo + j * 3 + 1, none⟩ = some (.int .i64 xk) ∧ w'.cell? ⟨xb, xo + j * 3 + 2, none⟩ = some (.int .i64 xd))) (by kernel_rfl) (by (first | (exact ⟨SF.out _ (bl hHeld.1.1 HCB.out), keep_cell HCB.out hHeld.2⟩) | (exact SF.out _ BD.out) | (exact SF.out _ (bl hHeld.1 HCB.out)) | (exact SF.out _ (hHeld.1.alloc hHeld.1.size _)))) (fun hHeld => ?_)
      refine wpAnyH_take (i := 0) (v := ?_) (by simp only [List.getElem?_toArray, List.getElem?_cons_zero]; rfl) (by kernel_rfl) (by kernel_rfl) (by kernel_rfl) (fun _ _ _ h => h) (Or.inl ⟨by rfl, ?_⟩) (by assumption) ?_
      rotate_left
      · (intro ww hSw; (try dsimp only at hSw); go_simp; (try with_reducible rfl))
      try simp only [Act.put, List.setIfInBounds_toArray, List.set_cons_zero, List.set_cons_succ]
      refine wpAnyH_take (i := 1) (v := ?_) (by simp only [List.getElem?_toArray, List.getElem?_cons_succ, List.getElem?_cons_zero]; rfl) (by kernel_rfl) (by kernel_rfl) (by kernel_rfl) (fun _ _ _ h => h) (Or.inl ⟨by rfl, ?_⟩) (by assumption) ?_
      rotate_left
      · (intro ww hSw; (try dsimp only at hSw); go_simp; (try with_reducible rfl))
      try simp only [Act.put, List.setIfInBounds_toArray, List.set_cons_zero, List.set_cons_succ]
      refine wpAnyH_take (i := 2) (v := ?_) (by simp only [List.getElem?_toArray, List.getElem?_cons_succ, List.getElem?_cons_zero]; rfl) (by kernel_rfl) (by kernel_rfl) (by kernel_rfl) (fun _ _ _ h => h) (Or.inl ⟨by rfl, ?_⟩) (by assumption) ?_
      rotate_left
      · (intro ww hSw; (try dsimp only at hSw); go_simp; (try with_reducible rfl))
      try simp only [Act.put, List.setIfInBounds_toArray, List.set_cons_zero, List.set_cons_succ]
      refine wpAnyH_take (i := 3) (v := ?_) (by simp only [List.getElem?_toArray, List.getElem?_cons_succ, List.getElem?_cons_zero]; rfl) (by kernel_rfl) (by kernel_rfl) (by kernel_rfl) (fun _ _ _ h => h) (Or.inl ⟨by rfl, ?_⟩) (by assumption) ?_
      rotate_left
      · (intro ww hSw; (try dsimp only at hSw); go_simp; (try with_reducible rfl))
      try simp only [Act.put, List.setIfInBounds_toArray, List.set_cons_zero, List.set_cons_succ]
      refine wpAnyH_take (i := 4) (v := ?_) (by simp only [List.getElem?_toArray, List.getElem?_cons_succ, List.getElem?_cons_zero]; rfl) (by kernel_rfl) (by kernel_rfl) (by kernel_rfl) (fun _ _ _ h => h) (Or.inl ⟨by rfl, ?_⟩) (by assumption) ?_
      rotate_left
      · (intro ww hSw; (try dsimp only at hSw); go_simp; (try with_reducible rfl))
      try simp only [Act.put, List.setIfInBounds_toArray, List.set_cons_zero, List.set_cons_succ]
      refine wpAnyH_take (i := 5) (v := ?_) (by simp only [List.getElem?_toArray, List.getElem?_cons_succ, List.getElem?_cons_zero]; rfl) (by kernel_rfl) (by kernel_rfl) (by kernel_rfl) (fun _ _ _ h => h) (Or.inl ⟨by rfl, ?_⟩) (by assumption) ?_
      rotate_left
      · (intro ww hSw; (try dsimp only at hSw); go_simp; (try with_reducible rfl))
      try simp only [Act.put, List.setIfInBounds_toArray, List.set_cons_zero, List.set_cons_succ]
      refine wpAnyH_take (i := 6) (v := ?_) (by simp only [List.getElem?_toArray, List.getElem?_cons_succ, List.getElem?_cons_zero]; rfl) (by kernel_rfl) (by kernel_rfl) (by kernel_rfl) (fun _ _ _ h => h) (Or.inl ⟨by rfl, ?_⟩) (by assumption) ?_
      rotate_left
      · (intro ww hSw; (try dsimp only at hSw); go_simp; (try with_reducible rfl))
      try simp only [Act.put, List.setIfInBounds_toArray, List.set_cons_zero, List.set_cons_succ]
      refine wpAnyH_take (i := 7) (v := ?_) (by simp only [List.getElem?_toArray, List.getElem?_cons_succ, List.getElem?_cons_zero]; rfl) (by kernel_rfl) (by kernel_rfl) (by kernel_rfl) (fun _ _ _ h => h) (Or.inl ⟨by rfl, ?_⟩) (by assumption) ?_
      rotate_left
      · (intro ww hSw; (try dsimp only at hSw); go_simp; (try with_reducible rfl))
      try simp only [Act.put, List.setIfInBounds_toArray, List.set_cons_zero, List.set_cons_succ]
      refine wpAnyH_take (i := 11) (v := ?_) (by simp only [List.getElem?_toArray, List.getElem?_cons_succ, List.getElem?_cons_zero]; rfl) (by kernel_rfl) (by kernel_rfl) (by kernel_rfl) (fun _ _ _ h => h) (Or.inl ⟨by rfl, ?_⟩) (by assumption) ?_
      rotate_left
      · (intro ww hSw; (try dsimp only at hSw); go_simp; (try with_reducible rfl))
      try simp only [Act.put, List.setIfInBounds_toArray, List.set_cons_zero, List.set_cons_succ]
      refine wpAnyH_take (i := 12) (v := ?_) (by simp only [List.getElem?_toArray, List.getElem?_cons_succ, List.getElem?_cons_zero]; rfl) (by kernel_rfl) (by kernel_rfl) (by kernel_rfl) (fun _ _ _ h => h) (Or.inl ⟨by rfl, ?_⟩) (by assumption) ?_
      rotate_left
      · (intro ww hSw; (try dsimp only at hSw); go_simp; (try with_reducible rfl))
      try simp only [Act.put, List.setIfInBounds_toArray, List.set_cons_zero, List.set_cons_succ]
      refine wpAnyH_take (i := 13) (v := ?_) (by simp only [List.getElem?_toArray, List.getElem?_cons_succ, List.getElem?_cons_zero]; rfl) (by kernel_rfl) (by kernel_rfl) (by kernel_rfl) (fun _ _ _ h => h) (Or.inl ⟨by rfl, ?_⟩) (by assumption) ?_
      rotate_left
      · (intro ww hSw; (try dsimp only at hSw); go_simp; (try with_reducible rfl))
      try simp only [Act.put, List.setIfInBounds_toArray, List.set_cons_zero, List.set_cons_succ]
      refine wpAnyH_take (i := 14) (v := ?_) (by simp only [List.getElem?_toArray, List.getElem?_cons_succ, List.getElem?_cons_zero]; rfl) (by kernel_rfl) (by kernel_rfl) (by kernel_rfl) (fun _ _ _ h => h) (Or.inl ⟨by rfl, ?_⟩) (by assumption) ?_
      rotate_left
      · (intro ww hSw; (try dsimp only at hSw); go_simp; (try with_reducible rfl))
      try simp only [Act.put, List.setIfInBounds_toArray, List.set_cons_zero, List.set_cons_succ]
      refine wpAnyH_take (i := 15) (v := ?_) (by simp only [List.getElem?_toArray, List.getElem?_cons_succ, List.getElem?_cons_zero]; rfl) (by kernel_rfl) (by kernel_rfl) (by kernel_rfl) (fun _ _ _ h => h) (Or.inl ⟨by rfl, ?_⟩) (by assumption) ?_
      rotate_left
      · (intro ww hSw; (try dsimp only at hSw); go_simp; (try with_reducible rfl))
      try simp only [Act.put, List.setIfInBounds_toArray, List.set_cons_zero, List.set_cons_succ]
      refine wpAnyH_take (i := 16) (v := ?_) (by simp only [List.getElem?_toArray, List.getElem?_cons_succ, List.getElem?_cons_zero]; rfl) (by kernel_rfl) (by kernel_rfl) (by kernel_rfl) (fun _ _ _ h => h) (Or.inl ⟨by rfl, ?_⟩) (by assumption) ?_
      rotate_left
      · (intro ww hSw; (try dsimp only at hSw); go_simp; (try with_reducible rfl))
      try simp only [Act.put, List.setIfInBounds_toArray, List.set_cons_zero, List.set_cons_succ]
      refine wpAnyH_take (i := 17) (v := ?_) (by simp only [List.getElem?_toArray, List.getElem?_cons_succ, List.getElem?_cons_zero]; rfl) (by kernel_rfl) (by kernel_rfl) (by kernel_rfl) (fun _ _ _ h => h) (Or.inl ⟨by rfl, ?_⟩) (by assumption) ?_
      rotate_left
      · (intro ww hSw; (try dsimp only at hSw); go_simp; (try with_reducible rfl))
      try simp only [Act.put, List.setIfInBounds_toArray, List.set_cons_zero, List.set_cons_succ]
      refine wpAnyH_take (i := 21) (v := ?_) (by simp only [List.getElem?_toArray, List.getElem?_cons_succ, List.getElem?_cons_zero]; rfl) (by kernel_rfl) (by kernel_rfl) (by kernel_rfl) (fun _ _ _ h => h) (Or.inl ⟨by rfl, ?_⟩) (by assumption) ?_
      rotate_left
      · (intro ww hSw; (try dsimp only at hSw); go_simp; (try with_reducible rfl))
      try simp only [Act.put, List.setIfInBounds_toArray, List.set_cons_zero, List.set_cons_succ]
      refine wpAnyH_take (i := 22) (v := ?_) (by simp only [List.getElem?_toArray, List.getElem?_cons_succ, List.getElem?_cons_zero]; rfl) (by kernel_rfl) (by kernel_rfl) (by kernel_rfl) (fun _ _ _ h => h) (Or.inl ⟨by rfl, ?_⟩) (by assumption) ?_
      rotate_left
      · (intro ww hSw; (try dsimp only at hSw); go_simp; (try with_reducible rfl))
      try simp only [Act.put, List.setIfInBounds_toArray, List.set_cons_zero, List.set_cons_succ]
      refine wpAnyH_take (i := 23) (v := ?_) (by simp only [List.getElem?_toArray, List.getElem?_cons_succ, List.getElem?_cons_zero]; rfl) (by kernel_rfl) (by kernel_rfl) (by kernel_rfl) (fun _ _ _ h => h) (Or.inl ⟨by rfl, ?_⟩) (by assumption) ?_
      rotate_left
      · (intro ww hSw; (try dsimp only at hSw); go_simp; (try with_reducible rfl))
      try simp only [Act.put, List.setIfInBounds_toArray, List.set_cons_zero, List.set_cons_succ]
      refine wpAnyH_take (i := 24) (v := ?_) (by simp only [List.getElem?_toArray, List.getElem?_cons_succ, List.getElem?_cons_zero]; rfl) (by kernel_rfl) (by kernel_rfl) (by kernel_rfl) (fun _ _ _ h => h) (Or.inl ⟨by rfl, ?_⟩) (by assumption) ?_
      rotate_left
      · (intro ww hSw; (try dsimp only at hSw); go_simp; (try with_reducible rfl))
      try simp only [Act.put, List.setIfInBounds_toArray, List.set_cons_zero, List.set_cons_succ]
      refine wpAnyH_take (i := 25) (v := ?_) (by simp only [List.getElem?_toArray, List.getElem?_cons_succ, List.getElem?_cons_zero]; rfl) (by kernel_rfl) (by kernel_rfl) (by kernel_rfl) (fun _ _ _ h => h) (Or.inl ⟨by rfl, ?_⟩) (by assumption) ?_
      rotate_left
      · (intro ww hSw; (try dsimp only at hSw); go_simp; (try with_reducible rfl))
      try simp only [Act.put, List.setIfInBounds_toArray, List.set_cons_zero, List.set_cons_succ]
      refine wpAnyH_take (i := 26) (v := ?_) (by simp only [List.getElem?_toArray, List.getElem?_cons_succ, List.getElem?_cons_zero]; rfl) (by kernel_rfl) (by kernel_rfl) (by kernel_rfl) (fun _ _ _ h => h) (Or.inl ⟨by rfl, ?_⟩) (by assumption) ?_
      rotate_left
      · (intro ww hSw; (try dsimp only at hSw); go_simp; (try with_reducible rfl))
      try simp only [Act.put, List.setIfInBounds_toArray, List.set_cons_zero, List.set_cons_succ]
      refine wpAnyH_take (i := 27) (v := ?_) (by simp only [List.getElem?_toArray, List.getElem?_cons_succ, List.getElem?_cons_zero]; rfl) (by kernel_rfl) (by kernel_rfl) (by kernel_rfl) (fun _ _ _ h => h) (Or.inl ⟨by rfl, ?_⟩) (by assumption) ?_
      rotate_left
      · (intro ww hSw; (try dsimp only at hSw); go_simp; (try with_reducible rfl))
      try simp only [Act.put, List.setIfInBounds_toArray, List.set_cons_zero, List.set_cons_succ]
      refine wpAnyH_ready (rs := [8, 10]) (by kernel_rfl) (by simp) (AllReadyH.cons (by simp only [List.getElem?_toArray, List.getElem?_cons_succ, List.getElem?_cons_zero]; rfl) (fun K hK => ?_) (AllReadyH.cons (by simp only [List.getElem?_toArray, List.getElem?_cons_succ, List.getElem?_cons_zero]; rfl) (fun K hK => ?_) AllReadyH.nil))
      ·
        go_simp
        go_at_call 20; (with_reducible refine (refn_any xi _ P2.out).mono ?_); rintro e' wA ⟨rfl, hb⟩; have HCB := Lib.hid hb; clear hb
        try go_wp2_with fail
        refine hK.out _ _ (by (first | (exact ⟨SF.out _ (bl hHeld.1.1 HCB.out), keep_cell HCB.out hHeld.2⟩) | (exact SF.out _ BD.out) | (exact SF.out _ (bl hHeld.1 HCB.out)) | (exact SF.out _ (hHeld.1.alloc hHeld.1.size _)))) (fun hHeld => ?_)
        clear hK K
        try simp only [Act.put, List.setIfInBounds_toArray, List.set_cons_zero, List.set_cons_succ]
        clear HCB
        refine wpAnyH_take (i := 9) (v := ?_) (by simp only [List.getElem?_toArray, List.getElem?_cons_succ, List.getElem?_cons_zero]; rfl) (by kernel_rfl) (by kernel_rfl) (by kernel_rfl) (fun _ _ _ h => h) (Or.inl ⟨by rfl, ?_⟩) (by assumption) ?_
        rotate_left
        · (intro ww hSw; (try dsimp only at hSw); go_simp; (try with_reducible rfl))
        try simp only [Act.put, List.setIfInBounds_toArray, List.set_cons_zero, List.set_cons_succ]
        refine wpAnyH_ready (rs := [10, 28]) (by kernel_rfl) (by simp) (AllReadyH.cons (by simp only [List.getElem?_toArray, List.getElem?_cons_succ, List.getElem?_cons_zero]; rfl) (fun K hK => ?_) (AllReadyH.cons (by simp only [List.getElem?_toArray, List.getElem?_cons_succ, List.getElem?_cons_zero]; rfl) (fun K hK => ?_) AllReadyH.nil))
        ·
          go_simp
          try go_wp2_with fail
          refine hK.out _ _ (by (first | (exact ⟨SF.out _ (bl hHeld.1.1 HCB.out), keep_cell HCB.out hHeld.2⟩) | (exact SF.out _ BD.out) | (exact SF.out _ (bl hHeld.1 HCB.out)) | (exact SF.out _ (hHeld.1.alloc hHeld.1.size _)))) (fun hHeld => ?_)
          clear hK K
          try simp only [Act.put, List.setIfInBounds_toArray, List.set_cons_zero, List.set_cons_succ]
          have hRow : (wA.alloc (.cells #[.string ⟨#[32, 105, 110, 32]⟩, .string ⟨#[32, 119, 105, 116, 104, 32]⟩, .string ⟨#[32, 98, 111, 120, 32]⟩] 9)).cell? ⟨wA.heap.size, xk.toNat, none⟩ = some (.string ⟨yk.toArray⟩) := (World.cell?_alloc_at _ _ _ _ rfl).trans HH.out
          refine wpAnyH_mono (S' := fun w' => (Below W0.heap.size W0 w' ∧ (∀ i, w'.cell? ⟨w.heap.size, i, none⟩ = (#[.int .i64 0, .int .i64 9, .int .i64 m, .slice pa ps.length pc, .slice (some ⟨xb, xo, none⟩) is.length ic, .int .i64 c][i]? : Option Value)) ∧ w'.cell? ⟨xb, xo + j * 3, none⟩ = some (.int .i64 xi) ∧ w'.cell? ⟨xb, xo + j * 3 + 1, none⟩ = some (.int .i64 xk) ∧ w'.cell? ⟨xb, xo + j * 3 + 2, none⟩ = some (.int .i64 xd)) ∧ w'.cell? ⟨wA.heap.size, xk.toNat, none⟩ = some (.string ⟨yk.toArray⟩)) (fun ww h => h.1) _ _ _ _ ?_
          have hHeld := And.intro hHeld hRow
          clear hRow
          refine wpAnyH_take (i := 18) (v := ?_) (by simp only [List.getElem?_toArray, List.getElem?_cons_succ, List.getElem?_cons_zero]; rfl) (by kernel_rfl) (by kernel_rfl) (by kernel_rfl) (fun _ _ _ h => h) (Or.inl ⟨by rfl, ?_⟩) (by assumption) ?_
          rotate_left
          · (intro ww hSw; (try dsimp only at hSw); go_simp; (try with_reducible rfl))
          try simp only [Act.put, List.setIfInBounds_toArray, List.set_cons_zero, List.set_cons_succ]
          refine wpAnyH_take (i := 19) (v := ?_) (by simp only [List.getElem?_toArray, List.getElem?_cons_succ, List.getElem?_cons_zero]; rfl) (by kernel_rfl) (by kernel_rfl) (by kernel_rfl) (fun _ _ _ h => h) (Or.inl ⟨by rfl, ?_⟩) (by assumption) ?_
          rotate_left
          · (intro ww hSw; (try dsimp only at hSw); go_simp; (try with_reducible rfl))
          try simp only [Act.put, List.setIfInBounds_toArray, List.set_cons_zero, List.set_cons_succ]
          refine wpAnyH_take (i := 20) (v := ?_) (by simp only [List.getElem?_toArray, List.getElem?_cons_succ, List.getElem?_cons_zero]; rfl) (by kernel_rfl) (by kernel_rfl) (by kernel_rfl) (fun _ _ _ h => h) (Or.inl ⟨by rfl, ?_⟩) (by assumption) ?_
          rotate_left
          · (intro ww hSw; (try dsimp only at hSw); go_simp; (try with_reducible rfl))
          try simp only [Act.put, List.setIfInBounds_toArray, List.set_cons_zero, List.set_cons_succ]
          refine wpAnyH_ready (rs := [28]) (by kernel_rfl) (by simp) (AllReadyH.cons (by simp only [List.getElem?_toArray, List.getElem?_cons_succ, List.getElem?_cons_zero]; rfl) (fun K hK => ?_) AllReadyH.nil)
          go_simp
          go_at_call 20; (with_reducible refine (refn_any xd _ P3.out).mono ?_); rintro e' wB ⟨rfl, hb⟩; have HCB := Lib.hid hb; clear hb
          try go_wp2_with fail
          refine hK.out _ _ (by (first | (exact ⟨SF.out _ (bl hHeld.1.1 HCB.out), keep_cell HCB.out hHeld.2⟩) | (exact SF.out _ BD.out) | (exact SF.out _ (bl hHeld.1 HCB.out)) | (exact SF.out _ (hHeld.1.alloc hHeld.1.size _)))) (fun hHeld => ?_)
          clear hK K
          try simp only [Act.put, List.setIfInBounds_toArray, List.set_cons_zero, List.set_cons_succ]
          clear HCB
          refine wpAnyH_take (i := 29) (v := ?_) (by simp only [List.getElem?_toArray, List.getElem?_cons_succ, List.getElem?_cons_zero]; rfl) (by kernel_rfl) (by kernel_rfl) (by kernel_rfl) (fun _ _ _ h => h) (Or.inl ⟨by rfl, ?_⟩) (by assumption) ?_
          rotate_left
          · (intro ww hSw; (try dsimp only at hSw); go_simp; (try with_reducible rfl))
          try simp only [Act.put, List.setIfInBounds_toArray, List.set_cons_zero, List.set_cons_succ]
          refine wpAnyH_take (i := 30) (v := ?_) (by simp only [List.getElem?_toArray, List.getElem?_cons_succ, List.getElem?_cons_zero]; rfl) (by kernel_rfl) (by kernel_rfl) (by kernel_rfl) (fun _ _ _ h => h) (Or.inl ⟨by rfl, ?_⟩) (by assumption) ?_
          rotate_left
          · (intro ww hSw; (try dsimp only at hSw); go_simp; (try with_reducible rfl))
          try simp only [Act.put, List.setIfInBounds_toArray, List.set_cons_zero, List.set_cons_succ]
          refine wpAnyH_done (by kernel_rfl) ?_ _
          refine NoPanic.normal ?_
          have BF := Lib.hid hHeld.1.1
          go_wp2_with fail
          go_roundw
          case rel => exact ⟨j + 1, by omega, by go_num, by rw [HT.out], BF.out⟩
          case measure => simp [intOf]; omega
        ·
          go_simp
          go_at_call 20; (with_reducible refine (refn_any xd _ P3.out).mono ?_); rintro e' wB ⟨rfl, hb⟩; have HCB := Lib.hid hb; clear hb
          try go_wp2_with fail
          refine hK.out _ _ (by (first | (exact ⟨SF.out _ (bl hHeld.1.1 HCB.out), keep_cell HCB.out hHeld.2⟩) | (exact SF.out _ BD.out) | (exact SF.out _ (bl hHeld.1 HCB.out)) | (exact SF.out _ (hHeld.1.alloc hHeld.1.size _)))) (fun hHeld => ?_)
          clear hK K
          try simp only [Act.put, List.setIfInBounds_toArray, List.set_cons_zero, List.set_cons_succ]
          clear HCB
          refine wpAnyH_ready (rs := [10]) (by kernel_rfl) (by simp) (AllReadyH.cons (by simp only [List.getElem?_toArray, List.getElem?_cons_succ, List.getElem?_cons_zero]; rfl) (fun K hK => ?_) AllReadyH.nil)
          go_simp
          try go_wp2_with fail
          refine hK.out _ _ (by (first | (exact ⟨SF.out _ (bl hHeld.1.1 HCB.out), keep_cell HCB.out hHeld.2⟩) | (exact SF.out _ BD.out) | (exact SF.out _ (bl hHeld.1 HCB.out)) | (exact SF.out _ (hHeld.1.alloc hHeld.1.size _)))) (fun hHeld => ?_)
          clear hK K
          try simp only [Act.put, List.setIfInBounds_toArray, List.set_cons_zero, List.set_cons_succ]
          have hRow : (wB.alloc (.cells #[.string ⟨#[32, 105, 110, 32]⟩, .string ⟨#[32, 119, 105, 116, 104, 32]⟩, .string ⟨#[32, 98, 111, 120, 32]⟩] 9)).cell? ⟨wB.heap.size, xk.toNat, none⟩ = some (.string ⟨yk.toArray⟩) := (World.cell?_alloc_at _ _ _ _ rfl).trans HH.out
          refine wpAnyH_mono (S' := fun w' => (Below W0.heap.size W0 w' ∧ (∀ i, w'.cell? ⟨w.heap.size, i, none⟩ = (#[.int .i64 0, .int .i64 9, .int .i64 m, .slice pa ps.length pc, .slice (some ⟨xb, xo, none⟩) is.length ic, .int .i64 c][i]? : Option Value)) ∧ w'.cell? ⟨xb, xo + j * 3, none⟩ = some (.int .i64 xi) ∧ w'.cell? ⟨xb, xo + j * 3 + 1, none⟩ = some (.int .i64 xk) ∧ w'.cell? ⟨xb, xo + j * 3 + 2, none⟩ = some (.int .i64 xd)) ∧ w'.cell? ⟨wB.heap.size, xk.toNat, none⟩ = some (.string ⟨yk.toArray⟩)) (fun ww h => h.1) _ _ _ _ ?_
          have hHeld := And.intro hHeld hRow
          clear hRow
          refine wpAnyH_take (i := 18) (v := ?_) (by simp only [List.getElem?_toArray, List.getElem?_cons_succ, List.getElem?_cons_zero]; rfl) (by kernel_rfl) (by kernel_rfl) (by kernel_rfl) (fun _ _ _ h => h) (Or.inl ⟨by rfl, ?_⟩) (by assumption) ?_
          rotate_left
          · (intro ww hSw; (try dsimp only at hSw); go_simp; (try with_reducible rfl))
          try simp only [Act.put, List.setIfInBounds_toArray, List.set_cons_zero, List.set_cons_succ]
          refine wpAnyH_take (i := 19) (v := ?_) (by simp only [List.getElem?_toArray, List.getElem?_cons_succ, List.getElem?_cons_zero]; rfl) (by kernel_rfl) (by kernel_rfl) (by kernel_rfl) (fun _ _ _ h => h) (Or.inl ⟨by rfl, ?_⟩) (by assumption) ?_
          rotate_left
          · (intro ww hSw; (try dsimp only at hSw); go_simp; (try with_reducible rfl))
          try simp only [Act.put, List.setIfInBounds_toArray, List.set_cons_zero, List.set_cons_succ]
          refine wpAnyH_take (i := 20) (v := ?_) (by simp only [List.getElem?_toArray, List.getElem?_cons_succ, List.getElem?_cons_zero]; rfl) (by kernel_rfl) (by kernel_rfl) (by kernel_rfl) (fun _ _ _ h => h) (Or.inl ⟨by rfl, ?_⟩) (by assumption) ?_
          rotate_left
          · (intro ww hSw; (try dsimp only at hSw); go_simp; (try with_reducible rfl))
          try simp only [Act.put, List.setIfInBounds_toArray, List.set_cons_zero, List.set_cons_succ]
          refine wpAnyH_take (i := 29) (v := ?_) (by simp only [List.getElem?_toArray, List.getElem?_cons_succ, List.getElem?_cons_zero]; rfl) (by kernel_rfl) (by kernel_rfl) (by kernel_rfl) (fun _ _ _ h => h) (Or.inl ⟨by rfl, ?_⟩) (by assumption) ?_
          rotate_left
          · (intro ww hSw; (try dsimp only at hSw); go_simp; (try with_reducible rfl))
          try simp only [Act.put, List.setIfInBounds_toArray, List.set_cons_zero, List.set_cons_succ]
          refine wpAnyH_take (i := 30) (v := ?_) (by simp only [List.getElem?_toArray, List.getElem?_cons_succ, List.getElem?_cons_zero]; rfl) (by kernel_rfl) (by kernel_rfl) (by kernel_rfl) (fun _ _ _ h => h) (Or.inl ⟨by rfl, ?_⟩) (by assumption) ?_
          rotate_left
          · (intro ww hSw; (try dsimp only at hSw); go_simp; (try with_reducible rfl))
          try simp only [Act.put, List.setIfInBounds_toArray, List.set_cons_zero, List.set_cons_succ]
          refine wpAnyH_done (by kernel_rfl) ?_ _
          refine NoPanic.normal ?_
          have BF := Lib.hid hHeld.1.1
          go_wp2_with fail
          go_roundw
          case rel => exact ⟨j + 1, by omega, by go_num, by rw [HT.out], BF.out⟩
          case measure => simp [intOf]; omega
      ·
        go_simp
        try go_wp2_with fail
        refine hK.out _ _ (by (first | (exact ⟨SF.out _ (bl hHeld.1.1 HCB.out), keep_cell HCB.out hHeld.2⟩) | (exact SF.out _ BD.out) | (exact SF.out _ (bl hHeld.1 HCB.out)) | (exact SF.out _ (hHeld.1.alloc hHeld.1.size _)))) (fun hHeld => ?_)
        clear hK K
        try simp only [Act.put, List.setIfInBounds_toArray, List.set_cons_zero, List.set_cons_succ]
        have hRow : (wr.drew.alloc (.cells #[.string ⟨#[32, 105, 110, 32]⟩, .string ⟨#[32, 119, 105, 116, 104, 32]⟩, .string ⟨#[32, 98, 111, 120, 32]⟩] 9)).cell? ⟨wr.heap.size, xk.toNat, none⟩ = some (.string ⟨yk.toArray⟩) := (World.cell?_alloc_at _ _ _ _ rfl).trans HH.out
        refine wpAnyH_mono (S' := fun w' => (Below W0.heap.size W0 w' ∧ (∀ i, w'.cell? ⟨w.heap.size, i, none⟩ = (#[.int .i64 0, .int .i64 9, .int .i64 m, .slice pa ps.length pc, .slice (some ⟨xb, xo, none⟩) is.length ic, .int .i64 c][i]? : Option Value)) ∧ w'.cell? ⟨xb, xo + j * 3, none⟩ = some (.int .i64 xi) ∧ w'.cell? ⟨xb, xo + j * 3 + 1, none⟩ = some (.int .i64 xk) ∧ w'.cell? ⟨xb, xo + j * 3 + 2, none⟩ = some (.int .i64 xd)) ∧ w'.cell? ⟨wr.heap.size, xk.toNat, none⟩ = some (.string ⟨yk.toArray⟩)) (fun ww h => h.1) _ _ _ _ ?_
        have hHeld := And.intro hHeld hRow
        clear hRow
        refine wpAnyH_take (i := 18) (v := ?_) (by simp only [List.getElem?_toArray, List.getElem?_cons_succ, List.getElem?_cons_zero]; rfl) (by kernel_rfl) (by kernel_rfl) (by kernel_rfl) (fun _ _ _ h => h) (Or.inl ⟨by rfl, ?_⟩) (by assumption) ?_
        rotate_left
        · (intro ww hSw; (try dsimp only at hSw); go_simp; (try with_reducible rfl))
        try simp only [Act.put, List.setIfInBounds_toArray, List.set_cons_zero, List.set_cons_succ]
        refine wpAnyH_take (i := 19) (v := ?_) (by simp only [List.getElem?_toArray, List.getElem?_cons_succ, List.getElem?_cons_zero]; rfl) (by kernel_rfl) (by kernel_rfl) (by kernel_rfl) (fun _ _ _ h => h) (Or.inl ⟨by rfl, ?_⟩) (by assumption) ?_
        rotate_left
        · (intro ww hSw; (try dsimp only at hSw); go_simp; (try with_reducible rfl))
        try simp only [Act.put, List.setIfInBounds_toArray, List.set_cons_zero, List.set_cons_succ]
        refine wpAnyH_ready (rs := [8]) (by kernel_rfl) (by simp) (AllReadyH.cons (by simp only [List.getElem?_toArray, List.getElem?_cons_succ, List.getElem?_cons_zero]; rfl) (fun K hK => ?_) AllReadyH.nil)
        go_simp
        go_at_call 20; (with_reducible refine (refn_any xi _ P2.out).mono ?_); rintro e' wA ⟨rfl, hb⟩; have HCB := Lib.hid hb; clear hb
        try go_wp2_with fail
        refine hK.out _ _ (by (first | (exact ⟨SF.out _ (bl hHeld.1.1 HCB.out), keep_cell HCB.out hHeld.2⟩) | (exact SF.out _ BD.out) | (exact SF.out _ (bl hHeld.1 HCB.out)) | (exact SF.out _ (hHeld.1.alloc hHeld.1.size _)))) (fun hHeld => ?_)
        clear hK K
        try simp only [Act.put, List.setIfInBounds_toArray, List.set_cons_zero, List.set_cons_succ]
        clear HCB
        refine wpAnyH_take (i := 9) (v := ?_) (by simp only [List.getElem?_toArray, List.getElem?_cons_succ, List.getElem?_cons_zero]; rfl) (by kernel_rfl) (by kernel_rfl) (by kernel_rfl) (fun _ _ _ h => h) (Or.inl ⟨by rfl, ?_⟩) (by assumption) ?_
        rotate_left
        · (intro ww hSw; (try dsimp only at hSw); go_simp; (try with_reducible rfl))
        try simp only [Act.put, List.setIfInBounds_toArray, List.set_cons_zero, List.set_cons_succ]
        refine wpAnyH_take (i := 20) (v := ?_) (by simp only [List.getElem?_toArray, List.getElem?_cons_succ, List.getElem?_cons_zero]; rfl) (by kernel_rfl) (by kernel_rfl) (by kernel_rfl) (fun _ _ _ h => h) (Or.inl ⟨by rfl, ?_⟩) (by assumption) ?_
        rotate_left
        · (intro ww hSw; (try dsimp only at hSw); go_simp; (try with_reducible rfl))
        try simp only [Act.put, List.setIfInBounds_toArray, List.set_cons_zero, List.set_cons_succ]
        refine wpAnyH_ready (rs := [28]) (by kernel_rfl) (by simp) (AllReadyH.cons (by simp only [List.getElem?_toArray, List.getElem?_cons_succ, List.getElem?_cons_zero]; rfl) (fun K hK => ?_) AllReadyH.nil)
        go_simp
        go_at_call 20; (with_reducible refine (refn_any xd _ P3.out).mono ?_); rintro e' wB ⟨rfl, hb⟩; have HCB := Lib.hid hb; clear hb
        try go_wp2_with fail
        refine hK.out _ _ (by (first | (exact ⟨SF.out _ (bl hHeld.1.1 HCB.out), keep_cell HCB.out hHeld.2⟩) | (exact SF.out _ BD.out) | (exact SF.out _ (bl hHeld.1 HCB.out)) | (exact SF.out _ (hHeld.1.alloc hHeld.1.size _)))) (fun hHeld => ?_)
        clear hK K
        try simp only [Act.put, List.setIfInBounds_toArray, List.set_cons_zero, List.set_cons_succ]
        clear HCB
        refine wpAnyH_take (i := 29) (v := ?_) (by simp only [List.getElem?_toArray, List.getElem?_cons_succ, List.getElem?_cons_zero]; rfl) (by kernel_rfl) (by kernel_rfl) (by kernel_rfl) (fun _ _ _ h => h) (Or.inl ⟨by rfl, ?_⟩) (by assumption) ?_
        rotate_left
        · (intro ww hSw; (try dsimp only at hSw); go_simp; (try with_reducible rfl))
        try simp only [Act.put, List.setIfInBounds_toArray, List.set_cons_zero, List.set_cons_succ]
        refine wpAnyH_take (i := 30) (v := ?_) (by simp only [List.getElem?_toArray, List.getElem?_cons_succ, List.getElem?_cons_zero]; rfl) (by kernel_rfl) (by kernel_rfl) (by kernel_rfl) (fun _ _ _ h => h) (Or.inl ⟨by rfl, ?_⟩) (by assumption) ?_
        rotate_left
        · (intro ww hSw; (try dsimp only at hSw); go_simp; (try with_reducible rfl))
        try simp only [Act.put, List.setIfInBounds_toArray, List.set_cons_zero, List.set_cons_succ]
        refine wpAnyH_done (by kernel_rfl) ?_ _
        refine NoPanic.normal ?_
        have BF := Lib.hid hHeld.1.1
        go_wp2_with fail
        go_roundw
        case rel => exact ⟨j + 1, by omega, by go_num, by rw [HT.out], BF.out⟩
        case measure => simp [intOf]; omega
    · have hje : j = is.length := by omega
      subst hje
      rw [show is.take is.length = is from List.take_of_length_le (Nat.le_refl _)]
      have hA := HK.out _ HBL.out
      go_wp2_with fail
      go_ret2
      exact ⟨rfl, bl BL.out HBL.out⟩
end
theorem rrefput_any (r : Rp) (pa ia : Option Addr) (pc ic : Nat) (w : World) (h1 : IntsAt w pa r.players) (h2 : SnsAt w ia r.items) :
    Calls Tryd.prog 11 #[.agg #[.int .i64 r.err, .int .i64 r.kind, .int .i64 r.room, .slice pa r.players.length pc, .slice ia r.items.length ic, .int .i64 r.coins]] w fun e w' => e = .returned (rputOut r) ∧ Below w.heap.size w w' := by
  obtain ⟨e, k, m, ps, is, c⟩ := r
  cases hm : rmayB ⟨e, k, m, ps, is, c⟩
  · exact refput_no m c ps is pa ia pc ic w e k hm h1 h2
  · by_cases h0 : e = 0
    · subst h0
      by_cases h12 : k = 1 ∨ k = 2
      · exact refput_move m c ps is pa ia pc ic w k h12 hm h1 h2
      · by_cases h9 : k = 9
        · subst h9
          exact refput_look m c ps is pa ia pc ic w hm h1 h2
        · by_cases h10 : k = 10
          · subst h10
            exact refput_own m c ps is pa ia pc ic w hm h1 h2
          · exact refput_else m c ps is pa ia pc ic w k h12 h9 h10 hm h1 h2
    · exact refput_err m c ps is pa ia pc ic w e k h0 hm h1 h2
end Go.Proofs.YtcabeagmdfpdlaaDoor
