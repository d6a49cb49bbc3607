/- The document's own: is there such an item; is it near. -/
import Derived.Test.YtgmkcddgkgcbbaaGreatTreeRefA
import Derived.Test.YtgmkcddgkgcbbaaGreatGBoxM
import Derived.Test.YtgmkcddgkgcbbaaGreatHoldE
namespace Go.Proofs.YtgmkcddgkgcbbaaGreat
open Go.ChangeShapes Go.WideShapes Go.ChangeAt Go.RowKit
set_option linter.unusedVariables false
set_option maxRecDepth 100000
section
theorem is10_any (x : Wd) (p : Wp) (k : Int) (w : World) : Calls Tryz.prog 68 #[.agg (wC x p), .int .i64 k] w fun e w' => e = .returned (.bool (inB k x.wher.length)) ∧ Below w.heap.size w w' := by
 have hb := (Below.refl w.heap.size w).alloc (Nat.le_refl _) (.cells (wC x p) 29)
 unfold inB
 by_cases h1 : 0 ≤ k
 ·by_cases h2 : k < x.wher.length
  ·
   have hWC := @wC.eq_1
   go_enter Tryz.func68, Tryz.ntmps68
   go_wp2_with fail
   go_ret
   exact ⟨ret_bool (by simp), hb⟩
  ·
   have hWC := @wC.eq_1
   go_enter Tryz.func68, Tryz.ntmps68
   go_wp2_with fail
   go_ret
   exact ⟨ret_bool (by simp [h2]), hb⟩
 ·
  have hWC := @wC.eq_1
  go_enter Tryz.func68, Tryz.ntmps68
  go_wp2_with fail
  go_ret
  exact ⟨ret_bool (by simp; omega), hb⟩
theorem rnear_1 (x : Wd) (pd : Dp) (b o pac : Nat) (pk pw : Option Addr) (pkc pwc : Nat) (i k : Nat) (w : World) (hT : Tr x.wher) (h : WorldAt w ⟨pd, some ⟨b, o, none⟩, pac, pk, pkc, pw, pwc⟩ x) (hk : k < x.wher.length) (r : Int) (hb : b < w.heap.size) (hi : i < x.at_.length) (c1 : w.cell? ⟨b, o + i, none⟩ = some (.int .i64 r)) (hz : rootI x.wher k = ⟨0, r⟩) : Calls Tryz.prog 69 #[.agg (wC x ⟨pd, some ⟨b, o, none⟩, pac, pk, pkc, pw, pwc⟩), .int .i64 (i : Int), .int .i64 (k : Int)] w fun e w' => e = .returned (.bool true) ∧ Below w.heap.size w w' := by
 have hlen := h.at_.len
 have HT := Lib.hid hT
 have H := Lib.hid h
 have HZ := Lib.hid hz
 have C0 := Lib.hid (Holds.new w (wC x ⟨pd, some ⟨b, o, none⟩, pac, pk, pkc, pw, pwc⟩) 29)
 clear h hT hz
 have hc1 := C0.out.2.2
 have hl1 := C0.out.2.1
 have hWC := @wC.eq_1
 go_enter Tryz.func69, Tryz.ntmps69
 go_wp2_with fail
 refine (refroot_any x ⟨pd, some ⟨b, o, none⟩, pac, pk, pkc, pw, pwc⟩ HT.out k hk _ (H.out.wh.below C0.out.1 (Nat.le_refl _))).mono ?_
 rintro e w2 ⟨rfl, b2⟩
 rw [HZ.out]
 have C2 := Lib.hid (C0.out.call b2)
 clear b2 hc1 hl1
 have hc2 := C2.out.2.2
 have hl2 := C2.out.2.1
 have C3 := Lib.hid (C2.out.alloc (.cells #[.int .i64 0, .int .i64 r] 73))
 have D3 := Lib.hid (Blk.newn w2 73 #[.int .i64 0, .int .i64 r] (n := w2.heap.size) rfl)
 go_wp2_with fail
 clear hc2 hl2
 generalize w2.alloc (.cells #[.int .i64 0, .int .i64 r] 73) = V at *
 have hlc := C3.out.2.1
 have hld := D3.out.lt
 have c3 := cell_call c1 C3.out.1
 have KS : Hid (∀ w', Below V.heap.size V w' → Below V.heap.size V w' ∧ (∀ j, w'.cell? ⟨w.heap.size, j, none⟩ = ((wC x ⟨pd, some ⟨b, o, none⟩, pac, pk, pkc, pw, pwc⟩)[j]? : Option Value)) ∧ (∀ j, w'.cell? ⟨w2.heap.size, j, none⟩ = (#[.int .i64 0, .int .i64 r][j]? : Option Value)) ∧ w'.cell? ⟨b, o + i, none⟩ = some (.int .i64 r)) :=
  Lib.hid (fun w' hb => ⟨hb, (C3.out.call hb).2.2, (D3.out.call hb).cell, cell_call c3 hb⟩)
 clear c1 c3
 refine tkS (S := (fun w' => Below V.heap.size V w' ∧ (∀ j, w'.cell? ⟨w.heap.size, j, none⟩ = ((wC x ⟨pd, some ⟨b, o, none⟩, pac, pk, pkc, pw, pwc⟩)[j]? : Option Value)) ∧ (∀ j, w'.cell? ⟨w2.heap.size, j, none⟩ = (#[.int .i64 0, .int .i64 r][j]? : Option Value)) ∧ w'.cell? ⟨b, o + i, none⟩ = some (.int .i64 r))) (by (with_reducible exact KS.out _ (bdrew1 (Below.refl _ _)))) (fun hHeld => ?_)
 refine tkl [0, 1, 2, 3, 4, 5, 6, 7, 8, 9, 10, 11, 12, 13] ?_
 iterate 14
  refine tW ?_
  try go_frame
 refine tkl [14, 15, 16, 17, 18, 19, 20, 21, 22] ?_
 iterate 9
  refine tN ?_
  try go_frame
 refine tkl [23, 24] ?_
 iterate 2
  refine tW ?_
  try go_frame
 refine tkD ?_
 have BZ := Lib.hid (below_call C3.out.1 C3.out.1.size hHeld.1)
 clear hHeld
 go_wp2_with fail
 go_ret
 exact ⟨rfl, BZ.out⟩
theorem rnear_2 (x : Wd) (pd : Dp) (b o pac : Nat) (pk pw : Option Addr) (pkc pwc : Nat) (i k : Nat) (w : World) (hT : Tr x.wher) (h : WorldAt w ⟨pd, some ⟨b, o, none⟩, pac, pk, pkc, pw, pwc⟩ x) (hk : k < x.wher.length) (r zi : Int) (hb : b < w.heap.size) (hi : i < x.at_.length) (c1 : w.cell? ⟨b, o + i, none⟩ = some (.int .i64 r)) (hz : rootI x.wher k = ⟨0, zi⟩) (h1 : (zi == r) = false) : Calls Tryz.prog 69 #[.agg (wC x ⟨pd, some ⟨b, o, none⟩, pac, pk, pkc, pw, pwc⟩), .int .i64 (i : Int), .int .i64 (k : Int)] w fun e w' => e = .returned (.bool false) ∧ Below w.heap.size w w' := by
 have hlen := h.at_.len
 have HT := Lib.hid hT
 have H := Lib.hid h
 have HZ := Lib.hid hz
 have C0 := Lib.hid (Holds.new w (wC x ⟨pd, some ⟨b, o, none⟩, pac, pk, pkc, pw, pwc⟩) 29)
 clear h hT hz
 have hc1 := C0.out.2.2
 have hl1 := C0.out.2.1
 have hWC := @wC.eq_1
 go_enter Tryz.func69, Tryz.ntmps69
 go_wp2_with fail
 refine (refroot_any x ⟨pd, some ⟨b, o, none⟩, pac, pk, pkc, pw, pwc⟩ HT.out k hk _ (H.out.wh.below C0.out.1 (Nat.le_refl _))).mono ?_
 rintro e w2 ⟨rfl, b2⟩
 rw [HZ.out]
 have C2 := Lib.hid (C0.out.call b2)
 clear b2 hc1 hl1
 have hc2 := C2.out.2.2
 have hl2 := C2.out.2.1
 have C3 := Lib.hid (C2.out.alloc (.cells #[.int .i64 0, .int .i64 zi] 73))
 have D3 := Lib.hid (Blk.newn w2 73 #[.int .i64 0, .int .i64 zi] (n := w2.heap.size) rfl)
 go_wp2_with fail
 clear hc2 hl2
 generalize w2.alloc (.cells #[.int .i64 0, .int .i64 zi] 73) = V at *
 have hlc := C3.out.2.1
 have hld := D3.out.lt
 have c3 := cell_call c1 C3.out.1
 have KS : Hid (∀ w', Below V.heap.size V w' → Below V.heap.size V w' ∧ (∀ j, w'.cell? ⟨w.heap.size, j, none⟩ = ((wC x ⟨pd, some ⟨b, o, none⟩, pac, pk, pkc, pw, pwc⟩)[j]? : Option Value)) ∧ (∀ j, w'.cell? ⟨w2.heap.size, j, none⟩ = (#[.int .i64 0, .int .i64 zi][j]? : Option Value)) ∧ w'.cell? ⟨b, o + i, none⟩ = some (.int .i64 r)) :=
  Lib.hid (fun w' hb => ⟨hb, (C3.out.call hb).2.2, (D3.out.call hb).cell, cell_call c3 hb⟩)
 clear c1 c3
 refine tkS (S := (fun w' => Below V.heap.size V w' ∧ (∀ j, w'.cell? ⟨w.heap.size, j, none⟩ = ((wC x ⟨pd, some ⟨b, o, none⟩, pac, pk, pkc, pw, pwc⟩)[j]? : Option Value)) ∧ (∀ j, w'.cell? ⟨w2.heap.size, j, none⟩ = (#[.int .i64 0, .int .i64 zi][j]? : Option Value)) ∧ w'.cell? ⟨b, o + i, none⟩ = some (.int .i64 r))) (by (with_reducible exact KS.out _ (bdrew1 (Below.refl _ _)))) (fun hHeld => ?_)
 refine tkl [0, 1, 2, 3, 4, 5, 6, 7, 8, 9, 10, 11, 12, 13, 14, 15, 16, 17] ?_
 iterate 18
  refine tW ?_
  try go_frame
 refine tkl [18, 19, 20, 21] ?_
 iterate 4
  refine tN ?_
  try go_frame
 refine tkl [22, 23, 24] ?_
 iterate 3
  refine tW ?_
  try go_frame
 refine tkD ?_
 have BZ := Lib.hid (below_call C3.out.1 C3.out.1.size hHeld.1)
 clear hHeld
 go_wp2_with fail
 go_ret
 exact ⟨rfl, BZ.out⟩
theorem rnear_3 (x : Wd) (pd : Dp) (b o pac : Nat) (pk pw : Option Addr) (pkc pwc : Nat) (i k : Nat) (w : World) (hT : Tr x.wher) (h : WorldAt w ⟨pd, some ⟨b, o, none⟩, pac, pk, pkc, pw, pwc⟩ x) (hk : k < x.wher.length) (r : Int) (hb : b < w.heap.size) (hi : i < x.at_.length) (c1 : w.cell? ⟨b, o + i, none⟩ = some (.int .i64 r)) (hz : rootI x.wher k = ⟨1, (i : Int)⟩) : Calls Tryz.prog 69 #[.agg (wC x ⟨pd, some ⟨b, o, none⟩, pac, pk, pkc, pw, pwc⟩), .int .i64 (i : Int), .int .i64 (k : Int)] w fun e w' => e = .returned (.bool true) ∧ Below w.heap.size w w' := by
 have hlen := h.at_.len
 have HT := Lib.hid hT
 have H := Lib.hid h
 have HZ := Lib.hid hz
 have C0 := Lib.hid (Holds.new w (wC x ⟨pd, some ⟨b, o, none⟩, pac, pk, pkc, pw, pwc⟩) 29)
 clear h hT hz
 have hc1 := C0.out.2.2
 have hl1 := C0.out.2.1
 have hWC := @wC.eq_1
 go_enter Tryz.func69, Tryz.ntmps69
 go_wp2_with fail
 refine (refroot_any x ⟨pd, some ⟨b, o, none⟩, pac, pk, pkc, pw, pwc⟩ HT.out k hk _ (H.out.wh.below C0.out.1 (Nat.le_refl _))).mono ?_
 rintro e w2 ⟨rfl, b2⟩
 rw [HZ.out]
 have C2 := Lib.hid (C0.out.call b2)
 clear b2 hc1 hl1
 have hc2 := C2.out.2.2
 have hl2 := C2.out.2.1
 have C3 := Lib.hid (C2.out.alloc (.cells #[.int .i64 1, .int .i64 (i : Int)] 73))
 have D3 := Lib.hid (Blk.newn w2 73 #[.int .i64 1, .int .i64 (i : Int)] (n := w2.heap.size) rfl)
 go_wp2_with fail
 clear hc2 hl2
 generalize w2.alloc (.cells #[.int .i64 1, .int .i64 (i : Int)] 73) = V at *
 have hlc := C3.out.2.1
 have hld := D3.out.lt
 have c3 := cell_call c1 C3.out.1
 have KS : Hid (∀ w', Below V.heap.size V w' → Below V.heap.size V w' ∧ (∀ j, w'.cell? ⟨w.heap.size, j, none⟩ = ((wC x ⟨pd, some ⟨b, o, none⟩, pac, pk, pkc, pw, pwc⟩)[j]? : Option Value)) ∧ (∀ j, w'.cell? ⟨w2.heap.size, j, none⟩ = (#[.int .i64 1, .int .i64 (i : Int)][j]? : Option Value)) ∧ w'.cell? ⟨b, o + i, none⟩ = some (.int .i64 r)) :=
  Lib.hid (fun w' hb => ⟨hb, (C3.out.call hb).2.2, (D3.out.call hb).cell, cell_call c3 hb⟩)
 clear c1 c3
 refine tkS (S := (fun w' => Below V.heap.size V w' ∧ (∀ j, w'.cell? ⟨w.heap.size, j, none⟩ = ((wC x ⟨pd, some ⟨b, o, none⟩, pac, pk, pkc, pw, pwc⟩)[j]? : Option Value)) ∧ (∀ j, w'.cell? ⟨w2.heap.size, j, none⟩ = (#[.int .i64 1, .int .i64 (i : Int)][j]? : Option Value)) ∧ w'.cell? ⟨b, o + i, none⟩ = some (.int .i64 r))) (by (with_reducible exact KS.out _ (bdrew1 (Below.refl _ _)))) (fun hHeld => ?_)
 refine tkl [0, 1, 2, 3] ?_
 iterate 4
  refine tW ?_
  try go_frame
 refine tkl [4, 5, 6, 7, 8, 9, 10, 11] ?_
 iterate 8
  refine tN ?_
  try go_frame
 refine tkl [12, 13, 14, 15, 16, 17, 18, 19, 20, 21, 22, 23, 24] ?_
 iterate 13
  refine tW ?_
  try go_frame
 refine tkD ?_
 have BZ := Lib.hid (below_call C3.out.1 C3.out.1.size hHeld.1)
 clear hHeld
 go_wp2_with fail
 go_ret
 exact ⟨rfl, BZ.out⟩
theorem rnear_4 (x : Wd) (pd : Dp) (b o pac : Nat) (pk pw : Option Addr) (pkc pwc : Nat) (i k : Nat) (w : World) (hT : Tr x.wher) (h : WorldAt w ⟨pd, some ⟨b, o, none⟩, pac, pk, pkc, pw, pwc⟩ x) (hk : k < x.wher.length) (r zi : Int) (hb : b < w.heap.size) (hi : i < x.at_.length) (c1 : w.cell? ⟨b, o + i, none⟩ = some (.int .i64 r)) (hz : rootI x.wher k = ⟨1, zi⟩) (h1 : (zi == (i : Int)) = false) : Calls Tryz.prog 69 #[.agg (wC x ⟨pd, some ⟨b, o, none⟩, pac, pk, pkc, pw, pwc⟩), .int .i64 (i : Int), .int .i64 (k : Int)] w fun e w' => e = .returned (.bool false) ∧ Below w.heap.size w w' := by
 have hlen := h.at_.len
 have HT := Lib.hid hT
 have H := Lib.hid h
 have HZ := Lib.hid hz
 have C0 := Lib.hid (Holds.new w (wC x ⟨pd, some ⟨b, o, none⟩, pac, pk, pkc, pw, pwc⟩) 29)
 clear h hT hz
 have hc1 := C0.out.2.2
 have hl1 := C0.out.2.1
 have hWC := @wC.eq_1
 go_enter Tryz.func69, Tryz.ntmps69
 go_wp2_with fail
 refine (refroot_any x ⟨pd, some ⟨b, o, none⟩, pac, pk, pkc, pw, pwc⟩ HT.out k hk _ (H.out.wh.below C0.out.1 (Nat.le_refl _))).mono ?_
 rintro e w2 ⟨rfl, b2⟩
 rw [HZ.out]
 have C2 := Lib.hid (C0.out.call b2)
 clear b2 hc1 hl1
 have hc2 := C2.out.2.2
 have hl2 := C2.out.2.1
 have C3 := Lib.hid (C2.out.alloc (.cells #[.int .i64 1, .int .i64 zi] 73))
 have D3 := Lib.hid (Blk.newn w2 73 #[.int .i64 1, .int .i64 zi] (n := w2.heap.size) rfl)
 go_wp2_with fail
 clear hc2 hl2
 generalize w2.alloc (.cells #[.int .i64 1, .int .i64 zi] 73) = V at *
 have hlc := C3.out.2.1
 have hld := D3.out.lt
 have c3 := cell_call c1 C3.out.1
 have KS : Hid (∀ w', Below V.heap.size V w' → Below V.heap.size V w' ∧ (∀ j, w'.cell? ⟨w.heap.size, j, none⟩ = ((wC x ⟨pd, some ⟨b, o, none⟩, pac, pk, pkc, pw, pwc⟩)[j]? : Option Value)) ∧ (∀ j, w'.cell? ⟨w2.heap.size, j, none⟩ = (#[.int .i64 1, .int .i64 zi][j]? : Option Value)) ∧ w'.cell? ⟨b, o + i, none⟩ = some (.int .i64 r)) :=
  Lib.hid (fun w' hb => ⟨hb, (C3.out.call hb).2.2, (D3.out.call hb).cell, cell_call c3 hb⟩)
 clear c1 c3
 refine tkS (S := (fun w' => Below V.heap.size V w' ∧ (∀ j, w'.cell? ⟨w.heap.size, j, none⟩ = ((wC x ⟨pd, some ⟨b, o, none⟩, pac, pk, pkc, pw, pwc⟩)[j]? : Option Value)) ∧ (∀ j, w'.cell? ⟨w2.heap.size, j, none⟩ = (#[.int .i64 1, .int .i64 zi][j]? : Option Value)) ∧ w'.cell? ⟨b, o + i, none⟩ = some (.int .i64 r))) (by (with_reducible exact KS.out _ (bdrew1 (Below.refl _ _)))) (fun hHeld => ?_)
 refine tkl [0, 1, 2, 3] ?_
 iterate 4
  refine tW ?_
  try go_frame
 refine tkl [4, 5, 6, 7, 8, 9, 10, 11] ?_
 iterate 8
  refine tN ?_
  try go_frame
 refine tkl [12, 13, 14, 15, 16, 17, 18, 19, 20, 21, 22, 23, 24] ?_
 iterate 13
  refine tW ?_
  try go_frame
 refine tkD ?_
 have BZ := Lib.hid (below_call C3.out.1 C3.out.1.size hHeld.1)
 clear hHeld
 go_wp2_with fail
 go_ret
 exact ⟨rfl, BZ.out⟩
theorem rnear_5 (x : Wd) (pd : Dp) (b o pac : Nat) (pk pw : Option Addr) (pkc pwc : Nat) (i k : Nat) (w : World) (hT : Tr x.wher) (h : WorldAt w ⟨pd, some ⟨b, o, none⟩, pac, pk, pkc, pw, pwc⟩ x) (hk : k < x.wher.length) (r zk zi : Int) (hb : b < w.heap.size) (hi : i < x.at_.length) (c1 : w.cell? ⟨b, o + i, none⟩ = some (.int .i64 r)) (hz : rootI x.wher k = ⟨zk, zi⟩) (h0 : (zk == 0) = false) (h1 : (zk == 1) = false) : Calls Tryz.prog 69 #[.agg (wC x ⟨pd, some ⟨b, o, none⟩, pac, pk, pkc, pw, pwc⟩), .int .i64 (i : Int), .int .i64 (k : Int)] w fun e w' => e = .returned (.bool false) ∧ Below w.heap.size w w' := by
 have hlen := h.at_.len
 have HT := Lib.hid hT
 have H := Lib.hid h
 have HZ := Lib.hid hz
 have C0 := Lib.hid (Holds.new w (wC x ⟨pd, some ⟨b, o, none⟩, pac, pk, pkc, pw, pwc⟩) 29)
 clear h hT hz
 have hc1 := C0.out.2.2
 have hl1 := C0.out.2.1
 have hWC := @wC.eq_1
 go_enter Tryz.func69, Tryz.ntmps69
 go_wp2_with fail
 refine (refroot_any x ⟨pd, some ⟨b, o, none⟩, pac, pk, pkc, pw, pwc⟩ HT.out k hk _ (H.out.wh.below C0.out.1 (Nat.le_refl _))).mono ?_
 rintro e w2 ⟨rfl, b2⟩
 rw [HZ.out]
 have C2 := Lib.hid (C0.out.call b2)
 clear b2 hc1 hl1
 have hc2 := C2.out.2.2
 have hl2 := C2.out.2.1
 have C3 := Lib.hid (C2.out.alloc (.cells #[.int .i64 zk, .int .i64 zi] 73))
 have D3 := Lib.hid (Blk.newn w2 73 #[.int .i64 zk, .int .i64 zi] (n := w2.heap.size) rfl)
 go_wp2_with fail
 clear hc2 hl2
 generalize w2.alloc (.cells #[.int .i64 zk, .int .i64 zi] 73) = V at *
 have hlc := C3.out.2.1
 have hld := D3.out.lt
 have c3 := cell_call c1 C3.out.1
 have KS : Hid (∀ w', Below V.heap.size V w' → Below V.heap.size V w' ∧ (∀ j, w'.cell? ⟨w.heap.size, j, none⟩ = ((wC x ⟨pd, some ⟨b, o, none⟩, pac, pk, pkc, pw, pwc⟩)[j]? : Option Value)) ∧ (∀ j, w'.cell? ⟨w2.heap.size, j, none⟩ = (#[.int .i64 zk, .int .i64 zi][j]? : Option Value)) ∧ w'.cell? ⟨b, o + i, none⟩ = some (.int .i64 r)) :=
  Lib.hid (fun w' hb => ⟨hb, (C3.out.call hb).2.2, (D3.out.call hb).cell, cell_call c3 hb⟩)
 clear c1 c3
 refine tkS (S := (fun w' => Below V.heap.size V w' ∧ (∀ j, w'.cell? ⟨w.heap.size, j, none⟩ = ((wC x ⟨pd, some ⟨b, o, none⟩, pac, pk, pkc, pw, pwc⟩)[j]? : Option Value)) ∧ (∀ j, w'.cell? ⟨w2.heap.size, j, none⟩ = (#[.int .i64 zk, .int .i64 zi][j]? : Option Value)) ∧ w'.cell? ⟨b, o + i, none⟩ = some (.int .i64 r))) (by (with_reducible exact KS.out _ (bdrew1 (Below.refl _ _)))) (fun hHeld => ?_)
 refine tkl [0, 1, 2, 3] ?_
 iterate 4
  refine tW ?_
  try go_frame
 refine tkl [4, 5, 6, 7, 8, 9, 10, 11] ?_
 iterate 8
  refine tN ?_
  try go_frame
 refine tkl [12, 13, 14, 15, 16, 17] ?_
 iterate 6
  refine tW ?_
  try go_frame
 refine tkl [18, 19, 20, 21] ?_
 iterate 4
  refine tN ?_
  try go_frame
 refine tkl [22, 23, 24] ?_
 iterate 3
  refine tW ?_
  try go_frame
 refine tkD ?_
 have BZ := Lib.hid (below_call C3.out.1 C3.out.1.size hHeld.1)
 clear hHeld
 go_wp2_with fail
 go_ret
 exact ⟨rfl, BZ.out⟩
theorem refnear_any (x : Wd) (p : Wp) (i k : Nat) (w : World) (hx : rightW x = true) (h : WorldAt w p x) (hi : i < x.at_.length) (hk : k < x.wher.length) : Calls Tryz.prog 69 #[.agg (wC x p), .int .i64 (i : Int), .int .i64 (k : Int)] w fun e w' => e = .returned (.bool (nearB x i k)) ∧ Below w.heap.size w w' := by
 obtain ⟨b, o, ea, hb, hc⟩ := h.at_.at_ hi
 have c1 := hc i hi
 rw [(room_at hx hi).1] at c1
 have hN : nearB x i k = (decide (rootI x.wher k = ⟨0, (roomOf x i : Int)⟩) || decide (rootI x.wher k = ⟨1, (i : Int)⟩)) := rfl
 obtain ⟨pd, pa, pac, pk, pkc, pw, pwc⟩ := p
 simp only at ea
 subst ea
 rcases hz : rootI x.wher k with ⟨zk, zi⟩
 rw [hz] at hN
 generalize ((roomOf x i : Nat) : Int) = r at *
 by_cases h0 : zk = 0
 ·subst h0
  by_cases h1 : zi = r
  ·subst h1
   rw [show nearB x i k = true by rw [hN]; simp]
   exact rnear_1 x pd b o pac pk pw pkc pwc i k w (right_tr hx) h hk _ hb hi c1 hz
  ·rw [show nearB x i k = false by rw [hN]; simp [h1]]
   exact rnear_2 x pd b o pac pk pw pkc pwc i k w (right_tr hx) h hk _ _ hb hi c1 hz (by simpa using h1)
 ·by_cases h2 : zk = 1
  ·subst h2
   by_cases h1 : zi = i
   ·subst h1
    rw [show nearB x i k = true by rw [hN]; simp]
    exact rnear_3 x pd b o pac pk pw pkc pwc i k w (right_tr hx) h hk _ hb hi c1 hz
   ·rw [show nearB x i k = false by rw [hN]; simp [h1]]
    exact rnear_4 x pd b o pac pk pw pkc pwc i k w (right_tr hx) h hk _ _ hb hi c1 hz (by simpa using h1)
  ·rw [show nearB x i k = false by rw [hN]; simp [h0, h2]]
   exact rnear_5 x pd b o pac pk pw pkc pwc i k w (right_tr hx) h hk _ _ _ hb hi c1 hz (by simpa using h0) (by simpa using h2)
end
section
theorem boxes_len10 {x : Wd} (h : rightW x = true) : x.d.boxes.length = x.wher.length := by
 have hm := (right_lens h).2.2.2.2
 have h2 := hm.2
 simp only [mayD, mayItB, Bool.and_eq_true, decide_eq_true_eq] at h2
 have := h2.2.2.2.2.1
 omega
theorem depth10_as {x y : Wd} (hs : Shape x y) (p : Wp) (q : Pl) (w : World) (h : PlsAt w p.wh y.wher) (hid : BoxesIn y.wher) (hy : q.kind = 2 → 0 ≤ q.id ∧ q.id < y.wher.length) :
 Calls Tryz.prog 37 #[.agg (wC x p), .agg #[.int .i64 q.kind, .int .i64 q.id]] w fun e w' => e = .returned (.int .i64 (depthR y.wher q : Nat)) ∧ Below w.heap.size w w' := by
 have := depth_any y p q w h hid hy
 rwa [hs.val] at this
theorem boxesin_put {ps : List Pl} (hT : Tr ps) {k b : Nat} (hb : b < ps.length) : BoxesIn (ps.set k (box b)) := by
 intro p hp h2
 rw [List.length_set]
 rcases List.mem_or_eq_of_mem_set hp with hp | rfl
 ·exact hT.ids p hp h2
 ·simp only [box]; omega
theorem refto_bx (x : Wd) (p : Wp) (k c : Nat) (w : World) (h : WorldAt w p x) (hf : FewW x) (hk : k < x.wher.length) : Calls Tryz.prog 67 #[.agg (wC x p), .int .i64 (k : Int), .agg #[.int .i64 2, .int .i64 (c : Int)]] w fun e w' => ∃ q : Wp, e = .returned (.agg (wC x q)) ∧ WhOwn w.heap.size w' p.d q (putW x k (box c)) ∧ Below w.heap.size w w' :=
 refto_any x p k (box c) w h hf hk
theorem rroom_bx (x : Wd) (p : Wp) (i : Nat) (w : World) (hx : rightW x = true) (h : WorldAt w p x) : Calls Tryz.prog 66 #[.agg (wC x p), .agg #[.int .i64 2, .int .i64 (i : Int)]] w fun e w' => e = .returned (.int .i64 (roomI x (box i))) ∧ Below w.heap.size w w' :=
 refroom_any x p 2 i (by decide) (cap_in hx (by decide)) w h.wh (by have := (right_lens hx).2.2.2.1; omega)
theorem rbput_none1 (x : Wd) (p : Wp) (i : Nat) (k c : Int) (w : World) (h1 : inB k x.wher.length = false) : Calls Tryz.prog 25 #[.agg (wC x p), .int .i64 (i : Int), .int .i64 k, .int .i64 c] w fun e w' => e = .returned (.tuple #[.agg (wC x p), .int .i64 3]) ∧ Below w.heap.size w w' := by
 have C0 := Lib.hid (Two.start 29 29 w (wC x p) #[.slice none 0 0, .slice none 0 0, .slice none 0 0, .slice none 0 0, .slice none 0 0, .int .i64 0, .int .i64 0, .int .i64 0, .slice none 0 0, .slice none 0 0, .slice none 0 0])
 have H1 := Lib.hid h1
 clear h1
 have hWC := @wC.eq_1
 go_enter Tryz.func25, Tryz.ntmps25
 go_wp2_with fail
 refine (is10_any x p k _).mono ?_
 rintro e w1 ⟨rfl, b1⟩
 rw [H1.out]
 have C1 := Lib.hid (C0.out.call b1)
 clear b1
 have hca := C1.out.a.cell
 have hla := C1.out.a.lt
 have hcr : ∀ i, World.cell? _ ⟨w.heap.size + 1, i, none⟩ = _ := C1.out.r.cell
 have hzr : ∀ i, World.frozen? _ ⟨w.heap.size + 1, i, none⟩ = false := C1.out.r.frozen
 have hlr : w.heap.size + 1 < _ := C1.out.r.lt
 go_wp2_with fail
 refine bodyPost_ret (v := .tuple #[.agg (wC x p), .int .i64 3]) (by simp [results, Tryz.results25, go_sem, hcr]) rfl ⟨rfl, ?_⟩
 iterate 11 refine Below.setCell ?_ (by show w.heap.size ≤ w.heap.size + 1; omega) _
 exact C1.out.b
theorem rbput_none2 (x : Wd) (p : Wp) (i : Nat) (k c : Int) (w : World) (h1 : inB k x.wher.length = true) (h2 : inB c x.wher.length = false) : Calls Tryz.prog 25 #[.agg (wC x p), .int .i64 (i : Int), .int .i64 k, .int .i64 c] w fun e w' => e = .returned (.tuple #[.agg (wC x p), .int .i64 3]) ∧ Below w.heap.size w w' := by
 have C0 := Lib.hid (Two.start 29 29 w (wC x p) #[.slice none 0 0, .slice none 0 0, .slice none 0 0, .slice none 0 0, .slice none 0 0, .int .i64 0, .int .i64 0, .int .i64 0, .slice none 0 0, .slice none 0 0, .slice none 0 0])
 have H1 := Lib.hid h1
 have H2 := Lib.hid h2
 clear h1 h2
 have hWC := @wC.eq_1
 go_enter Tryz.func25, Tryz.ntmps25
 go_wp2_with fail
 refine (is10_any x p k _).mono ?_
 rintro e w1 ⟨rfl, b1⟩
 rw [H1.out]
 have C1 := Lib.hid (C0.out.call b1)
 clear b1
 have hca := C1.out.a.cell
 have hla := C1.out.a.lt
 have hcr : ∀ i, World.cell? _ ⟨w.heap.size + 1, i, none⟩ = _ := C1.out.r.cell
 have hzr : ∀ i, World.frozen? _ ⟨w.heap.size + 1, i, none⟩ = false := C1.out.r.frozen
 have hlr : w.heap.size + 1 < _ := C1.out.r.lt
 go_wp2_with fail
 refine (is10_any x p c _).mono ?_
 rintro e w2 ⟨rfl, b2⟩
 rw [H2.out]
 have C2 := Lib.hid (C1.out.call b2)
 clear b2 hca hla hcr hzr hlr
 have hca := C2.out.a.cell
 have hla := C2.out.a.lt
 have hcr : ∀ i, World.cell? _ ⟨w.heap.size + 1, i, none⟩ = _ := C2.out.r.cell
 have hzr : ∀ i, World.frozen? _ ⟨w.heap.size + 1, i, none⟩ = false := C2.out.r.frozen
 have hlr : w.heap.size + 1 < _ := C2.out.r.lt
 go_wp2_with fail
 refine bodyPost_ret (v := .tuple #[.agg (wC x p), .int .i64 3]) (by simp [results, Tryz.results25, go_sem, hcr]) rfl ⟨rfl, ?_⟩
 iterate 11 refine Below.setCell ?_ (by show w.heap.size ≤ w.heap.size + 1; omega) _
 exact C2.out.b
section
variable (x : Wd) (px pp pc pi pa pk : Option Addr) (pxc ppc pcc pic bb bo pbc pac pkc b o pwc : Nat) (i k c : Nat) (w : World) (hx : rightW x = true) (h : WorldAt w ⟨⟨px, pxc, pp, ppc, pc, pcc, pi, pic, some ⟨bb, bo, none⟩, pbc⟩, pa, pac, pk, pkc, some ⟨b, o, none⟩, pwc⟩ x) (hi : i < x.at_.length) (hk : k < x.wher.length) (hc : c < x.wher.length) (hbb : bb < w.heap.size) (hb : b < w.heap.size)
 (c0 : w.cell? ⟨b, o + k * 2, none⟩ = some (.int .i64 (plOf x.wher k).kind)) (c1 : w.cell? ⟨b, o + k * 2 + 1, none⟩ = some (.int .i64 (plOf x.wher k).id)) (c2 : w.cell? ⟨bb, bo + c, none⟩ = some (.bool (x.d.boxes.getD c false)))
include hx h hi hk hc hbb hb c0 c1 c2
set_option maxHeartbeats 400000 in
theorem rbput_away (hz : ¬ plOf x.wher k = ⟨1, (i : Int)⟩) : Calls Tryz.prog 25 #[.agg (wC x ⟨⟨px, pxc, pp, ppc, pc, pcc, pi, pic, some ⟨bb, bo, none⟩, pbc⟩, pa, pac, pk, pkc, some ⟨b, o, none⟩, pwc⟩), .int .i64 (i : Int), .int .i64 (k : Int), .int .i64 (c : Int)] w fun e w' => e = .returned (.tuple #[.agg (wC x ⟨⟨px, pxc, pp, ppc, pc, pcc, pi, pic, some ⟨bb, bo, none⟩, pbc⟩, pa, pac, pk, pkc, some ⟨b, o, none⟩, pwc⟩), .int .i64 5]) ∧ Below w.heap.size w w' := by
 have C0 := Lib.hid (Two.start 29 29 w (wC x ⟨⟨px, pxc, pp, ppc, pc, pcc, pi, pic, some ⟨bb, bo, none⟩, pbc⟩, pa, pac, pk, pkc, some ⟨b, o, none⟩, pwc⟩) #[.slice none 0 0, .slice none 0 0, .slice none 0 0, .slice none 0 0, .slice none 0 0, .int .i64 0, .int .i64 0, .int .i64 0, .slice none 0 0, .slice none 0 0, .slice none 0 0])
 have H := Lib.hid h
 have HX := Lib.hid hx
 have HT := Lib.hid (right_tr hx)
 have HBL := Lib.hid (show (c : Int) < (x.d.boxes.length : Int) by have := boxes_len10 hx; omega)
 have hlen := h.wh.len
 have hlenb := h.d.bo.len
 have hcb : c < x.d.boxes.length := by have := HBL.out; omega
 have HI := Lib.hid (show inB (k : Int) x.wher.length = true by simp [inB, hk])
 have HJ := Lib.hid (show inB (c : Int) x.wher.length = true by simp [inB, hc])
 have HB := Lib.hid hi
 have HC := Lib.hid hc
 clear h hx hi hc
 generalize plOf x.wher k = z at *
 generalize hgb : x.d.boxes.getD c false = bv at *
 clear hgb
 obtain ⟨zk, zi⟩ := z
 simp only at c0 c1
 have hrun := run_pl zk zi 1 (i : Int)
 simp only [hz, decide_false, Bool.not_false] at hrun
 have hWC := @wC.eq_1
 go_enter Tryz.func25, Tryz.ntmps25
 go_wp2_with fail
 refine (is10_any x ⟨⟨px, pxc, pp, ppc, pc, pcc, pi, pic, some ⟨bb, bo, none⟩, pbc⟩, pa, pac, pk, pkc, some ⟨b, o, none⟩, pwc⟩ k _).mono ?_
 rintro e w1 ⟨rfl, b1⟩
 rw [HI.out]
 have C1 := Lib.hid (C0.out.call b1)
 clear b1
 have hca := C1.out.a.cell
 have hla := C1.out.a.lt
 have hcr : ∀ i, World.cell? _ ⟨w.heap.size + 1, i, none⟩ = _ := C1.out.r.cell
 have hzr : ∀ i, World.frozen? _ ⟨w.heap.size + 1, i, none⟩ = false := C1.out.r.frozen
 have hlr : w.heap.size + 1 < _ := C1.out.r.lt
 go_wp2_with fail
 refine (is10_any x ⟨⟨px, pxc, pp, ppc, pc, pcc, pi, pic, some ⟨bb, bo, none⟩, pbc⟩, pa, pac, pk, pkc, some ⟨b, o, none⟩, pwc⟩ c _).mono ?_
 rintro e w2 ⟨rfl, b2⟩
 rw [HJ.out]
 have C2 := Lib.hid (C1.out.call b2)
 clear b2 hca hla hcr hzr hlr
 have hca := C2.out.a.cell
 have hla := C2.out.a.lt
 have hcr : ∀ i, World.cell? _ ⟨w.heap.size + 1, i, none⟩ = _ := C2.out.r.cell
 have hzr : ∀ i, World.frozen? _ ⟨w.heap.size + 1, i, none⟩ = false := C2.out.r.frozen
 have hlr : w.heap.size + 1 < _ := C2.out.r.lt
 have d0 := cell_call c0 C2.out.b
 have d1 := cell_call c1 C2.out.b
 have d2 := cell_call c2 C2.out.b
 have hbw : b < w2.heap.size := by have := C2.out.b.size; omega
 have hbbw : bb < w2.heap.size := by have := C2.out.b.size; omega
 go_wp2_with fail
 refine bodyPost_ret (v := .tuple #[.agg (wC x ⟨⟨px, pxc, pp, ppc, pc, pcc, pi, pic, some ⟨bb, bo, none⟩, pbc⟩, pa, pac, pk, pkc, some ⟨b, o, none⟩, pwc⟩), .int .i64 5]) (by simp [results, Tryz.results25, go_sem, hcr]) rfl ⟨rfl, ?_⟩
 iterate 11 refine Below.setCell ?_ (by show w.heap.size ≤ w.heap.size + 1; omega) _
 exact C2.out.b
set_option maxHeartbeats 400000 in
theorem rbput_far (hz : plOf x.wher k = ⟨1, (i : Int)⟩) (hn : nearB x i c = false) : Calls Tryz.prog 25 #[.agg (wC x ⟨⟨px, pxc, pp, ppc, pc, pcc, pi, pic, some ⟨bb, bo, none⟩, pbc⟩, pa, pac, pk, pkc, some ⟨b, o, none⟩, pwc⟩), .int .i64 (i : Int), .int .i64 (k : Int), .int .i64 (c : Int)] w fun e w' => e = .returned (.tuple #[.agg (wC x ⟨⟨px, pxc, pp, ppc, pc, pcc, pi, pic, some ⟨bb, bo, none⟩, pbc⟩, pa, pac, pk, pkc, some ⟨b, o, none⟩, pwc⟩), .int .i64 5]) ∧ Below w.heap.size w w' := by
 have HN := Lib.hid hn
 clear hn
 have C0 := Lib.hid (Two.start 29 29 w (wC x ⟨⟨px, pxc, pp, ppc, pc, pcc, pi, pic, some ⟨bb, bo, none⟩, pbc⟩, pa, pac, pk, pkc, some ⟨b, o, none⟩, pwc⟩) #[.slice none 0 0, .slice none 0 0, .slice none 0 0, .slice none 0 0, .slice none 0 0, .int .i64 0, .int .i64 0, .int .i64 0, .slice none 0 0, .slice none 0 0, .slice none 0 0])
 have H := Lib.hid h
 have HX := Lib.hid hx
 have HT := Lib.hid (right_tr hx)
 have HBL := Lib.hid (show (c : Int) < (x.d.boxes.length : Int) by have := boxes_len10 hx; omega)
 have hlen := h.wh.len
 have hlenb := h.d.bo.len
 have hcb : c < x.d.boxes.length := by have := HBL.out; omega
 have HI := Lib.hid (show inB (k : Int) x.wher.length = true by simp [inB, hk])
 have HJ := Lib.hid (show inB (c : Int) x.wher.length = true by simp [inB, hc])
 have HB := Lib.hid hi
 have HC := Lib.hid hc
 clear h hx hi hc
 generalize plOf x.wher k = z at *
 generalize hgb : x.d.boxes.getD c false = bv at *
 clear hgb
 obtain ⟨zk, zi⟩ := z
 simp only at c0 c1
 have hrun := run_pl zk zi 1 (i : Int)
 simp only [hz, decide_true, Bool.not_true] at hrun
 have hWC := @wC.eq_1
 go_enter Tryz.func25, Tryz.ntmps25
 go_wp2_with fail
 refine (is10_any x ⟨⟨px, pxc, pp, ppc, pc, pcc, pi, pic, some ⟨bb, bo, none⟩, pbc⟩, pa, pac, pk, pkc, some ⟨b, o, none⟩, pwc⟩ k _).mono ?_
 rintro e w1 ⟨rfl, b1⟩
 rw [HI.out]
 have C1 := Lib.hid (C0.out.call b1)
 clear b1
 have hca := C1.out.a.cell
 have hla := C1.out.a.lt
 have hcr : ∀ i, World.cell? _ ⟨w.heap.size + 1, i, none⟩ = _ := C1.out.r.cell
 have hzr : ∀ i, World.frozen? _ ⟨w.heap.size + 1, i, none⟩ = false := C1.out.r.frozen
 have hlr : w.heap.size + 1 < _ := C1.out.r.lt
 go_wp2_with fail
 refine (is10_any x ⟨⟨px, pxc, pp, ppc, pc, pcc, pi, pic, some ⟨bb, bo, none⟩, pbc⟩, pa, pac, pk, pkc, some ⟨b, o, none⟩, pwc⟩ c _).mono ?_
 rintro e w2 ⟨rfl, b2⟩
 rw [HJ.out]
 have C2 := Lib.hid (C1.out.call b2)
 clear b2 hca hla hcr hzr hlr
 have hca := C2.out.a.cell
 have hla := C2.out.a.lt
 have hcr : ∀ i, World.cell? _ ⟨w.heap.size + 1, i, none⟩ = _ := C2.out.r.cell
 have hzr : ∀ i, World.frozen? _ ⟨w.heap.size + 1, i, none⟩ = false := C2.out.r.frozen
 have hlr : w.heap.size + 1 < _ := C2.out.r.lt
 have d0 := cell_call c0 C2.out.b
 have d1 := cell_call c1 C2.out.b
 have d2 := cell_call c2 C2.out.b
 have hbw : b < w2.heap.size := by have := C2.out.b.size; omega
 have hbbw : bb < w2.heap.size := by have := C2.out.b.size; omega
 go_wp2_with fail
 refine (refnear_any x ⟨⟨px, pxc, pp, ppc, pc, pcc, pi, pic, some ⟨bb, bo, none⟩, pbc⟩, pa, pac, pk, pkc, some ⟨b, o, none⟩, pwc⟩ i c _ HX.out (H.out.below C2.out.b (Nat.le_refl _)) HB.out HC.out).mono ?_
 rintro e w3 ⟨rfl, b3⟩
 rw [HN.out]
 have C3 := Lib.hid (C2.out.call b3)
 have d0 := cell_call c0 C3.out.b
 have d1 := cell_call c1 C3.out.b
 have d2 := cell_call c2 C3.out.b
 have hbw : b < w3.heap.size := by have := C3.out.b.size; omega
 have hbbw : bb < w3.heap.size := by have := C3.out.b.size; omega
 clear b3 hca hla hcr hzr hlr
 have hca := C3.out.a.cell
 have hla := C3.out.a.lt
 have hcr : ∀ i, World.cell? _ ⟨w.heap.size + 1, i, none⟩ = _ := C3.out.r.cell
 have hzr : ∀ i, World.frozen? _ ⟨w.heap.size + 1, i, none⟩ = false := C3.out.r.frozen
 have hlr : w.heap.size + 1 < _ := C3.out.r.lt
 go_wp2_with fail
 refine bodyPost_ret (v := .tuple #[.agg (wC x ⟨⟨px, pxc, pp, ppc, pc, pcc, pi, pic, some ⟨bb, bo, none⟩, pbc⟩, pa, pac, pk, pkc, some ⟨b, o, none⟩, pwc⟩), .int .i64 5]) (by simp [results, Tryz.results25, go_sem, hcr]) rfl ⟨rfl, ?_⟩
 iterate 11 refine Below.setCell ?_ (by show w.heap.size ≤ w.heap.size + 1; omega) _
 exact C3.out.b
set_option maxHeartbeats 400000 in
theorem rbput_nobox (hz : plOf x.wher k = ⟨1, (i : Int)⟩) (hn : nearB x i c = true) (hv : x.d.boxes.getD c false = false) : Calls Tryz.prog 25 #[.agg (wC x ⟨⟨px, pxc, pp, ppc, pc, pcc, pi, pic, some ⟨bb, bo, none⟩, pbc⟩, pa, pac, pk, pkc, some ⟨b, o, none⟩, pwc⟩), .int .i64 (i : Int), .int .i64 (k : Int), .int .i64 (c : Int)] w fun e w' => e = .returned (.tuple #[.agg (wC x ⟨⟨px, pxc, pp, ppc, pc, pcc, pi, pic, some ⟨bb, bo, none⟩, pbc⟩, pa, pac, pk, pkc, some ⟨b, o, none⟩, pwc⟩), .int .i64 6]) ∧ Below w.heap.size w w' := by
 have HN := Lib.hid hn
 clear hn
 have C0 := Lib.hid (Two.start 29 29 w (wC x ⟨⟨px, pxc, pp, ppc, pc, pcc, pi, pic, some ⟨bb, bo, none⟩, pbc⟩, pa, pac, pk, pkc, some ⟨b, o, none⟩, pwc⟩) #[.slice none 0 0, .slice none 0 0, .slice none 0 0, .slice none 0 0, .slice none 0 0, .int .i64 0, .int .i64 0, .int .i64 0, .slice none 0 0, .slice none 0 0, .slice none 0 0])
 have H := Lib.hid h
 have HX := Lib.hid hx
 have HT := Lib.hid (right_tr hx)
 have HBL := Lib.hid (show (c : Int) < (x.d.boxes.length : Int) by have := boxes_len10 hx; omega)
 have hlen := h.wh.len
 have hlenb := h.d.bo.len
 have hcb : c < x.d.boxes.length := by have := HBL.out; omega
 have HI := Lib.hid (show inB (k : Int) x.wher.length = true by simp [inB, hk])
 have HJ := Lib.hid (show inB (c : Int) x.wher.length = true by simp [inB, hc])
 have HB := Lib.hid hi
 have HC := Lib.hid hc
 clear h hx hi hc
 generalize plOf x.wher k = z at *
 generalize hgb : x.d.boxes.getD c false = bv at *
 clear hgb
 obtain ⟨zk, zi⟩ := z
 simp only at c0 c1
 have hrun := run_pl zk zi 1 (i : Int)
 simp only [hz, decide_true, Bool.not_true] at hrun
 have hWC := @wC.eq_1
 go_enter Tryz.func25, Tryz.ntmps25
 go_wp2_with fail
 refine (is10_any x ⟨⟨px, pxc, pp, ppc, pc, pcc, pi, pic, some ⟨bb, bo, none⟩, pbc⟩, pa, pac, pk, pkc, some ⟨b, o, none⟩, pwc⟩ k _).mono ?_
 rintro e w1 ⟨rfl, b1⟩
 rw [HI.out]
 have C1 := Lib.hid (C0.out.call b1)
 clear b1
 have hca := C1.out.a.cell
 have hla := C1.out.a.lt
 have hcr : ∀ i, World.cell? _ ⟨w.heap.size + 1, i, none⟩ = _ := C1.out.r.cell
 have hzr : ∀ i, World.frozen? _ ⟨w.heap.size + 1, i, none⟩ = false := C1.out.r.frozen
 have hlr : w.heap.size + 1 < _ := C1.out.r.lt
 go_wp2_with fail
 refine (is10_any x ⟨⟨px, pxc, pp, ppc, pc, pcc, pi, pic, some ⟨bb, bo, none⟩, pbc⟩, pa, pac, pk, pkc, some ⟨b, o, none⟩, pwc⟩ c _).mono ?_
 rintro e w2 ⟨rfl, b2⟩
 rw [HJ.out]
 have C2 := Lib.hid (C1.out.call b2)
 clear b2 hca hla hcr hzr hlr
 have hca := C2.out.a.cell
 have hla := C2.out.a.lt
 have hcr : ∀ i, World.cell? _ ⟨w.heap.size + 1, i, none⟩ = _ := C2.out.r.cell
 have hzr : ∀ i, World.frozen? _ ⟨w.heap.size + 1, i, none⟩ = false := C2.out.r.frozen
 have hlr : w.heap.size + 1 < _ := C2.out.r.lt
 have d0 := cell_call c0 C2.out.b
 have d1 := cell_call c1 C2.out.b
 have d2 := cell_call c2 C2.out.b
 have hbw : b < w2.heap.size := by have := C2.out.b.size; omega
 have hbbw : bb < w2.heap.size := by have := C2.out.b.size; omega
 go_wp2_with fail
 refine (refnear_any x ⟨⟨px, pxc, pp, ppc, pc, pcc, pi, pic, some ⟨bb, bo, none⟩, pbc⟩, pa, pac, pk, pkc, some ⟨b, o, none⟩, pwc⟩ i c _ HX.out (H.out.below C2.out.b (Nat.le_refl _)) HB.out HC.out).mono ?_
 rintro e w3 ⟨rfl, b3⟩
 rw [HN.out]
 have C3 := Lib.hid (C2.out.call b3)
 have d0 := cell_call c0 C3.out.b
 have d1 := cell_call c1 C3.out.b
 have d2 := cell_call c2 C3.out.b
 have hbw : b < w3.heap.size := by have := C3.out.b.size; omega
 have hbbw : bb < w3.heap.size := by have := C3.out.b.size; omega
 clear b3 hca hla hcr hzr hlr
 have hca := C3.out.a.cell
 have hla := C3.out.a.lt
 have hcr : ∀ i, World.cell? _ ⟨w.heap.size + 1, i, none⟩ = _ := C3.out.r.cell
 have hzr : ∀ i, World.frozen? _ ⟨w.heap.size + 1, i, none⟩ = false := C3.out.r.frozen
 have hlr : w.heap.size + 1 < _ := C3.out.r.lt
 go_wp2_with fail
 refine bodyPost_ret (v := .tuple #[.agg (wC x ⟨⟨px, pxc, pp, ppc, pc, pcc, pi, pic, some ⟨bb, bo, none⟩, pbc⟩, pa, pac, pk, pkc, some ⟨b, o, none⟩, pwc⟩), .int .i64 6]) (by simp [results, Tryz.results25, go_sem, hcr]) rfl ⟨rfl, ?_⟩
 iterate 11 refine Below.setCell ?_ (by show w.heap.size ≤ w.heap.size + 1; omega) _
 exact C3.out.b
set_option maxHeartbeats 400000 in
theorem rbput_loop (hz : plOf x.wher k = ⟨1, (i : Int)⟩) (hn : nearB x i c = true) (hv : x.d.boxes.getD c false = true) (hw : wB x.wher c k = true) : Calls Tryz.prog 25 #[.agg (wC x ⟨⟨px, pxc, pp, ppc, pc, pcc, pi, pic, some ⟨bb, bo, none⟩, pbc⟩, pa, pac, pk, pkc, some ⟨b, o, none⟩, pwc⟩), .int .i64 (i : Int), .int .i64 (k : Int), .int .i64 (c : Int)] w fun e w' => e = .returned (.tuple #[.agg (wC x ⟨⟨px, pxc, pp, ppc, pc, pcc, pi, pic, some ⟨bb, bo, none⟩, pbc⟩, pa, pac, pk, pkc, some ⟨b, o, none⟩, pwc⟩), .int .i64 7]) ∧ Below w.heap.size w w' := by
 have HN := Lib.hid hn
 clear hn
 have HW := Lib.hid hw
 clear hw
 have C0 := Lib.hid (Two.start 29 29 w (wC x ⟨⟨px, pxc, pp, ppc, pc, pcc, pi, pic, some ⟨bb, bo, none⟩, pbc⟩, pa, pac, pk, pkc, some ⟨b, o, none⟩, pwc⟩) #[.slice none 0 0, .slice none 0 0, .slice none 0 0, .slice none 0 0, .slice none 0 0, .int .i64 0, .int .i64 0, .int .i64 0, .slice none 0 0, .slice none 0 0, .slice none 0 0])
 have H := Lib.hid h
 have HX := Lib.hid hx
 have HT := Lib.hid (right_tr hx)
 have HBL := Lib.hid (show (c : Int) < (x.d.boxes.length : Int) by have := boxes_len10 hx; omega)
 have hlen := h.wh.len
 have hlenb := h.d.bo.len
 have hcb : c < x.d.boxes.length := by have := HBL.out; omega
 have HI := Lib.hid (show inB (k : Int) x.wher.length = true by simp [inB, hk])
 have HJ := Lib.hid (show inB (c : Int) x.wher.length = true by simp [inB, hc])
 have HB := Lib.hid hi
 have HC := Lib.hid hc
 clear h hx hi hc
 generalize plOf x.wher k = z at *
 generalize hgb : x.d.boxes.getD c false = bv at *
 clear hgb
 obtain ⟨zk, zi⟩ := z
 simp only at c0 c1
 have hrun := run_pl zk zi 1 (i : Int)
 simp only [hz, decide_true, Bool.not_true] at hrun
 have hWC := @wC.eq_1
 go_enter Tryz.func25, Tryz.ntmps25
 go_wp2_with fail
 refine (is10_any x ⟨⟨px, pxc, pp, ppc, pc, pcc, pi, pic, some ⟨bb, bo, none⟩, pbc⟩, pa, pac, pk, pkc, some ⟨b, o, none⟩, pwc⟩ k _).mono ?_
 rintro e w1 ⟨rfl, b1⟩
 rw [HI.out]
 have C1 := Lib.hid (C0.out.call b1)
 clear b1
 have hca := C1.out.a.cell
 have hla := C1.out.a.lt
 have hcr : ∀ i, World.cell? _ ⟨w.heap.size + 1, i, none⟩ = _ := C1.out.r.cell
 have hzr : ∀ i, World.frozen? _ ⟨w.heap.size + 1, i, none⟩ = false := C1.out.r.frozen
 have hlr : w.heap.size + 1 < _ := C1.out.r.lt
 go_wp2_with fail
 refine (is10_any x ⟨⟨px, pxc, pp, ppc, pc, pcc, pi, pic, some ⟨bb, bo, none⟩, pbc⟩, pa, pac, pk, pkc, some ⟨b, o, none⟩, pwc⟩ c _).mono ?_
 rintro e w2 ⟨rfl, b2⟩
 rw [HJ.out]
 have C2 := Lib.hid (C1.out.call b2)
 clear b2 hca hla hcr hzr hlr
 have hca := C2.out.a.cell
 have hla := C2.out.a.lt
 have hcr : ∀ i, World.cell? _ ⟨w.heap.size + 1, i, none⟩ = _ := C2.out.r.cell
 have hzr : ∀ i, World.frozen? _ ⟨w.heap.size + 1, i, none⟩ = false := C2.out.r.frozen
 have hlr : w.heap.size + 1 < _ := C2.out.r.lt
 have d0 := cell_call c0 C2.out.b
 have d1 := cell_call c1 C2.out.b
 have d2 := cell_call c2 C2.out.b
 have hbw : b < w2.heap.size := by have := C2.out.b.size; omega
 have hbbw : bb < w2.heap.size := by have := C2.out.b.size; omega
 go_wp2_with fail
 refine (refnear_any x ⟨⟨px, pxc, pp, ppc, pc, pcc, pi, pic, some ⟨bb, bo, none⟩, pbc⟩, pa, pac, pk, pkc, some ⟨b, o, none⟩, pwc⟩ i c _ HX.out (H.out.below C2.out.b (Nat.le_refl _)) HB.out HC.out).mono ?_
 rintro e w3 ⟨rfl, b3⟩
 rw [HN.out]
 have C3 := Lib.hid (C2.out.call b3)
 have d0 := cell_call c0 C3.out.b
 have d1 := cell_call c1 C3.out.b
 have d2 := cell_call c2 C3.out.b
 have hbw : b < w3.heap.size := by have := C3.out.b.size; omega
 have hbbw : bb < w3.heap.size := by have := C3.out.b.size; omega
 clear b3 hca hla hcr hzr hlr
 have hca := C3.out.a.cell
 have hla := C3.out.a.lt
 have hcr : ∀ i, World.cell? _ ⟨w.heap.size + 1, i, none⟩ = _ := C3.out.r.cell
 have hzr : ∀ i, World.frozen? _ ⟨w.heap.size + 1, i, none⟩ = false := C3.out.r.frozen
 have hlr : w.heap.size + 1 < _ := C3.out.r.lt
 go_wp2_with fail
 refine (refwithin_any x ⟨⟨px, pxc, pp, ppc, pc, pcc, pi, pic, some ⟨bb, bo, none⟩, pbc⟩, pa, pac, pk, pkc, some ⟨b, o, none⟩, pwc⟩ HT.out c k HC.out _ (H.out.below C3.out.b (Nat.le_refl _)).wh).mono ?_
 rintro e w4 ⟨rfl, b4⟩
 rw [HW.out]
 have C4 := Lib.hid (C3.out.call b4)
 clear b4 hca hla hcr hzr hlr
 have hca := C4.out.a.cell
 have hla := C4.out.a.lt
 have hcr : ∀ i, World.cell? _ ⟨w.heap.size + 1, i, none⟩ = _ := C4.out.r.cell
 have hzr : ∀ i, World.frozen? _ ⟨w.heap.size + 1, i, none⟩ = false := C4.out.r.frozen
 have hlr : w.heap.size + 1 < _ := C4.out.r.lt
 go_wp2_with fail
 refine bodyPost_ret (v := .tuple #[.agg (wC x ⟨⟨px, pxc, pp, ppc, pc, pcc, pi, pic, some ⟨bb, bo, none⟩, pbc⟩, pa, pac, pk, pkc, some ⟨b, o, none⟩, pwc⟩), .int .i64 7]) (by simp [results, Tryz.results25, go_sem, hcr]) rfl ⟨rfl, ?_⟩
 iterate 11 refine Below.setCell ?_ (by show w.heap.size ≤ w.heap.size + 1; omega) _
 exact C4.out.b
end
end
section
section
variable (x : Wd) (px pp pc pi pa pk : Option Addr) (pxc ppc pcc pic bb bo pbc pac pkc b o pwc : Nat) (i k c : Nat) (w : World) (hx : rightW x = true) (h : WorldAt w ⟨⟨px, pxc, pp, ppc, pc, pcc, pi, pic, some ⟨bb, bo, none⟩, pbc⟩, pa, pac, pk, pkc, some ⟨b, o, none⟩, pwc⟩ x) (hi : i < x.at_.length) (hk : k < x.wher.length) (hc : c < x.wher.length) (hbb : bb < w.heap.size) (hb : b < w.heap.size)
 (c0 : w.cell? ⟨b, o + k * 2, none⟩ = some (.int .i64 (plOf x.wher k).kind)) (c1 : w.cell? ⟨b, o + k * 2 + 1, none⟩ = some (.int .i64 (plOf x.wher k).id)) (c2 : w.cell? ⟨bb, bo + c, none⟩ = some (.bool (x.d.boxes.getD c false)))
include hx h hi hk hc hbb hb c0 c1 c2
set_option maxHeartbeats 1000000 in
theorem rbput_go (hz : plOf x.wher k = ⟨1, (i : Int)⟩) (hn : nearB x i c = true) (hv : x.d.boxes.getD c false = true) (hw : wB x.wher c k = false) : Calls Tryz.prog 25 #[.agg (wC x ⟨⟨px, pxc, pp, ppc, pc, pcc, pi, pic, some ⟨bb, bo, none⟩, pbc⟩, pa, pac, pk, pkc, some ⟨b, o, none⟩, pwc⟩), .int .i64 (i : Int), .int .i64 (k : Int), .int .i64 (c : Int)] w fun e w' => ∃ q : Wp, e = .returned (.tuple #[.agg (wC x q), .int .i64 (boxW x i k c).2]) ∧ RTook w.heap.size w' ⟨⟨px, pxc, pp, ppc, pc, pcc, pi, pic, some ⟨bb, bo, none⟩, pbc⟩, pa, pac, pk, pkc, some ⟨b, o, none⟩, pwc⟩ q x (boxW x i k c) ∧ Below w.heap.size w w' := by
 have HEQ := Lib.hid (show boxW x i k c = if 4 < dep x.wher c + 1 + hgt x.wher k then (x, 8) else if roomI x (box c) = 0 then (x, 9) else (putW x k (box c), 0) by
  unfold boxW
  simp only [Int.toNat_natCast]
  rw [if_neg (by simp [inB, hk, hc]), if_neg (by simp [hz, hn]), if_neg (by rw [hv]; simp), if_neg (by rw [hw]; simp)])
 have HDI := Lib.hid (deep_iff (ps := x.wher) (k := k) (b := c) (right_tr hx) hk)
 have HDP := Lib.hid (fun n (hn : n < x.wher.length) => depth_put (ps := x.wher) (k := k) (b := c) (right_tr hx) hk hc hw hn)
 have HDL := Lib.hid (fun n (hn : n < x.wher.length) => depN_le (ps := x.wher) (k := k) (b := c) (right_tr hx) hc hn)
 have HBI := Lib.hid (boxesin_put (ps := x.wher) (k := k) (b := c) (right_tr hx) hc)
 have HK := Lib.hid hk
 have HN := Lib.hid hn
 clear hn
 have HW := Lib.hid hw
 clear hw
 have C0 := Lib.hid (Two.start 29 29 w (wC x ⟨⟨px, pxc, pp, ppc, pc, pcc, pi, pic, some ⟨bb, bo, none⟩, pbc⟩, pa, pac, pk, pkc, some ⟨b, o, none⟩, pwc⟩) #[.slice none 0 0, .slice none 0 0, .slice none 0 0, .slice none 0 0, .slice none 0 0, .int .i64 0, .int .i64 0, .int .i64 0, .slice none 0 0, .slice none 0 0, .slice none 0 0])
 have H := Lib.hid h
 have HX := Lib.hid hx
 have HT := Lib.hid (right_tr hx)
 have HBL := Lib.hid (show (c : Int) < (x.d.boxes.length : Int) by have := boxes_len10 hx; omega)
 have hlen := h.wh.len
 have hlenb := h.d.bo.len
 have hcb : c < x.d.boxes.length := by have := HBL.out; omega
 have HI := Lib.hid (show inB (k : Int) x.wher.length = true by simp [inB, hk])
 have HJ := Lib.hid (show inB (c : Int) x.wher.length = true by simp [inB, hc])
 have HB := Lib.hid hi
 have HC := Lib.hid hc
 clear h hx hi hc
 generalize plOf x.wher k = z at *
 generalize hgb : x.d.boxes.getD c false = bv at *
 clear hgb
 obtain ⟨zk, zi⟩ := z
 simp only at c0 c1
 have hrun := run_pl zk zi 1 (i : Int)
 simp only [hz, decide_true, Bool.not_true] at hrun
 have hWC := @wC.eq_1
 go_enter Tryz.func25, Tryz.ntmps25
 go_wp2_with fail
 refine (is10_any x ⟨⟨px, pxc, pp, ppc, pc, pcc, pi, pic, some ⟨bb, bo, none⟩, pbc⟩, pa, pac, pk, pkc, some ⟨b, o, none⟩, pwc⟩ k _).mono ?_
 rintro e w1 ⟨rfl, b1⟩
 rw [HI.out]
 have C1 := Lib.hid (C0.out.call b1)
 clear b1
 have hca := C1.out.a.cell
 have hla := C1.out.a.lt
 have hcr : ∀ i, World.cell? _ ⟨w.heap.size + 1, i, none⟩ = _ := C1.out.r.cell
 have hzr : ∀ i, World.frozen? _ ⟨w.heap.size + 1, i, none⟩ = false := C1.out.r.frozen
 have hlr : w.heap.size + 1 < _ := C1.out.r.lt
 go_wp2_with fail
 refine (is10_any x ⟨⟨px, pxc, pp, ppc, pc, pcc, pi, pic, some ⟨bb, bo, none⟩, pbc⟩, pa, pac, pk, pkc, some ⟨b, o, none⟩, pwc⟩ c _).mono ?_
 rintro e w2 ⟨rfl, b2⟩
 rw [HJ.out]
 have C2 := Lib.hid (C1.out.call b2)
 clear b2 hca hla hcr hzr hlr
 have hca := C2.out.a.cell
 have hla := C2.out.a.lt
 have hcr : ∀ i, World.cell? _ ⟨w.heap.size + 1, i, none⟩ = _ := C2.out.r.cell
 have hzr : ∀ i, World.frozen? _ ⟨w.heap.size + 1, i, none⟩ = false := C2.out.r.frozen
 have hlr : w.heap.size + 1 < _ := C2.out.r.lt
 have d0 := cell_call c0 C2.out.b
 have d1 := cell_call c1 C2.out.b
 have d2 := cell_call c2 C2.out.b
 have hbw : b < w2.heap.size := by have := C2.out.b.size; omega
 have hbbw : bb < w2.heap.size := by have := C2.out.b.size; omega
 go_wp2_with fail
 refine (refnear_any x ⟨⟨px, pxc, pp, ppc, pc, pcc, pi, pic, some ⟨bb, bo, none⟩, pbc⟩, pa, pac, pk, pkc, some ⟨b, o, none⟩, pwc⟩ i c _ HX.out (H.out.below C2.out.b (Nat.le_refl _)) HB.out HC.out).mono ?_
 rintro e w3 ⟨rfl, b3⟩
 rw [HN.out]
 have C3 := Lib.hid (C2.out.call b3)
 have d0 := cell_call c0 C3.out.b
 have d1 := cell_call c1 C3.out.b
 have d2 := cell_call c2 C3.out.b
 have hbw : b < w3.heap.size := by have := C3.out.b.size; omega
 have hbbw : bb < w3.heap.size := by have := C3.out.b.size; omega
 clear b3 hca hla hcr hzr hlr
 have hca := C3.out.a.cell
 have hla := C3.out.a.lt
 have hcr : ∀ i, World.cell? _ ⟨w.heap.size + 1, i, none⟩ = _ := C3.out.r.cell
 have hzr : ∀ i, World.frozen? _ ⟨w.heap.size + 1, i, none⟩ = false := C3.out.r.frozen
 have hlr : w.heap.size + 1 < _ := C3.out.r.lt
 go_wp2_with fail
 refine (refwithin_any x ⟨⟨px, pxc, pp, ppc, pc, pcc, pi, pic, some ⟨bb, bo, none⟩, pbc⟩, pa, pac, pk, pkc, some ⟨b, o, none⟩, pwc⟩ HT.out c k HC.out _ (H.out.below C3.out.b (Nat.le_refl _)).wh).mono ?_
 rintro e w4 ⟨rfl, b4⟩
 rw [HW.out]
 have C4 := Lib.hid (C3.out.call b4)
 clear b4 hca hla hcr hzr hlr
 have hca := C4.out.a.cell
 have hla := C4.out.a.lt
 have hcr : ∀ i, World.cell? _ ⟨w.heap.size + 1, i, none⟩ = _ := C4.out.r.cell
 have hzr : ∀ i, World.frozen? _ ⟨w.heap.size + 1, i, none⟩ = false := C4.out.r.frozen
 have hlr : w.heap.size + 1 < _ := C4.out.r.lt
 go_wp2_with fail
 refine (refto_bx x ⟨⟨px, pxc, pp, ppc, pc, pcc, pi, pic, some ⟨bb, bo, none⟩, pbc⟩, pa, pac, pk, pkc, some ⟨b, o, none⟩, pwc⟩ k c _ (H.out.below C4.out.b (Nat.le_refl _)) (right_fewW9 HX.out) hk).mono ?_
 rintro e w5 ⟨⟨qd, qa, qac, qk, qkc, qw, qwc⟩, rfl, ho, b5⟩
 have hqd := ho.1
 simp only at hqd
 subst hqd
 obtain ⟨g, hqw, hg0, hg1, -⟩ := ho.putPlace (k := k) (by show k < (x.wher.set k _).length; simpa using hk)
 simp only at hqw
 subst hqw
 have C5 := Lib.hid (C4.out.call b5)
 have HO5 := Lib.hid (ho.less C4.out.size)
 clear b5 ho hca hla hcr hzr hlr hg0 hg1 hz c0 c1 c2 d0 d1 d2 hbw hbbw hrun hv
 have D6 := Lib.hid (Blk.newn w5 29 (wC x ⟨⟨px, pxc, pp, ppc, pc, pcc, pi, pic, some ⟨bb, bo, none⟩, pbc⟩, qa, qac, qk, qkc, some ⟨g, 0, none⟩, qwc⟩) (n := w5.heap.size) rfl)
 have C6 := Lib.hid (C5.out.alloc (.cells (wC x ⟨⟨px, pxc, pp, ppc, pc, pcc, pi, pic, some ⟨bb, bo, none⟩, pbc⟩, qa, qac, qk, qkc, some ⟨g, 0, none⟩, qwc⟩) 29))
 have HO6 := Lib.hid (HO5.out.alloc (.cells (wC x ⟨⟨px, pxc, pp, ppc, pc, pcc, pi, pic, some ⟨bb, bo, none⟩, pbc⟩, qa, qac, qk, qkc, some ⟨g, 0, none⟩, qwc⟩) 29))
 clear C0 C1 C2 C3 C4 HO5
 go_wp2_with fail
 generalize w5.alloc (.cells (wC x ⟨⟨px, pxc, pp, ppc, pc, pcc, pi, pic, some ⟨bb, bo, none⟩, pbc⟩, qa, qac, qk, qkc, some ⟨g, 0, none⟩, qwc⟩) 29) = W0 at *
 have hlx : x.wher.length ≤ 40 := by have := (right_lens HX.out).2.2.2.1; omega
 go_loopw [11] (fun n wr => ∃ m : Nat, m ≤ x.wher.length ∧ n = .int .i64 m ∧ (∀ l, l < m → depN x.wher k c l ≤ 4) ∧ Below W0.heap.size W0 wr) (fun n _ => x.wher.length - (intOf n).toNat)
 case atStart => exact ⟨0, by omega, rfl, fun l hl => by omega, Below.refl _ _⟩
 case round =>
  obtain ⟨m, hm, rfl, hall, hB⟩ := hrel
  have HA := Lib.hid hall
  have HBB := Lib.hid hB
  have C7 := Lib.hid (C6.out.call hB)
  have D7 := Lib.hid (D6.out.call hB)
  have HO7 := Lib.hid (HO6.out.call hB)
  clear hall hB
  have hcd := D7.out.cell
  have hld := D7.out.lt
  by_cases hml : m < x.wher.length
  ·have HY := Lib.hid (HO7.out.new.world' (x := putW x k (box c)) H.out.d C7.out.b)
   have hml2 : m < (putW x k (box c)).wher.length := by show m < (x.wher.set k _).length; simpa using hml
   obtain ⟨g2, o2, ea, hg2, e0, e1⟩ := PlsAt.cells HY.out.wh hml2
   simp only [Option.some.injEq, Addr.mk.injEq, and_true] at ea
   obtain ⟨rfl, rfl⟩ := ea
   have HV := Lib.hid (HBI.out _ (List.getElem_mem hml2))
   have HP := Lib.hid (HDP.out m hml)
   have HL := Lib.hid (HDL.out m hml)
   rw [show (putW x k (box c)).wher[m] = plOf (x.wher.set k (box c)) m from (plOf_get hml2).symm] at e0 e1
   have HV2 := Lib.hid (show (plOf (x.wher.set k (box c)) m).kind = 2 → 0 ≤ (plOf (x.wher.set k (box c)) m).id ∧ (plOf (x.wher.set k (box c)) m).id < (putW x k (box c)).wher.length by have h := HV.out; rw [show (putW x k (box c)).wher[m] = plOf (x.wher.set k (box c)) m from (plOf_get hml2).symm] at h; exact h)
   clear HV hml2
   generalize plOf (x.wher.set k (box c)) m = v at *
   obtain ⟨vk, vi⟩ := v
   simp only [Nat.zero_add] at e0 e1
   obtain ⟨de, hde⟩ : ∃ de, de = depN x.wher k c m := ⟨_, rfl⟩
   have HDE := Lib.hid hde
   rw [← hde] at HP HL
   clear hde
   have HYD := Lib.hid (HY.out.call (bdrew1 (Below.refl _ _)))
   have CD := Lib.hid C7.out.drew
   by_cases hd4 : 4 < de
   ·have hd5 : (4 : Int) < (de : Int) := by omega
    go_wp2_with fail
    refine tkS (S := (fun w' => (∀ j, w'.cell? ⟨w5.heap.size, j, none⟩ = ((wC x ⟨⟨px, pxc, pp, ppc, pc, pcc, pi, pic, some ⟨bb, bo, none⟩, pbc⟩, qa, qac, qk, qkc, some ⟨g, 0, none⟩, qwc⟩)[j]? : Option Value)) ∧ w'.cell? ⟨g, m * 2, none⟩ = some (.int .i64 vk) ∧ w'.cell? ⟨g, m * 2 + 1, none⟩ = some (.int .i64 vi))) (by (exact ⟨hcd, e0, e1⟩)) (fun hHeld => ?_)
    refine tkl [0, 1, 2, 3, 4, 5] ?_
    iterate 6
     refine tW ?_
     try go_frame
    refine rdy1 6 (fun K hK => ?_)
    go_simp
    refine (depth10_as (putW_shape x k (box c)) ⟨⟨px, pxc, pp, ppc, pc, pcc, pi, pic, some ⟨bb, bo, none⟩, pbc⟩, qa, qac, qk, qkc, some ⟨g, 0, none⟩, qwc⟩ ⟨vk, vi⟩ _ HYD.out.wh HBI.out HV2.out).mono ?_; rintro e w8 ⟨rfl, hb8⟩; rw [show depthR (putW x k (box c)).wher ⟨vk, vi⟩ = de from HP.out]
    try go_wp2_with fail
    refine hK.out _ _ (by (with_reducible exact ⟨(D7.out.drew.call hb8).cell, cell_call hHeld.2.1 hb8, cell_call hHeld.2.2 hb8⟩)) (fun hHeld => ?_)
    clear hK K
    try go_frame
    have C8 := Lib.hid (CD.out.call hb8)
    have HB8 := Lib.hid (below_call (bdrew1 HBB.out) HBB.out.size hb8)
    refine tkl [7] (tW ?_)
    try go_frame
    refine tkD ?_
    have hca := C8.out.a.cell
    have hla := C8.out.a.lt
    have hcr : ∀ i, World.cell? _ ⟨w.heap.size + 1, i, none⟩ = _ := C8.out.r.cell
    have hzr : ∀ i, World.frozen? _ ⟨w.heap.size + 1, i, none⟩ = false := C8.out.r.frozen
    have hlr : w.heap.size + 1 < _ := C8.out.r.lt
    go_wp2_with fail
    have HQ := Lib.hid (show boxW x i k c = (x, 8) by rw [HEQ.out, if_pos (HDI.out.1 ⟨m, hml, by rw [← HDE.out]; exact hd4⟩)])
    rw [HQ.out]
    refine bodyPost_ret (v := .tuple #[.agg (wC x ⟨⟨px, pxc, pp, ppc, pc, pcc, pi, pic, some ⟨bb, bo, none⟩, pbc⟩, pa, pac, pk, pkc, some ⟨b, o, none⟩, pwc⟩), .int .i64 8]) (by simp [results, Tryz.results25, go_sem, hcr]) rfl ⟨⟨⟨px, pxc, pp, ppc, pc, pcc, pi, pic, some ⟨bb, bo, none⟩, pbc⟩, pa, pac, pk, pkc, some ⟨b, o, none⟩, pwc⟩, rfl, .inl ⟨by simp, rfl, rfl⟩, ?_⟩
    iterate 11 refine Below.setCell ?_ (by show w.heap.size ≤ w.heap.size + 1; omega) _
    exact C8.out.b
   ·have hd5 : ¬ (4 : Int) < (de : Int) := by omega
    go_wp2_with fail
    refine tkS (S := (fun w' => (∀ j, w'.cell? ⟨w5.heap.size, j, none⟩ = ((wC x ⟨⟨px, pxc, pp, ppc, pc, pcc, pi, pic, some ⟨bb, bo, none⟩, pbc⟩, qa, qac, qk, qkc, some ⟨g, 0, none⟩, qwc⟩)[j]? : Option Value)) ∧ w'.cell? ⟨g, m * 2, none⟩ = some (.int .i64 vk) ∧ w'.cell? ⟨g, m * 2 + 1, none⟩ = some (.int .i64 vi))) (by (exact ⟨hcd, e0, e1⟩)) (fun hHeld => ?_)
    refine tkl [0, 1, 2, 3, 4, 5] ?_
    iterate 6
     refine tW ?_
     try go_frame
    refine rdy1 6 (fun K hK => ?_)
    go_simp
    refine (depth10_as (putW_shape x k (box c)) ⟨⟨px, pxc, pp, ppc, pc, pcc, pi, pic, some ⟨bb, bo, none⟩, pbc⟩, qa, qac, qk, qkc, some ⟨g, 0, none⟩, qwc⟩ ⟨vk, vi⟩ _ HYD.out.wh HBI.out HV2.out).mono ?_; rintro e w8 ⟨rfl, hb8⟩; rw [show depthR (putW x k (box c)).wher ⟨vk, vi⟩ = de from HP.out]
    try go_wp2_with fail
    refine hK.out _ _ (by (with_reducible exact ⟨(D7.out.drew.call hb8).cell, cell_call hHeld.2.1 hb8, cell_call hHeld.2.2 hb8⟩)) (fun hHeld => ?_)
    clear hK K
    try go_frame
    have C8 := Lib.hid (CD.out.call hb8)
    have HB8 := Lib.hid (below_call (bdrew1 HBB.out) HBB.out.size hb8)
    refine tkl [7] (tW ?_)
    try go_frame
    refine tkD ?_
    go_wp2_with fail
    go_roundw
    case rel =>
     refine ⟨m + 1, by omega, by go_num, fun l hl => ?_, HB8.out⟩
     by_cases e : l = m
     ·subst e; rw [← HDE.out]; omega
     ·exact HA.out l (by omega)
    case measure => simp [intOf]; omega
  ·have hnd : ¬ 4 < dep x.wher c + 1 + hgt x.wher k := fun h => by
    obtain ⟨n, hn, h4⟩ := HDI.out.2 h
    have := HA.out n (by omega)
    omega
   have HE2 := Lib.hid (HEQ.out.trans (if_neg hnd))
   clear hnd
   have hca := C7.out.a.cell
   have hla := C7.out.a.lt
   have hcr : ∀ i, World.cell? _ ⟨w.heap.size + 1, i, none⟩ = _ := C7.out.r.cell
   have hzr : ∀ i, World.frozen? _ ⟨w.heap.size + 1, i, none⟩ = false := C7.out.r.frozen
   have hlr : w.heap.size + 1 < _ := C7.out.r.lt
   go_wp2_with fail
   refine (rroom_bx x ⟨⟨px, pxc, pp, ppc, pc, pcc, pi, pic, some ⟨bb, bo, none⟩, pbc⟩, pa, pac, pk, pkc, some ⟨b, o, none⟩, pwc⟩ c _ HX.out (H.out.below C7.out.b (Nat.le_refl _))).mono ?_
   rintro e w9 ⟨rfl, b9⟩
   have C9 := Lib.hid (C7.out.call b9)
   have D9 := Lib.hid (D7.out.call b9)
   have HO9 := Lib.hid (HO7.out.call b9)
   clear b9 hca hla hcr hzr hlr hcd hld
   generalize roomI x (box c) = r at *
   have hca := C9.out.a.cell
   have hla := C9.out.a.lt
   have hcr : ∀ i, World.cell? _ ⟨w.heap.size + 1, i, none⟩ = _ := C9.out.r.cell
   have hzr : ∀ i, World.frozen? _ ⟨w.heap.size + 1, i, none⟩ = false := C9.out.r.frozen
   have hlr : w.heap.size + 1 < _ := C9.out.r.lt
   have hcd := D9.out.cell
   have hld := D9.out.lt
   by_cases hr : r = 0
   ·have HQ := Lib.hid (HE2.out.trans (if_pos hr))
    subst hr
    go_wp2_with fail
    rw [HQ.out]
    refine bodyPost_ret (v := .tuple #[.agg (wC x ⟨⟨px, pxc, pp, ppc, pc, pcc, pi, pic, some ⟨bb, bo, none⟩, pbc⟩, pa, pac, pk, pkc, some ⟨b, o, none⟩, pwc⟩), .int .i64 9]) (by simp [results, Tryz.results25, go_sem, hcr]) rfl ⟨⟨⟨px, pxc, pp, ppc, pc, pcc, pi, pic, some ⟨bb, bo, none⟩, pbc⟩, pa, pac, pk, pkc, some ⟨b, o, none⟩, pwc⟩, rfl, .inl ⟨by simp, rfl, rfl⟩, ?_⟩
    iterate 11 refine Below.setCell ?_ (by show w.heap.size ≤ w.heap.size + 1; omega) _
    exact C9.out.b
   ·have HQ := Lib.hid (HE2.out.trans (if_neg hr))
    have hr2 : (r == 0) = false := by simpa using hr
    clear hr
    go_wp2_with fail
    rw [HQ.out]
    refine bodyPost_ret (v := .tuple #[.agg (wC x ⟨⟨px, pxc, pp, ppc, pc, pcc, pi, pic, some ⟨bb, bo, none⟩, pbc⟩, qa, qac, qk, qkc, some ⟨g, 0, none⟩, qwc⟩), .int .i64 0]) (by simp [results, Tryz.results25, go_sem, hcr]) rfl ⟨⟨⟨px, pxc, pp, ppc, pc, pcc, pi, pic, some ⟨bb, bo, none⟩, pbc⟩, qa, qac, qk, qkc, some ⟨g, 0, none⟩, qwc⟩, rfl, .inr ⟨rfl, rfl, ?_⟩, ?_⟩
    ·refine WhOwn.less (n := w.heap.size + 2) ?_ (by omega)
     iterate 11 refine WhOwn.set (b := w.heap.size + 1) ?_ (by omega) _ _
     exact HO9.out
    ·iterate 11 refine Below.setCell ?_ (by show w.heap.size ≤ w.heap.size + 1; omega) _
     exact C9.out.b
end
end
section
theorem rbtake_none1 (x : Wd) (p : Wp) (i : Nat) (k c : Int) (w : World) (h1 : inB k x.wher.length = false) : Calls Tryz.prog 26 #[.agg (wC x p), .int .i64 (i : Int), .int .i64 k, .int .i64 c] w fun e w' => e = .returned (.tuple #[.agg (wC x p), .int .i64 3]) ∧ Below w.heap.size w w' := by
 have C0 := Lib.hid (Two.start 29 29 w (wC x p) #[.slice none 0 0, .slice none 0 0, .slice none 0 0, .slice none 0 0, .slice none 0 0, .int .i64 0, .int .i64 0, .int .i64 0, .slice none 0 0, .slice none 0 0, .slice none 0 0])
 have H1 := Lib.hid h1
 clear h1
 have hWC := @wC.eq_1
 go_enter Tryz.func26, Tryz.ntmps26
 go_wp2_with fail
 refine (is10_any x p k _).mono ?_
 rintro e w1 ⟨rfl, b1⟩
 rw [H1.out]
 have C1 := Lib.hid (C0.out.call b1)
 clear b1
 have hca := C1.out.a.cell
 have hla := C1.out.a.lt
 have hcr : ∀ i, World.cell? _ ⟨w.heap.size + 1, i, none⟩ = _ := C1.out.r.cell
 have hzr : ∀ i, World.frozen? _ ⟨w.heap.size + 1, i, none⟩ = false := C1.out.r.frozen
 have hlr : w.heap.size + 1 < _ := C1.out.r.lt
 go_wp2_with fail
 refine bodyPost_ret (v := .tuple #[.agg (wC x p), .int .i64 3]) (by simp [results, Tryz.results26, go_sem, hcr]) rfl ⟨rfl, ?_⟩
 iterate 11 refine Below.setCell ?_ (by show w.heap.size ≤ w.heap.size + 1; omega) _
 exact C1.out.b
theorem rbtake_none2 (x : Wd) (p : Wp) (i : Nat) (k c : Int) (w : World) (h1 : inB k x.wher.length = true) (h2 : inB c x.wher.length = false) : Calls Tryz.prog 26 #[.agg (wC x p), .int .i64 (i : Int), .int .i64 k, .int .i64 c] w fun e w' => e = .returned (.tuple #[.agg (wC x p), .int .i64 3]) ∧ Below w.heap.size w w' := by
 have C0 := Lib.hid (Two.start 29 29 w (wC x p) #[.slice none 0 0, .slice none 0 0, .slice none 0 0, .slice none 0 0, .slice none 0 0, .int .i64 0, .int .i64 0, .int .i64 0, .slice none 0 0, .slice none 0 0, .slice none 0 0])
 have H1 := Lib.hid h1
 have H2 := Lib.hid h2
 clear h1 h2
 have hWC := @wC.eq_1
 go_enter Tryz.func26, Tryz.ntmps26
 go_wp2_with fail
 refine (is10_any x p k _).mono ?_
 rintro e w1 ⟨rfl, b1⟩
 rw [H1.out]
 have C1 := Lib.hid (C0.out.call b1)
 clear b1
 have hca := C1.out.a.cell
 have hla := C1.out.a.lt
 have hcr : ∀ i, World.cell? _ ⟨w.heap.size + 1, i, none⟩ = _ := C1.out.r.cell
 have hzr : ∀ i, World.frozen? _ ⟨w.heap.size + 1, i, none⟩ = false := C1.out.r.frozen
 have hlr : w.heap.size + 1 < _ := C1.out.r.lt
 go_wp2_with fail
 refine (is10_any x p c _).mono ?_
 rintro e w2 ⟨rfl, b2⟩
 rw [H2.out]
 have C2 := Lib.hid (C1.out.call b2)
 clear b2 hca hla hcr hzr hlr
 have hca := C2.out.a.cell
 have hla := C2.out.a.lt
 have hcr : ∀ i, World.cell? _ ⟨w.heap.size + 1, i, none⟩ = _ := C2.out.r.cell
 have hzr : ∀ i, World.frozen? _ ⟨w.heap.size + 1, i, none⟩ = false := C2.out.r.frozen
 have hlr : w.heap.size + 1 < _ := C2.out.r.lt
 go_wp2_with fail
 refine bodyPost_ret (v := .tuple #[.agg (wC x p), .int .i64 3]) (by simp [results, Tryz.results26, go_sem, hcr]) rfl ⟨rfl, ?_⟩
 iterate 11 refine Below.setCell ?_ (by show w.heap.size ≤ w.heap.size + 1; omega) _
 exact C2.out.b
section
variable (x : Wd) (px pp pc pi pa pk : Option Addr) (pxc ppc pcc pic bb bo pbc pac pkc b o pwc : Nat) (i k c : Nat) (w : World) (hx : rightW x = true) (h : WorldAt w ⟨⟨px, pxc, pp, ppc, pc, pcc, pi, pic, some ⟨bb, bo, none⟩, pbc⟩, pa, pac, pk, pkc, some ⟨b, o, none⟩, pwc⟩ x) (hi : i < x.at_.length) (hk : k < x.wher.length) (hc : c < x.wher.length) (hbb : bb < w.heap.size) (hb : b < w.heap.size)
 (c0 : w.cell? ⟨b, o + k * 2, none⟩ = some (.int .i64 (plOf x.wher k).kind)) (c1 : w.cell? ⟨b, o + k * 2 + 1, none⟩ = some (.int .i64 (plOf x.wher k).id)) (c2 : w.cell? ⟨bb, bo + c, none⟩ = some (.bool (x.d.boxes.getD c false)))
include hx h hi hk hc hbb hb c0 c1 c2
set_option maxHeartbeats 400000 in
theorem rbtake_far (hn : nearB x i c = false) : Calls Tryz.prog 26 #[.agg (wC x ⟨⟨px, pxc, pp, ppc, pc, pcc, pi, pic, some ⟨bb, bo, none⟩, pbc⟩, pa, pac, pk, pkc, some ⟨b, o, none⟩, pwc⟩), .int .i64 (i : Int), .int .i64 (k : Int), .int .i64 (c : Int)] w fun e w' => e = .returned (.tuple #[.agg (wC x ⟨⟨px, pxc, pp, ppc, pc, pcc, pi, pic, some ⟨bb, bo, none⟩, pbc⟩, pa, pac, pk, pkc, some ⟨b, o, none⟩, pwc⟩), .int .i64 5]) ∧ Below w.heap.size w w' := by
 have HN := Lib.hid hn
 clear hn
 have C0 := Lib.hid (Two.start 29 29 w (wC x ⟨⟨px, pxc, pp, ppc, pc, pcc, pi, pic, some ⟨bb, bo, none⟩, pbc⟩, pa, pac, pk, pkc, some ⟨b, o, none⟩, pwc⟩) #[.slice none 0 0, .slice none 0 0, .slice none 0 0, .slice none 0 0, .slice none 0 0, .int .i64 0, .int .i64 0, .int .i64 0, .slice none 0 0, .slice none 0 0, .slice none 0 0])
 have H := Lib.hid h
 have HX := Lib.hid hx
 have HT := Lib.hid (right_tr hx)
 have HBL := Lib.hid (show (c : Int) < (x.d.boxes.length : Int) by have := boxes_len10 hx; omega)
 have hlen := h.wh.len
 have hlenb := h.d.bo.len
 have hcb : c < x.d.boxes.length := by have := HBL.out; omega
 have HI := Lib.hid (show inB (k : Int) x.wher.length = true by simp [inB, hk])
 have HJ := Lib.hid (show inB (c : Int) x.wher.length = true by simp [inB, hc])
 have HB := Lib.hid hi
 have HC := Lib.hid hc
 clear h hx hi hc
 generalize plOf x.wher k = z at *
 generalize hgb : x.d.boxes.getD c false = bv at *
 clear hgb
 obtain ⟨zk, zi⟩ := z
 simp only at c0 c1
 have hWC := @wC.eq_1
 go_enter Tryz.func26, Tryz.ntmps26
 go_wp2_with fail
 refine (is10_any x ⟨⟨px, pxc, pp, ppc, pc, pcc, pi, pic, some ⟨bb, bo, none⟩, pbc⟩, pa, pac, pk, pkc, some ⟨b, o, none⟩, pwc⟩ k _).mono ?_
 rintro e w1 ⟨rfl, b1⟩
 rw [HI.out]
 have C1 := Lib.hid (C0.out.call b1)
 clear b1
 have hca := C1.out.a.cell
 have hla := C1.out.a.lt
 have hcr : ∀ i, World.cell? _ ⟨w.heap.size + 1, i, none⟩ = _ := C1.out.r.cell
 have hzr : ∀ i, World.frozen? _ ⟨w.heap.size + 1, i, none⟩ = false := C1.out.r.frozen
 have hlr : w.heap.size + 1 < _ := C1.out.r.lt
 go_wp2_with fail
 refine (is10_any x ⟨⟨px, pxc, pp, ppc, pc, pcc, pi, pic, some ⟨bb, bo, none⟩, pbc⟩, pa, pac, pk, pkc, some ⟨b, o, none⟩, pwc⟩ c _).mono ?_
 rintro e w2 ⟨rfl, b2⟩
 rw [HJ.out]
 have C2 := Lib.hid (C1.out.call b2)
 clear b2 hca hla hcr hzr hlr
 have hca := C2.out.a.cell
 have hla := C2.out.a.lt
 have hcr : ∀ i, World.cell? _ ⟨w.heap.size + 1, i, none⟩ = _ := C2.out.r.cell
 have hzr : ∀ i, World.frozen? _ ⟨w.heap.size + 1, i, none⟩ = false := C2.out.r.frozen
 have hlr : w.heap.size + 1 < _ := C2.out.r.lt
 have d0 := cell_call c0 C2.out.b
 have d1 := cell_call c1 C2.out.b
 have d2 := cell_call c2 C2.out.b
 have hbw : b < w2.heap.size := by have := C2.out.b.size; omega
 have hbbw : bb < w2.heap.size := by have := C2.out.b.size; omega
 go_wp2_with fail
 refine (refnear_any x ⟨⟨px, pxc, pp, ppc, pc, pcc, pi, pic, some ⟨bb, bo, none⟩, pbc⟩, pa, pac, pk, pkc, some ⟨b, o, none⟩, pwc⟩ i c _ HX.out (H.out.below C2.out.b (Nat.le_refl _)) HB.out HC.out).mono ?_
 rintro e w3 ⟨rfl, b3⟩
 rw [HN.out]
 have C3 := Lib.hid (C2.out.call b3)
 have d0 := cell_call c0 C3.out.b
 have d1 := cell_call c1 C3.out.b
 have d2 := cell_call c2 C3.out.b
 have hbw : b < w3.heap.size := by have := C3.out.b.size; omega
 have hbbw : bb < w3.heap.size := by have := C3.out.b.size; omega
 clear b3 hca hla hcr hzr hlr
 have hca := C3.out.a.cell
 have hla := C3.out.a.lt
 have hcr : ∀ i, World.cell? _ ⟨w.heap.size + 1, i, none⟩ = _ := C3.out.r.cell
 have hzr : ∀ i, World.frozen? _ ⟨w.heap.size + 1, i, none⟩ = false := C3.out.r.frozen
 have hlr : w.heap.size + 1 < _ := C3.out.r.lt
 go_wp2_with fail
 refine bodyPost_ret (v := .tuple #[.agg (wC x ⟨⟨px, pxc, pp, ppc, pc, pcc, pi, pic, some ⟨bb, bo, none⟩, pbc⟩, pa, pac, pk, pkc, some ⟨b, o, none⟩, pwc⟩), .int .i64 5]) (by simp [results, Tryz.results26, go_sem, hcr]) rfl ⟨rfl, ?_⟩
 iterate 11 refine Below.setCell ?_ (by show w.heap.size ≤ w.heap.size + 1; omega) _
 exact C3.out.b
set_option maxHeartbeats 400000 in
theorem rbtake_nobox (hn : nearB x i c = true) (hv : x.d.boxes.getD c false = false) : Calls Tryz.prog 26 #[.agg (wC x ⟨⟨px, pxc, pp, ppc, pc, pcc, pi, pic, some ⟨bb, bo, none⟩, pbc⟩, pa, pac, pk, pkc, some ⟨b, o, none⟩, pwc⟩), .int .i64 (i : Int), .int .i64 (k : Int), .int .i64 (c : Int)] w fun e w' => e = .returned (.tuple #[.agg (wC x ⟨⟨px, pxc, pp, ppc, pc, pcc, pi, pic, some ⟨bb, bo, none⟩, pbc⟩, pa, pac, pk, pkc, some ⟨b, o, none⟩, pwc⟩), .int .i64 6]) ∧ Below w.heap.size w w' := by
 have HN := Lib.hid hn
 clear hn
 have C0 := Lib.hid (Two.start 29 29 w (wC x ⟨⟨px, pxc, pp, ppc, pc, pcc, pi, pic, some ⟨bb, bo, none⟩, pbc⟩, pa, pac, pk, pkc, some ⟨b, o, none⟩, pwc⟩) #[.slice none 0 0, .slice none 0 0, .slice none 0 0, .slice none 0 0, .slice none 0 0, .int .i64 0, .int .i64 0, .int .i64 0, .slice none 0 0, .slice none 0 0, .slice none 0 0])
 have H := Lib.hid h
 have HX := Lib.hid hx
 have HT := Lib.hid (right_tr hx)
 have HBL := Lib.hid (show (c : Int) < (x.d.boxes.length : Int) by have := boxes_len10 hx; omega)
 have hlen := h.wh.len
 have hlenb := h.d.bo.len
 have hcb : c < x.d.boxes.length := by have := HBL.out; omega
 have HI := Lib.hid (show inB (k : Int) x.wher.length = true by simp [inB, hk])
 have HJ := Lib.hid (show inB (c : Int) x.wher.length = true by simp [inB, hc])
 have HB := Lib.hid hi
 have HC := Lib.hid hc
 clear h hx hi hc
 generalize plOf x.wher k = z at *
 generalize hgb : x.d.boxes.getD c false = bv at *
 clear hgb
 obtain ⟨zk, zi⟩ := z
 simp only at c0 c1
 have hWC := @wC.eq_1
 go_enter Tryz.func26, Tryz.ntmps26
 go_wp2_with fail
 refine (is10_any x ⟨⟨px, pxc, pp, ppc, pc, pcc, pi, pic, some ⟨bb, bo, none⟩, pbc⟩, pa, pac, pk, pkc, some ⟨b, o, none⟩, pwc⟩ k _).mono ?_
 rintro e w1 ⟨rfl, b1⟩
 rw [HI.out]
 have C1 := Lib.hid (C0.out.call b1)
 clear b1
 have hca := C1.out.a.cell
 have hla := C1.out.a.lt
 have hcr : ∀ i, World.cell? _ ⟨w.heap.size + 1, i, none⟩ = _ := C1.out.r.cell
 have hzr : ∀ i, World.frozen? _ ⟨w.heap.size + 1, i, none⟩ = false := C1.out.r.frozen
 have hlr : w.heap.size + 1 < _ := C1.out.r.lt
 go_wp2_with fail
 refine (is10_any x ⟨⟨px, pxc, pp, ppc, pc, pcc, pi, pic, some ⟨bb, bo, none⟩, pbc⟩, pa, pac, pk, pkc, some ⟨b, o, none⟩, pwc⟩ c _).mono ?_
 rintro e w2 ⟨rfl, b2⟩
 rw [HJ.out]
 have C2 := Lib.hid (C1.out.call b2)
 clear b2 hca hla hcr hzr hlr
 have hca := C2.out.a.cell
 have hla := C2.out.a.lt
 have hcr : ∀ i, World.cell? _ ⟨w.heap.size + 1, i, none⟩ = _ := C2.out.r.cell
 have hzr : ∀ i, World.frozen? _ ⟨w.heap.size + 1, i, none⟩ = false := C2.out.r.frozen
 have hlr : w.heap.size + 1 < _ := C2.out.r.lt
 have d0 := cell_call c0 C2.out.b
 have d1 := cell_call c1 C2.out.b
 have d2 := cell_call c2 C2.out.b
 have hbw : b < w2.heap.size := by have := C2.out.b.size; omega
 have hbbw : bb < w2.heap.size := by have := C2.out.b.size; omega
 go_wp2_with fail
 refine (refnear_any x ⟨⟨px, pxc, pp, ppc, pc, pcc, pi, pic, some ⟨bb, bo, none⟩, pbc⟩, pa, pac, pk, pkc, some ⟨b, o, none⟩, pwc⟩ i c _ HX.out (H.out.below C2.out.b (Nat.le_refl _)) HB.out HC.out).mono ?_
 rintro e w3 ⟨rfl, b3⟩
 rw [HN.out]
 have C3 := Lib.hid (C2.out.call b3)
 have d0 := cell_call c0 C3.out.b
 have d1 := cell_call c1 C3.out.b
 have d2 := cell_call c2 C3.out.b
 have hbw : b < w3.heap.size := by have := C3.out.b.size; omega
 have hbbw : bb < w3.heap.size := by have := C3.out.b.size; omega
 clear b3 hca hla hcr hzr hlr
 have hca := C3.out.a.cell
 have hla := C3.out.a.lt
 have hcr : ∀ i, World.cell? _ ⟨w.heap.size + 1, i, none⟩ = _ := C3.out.r.cell
 have hzr : ∀ i, World.frozen? _ ⟨w.heap.size + 1, i, none⟩ = false := C3.out.r.frozen
 have hlr : w.heap.size + 1 < _ := C3.out.r.lt
 go_wp2_with fail
 refine bodyPost_ret (v := .tuple #[.agg (wC x ⟨⟨px, pxc, pp, ppc, pc, pcc, pi, pic, some ⟨bb, bo, none⟩, pbc⟩, pa, pac, pk, pkc, some ⟨b, o, none⟩, pwc⟩), .int .i64 6]) (by simp [results, Tryz.results26, go_sem, hcr]) rfl ⟨rfl, ?_⟩
 iterate 11 refine Below.setCell ?_ (by show w.heap.size ≤ w.heap.size + 1; omega) _
 exact C3.out.b
set_option maxHeartbeats 400000 in
theorem rbtake_away (hn : nearB x i c = true) (hv : x.d.boxes.getD c false = true) (hz : ¬ plOf x.wher k = ⟨2, (c : Int)⟩) : Calls Tryz.prog 26 #[.agg (wC x ⟨⟨px, pxc, pp, ppc, pc, pcc, pi, pic, some ⟨bb, bo, none⟩, pbc⟩, pa, pac, pk, pkc, some ⟨b, o, none⟩, pwc⟩), .int .i64 (i : Int), .int .i64 (k : Int), .int .i64 (c : Int)] w fun e w' => e = .returned (.tuple #[.agg (wC x ⟨⟨px, pxc, pp, ppc, pc, pcc, pi, pic, some ⟨bb, bo, none⟩, pbc⟩, pa, pac, pk, pkc, some ⟨b, o, none⟩, pwc⟩), .int .i64 5]) ∧ Below w.heap.size w w' := by
 have HN := Lib.hid hn
 clear hn
 have C0 := Lib.hid (Two.start 29 29 w (wC x ⟨⟨px, pxc, pp, ppc, pc, pcc, pi, pic, some ⟨bb, bo, none⟩, pbc⟩, pa, pac, pk, pkc, some ⟨b, o, none⟩, pwc⟩) #[.slice none 0 0, .slice none 0 0, .slice none 0 0, .slice none 0 0, .slice none 0 0, .int .i64 0, .int .i64 0, .int .i64 0, .slice none 0 0, .slice none 0 0, .slice none 0 0])
 have H := Lib.hid h
 have HX := Lib.hid hx
 have HT := Lib.hid (right_tr hx)
 have HBL := Lib.hid (show (c : Int) < (x.d.boxes.length : Int) by have := boxes_len10 hx; omega)
 have hlen := h.wh.len
 have hlenb := h.d.bo.len
 have hcb : c < x.d.boxes.length := by have := HBL.out; omega
 have HI := Lib.hid (show inB (k : Int) x.wher.length = true by simp [inB, hk])
 have HJ := Lib.hid (show inB (c : Int) x.wher.length = true by simp [inB, hc])
 have HB := Lib.hid hi
 have HC := Lib.hid hc
 clear h hx hi hc
 generalize plOf x.wher k = z at *
 generalize hgb : x.d.boxes.getD c false = bv at *
 clear hgb
 obtain ⟨zk, zi⟩ := z
 simp only at c0 c1
 have hrun := run_pl zk zi 2 (c : Int)
 simp only [hz, decide_false, Bool.not_false] at hrun
 have hWC := @wC.eq_1
 go_enter Tryz.func26, Tryz.ntmps26
 go_wp2_with fail
 refine (is10_any x ⟨⟨px, pxc, pp, ppc, pc, pcc, pi, pic, some ⟨bb, bo, none⟩, pbc⟩, pa, pac, pk, pkc, some ⟨b, o, none⟩, pwc⟩ k _).mono ?_
 rintro e w1 ⟨rfl, b1⟩
 rw [HI.out]
 have C1 := Lib.hid (C0.out.call b1)
 clear b1
 have hca := C1.out.a.cell
 have hla := C1.out.a.lt
 have hcr : ∀ i, World.cell? _ ⟨w.heap.size + 1, i, none⟩ = _ := C1.out.r.cell
 have hzr : ∀ i, World.frozen? _ ⟨w.heap.size + 1, i, none⟩ = false := C1.out.r.frozen
 have hlr : w.heap.size + 1 < _ := C1.out.r.lt
 go_wp2_with fail
 refine (is10_any x ⟨⟨px, pxc, pp, ppc, pc, pcc, pi, pic, some ⟨bb, bo, none⟩, pbc⟩, pa, pac, pk, pkc, some ⟨b, o, none⟩, pwc⟩ c _).mono ?_
 rintro e w2 ⟨rfl, b2⟩
 rw [HJ.out]
 have C2 := Lib.hid (C1.out.call b2)
 clear b2 hca hla hcr hzr hlr
 have hca := C2.out.a.cell
 have hla := C2.out.a.lt
 have hcr : ∀ i, World.cell? _ ⟨w.heap.size + 1, i, none⟩ = _ := C2.out.r.cell
 have hzr : ∀ i, World.frozen? _ ⟨w.heap.size + 1, i, none⟩ = false := C2.out.r.frozen
 have hlr : w.heap.size + 1 < _ := C2.out.r.lt
 have d0 := cell_call c0 C2.out.b
 have d1 := cell_call c1 C2.out.b
 have d2 := cell_call c2 C2.out.b
 have hbw : b < w2.heap.size := by have := C2.out.b.size; omega
 have hbbw : bb < w2.heap.size := by have := C2.out.b.size; omega
 go_wp2_with fail
 refine (refnear_any x ⟨⟨px, pxc, pp, ppc, pc, pcc, pi, pic, some ⟨bb, bo, none⟩, pbc⟩, pa, pac, pk, pkc, some ⟨b, o, none⟩, pwc⟩ i c _ HX.out (H.out.below C2.out.b (Nat.le_refl _)) HB.out HC.out).mono ?_
 rintro e w3 ⟨rfl, b3⟩
 rw [HN.out]
 have C3 := Lib.hid (C2.out.call b3)
 have d0 := cell_call c0 C3.out.b
 have d1 := cell_call c1 C3.out.b
 have d2 := cell_call c2 C3.out.b
 have hbw : b < w3.heap.size := by have := C3.out.b.size; omega
 have hbbw : bb < w3.heap.size := by have := C3.out.b.size; omega
 clear b3 hca hla hcr hzr hlr
 have hca := C3.out.a.cell
 have hla := C3.out.a.lt
 have hcr : ∀ i, World.cell? _ ⟨w.heap.size + 1, i, none⟩ = _ := C3.out.r.cell
 have hzr : ∀ i, World.frozen? _ ⟨w.heap.size + 1, i, none⟩ = false := C3.out.r.frozen
 have hlr : w.heap.size + 1 < _ := C3.out.r.lt
 go_wp2_with fail
 refine bodyPost_ret (v := .tuple #[.agg (wC x ⟨⟨px, pxc, pp, ppc, pc, pcc, pi, pic, some ⟨bb, bo, none⟩, pbc⟩, pa, pac, pk, pkc, some ⟨b, o, none⟩, pwc⟩), .int .i64 5]) (by simp [results, Tryz.results26, go_sem, hcr]) rfl ⟨rfl, ?_⟩
 iterate 11 refine Below.setCell ?_ (by show w.heap.size ≤ w.heap.size + 1; omega) _
 exact C3.out.b
set_option maxHeartbeats 400000 in
theorem rbtake_full (hn : nearB x i c = true) (hv : x.d.boxes.getD c false = true) (hz : plOf x.wher k = ⟨2, (c : Int)⟩) (hr : roomI x ⟨1, (i : Int)⟩ = 0) : Calls Tryz.prog 26 #[.agg (wC x ⟨⟨px, pxc, pp, ppc, pc, pcc, pi, pic, some ⟨bb, bo, none⟩, pbc⟩, pa, pac, pk, pkc, some ⟨b, o, none⟩, pwc⟩), .int .i64 (i : Int), .int .i64 (k : Int), .int .i64 (c : Int)] w fun e w' => e = .returned (.tuple #[.agg (wC x ⟨⟨px, pxc, pp, ppc, pc, pcc, pi, pic, some ⟨bb, bo, none⟩, pbc⟩, pa, pac, pk, pkc, some ⟨b, o, none⟩, pwc⟩), .int .i64 9]) ∧ Below w.heap.size w w' := by
 have HN := Lib.hid hn
 clear hn
 have HR := Lib.hid hr
 clear hr
 have C0 := Lib.hid (Two.start 29 29 w (wC x ⟨⟨px, pxc, pp, ppc, pc, pcc, pi, pic, some ⟨bb, bo, none⟩, pbc⟩, pa, pac, pk, pkc, some ⟨b, o, none⟩, pwc⟩) #[.slice none 0 0, .slice none 0 0, .slice none 0 0, .slice none 0 0, .slice none 0 0, .int .i64 0, .int .i64 0, .int .i64 0, .slice none 0 0, .slice none 0 0, .slice none 0 0])
 have H := Lib.hid h
 have HX := Lib.hid hx
 have HT := Lib.hid (right_tr hx)
 have HBL := Lib.hid (show (c : Int) < (x.d.boxes.length : Int) by have := boxes_len10 hx; omega)
 have hlen := h.wh.len
 have hlenb := h.d.bo.len
 have hcb : c < x.d.boxes.length := by have := HBL.out; omega
 have HI := Lib.hid (show inB (k : Int) x.wher.length = true by simp [inB, hk])
 have HJ := Lib.hid (show inB (c : Int) x.wher.length = true by simp [inB, hc])
 have HB := Lib.hid hi
 have HC := Lib.hid hc
 clear h hx hi hc
 generalize plOf x.wher k = z at *
 generalize hgb : x.d.boxes.getD c false = bv at *
 clear hgb
 obtain ⟨zk, zi⟩ := z
 simp only at c0 c1
 have hrun := run_pl zk zi 2 (c : Int)
 simp only [hz, decide_true, Bool.not_true] at hrun
 have hWC := @wC.eq_1
 go_enter Tryz.func26, Tryz.ntmps26
 go_wp2_with fail
 refine (is10_any x ⟨⟨px, pxc, pp, ppc, pc, pcc, pi, pic, some ⟨bb, bo, none⟩, pbc⟩, pa, pac, pk, pkc, some ⟨b, o, none⟩, pwc⟩ k _).mono ?_
 rintro e w1 ⟨rfl, b1⟩
 rw [HI.out]
 have C1 := Lib.hid (C0.out.call b1)
 clear b1
 have hca := C1.out.a.cell
 have hla := C1.out.a.lt
 have hcr : ∀ i, World.cell? _ ⟨w.heap.size + 1, i, none⟩ = _ := C1.out.r.cell
 have hzr : ∀ i, World.frozen? _ ⟨w.heap.size + 1, i, none⟩ = false := C1.out.r.frozen
 have hlr : w.heap.size + 1 < _ := C1.out.r.lt
 go_wp2_with fail
 refine (is10_any x ⟨⟨px, pxc, pp, ppc, pc, pcc, pi, pic, some ⟨bb, bo, none⟩, pbc⟩, pa, pac, pk, pkc, some ⟨b, o, none⟩, pwc⟩ c _).mono ?_
 rintro e w2 ⟨rfl, b2⟩
 rw [HJ.out]
 have C2 := Lib.hid (C1.out.call b2)
 clear b2 hca hla hcr hzr hlr
 have hca := C2.out.a.cell
 have hla := C2.out.a.lt
 have hcr : ∀ i, World.cell? _ ⟨w.heap.size + 1, i, none⟩ = _ := C2.out.r.cell
 have hzr : ∀ i, World.frozen? _ ⟨w.heap.size + 1, i, none⟩ = false := C2.out.r.frozen
 have hlr : w.heap.size + 1 < _ := C2.out.r.lt
 have d0 := cell_call c0 C2.out.b
 have d1 := cell_call c1 C2.out.b
 have d2 := cell_call c2 C2.out.b
 have hbw : b < w2.heap.size := by have := C2.out.b.size; omega
 have hbbw : bb < w2.heap.size := by have := C2.out.b.size; omega
 go_wp2_with fail
 refine (refnear_any x ⟨⟨px, pxc, pp, ppc, pc, pcc, pi, pic, some ⟨bb, bo, none⟩, pbc⟩, pa, pac, pk, pkc, some ⟨b, o, none⟩, pwc⟩ i c _ HX.out (H.out.below C2.out.b (Nat.le_refl _)) HB.out HC.out).mono ?_
 rintro e w3 ⟨rfl, b3⟩
 rw [HN.out]
 have C3 := Lib.hid (C2.out.call b3)
 have d0 := cell_call c0 C3.out.b
 have d1 := cell_call c1 C3.out.b
 have d2 := cell_call c2 C3.out.b
 have hbw : b < w3.heap.size := by have := C3.out.b.size; omega
 have hbbw : bb < w3.heap.size := by have := C3.out.b.size; omega
 clear b3 hca hla hcr hzr hlr
 have hca := C3.out.a.cell
 have hla := C3.out.a.lt
 have hcr : ∀ i, World.cell? _ ⟨w.heap.size + 1, i, none⟩ = _ := C3.out.r.cell
 have hzr : ∀ i, World.frozen? _ ⟨w.heap.size + 1, i, none⟩ = false := C3.out.r.frozen
 have hlr : w.heap.size + 1 < _ := C3.out.r.lt
 go_wp2_with fail
 refine (rroom_pl x ⟨⟨px, pxc, pp, ppc, pc, pcc, pi, pic, some ⟨bb, bo, none⟩, pbc⟩, pa, pac, pk, pkc, some ⟨b, o, none⟩, pwc⟩ i _ HX.out (H.out.below C3.out.b (Nat.le_refl _))).mono ?_
 rintro e w4 ⟨rfl, b4⟩
 rw [HR.out]
 have C4 := Lib.hid (C3.out.call b4)
 clear b4 hca hla hcr hzr hlr
 have hca := C4.out.a.cell
 have hla := C4.out.a.lt
 have hcr : ∀ i, World.cell? _ ⟨w.heap.size + 1, i, none⟩ = _ := C4.out.r.cell
 have hzr : ∀ i, World.frozen? _ ⟨w.heap.size + 1, i, none⟩ = false := C4.out.r.frozen
 have hlr : w.heap.size + 1 < _ := C4.out.r.lt
 go_wp2_with fail
 refine bodyPost_ret (v := .tuple #[.agg (wC x ⟨⟨px, pxc, pp, ppc, pc, pcc, pi, pic, some ⟨bb, bo, none⟩, pbc⟩, pa, pac, pk, pkc, some ⟨b, o, none⟩, pwc⟩), .int .i64 9]) (by simp [results, Tryz.results26, go_sem, hcr]) rfl ⟨rfl, ?_⟩
 iterate 11 refine Below.setCell ?_ (by show w.heap.size ≤ w.heap.size + 1; omega) _
 exact C4.out.b
set_option maxHeartbeats 400000 in
theorem rbtake_go (hn : nearB x i c = true) (hv : x.d.boxes.getD c false = true) (hz : plOf x.wher k = ⟨2, (c : Int)⟩) (r : Int) (hr : roomI x ⟨1, (i : Int)⟩ = r) (hr1 : (r == 0) = false) : Calls Tryz.prog 26 #[.agg (wC x ⟨⟨px, pxc, pp, ppc, pc, pcc, pi, pic, some ⟨bb, bo, none⟩, pbc⟩, pa, pac, pk, pkc, some ⟨b, o, none⟩, pwc⟩), .int .i64 (i : Int), .int .i64 (k : Int), .int .i64 (c : Int)] w fun e w' => ∃ q : Wp, e = .returned (.tuple #[.agg (wC x q), .int .i64 0]) ∧ WhOwn w.heap.size w' ⟨px, pxc, pp, ppc, pc, pcc, pi, pic, some ⟨bb, bo, none⟩, pbc⟩ q (putW x k ⟨1, (i : Int)⟩) ∧ Below w.heap.size w w' := by
 have HN := Lib.hid hn
 clear hn
 have HR := Lib.hid hr
 clear hr
 have C0 := Lib.hid (Two.start 29 29 w (wC x ⟨⟨px, pxc, pp, ppc, pc, pcc, pi, pic, some ⟨bb, bo, none⟩, pbc⟩, pa, pac, pk, pkc, some ⟨b, o, none⟩, pwc⟩) #[.slice none 0 0, .slice none 0 0, .slice none 0 0, .slice none 0 0, .slice none 0 0, .int .i64 0, .int .i64 0, .int .i64 0, .slice none 0 0, .slice none 0 0, .slice none 0 0])
 have H := Lib.hid h
 have HX := Lib.hid hx
 have HT := Lib.hid (right_tr hx)
 have HBL := Lib.hid (show (c : Int) < (x.d.boxes.length : Int) by have := boxes_len10 hx; omega)
 have hlen := h.wh.len
 have hlenb := h.d.bo.len
 have hcb : c < x.d.boxes.length := by have := HBL.out; omega
 have HI := Lib.hid (show inB (k : Int) x.wher.length = true by simp [inB, hk])
 have HJ := Lib.hid (show inB (c : Int) x.wher.length = true by simp [inB, hc])
 have HB := Lib.hid hi
 have HC := Lib.hid hc
 clear h hx hi hc
 generalize plOf x.wher k = z at *
 generalize hgb : x.d.boxes.getD c false = bv at *
 clear hgb
 obtain ⟨zk, zi⟩ := z
 simp only at c0 c1
 have hrun := run_pl zk zi 2 (c : Int)
 simp only [hz, decide_true, Bool.not_true] at hrun
 have hWC := @wC.eq_1
 go_enter Tryz.func26, Tryz.ntmps26
 go_wp2_with fail
 refine (is10_any x ⟨⟨px, pxc, pp, ppc, pc, pcc, pi, pic, some ⟨bb, bo, none⟩, pbc⟩, pa, pac, pk, pkc, some ⟨b, o, none⟩, pwc⟩ k _).mono ?_
 rintro e w1 ⟨rfl, b1⟩
 rw [HI.out]
 have C1 := Lib.hid (C0.out.call b1)
 clear b1
 have hca := C1.out.a.cell
 have hla := C1.out.a.lt
 have hcr : ∀ i, World.cell? _ ⟨w.heap.size + 1, i, none⟩ = _ := C1.out.r.cell
 have hzr : ∀ i, World.frozen? _ ⟨w.heap.size + 1, i, none⟩ = false := C1.out.r.frozen
 have hlr : w.heap.size + 1 < _ := C1.out.r.lt
 go_wp2_with fail
 refine (is10_any x ⟨⟨px, pxc, pp, ppc, pc, pcc, pi, pic, some ⟨bb, bo, none⟩, pbc⟩, pa, pac, pk, pkc, some ⟨b, o, none⟩, pwc⟩ c _).mono ?_
 rintro e w2 ⟨rfl, b2⟩
 rw [HJ.out]
 have C2 := Lib.hid (C1.out.call b2)
 clear b2 hca hla hcr hzr hlr
 have hca := C2.out.a.cell
 have hla := C2.out.a.lt
 have hcr : ∀ i, World.cell? _ ⟨w.heap.size + 1, i, none⟩ = _ := C2.out.r.cell
 have hzr : ∀ i, World.frozen? _ ⟨w.heap.size + 1, i, none⟩ = false := C2.out.r.frozen
 have hlr : w.heap.size + 1 < _ := C2.out.r.lt
 have d0 := cell_call c0 C2.out.b
 have d1 := cell_call c1 C2.out.b
 have d2 := cell_call c2 C2.out.b
 have hbw : b < w2.heap.size := by have := C2.out.b.size; omega
 have hbbw : bb < w2.heap.size := by have := C2.out.b.size; omega
 go_wp2_with fail
 refine (refnear_any x ⟨⟨px, pxc, pp, ppc, pc, pcc, pi, pic, some ⟨bb, bo, none⟩, pbc⟩, pa, pac, pk, pkc, some ⟨b, o, none⟩, pwc⟩ i c _ HX.out (H.out.below C2.out.b (Nat.le_refl _)) HB.out HC.out).mono ?_
 rintro e w3 ⟨rfl, b3⟩
 rw [HN.out]
 have C3 := Lib.hid (C2.out.call b3)
 have d0 := cell_call c0 C3.out.b
 have d1 := cell_call c1 C3.out.b
 have d2 := cell_call c2 C3.out.b
 have hbw : b < w3.heap.size := by have := C3.out.b.size; omega
 have hbbw : bb < w3.heap.size := by have := C3.out.b.size; omega
 clear b3 hca hla hcr hzr hlr
 have hca := C3.out.a.cell
 have hla := C3.out.a.lt
 have hcr : ∀ i, World.cell? _ ⟨w.heap.size + 1, i, none⟩ = _ := C3.out.r.cell
 have hzr : ∀ i, World.frozen? _ ⟨w.heap.size + 1, i, none⟩ = false := C3.out.r.frozen
 have hlr : w.heap.size + 1 < _ := C3.out.r.lt
 go_wp2_with fail
 refine (rroom_pl x ⟨⟨px, pxc, pp, ppc, pc, pcc, pi, pic, some ⟨bb, bo, none⟩, pbc⟩, pa, pac, pk, pkc, some ⟨b, o, none⟩, pwc⟩ i _ HX.out (H.out.below C3.out.b (Nat.le_refl _))).mono ?_
 rintro e w4 ⟨rfl, b4⟩
 rw [HR.out]
 have C4 := Lib.hid (C3.out.call b4)
 clear b4 hca hla hcr hzr hlr
 have hca := C4.out.a.cell
 have hla := C4.out.a.lt
 have hcr : ∀ i, World.cell? _ ⟨w.heap.size + 1, i, none⟩ = _ := C4.out.r.cell
 have hzr : ∀ i, World.frozen? _ ⟨w.heap.size + 1, i, none⟩ = false := C4.out.r.frozen
 have hlr : w.heap.size + 1 < _ := C4.out.r.lt
 go_wp2_with fail
 refine (refto_pl x ⟨⟨px, pxc, pp, ppc, pc, pcc, pi, pic, some ⟨bb, bo, none⟩, pbc⟩, pa, pac, pk, pkc, some ⟨b, o, none⟩, pwc⟩ k i _ (H.out.below C4.out.b (Nat.le_refl _)) (right_fewW9 HX.out) hk).mono ?_
 rintro e w5 ⟨⟨qd, qa, qac, qk, qkc, qw, qwc⟩, rfl, ho, b5⟩
 have C5 := Lib.hid (C4.out.call b5)
 have HO := Lib.hid (ho.less C4.out.size)
 clear b5 ho hca hla hcr hzr hlr
 have hca := C5.out.a.cell
 have hla := C5.out.a.lt
 have hcr : ∀ i, World.cell? _ ⟨w.heap.size + 1, i, none⟩ = _ := C5.out.r.cell
 have hzr : ∀ i, World.frozen? _ ⟨w.heap.size + 1, i, none⟩ = false := C5.out.r.frozen
 have hlr : w.heap.size + 1 < _ := C5.out.r.lt
 go_wp2_with fail
 refine bodyPost_ret (v := .tuple #[.agg (wC x ⟨qd, qa, qac, qk, qkc, qw, qwc⟩), .int .i64 0]) (by simp [results, Tryz.results26, go_sem, hcr]) rfl ⟨⟨qd, qa, qac, qk, qkc, qw, qwc⟩, rfl, ?_, ?_⟩
 ·refine WhOwn.less (n := w.heap.size + 2) ?_ (by omega)
  iterate 11 refine WhOwn.set (b := w.heap.size + 1) ?_ (by omega) _ _
  exact HO.out
 ·iterate 11 refine Below.setCell ?_ (by show w.heap.size ≤ w.heap.size + 1; omega) _
  exact C5.out.b
end
theorem refbput_any (x : Wd) (p : Wp) (i : Nat) (item b : Int) (w : World) (hx : rightW x = true) (h : WorldAt w p x) (hi : i < x.at_.length) : Calls Tryz.prog 25 #[.agg (wC x p), .int .i64 (i : Int), .int .i64 item, .int .i64 b] w fun e w' => ∃ q : Wp, e = .returned (.tuple #[.agg (wC x q), .int .i64 (boxW x i item b).2]) ∧ RTook w.heap.size w' p q x (boxW x i item b) ∧ Below w.heap.size w w' := by
 rcases box_cases x i item b with ⟨h1, e⟩ | ⟨k, c, rfl, rfl, hk, hc, hr⟩
 ·rw [e]
  cases h2 : inB item x.wher.length
  ·exact (rbput_none1 x p i item b w h2).mono fun e' w' ⟨h2, h3⟩ => ⟨_, h2, .inl ⟨by simp, rfl, rfl⟩, h3⟩
  ·exact (rbput_none2 x p i item b w h2 (h1.resolve_left (by rw [h2]; simp))).mono fun e' w' ⟨h2, h3⟩ => ⟨_, h2, .inl ⟨by simp, rfl, rfl⟩, h3⟩
 obtain ⟨b, o, ea, hb, c0, c1⟩ := PlsAt.cells h.wh hk
 obtain ⟨bb, bo, eb, hbb, c2⟩ := BlsAt.cells h.d.bo (k := c) (by have := boxes_len10 hx; omega)
 rw [← plOf_get hk] at c0 c1
 rw [show x.d.boxes[c]'(by have := boxes_len10 hx; omega) = x.d.boxes.getD c false by simp [List.getD, List.getElem?_eq_getElem (show c < x.d.boxes.length by have := boxes_len10 hx; omega)]] at c2
 obtain ⟨⟨px, pxc, pp, ppc, pc, pcc, pi, pic, pb, pbc⟩, pa, pac, pk, pkc, pw, pwc⟩ := p
 simp only at ea eb
 subst ea eb
 rcases hr with ⟨h1, e⟩ | ⟨⟨h1, h2⟩, ⟨h3, e⟩ | ⟨h3, ⟨h4, e⟩ | ⟨h4, hr⟩⟩⟩
 ·rw [e]
  by_cases hz : plOf x.wher k = ⟨1, (i : Int)⟩
  ·exact (rbput_far x px pp pc pi pa pk pxc ppc pcc pic bb bo pbc pac pkc b o pwc i k c w hx h hi hk hc hbb hb c0 c1 c2 hz (h1.resolve_left (fun h => h hz))).mono fun e' w' ⟨h2, h3⟩ => ⟨_, h2, .inl ⟨by simp, rfl, rfl⟩, h3⟩
  ·exact (rbput_away x px pp pc pi pa pk pxc ppc pcc pic bb bo pbc pac pkc b o pwc i k c w hx h hi hk hc hbb hb c0 c1 c2 hz).mono fun e' w' ⟨h2, h3⟩ => ⟨_, h2, .inl ⟨by simp, rfl, rfl⟩, h3⟩
 ·rw [e]; exact (rbput_nobox x px pp pc pi pa pk pxc ppc pcc pic bb bo pbc pac pkc b o pwc i k c w hx h hi hk hc hbb hb c0 c1 c2 h1 h2 h3).mono fun e' w' ⟨h2, h3⟩ => ⟨_, h2, .inl ⟨by simp, rfl, rfl⟩, h3⟩
 ·rw [e]; exact (rbput_loop x px pp pc pi pa pk pxc ppc pcc pic bb bo pbc pac pkc b o pwc i k c w hx h hi hk hc hbb hb c0 c1 c2 h1 h2 h3 h4).mono fun e' w' ⟨h2, h3⟩ => ⟨_, h2, .inl ⟨by simp, rfl, rfl⟩, h3⟩
 ·exact rbput_go x px pp pc pi pa pk pxc ppc pcc pic bb bo pbc pac pkc b o pwc i k c w hx h hi hk hc hbb hb c0 c1 c2 h1 h2 h3 h4
theorem refbtake_any (x : Wd) (p : Wp) (i : Nat) (item b : Int) (w : World) (hx : rightW x = true) (h : WorldAt w p x) (hi : i < x.at_.length) : Calls Tryz.prog 26 #[.agg (wC x p), .int .i64 (i : Int), .int .i64 item, .int .i64 b] w fun e w' => ∃ q : Wp, e = .returned (.tuple #[.agg (wC x q), .int .i64 (outW x i item b).2]) ∧ RTook w.heap.size w' p q x (outW x i item b) ∧ Below w.heap.size w w' := by
 rcases out_cases x i item b with ⟨h1, e⟩ | ⟨k, c, rfl, rfl, hk, hc, hr⟩
 ·rw [e]
  cases h2 : inB item x.wher.length
  ·exact (rbtake_none1 x p i item b w h2).mono fun e' w' ⟨h2, h3⟩ => ⟨_, h2, .inl ⟨by simp, rfl, rfl⟩, h3⟩
  ·exact (rbtake_none2 x p i item b w h2 (h1.resolve_left (by rw [h2]; simp))).mono fun e' w' ⟨h2, h3⟩ => ⟨_, h2, .inl ⟨by simp, rfl, rfl⟩, h3⟩
 obtain ⟨b, o, ea, hb, c0, c1⟩ := PlsAt.cells h.wh hk
 obtain ⟨bb, bo, eb, hbb, c2⟩ := BlsAt.cells h.d.bo (k := c) (by have := boxes_len10 hx; omega)
 rw [← plOf_get hk] at c0 c1
 rw [show x.d.boxes[c]'(by have := boxes_len10 hx; omega) = x.d.boxes.getD c false by simp [List.getD, List.getElem?_eq_getElem (show c < x.d.boxes.length by have := boxes_len10 hx; omega)]] at c2
 obtain ⟨⟨px, pxc, pp, ppc, pc, pcc, pi, pic, pb, pbc⟩, pa, pac, pk, pkc, pw, pwc⟩ := p
 simp only at ea eb
 subst ea eb
 rcases hr with ⟨h1, e⟩ | ⟨h1, ⟨h2, e⟩ | ⟨h2, ⟨h3, e⟩ | ⟨h3, ⟨h4, e⟩ | ⟨h4, e⟩⟩⟩⟩
 all_goals rw [e]
 ·exact (rbtake_far x px pp pc pi pa pk pxc ppc pcc pic bb bo pbc pac pkc b o pwc i k c w hx h hi hk hc hbb hb c0 c1 c2 h1).mono fun e' w' ⟨h2, h3⟩ => ⟨_, h2, .inl ⟨by simp, rfl, rfl⟩, h3⟩
 ·exact (rbtake_nobox x px pp pc pi pa pk pxc ppc pcc pic bb bo pbc pac pkc b o pwc i k c w hx h hi hk hc hbb hb c0 c1 c2 h1 h2).mono fun e' w' ⟨h2, h3⟩ => ⟨_, h2, .inl ⟨by simp, rfl, rfl⟩, h3⟩
 ·exact (rbtake_away x px pp pc pi pa pk pxc ppc pcc pic bb bo pbc pac pkc b o pwc i k c w hx h hi hk hc hbb hb c0 c1 c2 h1 h2 h3).mono fun e' w' ⟨h2, h3⟩ => ⟨_, h2, .inl ⟨by simp, rfl, rfl⟩, h3⟩
 ·exact (rbtake_full x px pp pc pi pa pk pxc ppc pcc pic bb bo pbc pac pkc b o pwc i k c w hx h hi hk hc hbb hb c0 c1 c2 h1 h2 h3 h4).mono fun e' w' ⟨h2, h3⟩ => ⟨_, h2, .inl ⟨by simp, rfl, rfl⟩, h3⟩
 ·exact (rbtake_go x px pp pc pi pa pk pxc ppc pcc pic bb bo pbc pac pkc b o pwc i k c w hx h hi hk hc hbb hb c0 c1 c2 h1 h2 h3 _ rfl (by simpa using h4)).mono fun e' w' ⟨q, h5, h6, h7⟩ => ⟨q, h5, .inr ⟨rfl, rfl, h6⟩, h7⟩
end
end Go.Proofs.YtgmkcddgkgcbbaaGreat
