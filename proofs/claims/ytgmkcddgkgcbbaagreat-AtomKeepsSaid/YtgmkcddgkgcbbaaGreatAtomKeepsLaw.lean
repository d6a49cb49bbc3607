/- AtomKeeps: whatever commands are done, one behind the other, the world stays right. -/
import Derived.Test.YtgmkcddgkgcbbaaGreatCmdRead
import Derived.Test.YtgmkcddgkgcbbaaGreatAtomAwake
import Derived.Test.YtgmkcddgkgcbbaaGreatGiftSum
namespace Go.Proofs.YtgmkcddgkgcbbaaGreat
open Go.ChangeShapes Go.WideShapes Go.ChangeAt Go.RowKit
open Lib (hid)
set_option linter.unusedVariables false
set_option maxRecDepth 100000
open Go.RowKit
/-- Behind some of the commands. -/
structure KeepI (x : Wd) (p : Wp) (w W : World) (q : Wp) (y : Wd) : Prop where
 s : Shape x y
 r : rightW y = true
 a : Blk W w.heap.size 29 (wC x q)
 own : (y = x ∧ q = p) ∨ WorldOwn (w.heap.size + 1) W q y
 b : Below w.heap.size w W
theorem KeepI.call {x : Wd} {p : Wp} {w W W' : World} {q : Wp} {y : Wd} (h : KeepI x p w W q y) (hb : Below W.heap.size W W') : KeepI x p w W' q y := ⟨h.s, h.r, h.a.call hb, h.own.imp id (fun h => h.call hb), bl h.b hb⟩
theorem KeepI.world {x : Wd} {p : Wp} {w W : World} {q : Wp} {y : Wd} (h : KeepI x p w W q y) (hw : WorldAt w p x) : WorldAt W q y := by
 rcases h.own with ⟨h1, h2⟩ | h2
 ·rw [h1, h2]; exact hw.below h.b (Nat.le_refl _)
 ·exact h2.world
theorem blk_set6 {W : World} {g : Nat} {t : TypeId} {c0 c1 c2 c3 c4 c5 u0 u1 u2 u3 u4 u5 : Value} (h : Blk W g t #[c0, c1, c2, c3, c4, c5]) :
 Blk ((((((W.setCell ⟨g, 0, none⟩ u0).setCell ⟨g, 1, none⟩ u1).setCell ⟨g, 2, none⟩ u2).setCell ⟨g, 3, none⟩ u3).setCell ⟨g, 4, none⟩ u4).setCell ⟨g, 5, none⟩ u5) g t #[u0, u1, u2, u3, u4, u5] := by
 have := (((((h.set_ 0 u0).set_ 1 u1).set_ 2 u2).set_ 3 u3).set_ 4 u4).set_ 5 u5
 simpa using this
theorem cmd_range {W : World} {b o : Nat} {l : Cl} (h : ∀ t, t < 18 → W.cell? ⟨b, o + t, none⟩ = (clC l)[t]?) : W.rangeAt b (o + 1) [.int .i64 l.c.kind, .int .i64 l.c.dir, .int .i64 l.c.item, .int .i64 l.c.box, .int .i64 l.c.who, .slice l.ga l.c.gives.length l.gc, .int .i64 l.c.pay, .slice l.wa l.c.wants.length l.wc, .int .i64 l.c.fee] := fun t v hv => by
 have ht : t < 9 := by simpa using (List.getElem?_eq_some_iff.1 hv).1
 rw [show o + 1 + t = o + (1 + t) by omega, h (1 + t) (by omega), ← hv]
 obtain rfl | rfl | rfl | rfl | rfl | rfl | rfl | rfl | rfl : t = 0 ∨ t = 1 ∨ t = 2 ∨ t = 3 ∨ t = 4 ∨ t = 5 ∨ t = 6 ∨ t = 7 ∨ t = 8 := by omega
 all_goals rfl
theorem KeepI.next {x : Wd} {p : Wp} {w W : World} {q q2 : Wp} {y : Wd} {qa ia : Option Addr} {R : Wd × Rp} (h : KeepI x p w W q y) (d : Did (w.heap.size + 1) W q q2 y qa ia R) (hs : Shape y R.1) (hr : rightW R.1 = true) :
 KeepI x p w (((((((((((W.setCell ⟨w.heap.size, 0, none⟩ (.slice q2.d.ex x.d.exits.length q2.d.exc)).setCell ⟨w.heap.size, 1, none⟩ (.slice q2.d.pl x.d.players.length q2.d.plc)).setCell ⟨w.heap.size, 2, none⟩ (.slice q2.d.co x.d.coins.length q2.d.coc)).setCell ⟨w.heap.size, 3, none⟩ (.slice q2.d.it x.d.items.length q2.d.itc)).setCell ⟨w.heap.size, 4, none⟩ (.slice q2.d.bo x.d.boxes.length q2.d.boc)).setCell ⟨w.heap.size, 5, none⟩ (.int .i64 x.d.room)).setCell ⟨w.heap.size, 6, none⟩ (.int .i64 x.d.player)).setCell ⟨w.heap.size, 7, none⟩ (.int .i64 x.d.box)).setCell ⟨w.heap.size, 8, none⟩ (.slice q2.at_ x.at_.length q2.atc)).setCell ⟨w.heap.size, 9, none⟩ (.slice q2.co x.coins.length q2.coc)).setCell ⟨w.heap.size, 10, none⟩ (.slice q2.wh x.wher.length q2.whc)) q2 R.1 := by
 have hb := h.b
 refine ⟨h.s.trans' hs, hr, blk_set11 h.a, ?_, ?_⟩
 ·have ho : (R.1 = x ∧ q2 = p) ∨ WorldOwn (w.heap.size + 1) W q2 R.1 := by
   rcases d.1 with ⟨h1, h2⟩ | h1
   ·rw [h1, h2]; exact h.own
   ·exact .inr h1
  refine ho.imp id (fun h => ?_)
  iterate 11 refine WorldOwn.set ?_ (Nat.lt_succ_self _) _ _
  exact h
 ·iterate 11 refine Below.setCell ?_ (by show w.heap.size ≤ w.heap.size; omega) _
  exact hb
theorem atomKeeps_no (x : Wd) (p : Wp) (a : Option Addr) (cap : Nat) (ls : List Cl) (w : World) (h : WorldAt w p x) (hf : fitsB x = false) : Calls Tryz.prog 4 #[.agg (wC x p), .slice a ls.length cap] w fun e w' => e = .returned (.bool true) ∧ Below w.heap.size w w' := by
 have HF := hid hf
 have HWA := hid h
 clear hf h
 have HP0 := hid (Holds.new w (wC x p) 29)
 have hWC := @wC.eq_1
 go_enter Tryz.func4, Tryz.ntmps4
 go_wp2_with fail
 generalize w.alloc (.cells (wC x p) 29) = V0 at *
 have H_0 := hid HP0.out
 have B_0 := hid H_0.out.1
 clear HP0
 refine (awake13_any _).mono ?_
 rintro e u1 ⟨rfl, b1⟩
 have B_1 := hid (bl B_0.out b1)
 have H_1 := hid (H_0.out.call b1)
 clear b1 B_0 H_0
 have hcH := H_1.out.2.2
 have hlH := H_1.out.2.1
 go_wp2_with fail
 refine (fits13_any x p _ (HWA.out.below B_1.out (Nat.le_refl _))).mono ?_
 rintro e u2 ⟨rfl, b2⟩
 rw [HF.out]
 clear hcH hlH
 have B_2 := hid (bl B_1.out b2)
 have H_2 := hid (H_1.out.call b2)
 clear b2 B_1 H_1
 have hcH := H_2.out.2.2
 have hlH := H_2.out.2.1
 go_wp2_with fail
 refine (awake13_any _).mono ?_
 rintro e u3 ⟨rfl, b3⟩
 clear hcH hlH
 have B_3 := hid (bl B_2.out b3)
 have H_3 := hid (H_2.out.call b3)
 clear b3 B_2 H_2
 have hcH := H_3.out.2.2
 have hlH := H_3.out.2.1
 go_wp2_with fail
 go_ret
 exact ⟨rfl, B_3.out⟩
theorem atomKeeps_long (x : Wd) (p : Wp) (a : Option Addr) (cap : Nat) (ls : List Cl) (w : World) (h : WorldAt w p x) (hf : fitsB x = true) (k0 : decide ((60 : Int) < (ls.length : Int)) = true) : Calls Tryz.prog 4 #[.agg (wC x p), .slice a ls.length cap] w fun e w' => e = .returned (.bool true) ∧ Below w.heap.size w w' := by
 have HF := hid hf
 have HWA := hid h
 clear hf h
 have HP0 := hid (Holds.new w (wC x p) 29)
 have hWC := @wC.eq_1
 go_enter Tryz.func4, Tryz.ntmps4
 go_wp2_with fail
 generalize w.alloc (.cells (wC x p) 29) = V0 at *
 have H_0 := hid HP0.out
 have B_0 := hid H_0.out.1
 clear HP0
 refine (awake13_any _).mono ?_
 rintro e u1 ⟨rfl, b1⟩
 have B_1 := hid (bl B_0.out b1)
 have H_1 := hid (H_0.out.call b1)
 clear b1 B_0 H_0
 have hcH := H_1.out.2.2
 have hlH := H_1.out.2.1
 go_wp2_with fail
 refine (fits13_any x p _ (HWA.out.below B_1.out (Nat.le_refl _))).mono ?_
 rintro e u2 ⟨rfl, b2⟩
 rw [HF.out]
 clear hcH hlH
 have B_2 := hid (bl B_1.out b2)
 have H_2 := hid (H_1.out.call b2)
 clear b2 B_1 H_1
 have hcH := H_2.out.2.2
 have hlH := H_2.out.2.1
 go_wp2_with fail
 refine (awake13_any _).mono ?_
 rintro e u3 ⟨rfl, b3⟩
 clear hcH hlH
 have B_3 := hid (bl B_2.out b3)
 have H_3 := hid (H_2.out.call b3)
 clear b3 B_2 H_2
 have hcH := H_3.out.2.2
 have hlH := H_3.out.2.1
 go_wp2_with fail
 go_ret
 exact ⟨rfl, B_3.out⟩
set_option maxHeartbeats 4000000 in
theorem atomKeeps_go (x : Wd) (p : Wp) (a : Option Addr) (cap : Nat) (ls : List Cl) (w : World) (h : WorldAt w p x) (hc : CallsAt w a ls) (hf : fitsB x = true) (k0 : decide ((60 : Int) < (ls.length : Int)) = false) : Calls Tryz.prog 4 #[.agg (wC x p), .slice a ls.length cap] w fun e w' => e = .returned (.bool true) ∧ Below w.heap.size w w' := by
 have FT := hid (fits_fit hf)
 have hlen6 := (right_lens FT.out.right).2.1
 have HCL := hid hc
 have hm63 := hc.row.len
 clear hc
 have HF := hid hf
 have HWA := hid h
 clear hf h
 have HP0 := hid (Blk.new w 29 (wC x p))
 have hWC := @wC.eq_1
 go_enter Tryz.func4, Tryz.ntmps4
 go_wp2_with fail
 have B_0 := hid ((Below.refl w.heap.size w).alloc (Nat.le_refl _) (.cells (wC x p) 29))
 generalize w.alloc (.cells (wC x p) 29) = V0 at *
 have AB_0 := HP0
 have H_0 := hid (show Holds w w.heap.size (wC x p) V0 from ⟨B_0.out, AB_0.out.lt, AB_0.out.cell⟩)
 clear HP0
 refine (awake13_any _).mono ?_
 rintro e u1 ⟨rfl, b1⟩
 have B_1 := hid (bl B_0.out b1)
 have H_1 := hid (H_0.out.call b1)
 have AB_1 := hid (AB_0.out.call b1)
 clear b1 B_0 H_0 AB_0
 have hcH := H_1.out.2.2
 have hlH := H_1.out.2.1
 go_wp2_with fail
 refine (fits13_any x p _ (HWA.out.below B_1.out (Nat.le_refl _))).mono ?_
 rintro e u2 ⟨rfl, b2⟩
 rw [HF.out]
 clear hcH hlH
 have B_2 := hid (bl B_1.out b2)
 have H_2 := hid (H_1.out.call b2)
 have AB_2 := hid (AB_1.out.call b2)
 clear b2 B_1 H_1 AB_1
 have hcH := H_2.out.2.2
 have hlH := H_2.out.2.1
 go_wp2_with fail
 clear hcH hlH
 have K0 := hid (show KeepI x p w u2 p x from ⟨Shape.refl x, FT.out.right, AB_2.out, .inl ⟨rfl, rfl⟩, B_2.out⟩)
 clear B_2 H_2 AB_2
 go_loopw [5] (fun nv wr => ∃ (j : Nat) (q : Wp) (y : Wd), j ≤ ls.length ∧ nv = .int .i64 j ∧ KeepI x p w wr q y) (fun nv _ => ls.length - (intOf nv).toNat)
 case atStart => exact ⟨0, p, x, Nat.zero_le _, rfl, K0.out⟩
 case round =>
  obtain ⟨j, q, y, hj, rfl, hK⟩ := hrel
  have HK := hid hK
  clear hK
  by_cases hlt : j < ls.length
  case neg =>
   obtain rfl : j = ls.length := by omega
   go_wp2_with fail
   go_ret
   exact ⟨rfl, HK.out.b⟩
  have hok := HCL.out.ok _ (List.getElem_mem hlt)
  obtain ⟨cb, co, ea, hcb, hcc⟩ := HCL.out.row.at_ hlt
  have hcell := hcc j hlt
  generalize ls[j] = l at *
  obtain ⟨lp, lc, lga, lgc, lwa, lwc, lfr, lto, lr, lpa, lpc, lia, lic⟩ := l
  try simp only at hok
  subst ea
  have hld := cmd_range (l := ⟨lp, lc, lga, lgc, lwa, lwc, lfr, lto, lr, lpa, lpc, lia, lic⟩) (W := wr) (fun t ht => (HK.out.b.cell (p := ⟨cb, co + j * 18 + t, none⟩) hcb).trans (hcell t ht))
  have hpl : wr.cell? ⟨cb, co + j * 18, none⟩ = some (.int .i64 lp) := (HK.out.b.cell (p := ⟨cb, co + j * 18, none⟩) hcb).trans (hcell 0 (by omega))
  have HPL := hid hpl
  have hcbr : cb < wr.heap.size := Nat.lt_of_lt_of_le hcb HK.out.b.size
  have HOK := hid hok
  clear hcc hcell hok hpl
  go_upto_region 6 with fail
  refine wp_region_list ?_
  refine wpList_plain rfl (fun K hK => ?_)
  go_simp
  refine hK _ _ ?_
  clear hK K
  refine wpList_plain rfl (fun K hK => ?_)
  go_simp
  refine hK _ _ ?_
  clear hK K
  refine wpList_plain rfl (fun K hK => ?_)
  go_simp
  refine hK _ _ ?_
  clear hK K
  refine wpList_plain rfl (fun K hK => ?_)
  go_simp
  refine hK _ _ ?_
  clear hK K
  refine wpList_load_mid rfl 31 (.tmp 31) rfl cb (co + j * 18 + 1) rfl [.int .i64 lc.kind, .int .i64 lc.dir, .int .i64 lc.item, .int .i64 lc.box, .int .i64 lc.who, .slice lga lc.gives.length lgc, .int .i64 lc.pay, .slice lwa lc.wants.length lwc, .int .i64 lc.fee] _ hld Tryz.underlying31 rfl (by kernel_rfl) ?_
  clear hld
  go_upto_region 7 with fail
  obtain ⟨m, hm⟩ : ∃ m, wr.heap.size = m := ⟨_, rfl⟩
  try simp only [hm]
  refine gen_wp (fun V => KeepI x p w V q y ∧ Blk V m 31 #[.int .i64 lc.kind, .int .i64 lc.dir, .int .i64 lc.item, .int .i64 lc.box, .int .i64 lc.who, .slice lga lc.gives.length lgc, .int .i64 lc.pay, .slice lwa lc.wants.length lwc, .int .i64 lc.fee] ∧ (V.cell? ⟨cb, co + j * 18, none⟩ = some (.int .i64 lp) ∧ cb < V.heap.size) ∧ w.heap.size < m) ⟨HK.out.call ((Below.refl _ _).alloc (Nat.le_refl _) _), Blk.newn wr _ _ hm, ⟨(World.cell?_alloc_lt _ _ _ hcbr).trans HPL.out, by simp; omega⟩, by rw [← hm]; exact HK.out.a.lt⟩ (fun V1 hV => ?_)
  have K1 := hid hV.1
  have C1 := hid hV.2.1
  have P1 := hid hV.2.2.1
  have HMW := hid hV.2.2.2
  clear hV hm HK HPL hcbr
  cases hfw : cfewB lc
  ·have HFW := hid hfw
   clear hfw
   have D0 := hid (bdrew1 (Below.refl V1.heap.size V1))
   have KS : Hid (∀ W, Below V1.heap.size V1 W → (∀ ii, W.cell? ⟨m, ii, none⟩ = (#[.int .i64 lc.kind, .int .i64 lc.dir, .int .i64 lc.item, .int .i64 lc.box, .int .i64 lc.who, .slice lga lc.gives.length lgc, .int .i64 lc.pay, .slice lwa lc.wants.length lwc, .int .i64 lc.fee][ii]? : Option Value)) ∧ W.cell? ⟨cb, co + j * 18, none⟩ = some (.int .i64 lp) ∧ (∀ ii, W.cell? ⟨w.heap.size, ii, none⟩ = ((wC x q)[ii]? : Option Value))) := hid (fun W hb => ⟨(C1.out.call hb).cell, (hb.cell (p := ⟨cb, co + j * 18, none⟩) P1.out.2).trans P1.out.1, (K1.out.a.call hb).cell⟩)
   refine tkS (S := (fun w' => (∀ ii, w'.cell? ⟨m, ii, none⟩ = (#[.int .i64 lc.kind, .int .i64 lc.dir, .int .i64 lc.item, .int .i64 lc.box, .int .i64 lc.who, .slice lga lc.gives.length lgc, .int .i64 lc.pay, .slice lwa lc.wants.length lwc, .int .i64 lc.fee][ii]? : Option Value)) ∧ w'.cell? ⟨cb, co + j * 18, none⟩ = some (.int .i64 lp) ∧ (∀ ii, w'.cell? ⟨w.heap.size, ii, none⟩ = ((wC x q)[ii]? : Option Value)))) (by (first | (with_reducible exact KS.out _ D0.out))) (fun hHeld => ?_)
   refine tkl [0] (tW ?_)
   try go_frame
   refine rdy1 1 (fun K hK => ?_)
   go_simp
   refine (cfew_any lc lga lwa lgc lwc _ (HOK.out.1.below (K1.out.call D0.out).b (Nat.le_refl _)) (HOK.out.2.1.below (K1.out.call D0.out).b (Nat.le_refl _))).mono ?_; rintro e x1 ⟨rfl, hb9⟩; have D1 := hid (below_call D0.out D0.out.size hb9); rw [HFW.out]; clear hb9
   try go_wp2_with fail
   refine hK.out _ _ (by (first | (with_reducible exact KS.out _ D1.out))) (fun hHeld => ?_)
   clear hK K
   try go_frame
   refine tkl [2, 3] ?_
   iterate 2
    refine tW ?_
    try go_frame
   refine tkl [4, 5, 6, 7, 8, 9] ?_
   iterate 6
    refine tN ?_
    try go_frame
   refine tkl [10, 11] ?_
   iterate 2
    refine tW ?_
    try go_frame
   refine tkl [12, 13, 14, 15, 16, 17, 18, 19, 20] ?_
   iterate 9
    refine tN ?_
    try go_frame
   refine tkl [21] (tW ?_)
   try go_frame
   refine tkD ?_
   clear hHeld KS
   go_wp2_with fail
   go_ret
   exact ⟨rfl, (K1.out.call D1.out).b⟩
  have HFW := hid hfw
  clear hfw
  by_cases h1 : lp < 0
  ·have q1 : decide (lp < 0) = true := by simpa using h1
   clear h1
   have D0 := hid (bdrew1 (Below.refl V1.heap.size V1))
   have KS : Hid (∀ W, Below V1.heap.size V1 W → (∀ ii, W.cell? ⟨m, ii, none⟩ = (#[.int .i64 lc.kind, .int .i64 lc.dir, .int .i64 lc.item, .int .i64 lc.box, .int .i64 lc.who, .slice lga lc.gives.length lgc, .int .i64 lc.pay, .slice lwa lc.wants.length lwc, .int .i64 lc.fee][ii]? : Option Value)) ∧ W.cell? ⟨cb, co + j * 18, none⟩ = some (.int .i64 lp) ∧ (∀ ii, W.cell? ⟨w.heap.size, ii, none⟩ = ((wC x q)[ii]? : Option Value))) := hid (fun W hb => ⟨(C1.out.call hb).cell, (hb.cell (p := ⟨cb, co + j * 18, none⟩) P1.out.2).trans P1.out.1, (K1.out.a.call hb).cell⟩)
   refine tkS (S := (fun w' => (∀ ii, w'.cell? ⟨m, ii, none⟩ = (#[.int .i64 lc.kind, .int .i64 lc.dir, .int .i64 lc.item, .int .i64 lc.box, .int .i64 lc.who, .slice lga lc.gives.length lgc, .int .i64 lc.pay, .slice lwa lc.wants.length lwc, .int .i64 lc.fee][ii]? : Option Value)) ∧ w'.cell? ⟨cb, co + j * 18, none⟩ = some (.int .i64 lp) ∧ (∀ ii, w'.cell? ⟨w.heap.size, ii, none⟩ = ((wC x q)[ii]? : Option Value)))) (by (first | (with_reducible exact KS.out _ D0.out))) (fun hHeld => ?_)
   refine tkl [0] (tW ?_)
   try go_frame
   refine rdy1 1 (fun K hK => ?_)
   go_simp
   refine (cfew_any lc lga lwa lgc lwc _ (HOK.out.1.below (K1.out.call D0.out).b (Nat.le_refl _)) (HOK.out.2.1.below (K1.out.call D0.out).b (Nat.le_refl _))).mono ?_; rintro e x1 ⟨rfl, hb9⟩; have D1 := hid (below_call D0.out D0.out.size hb9); rw [HFW.out]; clear hb9
   try go_wp2_with fail
   refine hK.out _ _ (by (first | (with_reducible exact KS.out _ D1.out))) (fun hHeld => ?_)
   clear hK K
   try go_frame
   refine tkl [2, 3, 4, 5, 6, 7, 8, 9, 10, 11] ?_
   iterate 10
    refine tW ?_
    try go_frame
   refine tkl [12, 13, 14, 15, 16, 17, 18, 19, 20] ?_
   iterate 9
    refine tN ?_
    try go_frame
   refine tkl [21] (tW ?_)
   try go_frame
   refine tkD ?_
   clear hHeld KS
   go_wp2_with fail
   go_ret
   exact ⟨rfl, (K1.out.call D1.out).b⟩
  have q1 : decide (lp < 0) = false := by simpa using h1
  by_cases h2 : (x.at_.length : Int) ≤ lp
  ·have q2 : decide ((x.at_.length : Int) ≤ lp) = true := by simpa using h2
   clear h1 h2
   have D0 := hid (bdrew1 (Below.refl V1.heap.size V1))
   have KS : Hid (∀ W, Below V1.heap.size V1 W → (∀ ii, W.cell? ⟨m, ii, none⟩ = (#[.int .i64 lc.kind, .int .i64 lc.dir, .int .i64 lc.item, .int .i64 lc.box, .int .i64 lc.who, .slice lga lc.gives.length lgc, .int .i64 lc.pay, .slice lwa lc.wants.length lwc, .int .i64 lc.fee][ii]? : Option Value)) ∧ W.cell? ⟨cb, co + j * 18, none⟩ = some (.int .i64 lp) ∧ (∀ ii, W.cell? ⟨w.heap.size, ii, none⟩ = ((wC x q)[ii]? : Option Value))) := hid (fun W hb => ⟨(C1.out.call hb).cell, (hb.cell (p := ⟨cb, co + j * 18, none⟩) P1.out.2).trans P1.out.1, (K1.out.a.call hb).cell⟩)
   refine tkS (S := (fun w' => (∀ ii, w'.cell? ⟨m, ii, none⟩ = (#[.int .i64 lc.kind, .int .i64 lc.dir, .int .i64 lc.item, .int .i64 lc.box, .int .i64 lc.who, .slice lga lc.gives.length lgc, .int .i64 lc.pay, .slice lwa lc.wants.length lwc, .int .i64 lc.fee][ii]? : Option Value)) ∧ w'.cell? ⟨cb, co + j * 18, none⟩ = some (.int .i64 lp) ∧ (∀ ii, w'.cell? ⟨w.heap.size, ii, none⟩ = ((wC x q)[ii]? : Option Value)))) (by (first | (with_reducible exact KS.out _ D0.out))) (fun hHeld => ?_)
   refine tkl [0] (tW ?_)
   try go_frame
   refine rdy1 1 (fun K hK => ?_)
   go_simp
   refine (cfew_any lc lga lwa lgc lwc _ (HOK.out.1.below (K1.out.call D0.out).b (Nat.le_refl _)) (HOK.out.2.1.below (K1.out.call D0.out).b (Nat.le_refl _))).mono ?_; rintro e x1 ⟨rfl, hb9⟩; have D1 := hid (below_call D0.out D0.out.size hb9); rw [HFW.out]; clear hb9
   try go_wp2_with fail
   refine hK.out _ _ (by (first | (with_reducible exact KS.out _ D1.out))) (fun hHeld => ?_)
   clear hK K
   try go_frame
   refine tkl [2, 3, 4, 5, 6, 7, 8, 9, 10, 11, 12, 13, 14, 15, 16, 17, 18, 19, 20, 21] ?_
   iterate 20
    refine tW ?_
    try go_frame
   refine tkD ?_
   clear hHeld KS
   go_wp2_with fail
   go_ret
   exact ⟨rfl, (K1.out.call D1.out).b⟩
  have q2 : decide ((x.at_.length : Int) ≤ lp) = false := by simpa using h2
  obtain ⟨i, hpi⟩ : ∃ i : Nat, lp = i := ⟨lp.toNat, by omega⟩
  have hi : i < x.at_.length := by omega
  have hne0 := h1
  have hne1 := h2
  clear h1 h2
  have D0 := hid (bdrew1 (Below.refl V1.heap.size V1))
  have KS : Hid (∀ W, Below V1.heap.size V1 W → (∀ ii, W.cell? ⟨m, ii, none⟩ = (#[.int .i64 lc.kind, .int .i64 lc.dir, .int .i64 lc.item, .int .i64 lc.box, .int .i64 lc.who, .slice lga lc.gives.length lgc, .int .i64 lc.pay, .slice lwa lc.wants.length lwc, .int .i64 lc.fee][ii]? : Option Value)) ∧ W.cell? ⟨cb, co + j * 18, none⟩ = some (.int .i64 lp) ∧ (∀ ii, W.cell? ⟨w.heap.size, ii, none⟩ = ((wC x q)[ii]? : Option Value))) := hid (fun W hb => ⟨(C1.out.call hb).cell, (hb.cell (p := ⟨cb, co + j * 18, none⟩) P1.out.2).trans P1.out.1, (K1.out.a.call hb).cell⟩)
  refine tkS (S := (fun w' => (∀ ii, w'.cell? ⟨m, ii, none⟩ = (#[.int .i64 lc.kind, .int .i64 lc.dir, .int .i64 lc.item, .int .i64 lc.box, .int .i64 lc.who, .slice lga lc.gives.length lgc, .int .i64 lc.pay, .slice lwa lc.wants.length lwc, .int .i64 lc.fee][ii]? : Option Value)) ∧ w'.cell? ⟨cb, co + j * 18, none⟩ = some (.int .i64 lp) ∧ (∀ ii, w'.cell? ⟨w.heap.size, ii, none⟩ = ((wC x q)[ii]? : Option Value)))) (by (first | (with_reducible exact KS.out _ D0.out))) (fun hHeld => ?_)
  refine tkl [0] (tW ?_)
  try go_frame
  refine rdy1 1 (fun K hK => ?_)
  go_simp
  refine (cfew_any lc lga lwa lgc lwc _ (HOK.out.1.below (K1.out.call D0.out).b (Nat.le_refl _)) (HOK.out.2.1.below (K1.out.call D0.out).b (Nat.le_refl _))).mono ?_; rintro e x1 ⟨rfl, hb9⟩; have D1 := hid (below_call D0.out D0.out.size hb9); rw [HFW.out]; clear hb9
  try go_wp2_with fail
  refine hK.out _ _ (by (first | (with_reducible exact KS.out _ D1.out))) (fun hHeld => ?_)
  clear hK K
  try go_frame
  refine tkl [2, 3, 4, 5, 6, 7, 8, 9, 10, 11, 12, 13, 14, 15, 16, 17, 18, 19, 20, 21] ?_
  iterate 20
   refine tW ?_
   try go_frame
  refine tkD ?_
  clear hHeld KS
  subst hpi
  have K2 := hid (K1.out.call D1.out)
  have C2 := hid (C1.out.call D1.out)
  have P2 := hid (show _ ∧ _ from ⟨(D1.out.cell (p := ⟨cb, co + j * 18, none⟩) P1.out.2).trans P1.out.1, Nat.lt_of_lt_of_le P1.out.2 D1.out.size⟩)
  clear K1 C1 P1 D0 D1 q1 q2 hne0 hne1
  obtain ⟨R, hR⟩ : ∃ R, doW y i lc = R := ⟨_, rfl⟩
  have HR := hid hR
  clear hR
  go_upto_region 9 with fail
  go_cut [7, 8] (fun sp sr wx => ∃ (nb rb : Nat) (q2 : Wp) (qa ia : Option Addr) (qc ic : Nat), sp = .pointer (some ⟨nb, 0, none⟩) ∧ sr = .pointer (some ⟨rb, 0, none⟩) ∧ (x1.heap.size ≤ nb ∧ x1.heap.size ≤ rb) ∧ Blk wx nb 29 (wC x q2) ∧ Blk wx rb 38 #[.int .i64 R.2.err, .int .i64 R.2.kind, .int .i64 R.2.room, .slice qa R.2.players.length qc, .slice ia R.2.items.length ic, .int .i64 R.2.coins] ∧ Did (w.heap.size + 1) wx q q2 y qa ia R ∧ Below x1.heap.size x1 wx)
  case first =>
   have HKA := hid K2.out.a.lt
   have KS : Hid (∀ W, Below x1.heap.size x1 W → (∀ ii, W.cell? ⟨m, ii, none⟩ = (#[.int .i64 lc.kind, .int .i64 lc.dir, .int .i64 lc.item, .int .i64 lc.box, .int .i64 lc.who, .slice lga lc.gives.length lgc, .int .i64 lc.pay, .slice lwa lc.wants.length lwc, .int .i64 lc.fee][ii]? : Option Value)) ∧ W.cell? ⟨cb, co + j * 18, none⟩ = some (.int .i64 (i : Int)) ∧ (∀ ii, W.cell? ⟨w.heap.size, ii, none⟩ = ((wC x q)[ii]? : Option Value))) := hid (fun W hb => ⟨(C2.out.call hb).cell, (hb.cell (p := ⟨cb, co + j * 18, none⟩) P2.out.2).trans P2.out.1, (K2.out.a.call hb).cell⟩)
   refine tkS (S := (fun w' => (∀ ii, w'.cell? ⟨m, ii, none⟩ = (#[.int .i64 lc.kind, .int .i64 lc.dir, .int .i64 lc.item, .int .i64 lc.box, .int .i64 lc.who, .slice lga lc.gives.length lgc, .int .i64 lc.pay, .slice lwa lc.wants.length lwc, .int .i64 lc.fee][ii]? : Option Value)) ∧ w'.cell? ⟨cb, co + j * 18, none⟩ = some (.int .i64 (i : Int)) ∧ (∀ ii, w'.cell? ⟨w.heap.size, ii, none⟩ = ((wC x q)[ii]? : Option Value)))) (by (first | (with_reducible exact KS.out _ (bdrew1 (Below.refl _ _))))) (fun hHeld => ?_)
   refine tkl [0, 1, 2, 3, 4, 5, 6] ?_
   iterate 7
    refine tW ?_
    try go_frame
   refine wpAnyH_ready (rs := [7, 11, 12]) (by kernel_rfl) (by simp) (AllReadyH.cons (by simp only [List.getElem?_toArray, List.getElem?_cons_succ, List.getElem?_cons_zero]; rfl) (fun K hK => ?_) (AllReadyH.cons (by simp only [List.getElem?_toArray, List.getElem?_cons_succ, List.getElem?_cons_zero]; rfl) (fun K hK => ?_) (AllReadyH.cons (by simp only [List.getElem?_toArray, List.getElem?_cons_succ, List.getElem?_cons_zero]; rfl) (fun K hK => ?_) AllReadyH.nil)))
   ·skip
    have D8 := hid (show Below x1.heap.size x1 x1.drew from bdrew1 (Below.refl _ _))
    skip
    go_simp
    refine (ado_as K2.out.s q i lc lga lwa lgc lwc _ K2.out.r ((K2.out.call D8.out).world HWA.out) (by rw [K2.out.s.at_]; exact hi) (HOK.out.1.below (K2.out.call D8.out).b (Nat.le_refl _)) (HOK.out.2.1.below (K2.out.call D8.out).b (Nat.le_refl _)) HR.out).mono ?_; rintro e9 w9 ⟨q2, qa9, ia9, qc9, ic9, rfl, dd, hb9⟩; have HB9 := hid (below_call D8.out D8.out.size hb9); have DD := hid dd; clear dd hb9
    try go_wp2_with fail
    refine hK.out _ _ (by (first | (with_reducible exact KS.out _ HB9.out))) (fun hHeld => ?_)
    clear hK K
    try go_frame
    refine tkl [8, 9, 10] ?_
    iterate 3
     refine tW ?_
     try go_frame
    refine wpAnyH_ready (rs := [11, 12]) (by kernel_rfl) (by simp) (AllReadyH.cons (by simp only [List.getElem?_toArray, List.getElem?_cons_succ, List.getElem?_cons_zero]; rfl) (fun K hK => ?_) (AllReadyH.cons (by simp only [List.getElem?_toArray, List.getElem?_cons_succ, List.getElem?_cons_zero]; rfl) (fun K hK => ?_) AllReadyH.nil))
    ·skip
     go_simp
     try go_wp2_with fail
     refine hK.out _ _ (by (first | ((with_reducible refine KS.out _ ?_); repeat (first | (with_reducible exact HB9.out) | (with_reducible refine Below.setCell ?_ (by first | exact Nat.le_refl _ | exact Nat.le_succ _ | (have h8 := HB9.out.size; show x1.heap.size ≤ _; omega)) _) | (with_reducible refine Below.alloc ?_ (by first | exact HB9.out.size | (simp; have h8 := HB9.out.size; omega) | (simp [World.setCell]; have h8 := HB9.out.size; omega)) _))))) (fun hHeld => ?_)
     clear hK K
     try go_frame
     refine rdy1 12 (fun K hK => ?_)
     go_simp
     try go_wp2_with fail
     refine hK.out _ _ (by (first | ((with_reducible refine KS.out _ ?_); repeat (first | (with_reducible exact HB9.out) | (with_reducible refine Below.setCell ?_ (by first | exact Nat.le_refl _ | exact Nat.le_succ _ | (have h8 := HB9.out.size; show x1.heap.size ≤ _; omega)) _) | (with_reducible refine Below.alloc ?_ (by first | exact HB9.out.size | (simp; have h8 := HB9.out.size; omega) | (simp [World.setCell]; have h8 := HB9.out.size; omega)) _))))) (fun hHeld => ?_)
     clear hK K
     try go_frame
     refine rdy1 13 (fun K hK => ?_)
     go_simp
     try go_wp2_with fail
     refine hK.out _ _ (by (first | ((with_reducible refine KS.out _ ?_); repeat (first | (with_reducible exact HB9.out) | (with_reducible refine Below.setCell ?_ (by first | exact Nat.le_refl _ | exact Nat.le_succ _ | (have h8 := HB9.out.size; show x1.heap.size ≤ _; omega)) _) | (with_reducible refine Below.alloc ?_ (by first | exact HB9.out.size | (simp; have h8 := HB9.out.size; omega) | (simp [World.setCell]; have h8 := HB9.out.size; omega)) _))))) (fun hHeld => ?_)
     clear hK K
     try go_frame
     refine rdy1 14 (fun K hK => ?_)
     go_simp
     try go_wp2_with fail
     refine hK.out _ _ (by (first | ((with_reducible refine KS.out _ ?_); repeat (first | (with_reducible exact HB9.out) | (with_reducible refine Below.setCell ?_ (by first | exact Nat.le_refl _ | exact Nat.le_succ _ | (have h8 := HB9.out.size; show x1.heap.size ≤ _; omega)) _) | (with_reducible refine Below.alloc ?_ (by first | exact HB9.out.size | (simp; have h8 := HB9.out.size; omega) | (simp [World.setCell]; have h8 := HB9.out.size; omega)) _))))) (fun hHeld => ?_)
     clear hK K
     try go_frame
     refine tkD ?_
     clear hHeld
     go_wp2_with fail
     go_meet
     exact ⟨w9.heap.size, w9.heap.size + 1, q2, qa9, ia9, qc9, ic9, rfl, rfl, ⟨by have h8 := HB9.out.size; omega, by have h8 := HB9.out.size; omega⟩, (by repeat (first | (with_reducible exact Blk.newn _ _ _ (by first | rfl | (show _ = _ + 1; simp) | simp [World.setCell])) | (with_reducible refine Blk.alloc ?_ _) | (with_reducible refine Blk.far ?_ (by first | assumption | (dsimp only; omega) | (show _ ≠ _; have h8 := HB9.out.size; omega)) _))), (by repeat (first | (with_reducible exact Blk.newn _ _ _ (by first | rfl | (show _ = _ + 1; simp) | simp [World.setCell])) | (with_reducible refine Blk.alloc ?_ _) | (with_reducible refine Blk.far ?_ (by first | assumption | (dsimp only; omega) | (show _ ≠ _; have h8 := HB9.out.size; omega)) _))), (by (refine Did.less (n := x1.drew.heap.size) ?_ (by first | exact HKA.out | (have h7 := HKA.out; simp [World.drew]; omega))); repeat (first | (with_reducible exact DD.out) | (with_reducible refine Did.set ?_ (by simp [World.drew]; try omega) _ _) | (with_reducible refine Did.call ?_ ((Below.refl _ _).alloc (Nat.le_refl _) _)))), (by repeat (first | (with_reducible exact HB9.out) | (with_reducible refine Below.setCell ?_ (by first | exact Nat.le_refl _ | exact Nat.le_succ _ | (have h8 := HB9.out.size; show x1.heap.size ≤ _; omega)) _) | (with_reducible refine Below.alloc ?_ (by first | exact HB9.out.size | (simp; have h8 := HB9.out.size; omega) | (simp [World.setCell]; have h8 := HB9.out.size; omega)) _)))⟩
    ·skip
     go_simp
     try go_wp2_with fail
     refine hK.out _ _ (by (first | ((with_reducible refine KS.out _ ?_); repeat (first | (with_reducible exact HB9.out) | (with_reducible refine Below.setCell ?_ (by first | exact Nat.le_refl _ | exact Nat.le_succ _ | (have h8 := HB9.out.size; show x1.heap.size ≤ _; omega)) _) | (with_reducible refine Below.alloc ?_ (by first | exact HB9.out.size | (simp; have h8 := HB9.out.size; omega) | (simp [World.setCell]; have h8 := HB9.out.size; omega)) _))))) (fun hHeld => ?_)
     clear hK K
     try go_frame
     refine rdy1 11 (fun K hK => ?_)
     go_simp
     try go_wp2_with fail
     refine hK.out _ _ (by (first | ((with_reducible refine KS.out _ ?_); repeat (first | (with_reducible exact HB9.out) | (with_reducible refine Below.setCell ?_ (by first | exact Nat.le_refl _ | exact Nat.le_succ _ | (have h8 := HB9.out.size; show x1.heap.size ≤ _; omega)) _) | (with_reducible refine Below.alloc ?_ (by first | exact HB9.out.size | (simp; have h8 := HB9.out.size; omega) | (simp [World.setCell]; have h8 := HB9.out.size; omega)) _))))) (fun hHeld => ?_)
     clear hK K
     try go_frame
     refine rdy1 13 (fun K hK => ?_)
     go_simp
     try go_wp2_with fail
     refine hK.out _ _ (by (first | ((with_reducible refine KS.out _ ?_); repeat (first | (with_reducible exact HB9.out) | (with_reducible refine Below.setCell ?_ (by first | exact Nat.le_refl _ | exact Nat.le_succ _ | (have h8 := HB9.out.size; show x1.heap.size ≤ _; omega)) _) | (with_reducible refine Below.alloc ?_ (by first | exact HB9.out.size | (simp; have h8 := HB9.out.size; omega) | (simp [World.setCell]; have h8 := HB9.out.size; omega)) _))))) (fun hHeld => ?_)
     clear hK K
     try go_frame
     refine rdy1 14 (fun K hK => ?_)
     go_simp
     try go_wp2_with fail
     refine hK.out _ _ (by (first | ((with_reducible refine KS.out _ ?_); repeat (first | (with_reducible exact HB9.out) | (with_reducible refine Below.setCell ?_ (by first | exact Nat.le_refl _ | exact Nat.le_succ _ | (have h8 := HB9.out.size; show x1.heap.size ≤ _; omega)) _) | (with_reducible refine Below.alloc ?_ (by first | exact HB9.out.size | (simp; have h8 := HB9.out.size; omega) | (simp [World.setCell]; have h8 := HB9.out.size; omega)) _))))) (fun hHeld => ?_)
     clear hK K
     try go_frame
     refine tkD ?_
     clear hHeld
     go_wp2_with fail
     go_meet
     exact ⟨w9.heap.size + 1, w9.heap.size, q2, qa9, ia9, qc9, ic9, rfl, rfl, ⟨by have h8 := HB9.out.size; omega, by have h8 := HB9.out.size; omega⟩, (by repeat (first | (with_reducible exact Blk.newn _ _ _ (by first | rfl | (show _ = _ + 1; simp) | simp [World.setCell])) | (with_reducible refine Blk.alloc ?_ _) | (with_reducible refine Blk.far ?_ (by first | assumption | (dsimp only; omega) | (show _ ≠ _; have h8 := HB9.out.size; omega)) _))), (by repeat (first | (with_reducible exact Blk.newn _ _ _ (by first | rfl | (show _ = _ + 1; simp) | simp [World.setCell])) | (with_reducible refine Blk.alloc ?_ _) | (with_reducible refine Blk.far ?_ (by first | assumption | (dsimp only; omega) | (show _ ≠ _; have h8 := HB9.out.size; omega)) _))), (by (refine Did.less (n := x1.drew.heap.size) ?_ (by first | exact HKA.out | (have h7 := HKA.out; simp [World.drew]; omega))); repeat (first | (with_reducible exact DD.out) | (with_reducible refine Did.set ?_ (by simp [World.drew]; try omega) _ _) | (with_reducible refine Did.call ?_ ((Below.refl _ _).alloc (Nat.le_refl _) _)))), (by repeat (first | (with_reducible exact HB9.out) | (with_reducible refine Below.setCell ?_ (by first | exact Nat.le_refl _ | exact Nat.le_succ _ | (have h8 := HB9.out.size; show x1.heap.size ≤ _; omega)) _) | (with_reducible refine Below.alloc ?_ (by first | exact HB9.out.size | (simp; have h8 := HB9.out.size; omega) | (simp [World.setCell]; have h8 := HB9.out.size; omega)) _)))⟩
   ·skip
    go_simp
    try go_wp2_with fail
    refine hK.out _ _ (by (first | (with_reducible exact KS.out _ (bdrew1 (Below.alloc (Below.refl _ _) (Nat.le_refl _) _))))) (fun hHeld => ?_)
    clear hK K
    try go_frame
    refine wpAnyH_ready (rs := [7, 12]) (by kernel_rfl) (by simp) (AllReadyH.cons (by simp only [List.getElem?_toArray, List.getElem?_cons_succ, List.getElem?_cons_zero]; rfl) (fun K hK => ?_) (AllReadyH.cons (by simp only [List.getElem?_toArray, List.getElem?_cons_succ, List.getElem?_cons_zero]; rfl) (fun K hK => ?_) AllReadyH.nil))
    ·skip
     have D8 := hid (show Below x1.heap.size x1 (x1.alloc (.cells #[.slice none 0 0, .slice none 0 0, .slice none 0 0, .slice none 0 0, .slice none 0 0, .int .i64 0, .int .i64 0, .int .i64 0, .slice none 0 0, .slice none 0 0, .slice none 0 0] 29)).drew from bdrew1 (Below.alloc (Below.refl _ _) (Nat.le_refl _) _))
     skip
     go_simp
     refine (ado_as K2.out.s q i lc lga lwa lgc lwc _ K2.out.r ((K2.out.call D8.out).world HWA.out) (by rw [K2.out.s.at_]; exact hi) (HOK.out.1.below (K2.out.call D8.out).b (Nat.le_refl _)) (HOK.out.2.1.below (K2.out.call D8.out).b (Nat.le_refl _)) HR.out).mono ?_; rintro e9 w9 ⟨q2, qa9, ia9, qc9, ic9, rfl, dd, hb9⟩; have HB9 := hid (below_call D8.out D8.out.size hb9); have DD := hid dd; have BGA := hid (show Blk w9 (x1.heap.size) 29 #[.slice none 0 0, .slice none 0 0, .slice none 0 0, .slice none 0 0, .slice none 0 0, .int .i64 0, .int .i64 0, .int .i64 0, .slice none 0 0, .slice none 0 0, .slice none 0 0] from (Blk.drew ((Blk.new x1 29 #[.slice none 0 0, .slice none 0 0, .slice none 0 0, .slice none 0 0, .slice none 0 0, .int .i64 0, .int .i64 0, .int .i64 0, .slice none 0 0, .slice none 0 0, .slice none 0 0]))).call hb9); clear dd hb9
     try go_wp2_with fail
     refine hK.out _ _ (by (first | (with_reducible exact KS.out _ HB9.out))) (fun hHeld => ?_)
     clear hK K
     try go_frame
     refine tkl [8, 9, 10] ?_
     iterate 3
      refine tW ?_
      try go_frame
     have cgA := BGA.out.cell
     have lgA := BGA.out.lt
     have zgA := BGA.out.frozen
     refine rdy1 12 (fun K hK => ?_)
     go_simp
     try go_wp2_with fail
     refine hK.out _ _ (by (first | ((with_reducible refine KS.out _ ?_); repeat (first | (with_reducible exact HB9.out) | (with_reducible refine Below.setCell ?_ (by first | exact Nat.le_refl _ | exact Nat.le_succ _ | (have h8 := HB9.out.size; show x1.heap.size ≤ _; omega)) _) | (with_reducible refine Below.alloc ?_ (by first | exact HB9.out.size | (simp; have h8 := HB9.out.size; omega) | (simp [World.setCell]; have h8 := HB9.out.size; omega)) _))))) (fun hHeld => ?_)
     clear hK K
     try go_frame
     have nAB : x1.heap.size ≠ w9.heap.size := by have := BGA.out.lt; omega
     have nBA : w9.heap.size ≠ x1.heap.size := by have := BGA.out.lt; omega
     refine rdy1 13 (fun K hK => ?_)
     go_simp
     try go_wp2_with fail
     refine hK.out _ _ (by (first | ((with_reducible refine KS.out _ ?_); repeat (first | (with_reducible exact HB9.out) | (with_reducible refine Below.setCell ?_ (by first | exact Nat.le_refl _ | exact Nat.le_succ _ | (have h8 := HB9.out.size; show x1.heap.size ≤ _; omega)) _) | (with_reducible refine Below.alloc ?_ (by first | exact HB9.out.size | (simp; have h8 := HB9.out.size; omega) | (simp [World.setCell]; have h8 := HB9.out.size; omega)) _))))) (fun hHeld => ?_)
     clear hK K
     try go_frame
     refine rdy1 14 (fun K hK => ?_)
     go_simp
     try go_wp2_with fail
     refine hK.out _ _ (by (first | ((with_reducible refine KS.out _ ?_); repeat (first | (with_reducible exact HB9.out) | (with_reducible refine Below.setCell ?_ (by first | exact Nat.le_refl _ | exact Nat.le_succ _ | (have h8 := HB9.out.size; show x1.heap.size ≤ _; omega)) _) | (with_reducible refine Below.alloc ?_ (by first | exact HB9.out.size | (simp; have h8 := HB9.out.size; omega) | (simp [World.setCell]; have h8 := HB9.out.size; omega)) _))))) (fun hHeld => ?_)
     clear hK K
     try go_frame
     refine tkD ?_
     clear hHeld cgA zgA
     go_wp2_with fail
     go_meet
     exact ⟨x1.heap.size, w9.heap.size, q2, qa9, ia9, qc9, ic9, rfl, rfl, ⟨by have h8 := HB9.out.size; omega, by have h8 := HB9.out.size; omega⟩, (by repeat (first | (with_reducible exact blk_set11 BGA.out) | (with_reducible refine Blk.alloc ?_ _) | (with_reducible refine Blk.far ?_ (by first | assumption | (dsimp only; omega) | (show _ ≠ _; have hA := BGA.out.lt; have h8 := HB9.out.size; omega)) _))), (by repeat (first | (with_reducible exact Blk.newn _ _ _ (by first | rfl | (show _ = _ + 1; simp) | simp [World.setCell])) | (with_reducible refine Blk.alloc ?_ _) | (with_reducible refine Blk.far ?_ (by first | assumption | (dsimp only; omega) | (show _ ≠ _; have hA := BGA.out.lt; have h8 := HB9.out.size; omega)) _))), (by (refine Did.less (n := (x1.alloc (.cells #[.slice none 0 0, .slice none 0 0, .slice none 0 0, .slice none 0 0, .slice none 0 0, .int .i64 0, .int .i64 0, .int .i64 0, .slice none 0 0, .slice none 0 0, .slice none 0 0] 29)).drew.heap.size) ?_ (by first | exact HKA.out | (have h7 := HKA.out; simp [World.drew]; omega))); repeat (first | (with_reducible exact DD.out) | (with_reducible refine Did.set ?_ (by simp [World.drew]; try omega) _ _) | (with_reducible refine Did.call ?_ ((Below.refl _ _).alloc (Nat.le_refl _) _)))), (by repeat (first | (with_reducible exact HB9.out) | (with_reducible refine Below.setCell ?_ (by first | exact Nat.le_refl _ | exact Nat.le_succ _ | (have h8 := HB9.out.size; show x1.heap.size ≤ _; omega)) _) | (with_reducible refine Below.alloc ?_ (by first | exact HB9.out.size | (simp; have h8 := HB9.out.size; omega) | (simp [World.setCell]; have h8 := HB9.out.size; omega)) _)))⟩
    ·skip
     go_simp
     try go_wp2_with fail
     refine hK.out _ _ (by (first | (with_reducible exact KS.out _ (bdrew1 (Below.alloc (Below.alloc (Below.refl _ _) (Nat.le_refl _) _) (by simp) _))))) (fun hHeld => ?_)
     clear hK K
     try go_frame
     have D8 := hid (show Below x1.heap.size x1 ((x1.alloc (.cells #[.slice none 0 0, .slice none 0 0, .slice none 0 0, .slice none 0 0, .slice none 0 0, .int .i64 0, .int .i64 0, .int .i64 0, .slice none 0 0, .slice none 0 0, .slice none 0 0] 29)).alloc (.cells #[.int .i64 0, .int .i64 0, .int .i64 0, .slice none 0 0, .slice none 0 0, .int .i64 0] 38)).drew from bdrew1 (Below.alloc (Below.alloc (Below.refl _ _) (Nat.le_refl _) _) (by simp) _))
     refine rdy1 7 (fun K hK => ?_)
     go_simp
     refine (ado_as K2.out.s q i lc lga lwa lgc lwc _ K2.out.r ((K2.out.call D8.out).world HWA.out) (by rw [K2.out.s.at_]; exact hi) (HOK.out.1.below (K2.out.call D8.out).b (Nat.le_refl _)) (HOK.out.2.1.below (K2.out.call D8.out).b (Nat.le_refl _)) HR.out).mono ?_; rintro e9 w9 ⟨q2, qa9, ia9, qc9, ic9, rfl, dd, hb9⟩; have HB9 := hid (below_call D8.out D8.out.size hb9); have DD := hid dd; have BGA := hid (show Blk w9 (x1.heap.size) 29 #[.slice none 0 0, .slice none 0 0, .slice none 0 0, .slice none 0 0, .slice none 0 0, .int .i64 0, .int .i64 0, .int .i64 0, .slice none 0 0, .slice none 0 0, .slice none 0 0] from (Blk.drew ((Blk.new x1 29 #[.slice none 0 0, .slice none 0 0, .slice none 0 0, .slice none 0 0, .slice none 0 0, .int .i64 0, .int .i64 0, .int .i64 0, .slice none 0 0, .slice none 0 0, .slice none 0 0]).alloc _)).call hb9); have BGB := hid (show Blk w9 (x1.heap.size + 1) 38 #[.int .i64 0, .int .i64 0, .int .i64 0, .slice none 0 0, .slice none 0 0, .int .i64 0] from (Blk.drew ((Blk.newn (x1.alloc (.cells #[.slice none 0 0, .slice none 0 0, .slice none 0 0, .slice none 0 0, .slice none 0 0, .int .i64 0, .int .i64 0, .int .i64 0, .slice none 0 0, .slice none 0 0, .slice none 0 0] 29)) 38 #[.int .i64 0, .int .i64 0, .int .i64 0, .slice none 0 0, .slice none 0 0, .int .i64 0] (by simp)))).call hb9); clear dd hb9
     try go_wp2_with fail
     refine hK.out _ _ (by (first | (with_reducible exact KS.out _ HB9.out))) (fun hHeld => ?_)
     clear hK K
     try go_frame
     refine tkl [8, 9, 10] ?_
     iterate 3
      refine tW ?_
      try go_frame
     have cgA := BGA.out.cell
     have lgA := BGA.out.lt
     have zgA := BGA.out.frozen
     have cgB := BGB.out.cell
     have lgB := BGB.out.lt
     have zgB := BGB.out.frozen
     refine rdy1 13 (fun K hK => ?_)
     go_simp
     try go_wp2_with fail
     refine hK.out _ _ (by (first | ((with_reducible refine KS.out _ ?_); repeat (first | (with_reducible exact HB9.out) | (with_reducible refine Below.setCell ?_ (by first | exact Nat.le_refl _ | exact Nat.le_succ _ | (have h8 := HB9.out.size; show x1.heap.size ≤ _; omega)) _) | (with_reducible refine Below.alloc ?_ (by first | exact HB9.out.size | (simp; have h8 := HB9.out.size; omega) | (simp [World.setCell]; have h8 := HB9.out.size; omega)) _))))) (fun hHeld => ?_)
     clear hK K
     try go_frame
     refine rdy1 14 (fun K hK => ?_)
     go_simp
     try go_wp2_with fail
     refine hK.out _ _ (by (first | ((with_reducible refine KS.out _ ?_); repeat (first | (with_reducible exact HB9.out) | (with_reducible refine Below.setCell ?_ (by first | exact Nat.le_refl _ | exact Nat.le_succ _ | (have h8 := HB9.out.size; show x1.heap.size ≤ _; omega)) _) | (with_reducible refine Below.alloc ?_ (by first | exact HB9.out.size | (simp; have h8 := HB9.out.size; omega) | (simp [World.setCell]; have h8 := HB9.out.size; omega)) _))))) (fun hHeld => ?_)
     clear hK K
     try go_frame
     refine tkD ?_
     clear hHeld cgA zgA cgB zgB
     go_wp2_with fail
     go_meet
     exact ⟨x1.heap.size, x1.heap.size + 1, q2, qa9, ia9, qc9, ic9, rfl, rfl, ⟨by have h8 := HB9.out.size; omega, by have h8 := HB9.out.size; omega⟩, (by repeat (first | (with_reducible exact blk_set11 BGA.out) | (with_reducible refine Blk.alloc ?_ _) | (with_reducible refine Blk.far ?_ (by first | assumption | (dsimp only; omega) | (show _ ≠ _; have hA := BGA.out.lt; have hB := BGB.out.lt; have h8 := HB9.out.size; omega)) _))), (by (refine blk_set6 (c0 := .int .i64 0) (c1 := .int .i64 0) (c2 := .int .i64 0) (c3 := .slice none 0 0) (c4 := .slice none 0 0) (c5 := .int .i64 0) ?_); (iterate 11 with_reducible refine Blk.far ?_ (by dsimp only; omega) _); with_reducible exact BGB.out), (by (refine Did.less (n := ((x1.alloc (.cells #[.slice none 0 0, .slice none 0 0, .slice none 0 0, .slice none 0 0, .slice none 0 0, .int .i64 0, .int .i64 0, .int .i64 0, .slice none 0 0, .slice none 0 0, .slice none 0 0] 29)).alloc (.cells #[.int .i64 0, .int .i64 0, .int .i64 0, .slice none 0 0, .slice none 0 0, .int .i64 0] 38)).drew.heap.size) ?_ (by first | exact HKA.out | (have h7 := HKA.out; simp [World.drew]; omega))); repeat (first | (with_reducible exact DD.out) | (with_reducible refine Did.set ?_ (by simp [World.drew]; try omega) _ _) | (with_reducible refine Did.call ?_ ((Below.refl _ _).alloc (Nat.le_refl _) _)))), (by repeat (first | (with_reducible exact HB9.out) | (with_reducible refine Below.setCell ?_ (by first | exact Nat.le_refl _ | exact Nat.le_succ _ | (have h8 := HB9.out.size; show x1.heap.size ≤ _; omega)) _) | (with_reducible refine Below.alloc ?_ (by first | exact HB9.out.size | (simp; have h8 := HB9.out.size; omega) | (simp [World.setCell]; have h8 := HB9.out.size; omega)) _)))⟩
   ·skip
    go_simp
    try go_wp2_with fail
    refine hK.out _ _ (by (first | (with_reducible exact KS.out _ (bdrew1 (Below.alloc (Below.refl _ _) (Nat.le_refl _) _))))) (fun hHeld => ?_)
    clear hK K
    try go_frame
    refine wpAnyH_ready (rs := [7, 11]) (by kernel_rfl) (by simp) (AllReadyH.cons (by simp only [List.getElem?_toArray, List.getElem?_cons_succ, List.getElem?_cons_zero]; rfl) (fun K hK => ?_) (AllReadyH.cons (by simp only [List.getElem?_toArray, List.getElem?_cons_succ, List.getElem?_cons_zero]; rfl) (fun K hK => ?_) AllReadyH.nil))
    ·skip
     have D8 := hid (show Below x1.heap.size x1 (x1.alloc (.cells #[.int .i64 0, .int .i64 0, .int .i64 0, .slice none 0 0, .slice none 0 0, .int .i64 0] 38)).drew from bdrew1 (Below.alloc (Below.refl _ _) (Nat.le_refl _) _))
     skip
     go_simp
     refine (ado_as K2.out.s q i lc lga lwa lgc lwc _ K2.out.r ((K2.out.call D8.out).world HWA.out) (by rw [K2.out.s.at_]; exact hi) (HOK.out.1.below (K2.out.call D8.out).b (Nat.le_refl _)) (HOK.out.2.1.below (K2.out.call D8.out).b (Nat.le_refl _)) HR.out).mono ?_; rintro e9 w9 ⟨q2, qa9, ia9, qc9, ic9, rfl, dd, hb9⟩; have HB9 := hid (below_call D8.out D8.out.size hb9); have DD := hid dd; have BGB := hid (show Blk w9 (x1.heap.size) 38 #[.int .i64 0, .int .i64 0, .int .i64 0, .slice none 0 0, .slice none 0 0, .int .i64 0] from (Blk.drew ((Blk.new x1 38 #[.int .i64 0, .int .i64 0, .int .i64 0, .slice none 0 0, .slice none 0 0, .int .i64 0]))).call hb9); clear dd hb9
     try go_wp2_with fail
     refine hK.out _ _ (by (first | (with_reducible exact KS.out _ HB9.out))) (fun hHeld => ?_)
     clear hK K
     try go_frame
     refine tkl [8, 9, 10] ?_
     iterate 3
      refine tW ?_
      try go_frame
     have cgB := BGB.out.cell
     have lgB := BGB.out.lt
     have zgB := BGB.out.frozen
     refine rdy1 11 (fun K hK => ?_)
     go_simp
     try go_wp2_with fail
     refine hK.out _ _ (by (first | ((with_reducible refine KS.out _ ?_); repeat (first | (with_reducible exact HB9.out) | (with_reducible refine Below.setCell ?_ (by first | exact Nat.le_refl _ | exact Nat.le_succ _ | (have h8 := HB9.out.size; show x1.heap.size ≤ _; omega)) _) | (with_reducible refine Below.alloc ?_ (by first | exact HB9.out.size | (simp; have h8 := HB9.out.size; omega) | (simp [World.setCell]; have h8 := HB9.out.size; omega)) _))))) (fun hHeld => ?_)
     clear hK K
     try go_frame
     have nBA : x1.heap.size ≠ w9.heap.size := by have := BGB.out.lt; omega
     have nAB : w9.heap.size ≠ x1.heap.size := by have := BGB.out.lt; omega
     refine rdy1 13 (fun K hK => ?_)
     go_simp
     try go_wp2_with fail
     refine hK.out _ _ (by (first | ((with_reducible refine KS.out _ ?_); repeat (first | (with_reducible exact HB9.out) | (with_reducible refine Below.setCell ?_ (by first | exact Nat.le_refl _ | exact Nat.le_succ _ | (have h8 := HB9.out.size; show x1.heap.size ≤ _; omega)) _) | (with_reducible refine Below.alloc ?_ (by first | exact HB9.out.size | (simp; have h8 := HB9.out.size; omega) | (simp [World.setCell]; have h8 := HB9.out.size; omega)) _))))) (fun hHeld => ?_)
     clear hK K
     try go_frame
     refine rdy1 14 (fun K hK => ?_)
     go_simp
     try go_wp2_with fail
     refine hK.out _ _ (by (first | ((with_reducible refine KS.out _ ?_); repeat (first | (with_reducible exact HB9.out) | (with_reducible refine Below.setCell ?_ (by first | exact Nat.le_refl _ | exact Nat.le_succ _ | (have h8 := HB9.out.size; show x1.heap.size ≤ _; omega)) _) | (with_reducible refine Below.alloc ?_ (by first | exact HB9.out.size | (simp; have h8 := HB9.out.size; omega) | (simp [World.setCell]; have h8 := HB9.out.size; omega)) _))))) (fun hHeld => ?_)
     clear hK K
     try go_frame
     refine tkD ?_
     clear hHeld cgB zgB
     go_wp2_with fail
     go_meet
     exact ⟨w9.heap.size, x1.heap.size, q2, qa9, ia9, qc9, ic9, rfl, rfl, ⟨by have h8 := HB9.out.size; omega, by have h8 := HB9.out.size; omega⟩, (by repeat (first | (with_reducible exact Blk.newn _ _ _ (by first | rfl | (show _ = _ + 1; simp) | simp [World.setCell])) | (with_reducible refine Blk.alloc ?_ _) | (with_reducible refine Blk.far ?_ (by first | assumption | (dsimp only; omega) | (show _ ≠ _; have hB := BGB.out.lt; have h8 := HB9.out.size; omega)) _))), (by repeat (first | (with_reducible exact blk_set6 BGB.out) | (with_reducible refine Blk.alloc ?_ _) | (with_reducible refine Blk.far ?_ (by first | assumption | (dsimp only; omega) | (show _ ≠ _; have hB := BGB.out.lt; have h8 := HB9.out.size; omega)) _))), (by (refine Did.less (n := (x1.alloc (.cells #[.int .i64 0, .int .i64 0, .int .i64 0, .slice none 0 0, .slice none 0 0, .int .i64 0] 38)).drew.heap.size) ?_ (by first | exact HKA.out | (have h7 := HKA.out; simp [World.drew]; omega))); repeat (first | (with_reducible exact DD.out) | (with_reducible refine Did.set ?_ (by simp [World.drew]; try omega) _ _) | (with_reducible refine Did.call ?_ ((Below.refl _ _).alloc (Nat.le_refl _) _)))), (by repeat (first | (with_reducible exact HB9.out) | (with_reducible refine Below.setCell ?_ (by first | exact Nat.le_refl _ | exact Nat.le_succ _ | (have h8 := HB9.out.size; show x1.heap.size ≤ _; omega)) _) | (with_reducible refine Below.alloc ?_ (by first | exact HB9.out.size | (simp; have h8 := HB9.out.size; omega) | (simp [World.setCell]; have h8 := HB9.out.size; omega)) _)))⟩
    ·skip
     go_simp
     try go_wp2_with fail
     refine hK.out _ _ (by (first | (with_reducible exact KS.out _ (bdrew1 (Below.alloc (Below.alloc (Below.refl _ _) (Nat.le_refl _) _) (by simp) _))))) (fun hHeld => ?_)
     clear hK K
     try go_frame
     have D8 := hid (show Below x1.heap.size x1 ((x1.alloc (.cells #[.int .i64 0, .int .i64 0, .int .i64 0, .slice none 0 0, .slice none 0 0, .int .i64 0] 38)).alloc (.cells #[.slice none 0 0, .slice none 0 0, .slice none 0 0, .slice none 0 0, .slice none 0 0, .int .i64 0, .int .i64 0, .int .i64 0, .slice none 0 0, .slice none 0 0, .slice none 0 0] 29)).drew from bdrew1 (Below.alloc (Below.alloc (Below.refl _ _) (Nat.le_refl _) _) (by simp) _))
     refine rdy1 7 (fun K hK => ?_)
     go_simp
     refine (ado_as K2.out.s q i lc lga lwa lgc lwc _ K2.out.r ((K2.out.call D8.out).world HWA.out) (by rw [K2.out.s.at_]; exact hi) (HOK.out.1.below (K2.out.call D8.out).b (Nat.le_refl _)) (HOK.out.2.1.below (K2.out.call D8.out).b (Nat.le_refl _)) HR.out).mono ?_; rintro e9 w9 ⟨q2, qa9, ia9, qc9, ic9, rfl, dd, hb9⟩; have HB9 := hid (below_call D8.out D8.out.size hb9); have DD := hid dd; have BGB := hid (show Blk w9 (x1.heap.size) 38 #[.int .i64 0, .int .i64 0, .int .i64 0, .slice none 0 0, .slice none 0 0, .int .i64 0] from (Blk.drew ((Blk.new x1 38 #[.int .i64 0, .int .i64 0, .int .i64 0, .slice none 0 0, .slice none 0 0, .int .i64 0]).alloc _)).call hb9); have BGA := hid (show Blk w9 (x1.heap.size + 1) 29 #[.slice none 0 0, .slice none 0 0, .slice none 0 0, .slice none 0 0, .slice none 0 0, .int .i64 0, .int .i64 0, .int .i64 0, .slice none 0 0, .slice none 0 0, .slice none 0 0] from (Blk.drew ((Blk.newn (x1.alloc (.cells #[.int .i64 0, .int .i64 0, .int .i64 0, .slice none 0 0, .slice none 0 0, .int .i64 0] 38)) 29 #[.slice none 0 0, .slice none 0 0, .slice none 0 0, .slice none 0 0, .slice none 0 0, .int .i64 0, .int .i64 0, .int .i64 0, .slice none 0 0, .slice none 0 0, .slice none 0 0] (by simp)))).call hb9); clear dd hb9
     try go_wp2_with fail
     refine hK.out _ _ (by (first | (with_reducible exact KS.out _ HB9.out))) (fun hHeld => ?_)
     clear hK K
     try go_frame
     refine tkl [8, 9, 10] ?_
     iterate 3
      refine tW ?_
      try go_frame
     have cgB := BGB.out.cell
     have lgB := BGB.out.lt
     have zgB := BGB.out.frozen
     have cgA := BGA.out.cell
     have lgA := BGA.out.lt
     have zgA := BGA.out.frozen
     refine rdy1 13 (fun K hK => ?_)
     go_simp
     try go_wp2_with fail
     refine hK.out _ _ (by (first | ((with_reducible refine KS.out _ ?_); repeat (first | (with_reducible exact HB9.out) | (with_reducible refine Below.setCell ?_ (by first | exact Nat.le_refl _ | exact Nat.le_succ _ | (have h8 := HB9.out.size; show x1.heap.size ≤ _; omega)) _) | (with_reducible refine Below.alloc ?_ (by first | exact HB9.out.size | (simp; have h8 := HB9.out.size; omega) | (simp [World.setCell]; have h8 := HB9.out.size; omega)) _))))) (fun hHeld => ?_)
     clear hK K
     try go_frame
     refine rdy1 14 (fun K hK => ?_)
     go_simp
     try go_wp2_with fail
     refine hK.out _ _ (by (first | ((with_reducible refine KS.out _ ?_); repeat (first | (with_reducible exact HB9.out) | (with_reducible refine Below.setCell ?_ (by first | exact Nat.le_refl _ | exact Nat.le_succ _ | (have h8 := HB9.out.size; show x1.heap.size ≤ _; omega)) _) | (with_reducible refine Below.alloc ?_ (by first | exact HB9.out.size | (simp; have h8 := HB9.out.size; omega) | (simp [World.setCell]; have h8 := HB9.out.size; omega)) _))))) (fun hHeld => ?_)
     clear hK K
     try go_frame
     refine tkD ?_
     clear hHeld cgB zgB cgA zgA
     go_wp2_with fail
     go_meet
     exact ⟨x1.heap.size + 1, x1.heap.size, q2, qa9, ia9, qc9, ic9, rfl, rfl, ⟨by have h8 := HB9.out.size; omega, by have h8 := HB9.out.size; omega⟩, (by repeat (first | (with_reducible exact blk_set11 BGA.out) | (with_reducible refine Blk.alloc ?_ _) | (with_reducible refine Blk.far ?_ (by first | assumption | (dsimp only; omega) | (show _ ≠ _; have hB := BGB.out.lt; have hA := BGA.out.lt; have h8 := HB9.out.size; omega)) _))), (by (refine blk_set6 (c0 := .int .i64 0) (c1 := .int .i64 0) (c2 := .int .i64 0) (c3 := .slice none 0 0) (c4 := .slice none 0 0) (c5 := .int .i64 0) ?_); (iterate 11 with_reducible refine Blk.far ?_ (by dsimp only; omega) _); with_reducible exact BGB.out), (by (refine Did.less (n := ((x1.alloc (.cells #[.int .i64 0, .int .i64 0, .int .i64 0, .slice none 0 0, .slice none 0 0, .int .i64 0] 38)).alloc (.cells #[.slice none 0 0, .slice none 0 0, .slice none 0 0, .slice none 0 0, .slice none 0 0, .int .i64 0, .int .i64 0, .int .i64 0, .slice none 0 0, .slice none 0 0, .slice none 0 0] 29)).drew.heap.size) ?_ (by first | exact HKA.out | (have h7 := HKA.out; simp [World.drew]; omega))); repeat (first | (with_reducible exact DD.out) | (with_reducible refine Did.set ?_ (by simp [World.drew]; try omega) _ _) | (with_reducible refine Did.call ?_ ((Below.refl _ _).alloc (Nat.le_refl _) _)))), (by repeat (first | (with_reducible exact HB9.out) | (with_reducible refine Below.setCell ?_ (by first | exact Nat.le_refl _ | exact Nat.le_succ _ | (have h8 := HB9.out.size; show x1.heap.size ≤ _; omega)) _) | (with_reducible refine Below.alloc ?_ (by first | exact HB9.out.size | (simp; have h8 := HB9.out.size; omega) | (simp [World.setCell]; have h8 := HB9.out.size; omega)) _)))⟩
  case rest =>
   obtain ⟨nb, rb, q2, qa, ia, qc, ic, rfl, rfl, ⟨hnb, hrb⟩, hBN, hBR, hDD, hBW⟩ := hcut
   have KK_50 := hid (K2.out.call hBW)
   have B_50 := hid KK_50.out.b
   have DD_50 := hid hDD
   have HQ_50 := hid (show Holds w w.heap.size (wC x q) wc from ⟨B_50.out, KK_50.out.a.lt, KK_50.out.a.cell⟩)
   have HC_50 := hid (show Holds w m #[.int .i64 lc.kind, .int .i64 lc.dir, .int .i64 lc.item, .int .i64 lc.box, .int .i64 lc.who, .slice lga lc.gives.length lgc, .int .i64 lc.pay, .slice lwa lc.wants.length lwc, .int .i64 lc.fee] wc from ⟨B_50.out, (C2.out.call hBW).lt, (C2.out.call hBW).cell⟩)
   have HN_50 := hid (show Holds w nb (wC x q2) wc from ⟨B_50.out, hBN.lt, hBN.cell⟩)
   have HR_50 := hid (show Holds w rb #[.int .i64 R.2.err, .int .i64 R.2.kind, .int .i64 R.2.room, .slice qa R.2.players.length qc, .slice ia R.2.items.length ic, .int .i64 R.2.coins] wc from ⟨B_50.out, hBR.lt, hBR.cell⟩)
   have KS2 := hid K2.out.s
   have KR2 := hid K2.out.r
   have HII := hid (show i < y.at_.length by rw [K2.out.s.at_]; exact hi)
   have DSH := hid (show Shape y R.1 from HR.out ▸ do_shape y i lc)
   have DRI := hid (show rightW R.1 = true from HR.out ▸ do_right KR2.out HII.out lc)
   have DSU := hid (show R.1.coins.sum = y.coins.sum from HR.out ▸ (do_sum KR2.out HII.out lc).2)
   have DMA := hid (show rmayB R.2 = true from HR.out ▸ do_may KR2.out HII.out lc)
   have DST := hid (show (¬ R.2.err = 0 ∨ lc.kind = 9 ∨ lc.kind = 10) → R.1 = y from fun h => by have h2 := HR.out; subst h2; exact do_stays h)
   have DKI := hid (show R.2.err = 0 → R.2.kind = lc.kind from fun h => by have h2 := HR.out; subst h2; exact do_kind h)
   clear hBN hBR hDD hBW K2 C2 P2 hHeld hnb hrb HR
   go_upto_region 10 with fail
   have KS : Hid (∀ w', Below wc.heap.size wc w' → Below wc.heap.size wc w' ∧ (∀ ii, w'.cell? ⟨w.heap.size, ii, none⟩ = ((wC x q)[ii]? : Option Value)) ∧ (∀ ii, w'.cell? ⟨m, ii, none⟩ = (#[.int .i64 lc.kind, .int .i64 lc.dir, .int .i64 lc.item, .int .i64 lc.box, .int .i64 lc.who, .slice lga lc.gives.length lgc, .int .i64 lc.pay, .slice lwa lc.wants.length lwc, .int .i64 lc.fee][ii]? : Option Value)) ∧ (∀ ii, w'.cell? ⟨nb, ii, none⟩ = ((wC x q2)[ii]? : Option Value)) ∧ (∀ ii, w'.cell? ⟨rb, ii, none⟩ = (#[.int .i64 R.2.err, .int .i64 R.2.kind, .int .i64 R.2.room, .slice qa R.2.players.length qc, .slice ia R.2.items.length ic, .int .i64 R.2.coins][ii]? : Option Value))) := hid (fun w' hb => ⟨hb, fun ii => (hb.cell (p := ⟨w.heap.size, ii, none⟩) HQ_50.out.2.1).trans (HQ_50.out.2.2 ii), fun ii => (hb.cell (p := ⟨m, ii, none⟩) HC_50.out.2.1).trans (HC_50.out.2.2 ii), fun ii => (hb.cell (p := ⟨nb, ii, none⟩) HN_50.out.2.1).trans (HN_50.out.2.2 ii), fun ii => (hb.cell (p := ⟨rb, ii, none⟩) HR_50.out.2.1).trans (HR_50.out.2.2 ii)⟩)
   have D0 := hid (bdrew1 (Below.refl wc.heap.size wc))
   refine tkS (S := (fun w' => Below wc.heap.size wc w' ∧ (∀ ii, w'.cell? ⟨w.heap.size, ii, none⟩ = ((wC x q)[ii]? : Option Value)) ∧ (∀ ii, w'.cell? ⟨m, ii, none⟩ = (#[.int .i64 lc.kind, .int .i64 lc.dir, .int .i64 lc.item, .int .i64 lc.box, .int .i64 lc.who, .slice lga lc.gives.length lgc, .int .i64 lc.pay, .slice lwa lc.wants.length lwc, .int .i64 lc.fee][ii]? : Option Value)) ∧ (∀ ii, w'.cell? ⟨nb, ii, none⟩ = ((wC x q2)[ii]? : Option Value)) ∧ (∀ ii, w'.cell? ⟨rb, ii, none⟩ = (#[.int .i64 R.2.err, .int .i64 R.2.kind, .int .i64 R.2.room, .slice qa R.2.players.length qc, .slice ia R.2.items.length ic, .int .i64 R.2.coins][ii]? : Option Value)))) (by (first | (with_reducible exact KS.out _ D0.out))) (fun hHeld => ?_)
   refine tkl [0] (tW ?_)
   try go_frame
   refine rdy1 1 (fun K hK => ?_)
   go_simp
   refine (rright_as (KS2.out.trans' DSH.out) q2 _ ((DD_50.out.call D0.out).world ((KK_50.out.call D0.out).world HWA.out))).mono ?_; rintro e x1 ⟨rfl, hb9⟩; have D1 := hid (below_call D0.out D0.out.size hb9); rw [DRI.out]; clear hb9
   try go_wp2_with fail
   refine hK.out _ _ (by (first | (with_reducible exact KS.out _ D1.out))) (fun hHeld => ?_)
   clear hK K
   try go_frame
   refine tkl [2, 3, 4, 6] ?_
   iterate 4
    refine tW ?_
    try go_frame
   refine rdy1 5 (fun K hK => ?_)
   go_simp
   refine (refsum_as (KS2.out.trans' DSH.out) q2 _ DRI.out ((DD_50.out.call D1.out).world ((KK_50.out.call D1.out).world HWA.out))).mono ?_; rintro e x2 ⟨rfl, hb9⟩; have D2 := hid (below_call D1.out D1.out.size hb9); rw [DSU.out]; clear hb9
   try go_wp2_with fail
   refine hK.out _ _ (by (first | (with_reducible exact KS.out _ D2.out))) (fun hHeld => ?_)
   clear hK K
   try go_frame
   refine rdy1 7 (fun K hK => ?_)
   go_simp
   refine (refsum_as KS2.out q _ KR2.out ((KK_50.out.call D2.out).world HWA.out)).mono ?_; rintro e x3 ⟨rfl, hb9⟩; have D3 := hid (below_call D2.out D2.out.size hb9); clear hb9
   try go_wp2_with fail
   refine hK.out _ _ (by (first | (with_reducible exact KS.out _ D3.out))) (fun hHeld => ?_)
   clear hK K
   try go_frame
   refine tkl [8, 9, 10, 11, 12, 13, 14, 15, 16, 17, 18, 19, 20] ?_
   iterate 13
    refine tW ?_
    try go_frame
   refine rdy1 21 (fun K hK => ?_)
   go_simp
   refine (rrefmay_any R.2 qa ia qc ic _ (DD_50.out.call D3.out).2.ints (DD_50.out.call D3.out).2.sns).mono ?_; rintro e x4 ⟨rfl, hb9⟩; have D4 := hid (below_call D3.out D3.out.size hb9); rw [DMA.out]; clear hb9
   try go_wp2_with fail
   refine hK.out _ _ (by (first | (with_reducible exact KS.out _ D4.out))) (fun hHeld => ?_)
   clear hK K
   try go_frame
   refine tkl [22, 23] ?_
   iterate 2
    refine tW ?_
    try go_frame
   refine tkD ?_
   clear hHeld KS
   have B_51 := hid (bl B_50.out D4.out)
   have HQ_51 := hid (HQ_50.out.call D4.out)
   have HC_51 := hid (HC_50.out.call D4.out)
   have HN_51 := hid (HN_50.out.call D4.out)
   have HR_51 := hid (HR_50.out.call D4.out)
   have KK_51 := hid (KK_50.out.call D4.out)
   have DD_51 := hid (DD_50.out.call D4.out)
   clear B_50 HQ_50 HC_50 HN_50 HR_50 KK_50 DD_50 D0 D1 D2 D3 D4
   skip
   by_cases he : R.2.err = 0
   ·have DK := hid (DKI.out he)
    by_cases h9 : lc.kind = 9
    ·have DEQ := hid (DST.out (.inr (.inl h9)))
     have e0 : (R.2.err != 0) = false := by simpa using he
     have e1 : (R.2.err == 0) = true := by simpa using he
     have e4 : (R.2.kind != lc.kind) = false := by simp [DK.out]
     have e2 : (lc.kind == 9) = true := by simpa using h9
     clear he h9
     have hcHQ := HQ_51.out.2.2
     have hlHQ := HQ_51.out.2.1
     have hcHC := HC_51.out.2.2
     have hlHC := HC_51.out.2.1
     have hcHN := HN_51.out.2.2
     have hlHN := HN_51.out.2.1
     have hcHR := HR_51.out.2.2
     have hlHR := HR_51.out.2.1
     go_wp2_with fail
     refine (rsame_yes (KS2.out.trans' DSH.out) KS2.out DEQ.out q2 q _ (DD_51.out.world (KK_51.out.world HWA.out)) (KK_51.out.world HWA.out)).mono ?_
     rintro e u1 ⟨rfl, b1⟩
     clear hcHQ hlHQ hcHC hlHC hcHN hlHN hcHR hlHR
     have B_52 := hid (bl B_51.out b1)
     have HQ_52 := hid (HQ_51.out.call b1)
     have HC_52 := hid (HC_51.out.call b1)
     have HN_52 := hid (HN_51.out.call b1)
     have HR_52 := hid (HR_51.out.call b1)
     have KK_52 := hid (KK_51.out.call b1)
     have DD_52 := hid (DD_51.out.call b1)
     clear b1 B_51 HQ_51 HC_51 HN_51 HR_51 KK_51 DD_51
     have hcHQ := HQ_52.out.2.2
     have hlHQ := HQ_52.out.2.1
     have hcHC := HC_52.out.2.2
     have hlHC := HC_52.out.2.1
     have hcHN := HN_52.out.2.2
     have hlHN := HN_52.out.2.1
     have hcHR := HR_52.out.2.2
     have hlHR := HR_52.out.2.1
     have hzQ : ∀ ii, u1.frozen? ⟨w.heap.size, ii, none⟩ = false := KK_52.out.a.frozen
     go_wp2_with fail
     go_roundw
     case rel => exact ⟨j + 1, q2, R.1, by omega, by go_num, KK_52.out.next DD_52.out DSH.out DRI.out⟩
     case measure => simp [intOf]; omega
    by_cases h10 : lc.kind = 10
    ·have DEQ := hid (DST.out (.inr (.inr h10)))
     have e0 : (R.2.err != 0) = false := by simpa using he
     have e1 : (R.2.err == 0) = true := by simpa using he
     have e4 : (R.2.kind != lc.kind) = false := by simp [DK.out]
     have e2 : (lc.kind == 9) = false := by simpa using h9
     have e3 : (lc.kind == 10) = true := by simpa using h10
     clear he h9 h10
     have hcHQ := HQ_51.out.2.2
     have hlHQ := HQ_51.out.2.1
     have hcHC := HC_51.out.2.2
     have hlHC := HC_51.out.2.1
     have hcHN := HN_51.out.2.2
     have hlHN := HN_51.out.2.1
     have hcHR := HR_51.out.2.2
     have hlHR := HR_51.out.2.1
     go_wp2_with fail
     refine (rsame_yes (KS2.out.trans' DSH.out) KS2.out DEQ.out q2 q _ (DD_51.out.world (KK_51.out.world HWA.out)) (KK_51.out.world HWA.out)).mono ?_
     rintro e u1 ⟨rfl, b1⟩
     clear hcHQ hlHQ hcHC hlHC hcHN hlHN hcHR hlHR
     have B_52 := hid (bl B_51.out b1)
     have HQ_52 := hid (HQ_51.out.call b1)
     have HC_52 := hid (HC_51.out.call b1)
     have HN_52 := hid (HN_51.out.call b1)
     have HR_52 := hid (HR_51.out.call b1)
     have KK_52 := hid (KK_51.out.call b1)
     have DD_52 := hid (DD_51.out.call b1)
     clear b1 B_51 HQ_51 HC_51 HN_51 HR_51 KK_51 DD_51
     have hcHQ := HQ_52.out.2.2
     have hlHQ := HQ_52.out.2.1
     have hcHC := HC_52.out.2.2
     have hlHC := HC_52.out.2.1
     have hcHN := HN_52.out.2.2
     have hlHN := HN_52.out.2.1
     have hcHR := HR_52.out.2.2
     have hlHR := HR_52.out.2.1
     have hzQ : ∀ ii, u1.frozen? ⟨w.heap.size, ii, none⟩ = false := KK_52.out.a.frozen
     go_wp2_with fail
     go_roundw
     case rel => exact ⟨j + 1, q2, R.1, by omega, by go_num, KK_52.out.next DD_52.out DSH.out DRI.out⟩
     case measure => simp [intOf]; omega
    ·have e0 : (R.2.err != 0) = false := by simpa using he
     have e1 : (R.2.err == 0) = true := by simpa using he
     have e4 : (R.2.kind != lc.kind) = false := by simp [DK.out]
     have e2 : (lc.kind == 9) = false := by simpa using h9
     have e3 : (lc.kind == 10) = false := by simpa using h10
     clear he h9 h10
     have hcHQ := HQ_51.out.2.2
     have hlHQ := HQ_51.out.2.1
     have hcHC := HC_51.out.2.2
     have hlHC := HC_51.out.2.1
     have hcHN := HN_51.out.2.2
     have hlHN := HN_51.out.2.1
     have hcHR := HR_51.out.2.2
     have hlHR := HR_51.out.2.1
     have hzQ : ∀ ii, x4.frozen? ⟨w.heap.size, ii, none⟩ = false := KK_51.out.a.frozen
     go_wp2_with fail
     go_roundw
     case rel => exact ⟨j + 1, q2, R.1, by omega, by go_num, KK_51.out.next DD_51.out DSH.out DRI.out⟩
     case measure => simp [intOf]; omega
   ·have DEQ := hid (DST.out (.inl he))
    have e0 : (R.2.err != 0) = true := by simpa using he
    have e1 : (R.2.err == 0) = false := by simpa using he
    clear he
    have hcHQ := HQ_51.out.2.2
    have hlHQ := HQ_51.out.2.1
    have hcHC := HC_51.out.2.2
    have hlHC := HC_51.out.2.1
    have hcHN := HN_51.out.2.2
    have hlHN := HN_51.out.2.1
    have hcHR := HR_51.out.2.2
    have hlHR := HR_51.out.2.1
    go_wp2_with fail
    refine (rsame_yes (KS2.out.trans' DSH.out) KS2.out DEQ.out q2 q _ (DD_51.out.world (KK_51.out.world HWA.out)) (KK_51.out.world HWA.out)).mono ?_
    rintro e u1 ⟨rfl, b1⟩
    clear hcHQ hlHQ hcHC hlHC hcHN hlHN hcHR hlHR
    have B_52 := hid (bl B_51.out b1)
    have HQ_52 := hid (HQ_51.out.call b1)
    have HC_52 := hid (HC_51.out.call b1)
    have HN_52 := hid (HN_51.out.call b1)
    have HR_52 := hid (HR_51.out.call b1)
    have KK_52 := hid (KK_51.out.call b1)
    have DD_52 := hid (DD_51.out.call b1)
    clear b1 B_51 HQ_51 HC_51 HN_51 HR_51 KK_51 DD_51
    have hcHQ := HQ_52.out.2.2
    have hlHQ := HQ_52.out.2.1
    have hcHC := HC_52.out.2.2
    have hlHC := HC_52.out.2.1
    have hcHN := HN_52.out.2.2
    have hlHN := HN_52.out.2.1
    have hcHR := HR_52.out.2.2
    have hlHR := HR_52.out.2.1
    have hzQ : ∀ ii, u1.frozen? ⟨w.heap.size, ii, none⟩ = false := KK_52.out.a.frozen
    go_wp2_with fail
    go_roundw
    case rel => exact ⟨j + 1, q2, R.1, by omega, by go_num, KK_52.out.next DD_52.out DSH.out DRI.out⟩
    case measure => simp [intOf]; omega
theorem walk_atomKeeps (x : Wd) (p : Wp) (a : Option Addr) (cap : Nat) (ls : List Cl) (w : World) (h : WorldAt w p x) (hc : CallsAt w a ls) : Calls Tryz.prog 4 #[.agg (wC x p), .slice a ls.length cap] w fun e w' => e = .returned (.bool true) ∧ Below w.heap.size w w' := by
 cases hf : fitsB x
 ·exact atomKeeps_no x p a cap ls w h hf
 cases k0 : decide ((60 : Int) < (ls.length : Int))
 ·exact atomKeeps_go x p a cap ls w h hc hf k0
 ·exact atomKeeps_long x p a cap ls w h hf k0
theorem lifted_atomKeeps (os : Os) (started : os.Started) (H : Type) (enc : TypeId × Value → H) :
 ReturnsInHanded {} Tryz.checked os 4 .any (Rows.atomKeepsSpec.pre6 enc Tryz.prog Tryz.f4 Rows.atomKeepsRow.domain false) (Rows.atomKeepsSpec.post enc Tryz.prog Tryz.f4 false true false false) := by
 refine returnsInHanded_of_change (C := Tryz.checked) (by kernel_rfl) started (by kernel_rfl) Tryz.func4
  (ChangeSpec.witness6 (enc := enc) (C := Tryz.checked) false ⟨#[], #[.agg #[.slice none 0 0, .slice none 0 0, .slice none 0 0, .slice none 0 0, .slice none 0 0, .int .i64 0, .int .i64 0, .int .i64 0, .slice none 0 0, .slice none 0 0, .slice none 0 0], .slice none 0 0], []⟩ 8 (by kernel_rfl) (by kernel_rfl) (by kernel_rfl) (by kernel_rfl)) ?_
 intro W base args ds gs before hval0 hW hcnd _
 have hval : ∀ (j : Nat) t v, Tryz.f4.params[j]? = some t → args[j]? = some v → Value.okWide Tryz.prog W .any base t v := hval0
 have hW' := hW
 obtain ⟨p, q, hA0, hV, rfl, hfz, hnd⟩ := hW
 have hA : DataW.TrodAll enc Tryz.prog W 0 (fun _ => true) true Tryz.f4.params.toList args.toList ds p := hA0
 rw [Tryz.params4] at hA hval
 obtain ⟨v0, vs0, d0, ds0, p0, q0, hargs, rfl, rfl, h0, r0⟩ := trodAll_cons hA
 obtain ⟨v1, vs1, d1, ds1, p1, q1, rfl, rfl, rfl, h1, r1⟩ := trodAll_cons r0
 obtain ⟨rfl, rfl, rfl⟩ := trodAll_nil r1
 obtain rfl : args = #[v0, v1] := by cases args; simp_all
 obtain ⟨rfl, rfl⟩ := trodVars_none hV
 obtain ⟨wx0, wp0, rfl, m0⟩ := read_world (hval 0 29 v0 rfl rfl) h0
 obtain ⟨a1, cap1, ls1, rfl, m1⟩ := read_calls (hval 1 44 v1 rfl rfl) h1
 clear hA0 hval0
 simp only [List.append_nil] at hW'
 refine (walk_atomKeeps wx0 wp0 a1 cap1 ls1 W m0 m1).mono fun e W' ⟨he, hg⟩ => ?_
 subst he
 exact ⟨_, rfl, law_post (by kernel_rfl) rfl (by rw [Tryz.params4]; decide +kernel) rfl rfl Tryz.underlying4 hW' hg⟩

/-- ████ THE STATEMENT ████ -/
theorem proved_atomKeeps : Rows.AtomKeepsSaid :=
 OpenClaim.holds_of_wide 4 Tryz.f4 rfl rfl rfl rfl rfl rfl rfl ⟨rfl, rfl, rfl, rfl, rfl⟩ rfl rfl rfl rfl rfl (by kernel_rfl) Tryz.func4 (by kernel_rfl)
  (of_decide_eq_true (by kernel_rfl)) (by unfold Func.isWrapper; first | (rw [if_pos (by decide +kernel)]; kernel_rfl) | (rw [if_neg (by decide +kernel)]; exact ⟨rfl, rfl⟩))
  (fun os started H enc _ => lifted_atomKeeps os started H enc)
#print axioms proved_atomKeeps
end Go.Proofs.YtgmkcddgkgcbbaaGreat
