/- desc.New: the world of a description. -/
import Derived.Test.YtniblphklgbpnaaRows
import Derived.Test.YtniblphklgbpnaaKit
import Derived.Test.YtniblphklgbpnaaStrs
import Derived.Test.YtniblphklgbpnaaCoin
import Derived.Test.YtniblphklgbpnaaBlk
import Derived.Test.YtniblphklgbpnaaHolds
import Derived.Test.YtniblphklgbpnaaWorldMath
import Derived.Test.YtniblphklgbpnaaWorldAt
import Derived.Test.YtniblphklgbpnaaDescFloors
import Derived.Test.YtniblphklgbpnaaDescMay
import Derived.Test.YtniblphklgbpnaaDescMay2
import Derived.Test.YtniblphklgbpnaaDescRight
import Derived.Test.YtniblphklgbpnaaDescClone
import Derived.Test.YtniblphklgbpnaaDescCopy
import Derived.Test.YtniblphklgbpnaaDescCopy2
import Derived.Deep.QuietTactic
import Derived.BigQuiet
import Derived.Deep.RegionHeld3
import Derived.WalkKit
import Derived.ProofKit
import Derived.OpenShut
import Derived.IntWalk
namespace Go.Proofs.Ytniblphklgbpnaa
open Go.ChangeShapes Go.WideShapes Go.ChangeAt Go.RowKit
set_option linter.unusedVariables false
open Go.RowKit
/-- What New hands back of a description that may be. -/
def NewOut (d : Ds) (w : World) (e : Ending) (w' : World) : Prop := ∃ (x : Wd) (q : Wp), x = newW d ∧ e = .returned (.tuple #[.agg #[.slice q.d.ex x.d.exits.length q.d.exc, .slice q.d.pl x.d.players.length q.d.plc, .slice q.d.co x.d.coins.length q.d.coc, .slice q.d.it x.d.items.length q.d.itc, .slice q.d.bo x.d.boxes.length q.d.boc, .int .i64 x.d.room, .int .i64 x.d.player, .int .i64 x.d.box, .slice q.at_ x.at_.length q.atc, .slice q.co x.coins.length q.coc, .slice q.wh x.wher.length q.whc], .int .i64 0]) ∧ WorldOwn w.heap.size w' q x ∧ Below w.heap.size w w'
set_option maxRecDepth 100000 in
theorem new_no (d : Ds) (p : Dp) (w : World) (h : DescAt w p d) (hm : mayD d = false) :
    Calls Try.prog 10 #[.agg #[.slice p.ex d.exits.length p.exc, .slice p.pl d.players.length p.plc, .slice p.co d.coins.length p.coc, .slice p.it d.items.length p.itc, .slice p.bo d.boxes.length p.boc, .int .i64 d.room, .int .i64 d.player, .int .i64 d.box]] w fun e w' => e = .returned (.tuple #[.agg #[.slice none 0 0, .slice none 0 0, .slice none 0 0, .slice none 0 0, .slice none 0 0, .int .i64 0, .int .i64 0, .int .i64 0, .slice none 0 0, .slice none 0 0, .slice none 0 0], .int .i64 1]) ∧ Below w.heap.size w w' := by
  have H := Lib.hid h
  have HM := Lib.hid hm
  clear h hm
  have C0 := Lib.hid (Two.start 26 29 w #[.slice p.ex d.exits.length p.exc, .slice p.pl d.players.length p.plc, .slice p.co d.coins.length p.coc, .slice p.it d.items.length p.itc, .slice p.bo d.boxes.length p.boc, .int .i64 d.room, .int .i64 d.player, .int .i64 d.box] #[.slice none 0 0, .slice none 0 0, .slice none 0 0, .slice none 0 0, .slice none 0 0, .int .i64 0, .int .i64 0, .int .i64 0, .slice none 0 0, .slice none 0 0, .slice none 0 0])
  go_enter Try.func10, Try.ntmps10
  go_wp2_with fail
  refine (may_any d p _ (H.out.below C0.out.b (Nat.le_refl _))).mono ?_
  rintro e w1 ⟨rfl, b1⟩
  rw [HM.out]
  have D1 := Lib.hid (C0.out.call b1)
  have hc2 := D1.out.r.cell
  have hz2 := D1.out.r.frozen
  have hs2 := D1.out.size
  clear b1
  go_wp2_with fail
  refine bodyPost_ret (v := .tuple #[.agg #[.slice none 0 0, .slice none 0 0, .slice none 0 0, .slice none 0 0, .slice none 0 0, .int .i64 0, .int .i64 0, .int .i64 0, .slice none 0 0, .slice none 0 0, .slice none 0 0], .int .i64 1]) (by simp [results, Try.results10, go_sem, hc2, hs2]) rfl ⟨rfl, ?_⟩
  iterate 11 refine Below.setCell ?_ (by show w.heap.size ≤ w.heap.size + 1; omega) _
  exact D1.out.b
set_option maxRecDepth 100000 in
theorem new_yes (d : Ds) (p : Dp) (w : World) (h : DescAt w p d) (hm : mayD d = true) :
    Calls Try.prog 10 #[.agg #[.slice p.ex d.exits.length p.exc, .slice p.pl d.players.length p.plc, .slice p.co d.coins.length p.coc, .slice p.it d.items.length p.itc, .slice p.bo d.boxes.length p.boc, .int .i64 d.room, .int .i64 d.player, .int .i64 d.box]] w (NewOut d w) := by
  have H := Lib.hid h
  have HM := Lib.hid hm
  have hf := may_few hm
  have HL := Lib.hid (show d.items.length ≤ 1000000 by omega)
  have HW := Lib.hid (show FewW (newW d) from ⟨⟨by show d.exits.length ≤ _; omega, by show d.players.length ≤ _; omega, by show d.coins.length ≤ _; omega, by show d.items.length ≤ _; omega, by show d.boxes.length ≤ _; omega⟩, by show d.players.length ≤ _; omega, by show d.coins.length ≤ _; omega, by show (floorsL d.items).length ≤ _; simp [floorsL]; omega⟩)
  clear h hm hf
  have C0 := Lib.hid (Two.start 26 29 w #[.slice p.ex d.exits.length p.exc, .slice p.pl d.players.length p.plc, .slice p.co d.coins.length p.coc, .slice p.it d.items.length p.itc, .slice p.bo d.boxes.length p.boc, .int .i64 d.room, .int .i64 d.player, .int .i64 d.box] #[.slice none 0 0, .slice none 0 0, .slice none 0 0, .slice none 0 0, .slice none 0 0, .int .i64 0, .int .i64 0, .int .i64 0, .slice none 0 0, .slice none 0 0, .slice none 0 0])
  go_enter Try.func10, Try.ntmps10
  go_wp2_with fail
  refine (may_any d p _ (H.out.below C0.out.b (Nat.le_refl _))).mono ?_
  rintro e w1 ⟨rfl, b1⟩
  rw [HM.out]
  have D1 := Lib.hid (C0.out.call b1)
  clear b1
  go_wp2_with fail
  refine wp_region_noPanic ?_
  refine wp_region_held_drew (S := (fun w' => Below w.heap.size w w' ∧ w.heap.size < w'.heap.size ∧ (∀ i, w'.cell? ⟨w.heap.size, i, none⟩ = (#[.slice p.ex d.exits.length p.exc, .slice p.pl d.players.length p.plc, .slice p.co d.coins.length p.coc, .slice p.it d.items.length p.itc, .slice p.bo d.boxes.length p.boc, .int .i64 d.room, .int .i64 d.player, .int .i64 d.box][i]? : Option Value)) ∧ w.heap.size + 1 < w'.heap.size)) (by kernel_rfl) (by (first | (with_reducible exact ⟨D1.out.drew.b, D1.out.drew.a.lt, D1.out.drew.a.cell, D1.out.drew.r.lt⟩) | (with_reducible exact ⟨D2.out.b, D2.out.a.lt, D2.out.a.cell, D2.out.r.lt⟩) | (with_reducible exact ⟨D3.out.b, D3.out.a.lt, D3.out.a.cell, D3.out.r.lt⟩) | (refine two_S (t := 26) (s := 29) (w := w) ?_; (iterate 11 with_reducible refine TwoE.set2 ?_ _ _); with_reducible exact TwoE.mk D3.out))) (fun hHeld => ?_)
  refine wpAnyH_take (i := 0) (v := ?_) (by simp only [List.getElem?_toArray, List.getElem?_cons_succ, List.getElem?_cons_zero]; rfl) (by kernel_rfl) (by kernel_rfl) (by kernel_rfl) (fun _ _ _ h => h) (Or.inl ⟨by rfl, ?_⟩) (by assumption) ?_
  rotate_left
  · (intro ww hSw; (try dsimp only at hSw); go_simp; (try with_reducible rfl))
  try simp only [Act.put, List.setIfInBounds_toArray, List.set_cons_zero, List.set_cons_succ]
  refine wpAnyH_take (i := 1) (v := ?_) (by simp only [List.getElem?_toArray, List.getElem?_cons_succ, List.getElem?_cons_zero]; rfl) (by kernel_rfl) (by kernel_rfl) (by kernel_rfl) (fun _ _ _ h => h) (Or.inl ⟨by rfl, ?_⟩) (by assumption) ?_
  rotate_left
  · (intro ww hSw; (try dsimp only at hSw); go_simp; (try with_reducible rfl))
  try simp only [Act.put, List.setIfInBounds_toArray, List.set_cons_zero, List.set_cons_succ]
  refine wpAnyH_take (i := 2) (v := ?_) (by simp only [List.getElem?_toArray, List.getElem?_cons_succ, List.getElem?_cons_zero]; rfl) (by kernel_rfl) (by kernel_rfl) (by kernel_rfl) (fun _ _ _ h => h) (Or.inl ⟨by rfl, ?_⟩) (by assumption) ?_
  rotate_left
  · (intro ww hSw; (try dsimp only at hSw); go_simp; (try with_reducible rfl))
  try simp only [Act.put, List.setIfInBounds_toArray, List.set_cons_zero, List.set_cons_succ]
  refine wpAnyH_take (i := 3) (v := ?_) (by simp only [List.getElem?_toArray, List.getElem?_cons_succ, List.getElem?_cons_zero]; rfl) (by kernel_rfl) (by kernel_rfl) (by kernel_rfl) (fun _ _ _ h => h) (Or.inl ⟨by rfl, ?_⟩) (by assumption) ?_
  rotate_left
  · (intro ww hSw; (try dsimp only at hSw); go_simp; (try with_reducible rfl))
  try simp only [Act.put, List.setIfInBounds_toArray, List.set_cons_zero, List.set_cons_succ]
  refine wpAnyH_take (i := 4) (v := ?_) (by simp only [List.getElem?_toArray, List.getElem?_cons_succ, List.getElem?_cons_zero]; rfl) (by kernel_rfl) (by kernel_rfl) (by kernel_rfl) (fun _ _ _ h => h) (Or.inl ⟨by rfl, ?_⟩) (by assumption) ?_
  rotate_left
  · (intro ww hSw; (try dsimp only at hSw); go_simp; (try with_reducible rfl))
  try simp only [Act.put, List.setIfInBounds_toArray, List.set_cons_zero, List.set_cons_succ]
  refine wpAnyH_take (i := 5) (v := ?_) (by simp only [List.getElem?_toArray, List.getElem?_cons_succ, List.getElem?_cons_zero]; rfl) (by kernel_rfl) (by kernel_rfl) (by kernel_rfl) (fun _ _ _ h => h) (Or.inl ⟨by rfl, ?_⟩) (by assumption) ?_
  rotate_left
  · (intro ww hSw; (try dsimp only at hSw); go_simp; (try with_reducible rfl))
  try simp only [Act.put, List.setIfInBounds_toArray, List.set_cons_zero, List.set_cons_succ]
  refine wpAnyH_take (i := 6) (v := ?_) (by simp only [List.getElem?_toArray, List.getElem?_cons_succ, List.getElem?_cons_zero]; rfl) (by kernel_rfl) (by kernel_rfl) (by kernel_rfl) (fun _ _ _ h => h) (Or.inl ⟨by rfl, ?_⟩) (by assumption) ?_
  rotate_left
  · (intro ww hSw; (try dsimp only at hSw); go_simp; (try with_reducible rfl))
  try simp only [Act.put, List.setIfInBounds_toArray, List.set_cons_zero, List.set_cons_succ]
  refine wpAnyH_ready (rs := [7]) (by kernel_rfl) (by simp) (AllReadyH.cons (by simp only [List.getElem?_toArray, List.getElem?_cons_succ, List.getElem?_cons_zero]; rfl) (fun K hK => ?_) AllReadyH.nil)
  go_simp
  refine (floors_any _ _ d.items _ (H.out.below D1.out.drew.b (Nat.le_refl _)).it HL.out).mono ?_; rintro e w2 ⟨n, rfl, hn, hfl, hb2⟩; have D2 := Lib.hid (D1.out.drew.call hb2)
  try go_wp2_with fail
  refine hK.out _ _ (by (first | (with_reducible exact ⟨D1.out.drew.b, D1.out.drew.a.lt, D1.out.drew.a.cell, D1.out.drew.r.lt⟩) | (with_reducible exact ⟨D2.out.b, D2.out.a.lt, D2.out.a.cell, D2.out.r.lt⟩) | (with_reducible exact ⟨D3.out.b, D3.out.a.lt, D3.out.a.cell, D3.out.r.lt⟩) | (refine two_S (t := 26) (s := 29) (w := w) ?_; (iterate 11 with_reducible refine TwoE.set2 ?_ _ _); with_reducible exact TwoE.mk D3.out))) (fun hHeld => ?_)
  clear hK K
  try simp only [Act.put, List.setIfInBounds_toArray, List.set_cons_zero, List.set_cons_succ]
  refine wpAnyH_take (i := 8) (v := ?_) (by simp only [List.getElem?_toArray, List.getElem?_cons_succ, List.getElem?_cons_zero]; rfl) (by kernel_rfl) (by kernel_rfl) (by kernel_rfl) (fun _ _ _ h => h) (Or.inl ⟨by rfl, ?_⟩) (by assumption) ?_
  rotate_left
  · (intro ww hSw; (try dsimp only at hSw); go_simp; (try with_reducible rfl))
  try simp only [Act.put, List.setIfInBounds_toArray, List.set_cons_zero, List.set_cons_succ]
  refine wpAnyH_ready (rs := [9]) (by kernel_rfl) (by simp) (AllReadyH.cons (by simp only [List.getElem?_toArray, List.getElem?_cons_succ, List.getElem?_cons_zero]; rfl) (fun K hK => ?_) AllReadyH.nil)
  go_simp
  refine (copy_any (newW d) ⟨p, p.pl, p.plc, p.co, p.coc, some ⟨n, 0, none⟩, (floorsL d.items).length⟩ _ ⟨H.out.below D2.out.b (Nat.le_refl _), (H.out.below D2.out.b (Nat.le_refl _)).pl, (H.out.below D2.out.b (Nat.le_refl _)).co, hfl⟩ HW.out).mono ?_; rintro e w3 ⟨q, rfl, ow, hb3⟩; (try simp only [newW]); have D3 := Lib.hid (D2.out.call hb3)
  try go_wp2_with fail
  refine hK.out _ _ (by (first | (with_reducible exact ⟨D1.out.drew.b, D1.out.drew.a.lt, D1.out.drew.a.cell, D1.out.drew.r.lt⟩) | (with_reducible exact ⟨D2.out.b, D2.out.a.lt, D2.out.a.cell, D2.out.r.lt⟩) | (with_reducible exact ⟨D3.out.b, D3.out.a.lt, D3.out.a.cell, D3.out.r.lt⟩) | (refine two_S (t := 26) (s := 29) (w := w) ?_; (iterate 11 with_reducible refine TwoE.set2 ?_ _ _); with_reducible exact TwoE.mk D3.out))) (fun hHeld => ?_)
  clear hK K
  try simp only [Act.put, List.setIfInBounds_toArray, List.set_cons_zero, List.set_cons_succ]
  have O := Lib.hid (show WorldOwn (w.heap.size + 2) w3 q (newW d) from ow.less D2.out.size)
  have hc2 := D3.out.r.cell
  have hz2 := D3.out.r.frozen
  have hs2 := D3.out.size
  clear ow hb2 hb3 hn hfl
  refine wpAnyH_ready (rs := [10]) (by kernel_rfl) (by simp) (AllReadyH.cons (by simp only [List.getElem?_toArray, List.getElem?_cons_succ, List.getElem?_cons_zero]; rfl) (fun K hK => ?_) AllReadyH.nil)
  go_simp
  try go_wp2_with fail
  refine hK.out _ _ (by (first | (with_reducible exact ⟨D1.out.drew.b, D1.out.drew.a.lt, D1.out.drew.a.cell, D1.out.drew.r.lt⟩) | (with_reducible exact ⟨D2.out.b, D2.out.a.lt, D2.out.a.cell, D2.out.r.lt⟩) | (with_reducible exact ⟨D3.out.b, D3.out.a.lt, D3.out.a.cell, D3.out.r.lt⟩) | (refine two_S (t := 26) (s := 29) (w := w) ?_; (iterate 11 with_reducible refine TwoE.set2 ?_ _ _); with_reducible exact TwoE.mk D3.out))) (fun hHeld => ?_)
  clear hK K
  try simp only [Act.put, List.setIfInBounds_toArray, List.set_cons_zero, List.set_cons_succ]
  refine wpAnyH_take (i := 11) (v := ?_) (by simp only [List.getElem?_toArray, List.getElem?_cons_succ, List.getElem?_cons_zero]; rfl) (by kernel_rfl) (by kernel_rfl) (by kernel_rfl) (fun _ _ _ h => h) (Or.inl ⟨by rfl, ?_⟩) (by assumption) ?_
  rotate_left
  · (intro ww hSw; (try dsimp only at hSw); go_simp; (try with_reducible rfl))
  try simp only [Act.put, List.setIfInBounds_toArray, List.set_cons_zero, List.set_cons_succ]
  refine wpAnyH_done (by kernel_rfl) ?_ _
  refine NoPanic.normal ?_
  go_wp2_with fail
  refine bodyPost_ret (v := .tuple #[.agg #[.slice q.d.ex d.exits.length q.d.exc, .slice q.d.pl d.players.length q.d.plc, .slice q.d.co d.coins.length q.d.coc, .slice q.d.it d.items.length q.d.itc, .slice q.d.bo d.boxes.length q.d.boc, .int .i64 d.room, .int .i64 d.player, .int .i64 d.box, .slice q.at_ d.players.length q.atc, .slice q.co d.coins.length q.coc, .slice q.wh (floorsL d.items).length q.whc], .int .i64 0]) (by simp [results, Try.results10, go_sem, hc2, hs2]) rfl ⟨newW d, q, rfl, rfl, ?_, ?_⟩
  · refine WorldOwn.less (n := w.heap.size + 2) ?_ (by omega)
    iterate 11 refine WorldOwn.set (q := w.heap.size + 1) ?_ (by omega) _ _
    exact O.out
  · iterate 11 refine Below.setCell ?_ (by show w.heap.size ≤ w.heap.size + 1; omega) _
    exact D3.out.b
end Go.Proofs.Ytniblphklgbpnaa
