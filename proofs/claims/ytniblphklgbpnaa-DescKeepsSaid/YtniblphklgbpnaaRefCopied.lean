/- The document's own Copied: a world, its own lists in memory of their own. -/
import Derived.Test.YtniblphklgbpnaaRows
import Derived.Test.YtniblphklgbpnaaKit
import Derived.Test.YtniblphklgbpnaaStrs
import Derived.Test.YtniblphklgbpnaaCoin
import Derived.Test.YtniblphklgbpnaaBlk
import Derived.Test.YtniblphklgbpnaaHolds
import Derived.Test.YtniblphklgbpnaaWorldMath
import Derived.Test.YtniblphklgbpnaaWorldAt
import Derived.Test.YtniblphklgbpnaaDescFloors
import Derived.Test.YtniblphklgbpnaaDescClone
import Derived.Test.YtniblphklgbpnaaDescCopy
import Derived.Test.YtniblphklgbpnaaDescCopy2
import Derived.OwnWalk
import Derived.Deep.QuietTactic
import Derived.BigQuiet
import Derived.WalkKit
import Derived.ProofKit
import Derived.OpenShut
import Derived.IntWalk
namespace Go.Proofs.Ytniblphklgbpnaa
open Go.ChangeShapes Go.WideShapes Go.ChangeAt Go.RowKit
set_option linter.unusedVariables false
open Go.RowKit
theorem below_cast {n m : Nat} {a b : World} (h : Below n a b) (e : n = m) : Below m a b := e ▸ h
set_option maxRecDepth 100000 in
set_option maxHeartbeats 400000 in
theorem copied_any (x : Wd) (p : Wp) (w : World) (h : WorldAt w p x) (hf : FewW x) :
    Calls Try.prog 20 #[.agg #[.slice p.d.ex x.d.exits.length p.d.exc, .slice p.d.pl x.d.players.length p.d.plc, .slice p.d.co x.d.coins.length p.d.coc, .slice p.d.it x.d.items.length p.d.itc, .slice p.d.bo x.d.boxes.length p.d.boc, .int .i64 x.d.room, .int .i64 x.d.player, .int .i64 x.d.box, .slice p.at_ x.at_.length p.atc, .slice p.co x.coins.length p.coc, .slice p.wh x.wher.length p.whc]] w fun e w' => ∃ q : Wp, e = .returned (.agg #[.slice q.d.ex x.d.exits.length q.d.exc, .slice q.d.pl x.d.players.length q.d.plc, .slice q.d.co x.d.coins.length q.d.coc, .slice q.d.it x.d.items.length q.d.itc, .slice q.d.bo x.d.boxes.length q.d.boc, .int .i64 x.d.room, .int .i64 x.d.player, .int .i64 x.d.box, .slice q.at_ x.at_.length q.atc, .slice q.co x.coins.length q.coc, .slice q.wh x.wher.length q.whc]) ∧ WorldAt w' q x ∧ Below w.heap.size w w' := by
  have H := Lib.hid h
  have HF := Lib.hid hf
  clear h hf
  have C0 := Lib.hid (Two.start 29 29 w #[.slice p.d.ex x.d.exits.length p.d.exc, .slice p.d.pl x.d.players.length p.d.plc, .slice p.d.co x.d.coins.length p.d.coc, .slice p.d.it x.d.items.length p.d.itc, .slice p.d.bo x.d.boxes.length p.d.boc, .int .i64 x.d.room, .int .i64 x.d.player, .int .i64 x.d.box, .slice p.at_ x.at_.length p.atc, .slice p.co x.coins.length p.coc, .slice p.wh x.wher.length p.whc] #[.slice none 0 0, .slice none 0 0, .slice none 0 0, .slice none 0 0, .slice none 0 0, .int .i64 0, .int .i64 0, .int .i64 0, .slice none 0 0, .slice none 0 0, .slice none 0 0])
  generalize hw0 : (w.alloc (.cells #[.slice p.d.ex x.d.exits.length p.d.exc, .slice p.d.pl x.d.players.length p.d.plc, .slice p.d.co x.d.coins.length p.d.coc, .slice p.d.it x.d.items.length p.d.itc, .slice p.d.bo x.d.boxes.length p.d.boc, .int .i64 x.d.room, .int .i64 x.d.player, .int .i64 x.d.box, .slice p.at_ x.at_.length p.atc, .slice p.co x.coins.length p.coc, .slice p.wh x.wher.length p.whc] 29)).alloc (.cells #[.slice none 0 0, .slice none 0 0, .slice none 0 0, .slice none 0 0, .slice none 0 0, .int .i64 0, .int .i64 0, .int .i64 0, .slice none 0 0, .slice none 0 0, .slice none 0 0] 29) = v0 at C0
  obtain ⟨g0, c0, u0, w1, hr0, hg0, hb0, hc0, hl0⟩ := append_row 23 3 1 8 (.int .i64 0) inC Try.underlying23 int_info rfl (by decide) (by decide) inC_len inC_one (cap := p.atc) (xs := x.at_) (w.heap.size + 1 + 1) (Blk.newn v0 3 #[] (n := w.heap.size + 1 + 1) (by rw [← hw0]; simp)) (RowAt.alloc (ints_row.1 (H.out.below C0.out.b (Nat.le_refl _)).at_) _) HF.out.2.1
  have R0 := Lib.hid hr0
  have B0 := Lib.hid (show Below v0.heap.size v0 w1 from ((Below.refl _ _).alloc (Nat.le_refl _) (.cells #[] 3)).trans (below_cast hl0 (by rw [← hw0]; simp)))
  have O0 := Lib.hid (show OwnR 1 3 inC (w.heap.size + 2) w1 (some ⟨g0, 0, none⟩) x.at_ from ⟨((ints_row.1 (H.out.below C0.out.b (Nat.le_refl _)).at_)).1, .inr ⟨g0, u0, rfl, Nat.le_trans (by omega) hg0, hb0, hc0⟩⟩)
  have D0 := Lib.hid (C0.out.call B0.out)
  have C1 := Lib.hid (show Two 29 29 w (w1.setCell ⟨w.heap.size, 8, none⟩ (.slice (some ⟨g0, 0, none⟩) x.at_.length c0)) #[.slice p.d.ex x.d.exits.length p.d.exc, .slice p.d.pl x.d.players.length p.d.plc, .slice p.d.co x.d.coins.length p.d.coc, .slice p.d.it x.d.items.length p.d.itc, .slice p.d.bo x.d.boxes.length p.d.boc, .int .i64 x.d.room, .int .i64 x.d.player, .int .i64 x.d.box, .slice (some ⟨g0, 0, none⟩) x.at_.length c0, .slice p.co x.coins.length p.coc, .slice p.wh x.wher.length p.whc] #[.slice none 0 0, .slice none 0 0, .slice none 0 0, .slice none 0 0, .slice none 0 0, .int .i64 0, .int .i64 0, .int .i64 0, .slice none 0 0, .slice none 0 0, .slice none 0 0] from D0.out.set 8 _)
  have O0 := Lib.hid (O0.out.set (q := w.heap.size) (by omega) 8 (.slice (some ⟨g0, 0, none⟩) x.at_.length c0))
  clear hr0 hg0 hb0 hc0 hl0
  generalize hw1 : w1.setCell ⟨w.heap.size, 8, none⟩ (.slice (some ⟨g0, 0, none⟩) x.at_.length c0) = v1 at *
  obtain ⟨g1, c1, u1, w2, hr1, hg1, hb1, hc1, hl1⟩ := append_row 23 3 1 8 (.int .i64 0) inC Try.underlying23 int_info rfl (by decide) (by decide) inC_len inC_one (cap := p.coc) (xs := x.coins) w1.heap.size (Blk.newn v1 3 #[] (n := w1.heap.size) (by rw [← hw1]; simp [World.setCell])) (RowAt.alloc (ints_row.1 (H.out.below C1.out.b (Nat.le_refl _)).co) _) HF.out.2.2.1
  have R1 := Lib.hid hr1
  have B1 := Lib.hid (show Below v1.heap.size v1 w2 from ((Below.refl _ _).alloc (Nat.le_refl _) (.cells #[] 3)).trans (below_cast hl1 (by rw [← hw1]; simp [World.setCell])))
  have O1 := Lib.hid (show OwnR 1 3 inC (w.heap.size + 2) w2 (some ⟨g1, 0, none⟩) x.coins from ⟨((ints_row.1 (H.out.below C1.out.b (Nat.le_refl _)).co)).1, .inr ⟨g1, u1, rfl, Nat.le_trans D0.out.size hg1, hb1, hc1⟩⟩)
  have O0 := Lib.hid (O0.out.call B1.out)
  have D1 := Lib.hid (C1.out.call B1.out)
  have C2 := Lib.hid (show Two 29 29 w (w2.setCell ⟨w.heap.size, 9, none⟩ (.slice (some ⟨g1, 0, none⟩) x.coins.length c1)) #[.slice p.d.ex x.d.exits.length p.d.exc, .slice p.d.pl x.d.players.length p.d.plc, .slice p.d.co x.d.coins.length p.d.coc, .slice p.d.it x.d.items.length p.d.itc, .slice p.d.bo x.d.boxes.length p.d.boc, .int .i64 x.d.room, .int .i64 x.d.player, .int .i64 x.d.box, .slice (some ⟨g0, 0, none⟩) x.at_.length c0, .slice (some ⟨g1, 0, none⟩) x.coins.length c1, .slice p.wh x.wher.length p.whc] #[.slice none 0 0, .slice none 0 0, .slice none 0 0, .slice none 0 0, .slice none 0 0, .int .i64 0, .int .i64 0, .int .i64 0, .slice none 0 0, .slice none 0 0, .slice none 0 0] from D1.out.set 9 _)
  have O0 := Lib.hid (O0.out.set (q := w.heap.size) (by omega) 9 (.slice (some ⟨g1, 0, none⟩) x.coins.length c1))
  have O1 := Lib.hid (O1.out.set (q := w.heap.size) (by omega) 9 (.slice (some ⟨g1, 0, none⟩) x.coins.length c1))
  clear hr1 hg1 hb1 hc1 hl1
  generalize hw2 : w2.setCell ⟨w.heap.size, 9, none⟩ (.slice (some ⟨g1, 0, none⟩) x.coins.length c1) = v2 at *
  obtain ⟨g2, c2, u2, w3, hr2, hg2, hb2, hc2, hl2⟩ := append_row 27 41 2 16 (.agg #[.int .i64 0, .int .i64 0]) plC Try.underlying27 place_info rfl (by decide) (by decide) plC_len plC_one (cap := p.whc) (xs := x.wher) w2.heap.size (Blk.newn v2 41 #[] (n := w2.heap.size) (by rw [← hw2]; simp [World.setCell])) (RowAt.alloc (H.out.below C2.out.b (Nat.le_refl _)).wh _) HF.out.2.2.2
  have R2 := Lib.hid hr2
  have B2 := Lib.hid (show Below v2.heap.size v2 w3 from ((Below.refl _ _).alloc (Nat.le_refl _) (.cells #[] 41)).trans (below_cast hl2 (by rw [← hw2]; simp [World.setCell])))
  have O2 := Lib.hid (show OwnR 2 41 plC (w.heap.size + 2) w3 (some ⟨g2, 0, none⟩) x.wher from ⟨((H.out.below C2.out.b (Nat.le_refl _)).wh).1, .inr ⟨g2, u2, rfl, Nat.le_trans D1.out.size hg2, hb2, hc2⟩⟩)
  have O0 := Lib.hid (O0.out.call B2.out)
  have O1 := Lib.hid (O1.out.call B2.out)
  have D2 := Lib.hid (C2.out.call B2.out)
  have C3 := Lib.hid (show Two 29 29 w (w3.setCell ⟨w.heap.size, 10, none⟩ (.slice (some ⟨g2, 0, none⟩) x.wher.length c2)) #[.slice p.d.ex x.d.exits.length p.d.exc, .slice p.d.pl x.d.players.length p.d.plc, .slice p.d.co x.d.coins.length p.d.coc, .slice p.d.it x.d.items.length p.d.itc, .slice p.d.bo x.d.boxes.length p.d.boc, .int .i64 x.d.room, .int .i64 x.d.player, .int .i64 x.d.box, .slice (some ⟨g0, 0, none⟩) x.at_.length c0, .slice (some ⟨g1, 0, none⟩) x.coins.length c1, .slice (some ⟨g2, 0, none⟩) x.wher.length c2] #[.slice none 0 0, .slice none 0 0, .slice none 0 0, .slice none 0 0, .slice none 0 0, .int .i64 0, .int .i64 0, .int .i64 0, .slice none 0 0, .slice none 0 0, .slice none 0 0] from D2.out.set 10 _)
  have O0 := Lib.hid (O0.out.set (q := w.heap.size) (by omega) 10 (.slice (some ⟨g2, 0, none⟩) x.wher.length c2))
  have O1 := Lib.hid (O1.out.set (q := w.heap.size) (by omega) 10 (.slice (some ⟨g2, 0, none⟩) x.wher.length c2))
  have O2 := Lib.hid (O2.out.set (q := w.heap.size) (by omega) 10 (.slice (some ⟨g2, 0, none⟩) x.wher.length c2))
  clear hr2 hg2 hb2 hc2 hl2
  have HW1 := Lib.hid hw1
  have HW2 := Lib.hid hw2
  clear hw1 hw2
  subst hw0
  have k1 := D0.out.a.cell
  have f1 := D0.out.a.frozen
  have k2 := D1.out.a.cell
  have f2 := D1.out.a.frozen
  have k3 := D2.out.a.cell
  have f3 := D2.out.a.frozen
  have hc2 := D2.out.r.cell
  have hz2 := D2.out.r.frozen
  have hs2 := D2.out.size
  have ls1 : w.heap.size < w1.heap.size := D0.out.a.lt
  have ls2 : w.heap.size < w2.heap.size := D1.out.a.lt
  have ls3 : w.heap.size < w3.heap.size := D2.out.a.lt
  have ls4 : w.heap.size + 1 < w3.heap.size := D2.out.r.lt
  go_enter Try.func20, Try.ntmps20
  go_wp2_with (at_builtin; first | (refine append_step1 rfl (.tmp 3) (.tmp 5) 23 rfl _ _ _ w1 rfl rfl R0.out ?_; clear R0) | (rw [HW1.out]; refine append_step1 rfl (.tmp 8) (.tmp 10) 23 rfl _ _ _ w2 rfl rfl R1.out ?_; clear R1) | (rw [HW2.out]; refine append_step1 rfl (.tmp 13) (.tmp 15) 27 rfl _ _ _ w3 rfl rfl R2.out ?_))
  refine bodyPost_ret (v := .agg #[.slice p.d.ex x.d.exits.length p.d.exc, .slice p.d.pl x.d.players.length p.d.plc, .slice p.d.co x.d.coins.length p.d.coc, .slice p.d.it x.d.items.length p.d.itc, .slice p.d.bo x.d.boxes.length p.d.boc, .int .i64 x.d.room, .int .i64 x.d.player, .int .i64 x.d.box, .slice (some ⟨g0, 0, none⟩) x.at_.length c0, .slice (some ⟨g1, 0, none⟩) x.coins.length c1, .slice (some ⟨g2, 0, none⟩) x.wher.length c2]) (by simp [results, Try.results20, go_sem, hc2, hs2]) rfl ⟨⟨p.d, some ⟨g0, 0, none⟩, c0, some ⟨g1, 0, none⟩, c1, some ⟨g2, 0, none⟩, c2⟩, rfl, ⟨H.out.d.below ?_ (Nat.le_refl _), ints_row.2 ?_, ints_row.2 ?_, ?_⟩, ?_⟩
  · iterate 11 refine Below.setCell ?_ (by show w.heap.size ≤ w.heap.size + 1; omega) _
    exact C3.out.b
  · refine OwnR.row (n := w.heap.size + 2) (e := 3) ?_
    iterate 11 refine OwnR.set (q := w.heap.size + 1) ?_ (by omega) _ _
    exact O0.out
  · refine OwnR.row (n := w.heap.size + 2) (e := 3) ?_
    iterate 11 refine OwnR.set (q := w.heap.size + 1) ?_ (by omega) _ _
    exact O1.out
  · refine OwnR.row (n := w.heap.size + 2) (e := 41) ?_
    iterate 11 refine OwnR.set (q := w.heap.size + 1) ?_ (by omega) _ _
    exact O2.out
  · iterate 11 refine Below.setCell ?_ (by show w.heap.size ≤ w.heap.size + 1; omega) _
    exact C3.out.b
end Go.Proofs.Ytniblphklgbpnaa
