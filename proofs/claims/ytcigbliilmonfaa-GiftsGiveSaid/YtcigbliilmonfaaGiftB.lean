/- gifts: a world in new memory; items brought somewhere. -/
import Derived.Test.YtcigbliilmonfaaRows
import Derived.Test.YtcigbliilmonfaaKit
import Derived.Test.YtcigbliilmonfaaGMem
import Derived.Test.YtcigbliilmonfaaCoin
import Derived.Test.YtcigbliilmonfaaGWorld
import Derived.Test.YtcigbliilmonfaaGCopy
import Derived.Test.YtcigbliilmonfaaGDescN
import Derived.Test.YtcigbliilmonfaaGRight
import Derived.Test.YtcigbliilmonfaaGRefD
import Derived.Test.YtcigbliilmonfaaGEq
import Derived.Test.YtcigbliilmonfaaGAs
import Derived.Test.YtcigbliilmonfaaGTreeL
import Derived.Test.YtcigbliilmonfaaGHoldA
import Derived.Test.YtcigbliilmonfaaGiftMath
import Derived.Deep.QuietTactic
import Derived.BigQuiet
import Derived.Deep.RegionHeld3
import Derived.WalkKit
import Derived.ProofKit
import Derived.OpenShut
import Derived.IntWalk
namespace Go.Proofs.Ytcigbliilmonfaa
open Go.ChangeShapes Go.WideShapes Go.ChangeAt Go.RowKit
set_option linter.unusedVariables false
open Go.RowKit
section
variable {t u s : TypeId} {w v v1 : World} {cs ds z : Array Value}
theorem Tri.setr (h : Tri t u s w v cs ds z) (i : Nat) (y : Value) : Tri t u s w (v.setCell ⟨w.heap.size + 2, i, none⟩ y) cs ds (z.setIfInBounds i y) :=
  ⟨h.a.far (by show w.heap.size ≠ w.heap.size + 2; omega) y, h.m.far (by show w.heap.size + 1 ≠ w.heap.size + 2; omega) y, h.r.set_ i y, h.b.setCell (by show w.heap.size ≤ w.heap.size + 2; omega) y⟩
theorem Tri.seta (h : Tri t u s w v cs ds z) (i : Nat) (y : Value) : Tri t u s w (v.setCell ⟨w.heap.size, i, none⟩ y) (cs.setIfInBounds i y) ds z :=
  ⟨h.a.set_ i y, h.m.far (by show w.heap.size + 1 ≠ w.heap.size; omega) y, h.r.far (by show w.heap.size + 2 ≠ w.heap.size; omega) y, h.b.setCell (by show w.heap.size ≤ w.heap.size; omega) y⟩
theorem Tri.drew (h : Tri t u s w v cs ds z) : Tri t u s w v.drew cs ds z := h.call (bdrew1 (Below.refl _ _))
theorem Tri.setm (h : Tri t u s w v cs ds z) (i : Nat) (y : Value) : Tri t u s w (v.setCell ⟨w.heap.size + 1, i, none⟩ y) cs (ds.setIfInBounds i y) z :=
  ⟨h.a.far (by show w.heap.size ≠ w.heap.size + 1; omega) y, h.m.set_ i y, h.r.far (by show w.heap.size + 2 ≠ w.heap.size + 1; omega) y, h.b.setCell (by show w.heap.size ≤ w.heap.size + 1; omega) y⟩
end
def TriM (t u s : TypeId) (w v : World) (cs z : Array Value) : Prop := ∃ ds, Tri t u s w v cs ds z
theorem TriM.mk {t u s : TypeId} {w v : World} {cs ds z : Array Value} (h : Tri t u s w v cs ds z) : TriM t u s w v cs z := ⟨ds, h⟩
theorem TriM.setm {t u s : TypeId} {w v : World} {cs z : Array Value} (h : TriM t u s w v cs z) (i : Nat) (y : Value) : TriM t u s w (v.setCell ⟨w.heap.size + 1, i, none⟩ y) cs z := h.elim fun _ h => ⟨_, h.setm i y⟩
theorem trim_S {t u s : TypeId} {w v : World} {cs z : Array Value} (h : TriM t u s w v cs z) : Below w.heap.size w v ∧ w.heap.size + 2 < v.heap.size ∧ (∀ i, v.cell? ⟨w.heap.size, i, none⟩ = cs[i]?) ∧ (∀ i, v.cell? ⟨w.heap.size + 2, i, none⟩ = z[i]?) := h.elim fun _ h => ⟨h.b, h.r.lt, h.a.cell, h.r.cell⟩
theorem tri_S {t u s : TypeId} {w v : World} {cs ds z : Array Value} (h : Tri t u s w v cs ds z) : Below w.heap.size w v ∧ w.heap.size + 2 < v.heap.size ∧ (∀ i, v.cell? ⟨w.heap.size, i, none⟩ = cs[i]?) ∧ (∀ i, v.cell? ⟨w.heap.size + 2, i, none⟩ = z[i]?) := ⟨h.b, h.r.lt, h.a.cell, h.r.cell⟩
set_option maxRecDepth 100000 in
set_option maxHeartbeats 1000000 in
theorem anew_any (x : Wd) (p : Wp) (w : World) (h : WorldAt w p x) (hf : FewW x) :
    Calls Try.prog 31 #[.agg #[.slice p.d.ex x.d.exits.length p.d.exc, .slice p.d.pl x.d.players.length p.d.plc, .slice p.d.co x.d.coins.length p.d.coc, .slice p.d.it x.d.items.length p.d.itc, .slice p.d.bo x.d.boxes.length p.d.boc, .int .i64 x.d.room, .int .i64 x.d.player, .int .i64 x.d.box, .slice p.at_ x.at_.length p.atc, .slice p.co x.coins.length p.coc, .slice p.wh x.wher.length p.whc]] w fun e w' => ∃ p' : Wp, e = .returned (.agg #[.slice p'.d.ex x.d.exits.length p'.d.exc, .slice p'.d.pl x.d.players.length p'.d.plc, .slice p'.d.co x.d.coins.length p'.d.coc, .slice p'.d.it x.d.items.length p'.d.itc, .slice p'.d.bo x.d.boxes.length p'.d.boc, .int .i64 x.d.room, .int .i64 x.d.player, .int .i64 x.d.box, .slice p'.at_ x.at_.length p'.atc, .slice p'.co x.coins.length p'.coc, .slice p'.wh x.wher.length p'.whc]) ∧ WorldOwn w.heap.size w' p' x ∧ Below w.heap.size w w' := by
  have H := Lib.hid h
  have HF := Lib.hid hf
  clear h hf
  have C0 := Lib.hid (Tri.start 29 29 26 w #[.slice p.d.ex x.d.exits.length p.d.exc, .slice p.d.pl x.d.players.length p.d.plc, .slice p.d.co x.d.coins.length p.d.coc, .slice p.d.it x.d.items.length p.d.itc, .slice p.d.bo x.d.boxes.length p.d.boc, .int .i64 x.d.room, .int .i64 x.d.player, .int .i64 x.d.box, .slice p.at_ x.at_.length p.atc, .slice p.co x.coins.length p.coc, .slice p.wh x.wher.length p.whc] #[.slice none 0 0, .slice none 0 0, .slice none 0 0, .slice none 0 0, .slice none 0 0, .int .i64 0, .int .i64 0, .int .i64 0, .slice none 0 0, .slice none 0 0, .slice none 0 0] #[.slice p.d.ex x.d.exits.length p.d.exc, .slice p.d.pl x.d.players.length p.d.plc, .slice p.d.co x.d.coins.length p.d.coc, .slice p.d.it x.d.items.length p.d.itc, .slice p.d.bo x.d.boxes.length p.d.boc, .int .i64 x.d.room, .int .i64 x.d.player, .int .i64 x.d.box])
  go_enter Try.func31, Try.ntmps31
  go_wp2_with fail
  generalize hw0 : (((w.alloc (.cells #[.slice p.d.ex x.d.exits.length p.d.exc, .slice p.d.pl x.d.players.length p.d.plc, .slice p.d.co x.d.coins.length p.d.coc, .slice p.d.it x.d.items.length p.d.itc, .slice p.d.bo x.d.boxes.length p.d.boc, .int .i64 x.d.room, .int .i64 x.d.player, .int .i64 x.d.box, .slice p.at_ x.at_.length p.atc, .slice p.co x.coins.length p.coc, .slice p.wh x.wher.length p.whc] 29)).alloc (.cells #[.slice none 0 0, .slice none 0 0, .slice none 0 0, .slice none 0 0, .slice none 0 0, .int .i64 0, .int .i64 0, .int .i64 0, .slice none 0 0, .slice none 0 0, .slice none 0 0] 29)).alloc (.cells #[.slice p.d.ex x.d.exits.length p.d.exc, .slice p.d.pl x.d.players.length p.d.plc, .slice p.d.co x.d.coins.length p.d.coc, .slice p.d.it x.d.items.length p.d.itc, .slice p.d.bo x.d.boxes.length p.d.boc, .int .i64 x.d.room, .int .i64 x.d.player, .int .i64 x.d.box] 26)) = v0 at *
  clear hw0
  refine (clone_exits _ _ _ v0 (H.out.d.below C0.out.b (Nat.le_refl _)).ex HF.out.1.1).mono ?_
  rintro e w1 ⟨g0, c0, rfl, o0, b0⟩
  have O0 := Lib.hid (o0.less C0.out.size)
  have D0 := Lib.hid (C0.out.call b0)
  have C1 := Lib.hid (show Tri 29 29 26 w (w1.setCell ⟨w.heap.size + 2, 0, none⟩ (.slice g0 x.d.exits.length c0)) #[.slice p.d.ex x.d.exits.length p.d.exc, .slice p.d.pl x.d.players.length p.d.plc, .slice p.d.co x.d.coins.length p.d.coc, .slice p.d.it x.d.items.length p.d.itc, .slice p.d.bo x.d.boxes.length p.d.boc, .int .i64 x.d.room, .int .i64 x.d.player, .int .i64 x.d.box, .slice p.at_ x.at_.length p.atc, .slice p.co x.coins.length p.coc, .slice p.wh x.wher.length p.whc] #[.slice none 0 0, .slice none 0 0, .slice none 0 0, .slice none 0 0, .slice none 0 0, .int .i64 0, .int .i64 0, .int .i64 0, .slice none 0 0, .slice none 0 0, .slice none 0 0] #[.slice g0 x.d.exits.length c0, .slice p.d.pl x.d.players.length p.d.plc, .slice p.d.co x.d.coins.length p.d.coc, .slice p.d.it x.d.items.length p.d.itc, .slice p.d.bo x.d.boxes.length p.d.boc, .int .i64 x.d.room, .int .i64 x.d.player, .int .i64 x.d.box] from D0.out.setr 0 _)
  have O0 := Lib.hid (O0.out.set (q := w.heap.size + 2) (by omega) 0 (.slice g0 x.d.exits.length c0))
  have hc : ∀ i, World.cell? _ ⟨w.heap.size + 1 + 1, i, none⟩ = _ := D0.out.r.cell
  have hz : ∀ i, World.frozen? _ ⟨w.heap.size + 1 + 1, i, none⟩ = false := D0.out.r.frozen
  have hs : w.heap.size + 1 + 1 < _ := D0.out.r.lt
  clear o0 b0
  go_wp2_with fail
  clear hc hz hs
  generalize hw1 : w1.setCell ⟨w.heap.size + 2, 0, none⟩ (.slice g0 x.d.exits.length c0) = v1 at *
  clear hw1
  refine (clone_ints _ _ _ v1 (ints_row.1 (H.out.d.below C1.out.b (Nat.le_refl _)).pl) HF.out.1.2.1).mono ?_
  rintro e w2 ⟨g1, c1, rfl, o1, b1⟩
  have O1 := Lib.hid (o1.less C1.out.size)
  have O0 := Lib.hid (O0.out.call b1)
  have D1 := Lib.hid (C1.out.call b1)
  have C2 := Lib.hid (show Tri 29 29 26 w (w2.setCell ⟨w.heap.size + 2, 1, none⟩ (.slice g1 x.d.players.length c1)) #[.slice p.d.ex x.d.exits.length p.d.exc, .slice p.d.pl x.d.players.length p.d.plc, .slice p.d.co x.d.coins.length p.d.coc, .slice p.d.it x.d.items.length p.d.itc, .slice p.d.bo x.d.boxes.length p.d.boc, .int .i64 x.d.room, .int .i64 x.d.player, .int .i64 x.d.box, .slice p.at_ x.at_.length p.atc, .slice p.co x.coins.length p.coc, .slice p.wh x.wher.length p.whc] #[.slice none 0 0, .slice none 0 0, .slice none 0 0, .slice none 0 0, .slice none 0 0, .int .i64 0, .int .i64 0, .int .i64 0, .slice none 0 0, .slice none 0 0, .slice none 0 0] #[.slice g0 x.d.exits.length c0, .slice g1 x.d.players.length c1, .slice p.d.co x.d.coins.length p.d.coc, .slice p.d.it x.d.items.length p.d.itc, .slice p.d.bo x.d.boxes.length p.d.boc, .int .i64 x.d.room, .int .i64 x.d.player, .int .i64 x.d.box] from D1.out.setr 1 _)
  have O0 := Lib.hid (O0.out.set (q := w.heap.size + 2) (by omega) 1 (.slice g1 x.d.players.length c1))
  have O1 := Lib.hid (O1.out.set (q := w.heap.size + 2) (by omega) 1 (.slice g1 x.d.players.length c1))
  have hc : ∀ i, World.cell? _ ⟨w.heap.size + 1 + 1, i, none⟩ = _ := D1.out.r.cell
  have hz : ∀ i, World.frozen? _ ⟨w.heap.size + 1 + 1, i, none⟩ = false := D1.out.r.frozen
  have hs : w.heap.size + 1 + 1 < _ := D1.out.r.lt
  clear o1 b1
  go_wp2_with fail
  clear hc hz hs
  generalize hw2 : w2.setCell ⟨w.heap.size + 2, 1, none⟩ (.slice g1 x.d.players.length c1) = v2 at *
  clear hw2
  refine (clone_ints _ _ _ v2 (ints_row.1 (H.out.d.below C2.out.b (Nat.le_refl _)).co) HF.out.1.2.2.1).mono ?_
  rintro e w3 ⟨g2, c2, rfl, o2, b2⟩
  have O2 := Lib.hid (o2.less C2.out.size)
  have O0 := Lib.hid (O0.out.call b2)
  have O1 := Lib.hid (O1.out.call b2)
  have D2 := Lib.hid (C2.out.call b2)
  have C3 := Lib.hid (show Tri 29 29 26 w (w3.setCell ⟨w.heap.size + 2, 2, none⟩ (.slice g2 x.d.coins.length c2)) #[.slice p.d.ex x.d.exits.length p.d.exc, .slice p.d.pl x.d.players.length p.d.plc, .slice p.d.co x.d.coins.length p.d.coc, .slice p.d.it x.d.items.length p.d.itc, .slice p.d.bo x.d.boxes.length p.d.boc, .int .i64 x.d.room, .int .i64 x.d.player, .int .i64 x.d.box, .slice p.at_ x.at_.length p.atc, .slice p.co x.coins.length p.coc, .slice p.wh x.wher.length p.whc] #[.slice none 0 0, .slice none 0 0, .slice none 0 0, .slice none 0 0, .slice none 0 0, .int .i64 0, .int .i64 0, .int .i64 0, .slice none 0 0, .slice none 0 0, .slice none 0 0] #[.slice g0 x.d.exits.length c0, .slice g1 x.d.players.length c1, .slice g2 x.d.coins.length c2, .slice p.d.it x.d.items.length p.d.itc, .slice p.d.bo x.d.boxes.length p.d.boc, .int .i64 x.d.room, .int .i64 x.d.player, .int .i64 x.d.box] from D2.out.setr 2 _)
  have O0 := Lib.hid (O0.out.set (q := w.heap.size + 2) (by omega) 2 (.slice g2 x.d.coins.length c2))
  have O1 := Lib.hid (O1.out.set (q := w.heap.size + 2) (by omega) 2 (.slice g2 x.d.coins.length c2))
  have O2 := Lib.hid (O2.out.set (q := w.heap.size + 2) (by omega) 2 (.slice g2 x.d.coins.length c2))
  have hc : ∀ i, World.cell? _ ⟨w.heap.size + 1 + 1, i, none⟩ = _ := D2.out.r.cell
  have hz : ∀ i, World.frozen? _ ⟨w.heap.size + 1 + 1, i, none⟩ = false := D2.out.r.frozen
  have hs : w.heap.size + 1 + 1 < _ := D2.out.r.lt
  clear o2 b2
  go_wp2_with fail
  clear hc hz hs
  generalize hw3 : w3.setCell ⟨w.heap.size + 2, 2, none⟩ (.slice g2 x.d.coins.length c2) = v3 at *
  clear hw3
  refine (clone_ints _ _ _ v3 (ints_row.1 (H.out.d.below C3.out.b (Nat.le_refl _)).it) HF.out.1.2.2.2.1).mono ?_
  rintro e w4 ⟨g3, c3, rfl, o3, b3⟩
  have O3 := Lib.hid (o3.less C3.out.size)
  have O0 := Lib.hid (O0.out.call b3)
  have O1 := Lib.hid (O1.out.call b3)
  have O2 := Lib.hid (O2.out.call b3)
  have D3 := Lib.hid (C3.out.call b3)
  have C4 := Lib.hid (show Tri 29 29 26 w (w4.setCell ⟨w.heap.size + 2, 3, none⟩ (.slice g3 x.d.items.length c3)) #[.slice p.d.ex x.d.exits.length p.d.exc, .slice p.d.pl x.d.players.length p.d.plc, .slice p.d.co x.d.coins.length p.d.coc, .slice p.d.it x.d.items.length p.d.itc, .slice p.d.bo x.d.boxes.length p.d.boc, .int .i64 x.d.room, .int .i64 x.d.player, .int .i64 x.d.box, .slice p.at_ x.at_.length p.atc, .slice p.co x.coins.length p.coc, .slice p.wh x.wher.length p.whc] #[.slice none 0 0, .slice none 0 0, .slice none 0 0, .slice none 0 0, .slice none 0 0, .int .i64 0, .int .i64 0, .int .i64 0, .slice none 0 0, .slice none 0 0, .slice none 0 0] #[.slice g0 x.d.exits.length c0, .slice g1 x.d.players.length c1, .slice g2 x.d.coins.length c2, .slice g3 x.d.items.length c3, .slice p.d.bo x.d.boxes.length p.d.boc, .int .i64 x.d.room, .int .i64 x.d.player, .int .i64 x.d.box] from D3.out.setr 3 _)
  have O0 := Lib.hid (O0.out.set (q := w.heap.size + 2) (by omega) 3 (.slice g3 x.d.items.length c3))
  have O1 := Lib.hid (O1.out.set (q := w.heap.size + 2) (by omega) 3 (.slice g3 x.d.items.length c3))
  have O2 := Lib.hid (O2.out.set (q := w.heap.size + 2) (by omega) 3 (.slice g3 x.d.items.length c3))
  have O3 := Lib.hid (O3.out.set (q := w.heap.size + 2) (by omega) 3 (.slice g3 x.d.items.length c3))
  have hc : ∀ i, World.cell? _ ⟨w.heap.size + 1 + 1, i, none⟩ = _ := D3.out.r.cell
  have hz : ∀ i, World.frozen? _ ⟨w.heap.size + 1 + 1, i, none⟩ = false := D3.out.r.frozen
  have hs : w.heap.size + 1 + 1 < _ := D3.out.r.lt
  clear o3 b3
  go_wp2_with fail
  clear hc hz hs
  generalize hw4 : w4.setCell ⟨w.heap.size + 2, 3, none⟩ (.slice g3 x.d.items.length c3) = v4 at *
  clear hw4
  refine (clone_bools _ _ _ v4 (H.out.d.below C4.out.b (Nat.le_refl _)).bo HF.out.1.2.2.2.2).mono ?_
  rintro e w5 ⟨g4, c4, rfl, o4, b4⟩
  have O4 := Lib.hid (o4.less C4.out.size)
  have O0 := Lib.hid (O0.out.call b4)
  have O1 := Lib.hid (O1.out.call b4)
  have O2 := Lib.hid (O2.out.call b4)
  have O3 := Lib.hid (O3.out.call b4)
  have D4 := Lib.hid (C4.out.call b4)
  have C5 := Lib.hid (show Tri 29 29 26 w (w5.setCell ⟨w.heap.size + 2, 4, none⟩ (.slice g4 x.d.boxes.length c4)) #[.slice p.d.ex x.d.exits.length p.d.exc, .slice p.d.pl x.d.players.length p.d.plc, .slice p.d.co x.d.coins.length p.d.coc, .slice p.d.it x.d.items.length p.d.itc, .slice p.d.bo x.d.boxes.length p.d.boc, .int .i64 x.d.room, .int .i64 x.d.player, .int .i64 x.d.box, .slice p.at_ x.at_.length p.atc, .slice p.co x.coins.length p.coc, .slice p.wh x.wher.length p.whc] #[.slice none 0 0, .slice none 0 0, .slice none 0 0, .slice none 0 0, .slice none 0 0, .int .i64 0, .int .i64 0, .int .i64 0, .slice none 0 0, .slice none 0 0, .slice none 0 0] #[.slice g0 x.d.exits.length c0, .slice g1 x.d.players.length c1, .slice g2 x.d.coins.length c2, .slice g3 x.d.items.length c3, .slice g4 x.d.boxes.length c4, .int .i64 x.d.room, .int .i64 x.d.player, .int .i64 x.d.box] from D4.out.setr 4 _)
  have O0 := Lib.hid (O0.out.set (q := w.heap.size + 2) (by omega) 4 (.slice g4 x.d.boxes.length c4))
  have O1 := Lib.hid (O1.out.set (q := w.heap.size + 2) (by omega) 4 (.slice g4 x.d.boxes.length c4))
  have O2 := Lib.hid (O2.out.set (q := w.heap.size + 2) (by omega) 4 (.slice g4 x.d.boxes.length c4))
  have O3 := Lib.hid (O3.out.set (q := w.heap.size + 2) (by omega) 4 (.slice g4 x.d.boxes.length c4))
  have O4 := Lib.hid (O4.out.set (q := w.heap.size + 2) (by omega) 4 (.slice g4 x.d.boxes.length c4))
  have hc : ∀ i, World.cell? _ ⟨w.heap.size + 1 + 1, i, none⟩ = _ := D4.out.r.cell
  have hz : ∀ i, World.frozen? _ ⟨w.heap.size + 1 + 1, i, none⟩ = false := D4.out.r.frozen
  have hs : w.heap.size + 1 + 1 < _ := D4.out.r.lt
  have hca := D4.out.a.cell
  have hla := D4.out.a.lt
  clear o4 b4
  go_wp2_with fail
  clear hc hz hs hca hla
  generalize hw5 : w5.setCell ⟨w.heap.size + 2, 4, none⟩ (.slice g4 x.d.boxes.length c4) = v5 at *
  clear hw5
  have C5 := Lib.hid C5.out.drew
  have O0 := Lib.hid (show OwnR _ _ _ (w.heap.size + 3) v5.drew _ _ from O0.out)
  have O1 := Lib.hid (show OwnR _ _ _ (w.heap.size + 3) v5.drew _ _ from O1.out)
  have O2 := Lib.hid (show OwnR _ _ _ (w.heap.size + 3) v5.drew _ _ from O2.out)
  have O3 := Lib.hid (show OwnR _ _ _ (w.heap.size + 3) v5.drew _ _ from O3.out)
  have O4 := Lib.hid (show OwnR _ _ _ (w.heap.size + 3) v5.drew _ _ from O4.out)
  refine wp_region_noPanic ?_
  refine wp_region_held_drew (S := (fun w' => Below w.heap.size w w' ∧ w.heap.size + 2 < w'.heap.size ∧ (∀ i, w'.cell? ⟨w.heap.size, i, none⟩ = (#[.slice p.d.ex x.d.exits.length p.d.exc, .slice p.d.pl x.d.players.length p.d.plc, .slice p.d.co x.d.coins.length p.d.coc, .slice p.d.it x.d.items.length p.d.itc, .slice p.d.bo x.d.boxes.length p.d.boc, .int .i64 x.d.room, .int .i64 x.d.player, .int .i64 x.d.box, .slice p.at_ x.at_.length p.atc, .slice p.co x.coins.length p.coc, .slice p.wh x.wher.length p.whc][i]? : Option Value)) ∧ (∀ i, w'.cell? ⟨w.heap.size + 2, i, none⟩ = (#[.slice g0 x.d.exits.length c0, .slice g1 x.d.players.length c1, .slice g2 x.d.coins.length c2, .slice g3 x.d.items.length c3, .slice g4 x.d.boxes.length c4, .int .i64 x.d.room, .int .i64 x.d.player, .int .i64 x.d.box][i]? : Option Value)))) (by kernel_rfl) (by (first | (with_reducible exact tri_S C5.out) | (with_reducible exact tri_S E1.out) | (with_reducible exact tri_S E2.out) | (with_reducible exact tri_S E3.out))) (fun hHeld => ?_)
  refine wpAnyH_take (i := 0) (v := ?_) (by simp only [List.getElem?_toArray, List.getElem?_cons_zero]; rfl) (by kernel_rfl) (by kernel_rfl) (by kernel_rfl) (fun _ _ _ h => h) (Or.inl ⟨by rfl, ?_⟩) (by assumption) ?_
  rotate_left
  · (intro ww hSw; (try dsimp only at hSw); go_simp; (try with_reducible rfl))
  try simp only [Act.put, List.setIfInBounds_toArray, List.set_cons_zero, List.set_cons_succ]
  refine wpAnyH_take (i := 1) (v := ?_) (by simp only [List.getElem?_toArray, List.getElem?_cons_succ, List.getElem?_cons_zero]; rfl) (by kernel_rfl) (by kernel_rfl) (by kernel_rfl) (fun _ _ _ h => h) (Or.inl ⟨by rfl, ?_⟩) (by assumption) ?_
  rotate_left
  · (intro ww hSw; (try dsimp only at hSw); go_simp; (try with_reducible rfl))
  try simp only [Act.put, List.setIfInBounds_toArray, List.set_cons_zero, List.set_cons_succ]
  refine wpAnyH_take (i := 2) (v := ?_) (by simp only [List.getElem?_toArray, List.getElem?_cons_succ, List.getElem?_cons_zero]; rfl) (by kernel_rfl) (by kernel_rfl) (by kernel_rfl) (fun _ _ _ h => h) (Or.inl ⟨by rfl, ?_⟩) (by assumption) ?_
  rotate_left
  · (intro ww hSw; (try dsimp only at hSw); go_simp; (try with_reducible rfl))
  try simp only [Act.put, List.setIfInBounds_toArray, List.set_cons_zero, List.set_cons_succ]
  refine wpAnyH_take (i := 4) (v := ?_) (by simp only [List.getElem?_toArray, List.getElem?_cons_succ, List.getElem?_cons_zero]; rfl) (by kernel_rfl) (by kernel_rfl) (by kernel_rfl) (fun _ _ _ h => h) (Or.inl ⟨by rfl, ?_⟩) (by assumption) ?_
  rotate_left
  · (intro ww hSw; (try dsimp only at hSw); go_simp; (try with_reducible rfl))
  try simp only [Act.put, List.setIfInBounds_toArray, List.set_cons_zero, List.set_cons_succ]
  refine wpAnyH_take (i := 5) (v := ?_) (by simp only [List.getElem?_toArray, List.getElem?_cons_succ, List.getElem?_cons_zero]; rfl) (by kernel_rfl) (by kernel_rfl) (by kernel_rfl) (fun _ _ _ h => h) (Or.inl ⟨by rfl, ?_⟩) (by assumption) ?_
  rotate_left
  · (intro ww hSw; (try dsimp only at hSw); go_simp; (try with_reducible rfl))
  try simp only [Act.put, List.setIfInBounds_toArray, List.set_cons_zero, List.set_cons_succ]
  refine wpAnyH_take (i := 7) (v := ?_) (by simp only [List.getElem?_toArray, List.getElem?_cons_succ, List.getElem?_cons_zero]; rfl) (by kernel_rfl) (by kernel_rfl) (by kernel_rfl) (fun _ _ _ h => h) (Or.inl ⟨by rfl, ?_⟩) (by assumption) ?_
  rotate_left
  · (intro ww hSw; (try dsimp only at hSw); go_simp; (try with_reducible rfl))
  try simp only [Act.put, List.setIfInBounds_toArray, List.set_cons_zero, List.set_cons_succ]
  refine wpAnyH_take (i := 8) (v := ?_) (by simp only [List.getElem?_toArray, List.getElem?_cons_succ, List.getElem?_cons_zero]; rfl) (by kernel_rfl) (by kernel_rfl) (by kernel_rfl) (fun _ _ _ h => h) (Or.inl ⟨by rfl, ?_⟩) (by assumption) ?_
  rotate_left
  · (intro ww hSw; (try dsimp only at hSw); go_simp; (try with_reducible rfl))
  try simp only [Act.put, List.setIfInBounds_toArray, List.set_cons_zero, List.set_cons_succ]
  refine wpAnyH_ready (rs := [3]) (by kernel_rfl) (by simp) (AllReadyH.cons (by simp only [List.getElem?_toArray, List.getElem?_cons_succ, List.getElem?_cons_zero]; rfl) (fun K hK => ?_) AllReadyH.nil)
  go_simp
  refine (clone_ints _ _ x.at_ _ (ints_row.1 (H.out.at_.below C5.out.b (Nat.le_refl _))) HF.out.2.1).mono ?_; rintro e w6 ⟨k1, kc1, rfl, q1, hb6⟩; have E1 := Lib.hid (C5.out.call hb6)
  try go_wp2_with fail
  refine hK.out _ _ (by (first | (with_reducible exact tri_S C5.out) | (with_reducible exact tri_S E1.out) | (with_reducible exact tri_S E2.out) | (with_reducible exact tri_S E3.out))) (fun hHeld => ?_)
  clear hK K
  try simp only [Act.put, List.setIfInBounds_toArray, List.set_cons_zero, List.set_cons_succ]
  refine wpAnyH_ready (rs := [6]) (by kernel_rfl) (by simp) (AllReadyH.cons (by simp only [List.getElem?_toArray, List.getElem?_cons_succ, List.getElem?_cons_zero]; rfl) (fun K hK => ?_) AllReadyH.nil)
  go_simp
  refine (clone_ints _ _ x.coins _ (ints_row.1 (H.out.co.below E1.out.b (Nat.le_refl _))) HF.out.2.2.1).mono ?_; rintro e w7 ⟨k2, kc2, rfl, q2, hb7⟩; have E2 := Lib.hid (E1.out.call hb7)
  try go_wp2_with fail
  refine hK.out _ _ (by (first | (with_reducible exact tri_S C5.out) | (with_reducible exact tri_S E1.out) | (with_reducible exact tri_S E2.out) | (with_reducible exact tri_S E3.out))) (fun hHeld => ?_)
  clear hK K
  try simp only [Act.put, List.setIfInBounds_toArray, List.set_cons_zero, List.set_cons_succ]
  refine wpAnyH_ready (rs := [9]) (by kernel_rfl) (by simp) (AllReadyH.cons (by simp only [List.getElem?_toArray, List.getElem?_cons_succ, List.getElem?_cons_zero]; rfl) (fun K hK => ?_) AllReadyH.nil)
  go_simp
  refine (clone_places _ _ x.wher _ (H.out.wh.below E2.out.b (Nat.le_refl _)) HF.out.2.2.2).mono ?_; rintro e w8 ⟨k3, kc3, rfl, q3, hb8⟩; have E3 := Lib.hid (E2.out.call hb8)
  try go_wp2_with fail
  refine hK.out _ _ (by (first | (with_reducible exact tri_S C5.out) | (with_reducible exact tri_S E1.out) | (with_reducible exact tri_S E2.out) | (with_reducible exact tri_S E3.out))) (fun hHeld => ?_)
  clear hK K
  try simp only [Act.put, List.setIfInBounds_toArray, List.set_cons_zero, List.set_cons_succ]
  have O := Lib.hid (world_own (p := ⟨⟨g0, c0, g1, c1, g2, c2, g3, c3, g4, c4⟩, k1, kc1, k2, kc2, k3, kc3⟩) (x := x) (show w.heap.size + 3 ≤ v5.drew.heap.size from C5.out.size) ⟨O0.out, O1.out, O2.out, O3.out, O4.out⟩ q1 hb6 q2 hb7 q3 hb8)
  have hc2 : ∀ i, World.cell? _ ⟨w.heap.size + 1, i, none⟩ = _ := E3.out.m.cell
  have hz2 : ∀ i, World.frozen? _ ⟨w.heap.size + 1, i, none⟩ = false := E3.out.m.frozen
  have hs2 := E3.out.m.lt
  clear q1 q2 q3 hb6 hb7 hb8
  refine wpAnyH_take (i := 10) (v := ?_) (by simp only [List.getElem?_toArray, List.getElem?_cons_succ, List.getElem?_cons_zero]; rfl) (by kernel_rfl) (by kernel_rfl) (by kernel_rfl) (fun _ _ _ h => h) (Or.inl ⟨by rfl, ?_⟩) (by assumption) ?_
  rotate_left
  · (intro ww hSw; (try dsimp only at hSw); go_simp; (try with_reducible rfl))
  try simp only [Act.put, List.setIfInBounds_toArray, List.set_cons_zero, List.set_cons_succ]
  refine wpAnyH_ready (rs := [11]) (by kernel_rfl) (by simp) (AllReadyH.cons (by simp only [List.getElem?_toArray, List.getElem?_cons_succ, List.getElem?_cons_zero]; rfl) (fun K hK => ?_) AllReadyH.nil)
  go_simp
  try go_wp2_with fail
  refine hK.out _ _ (by (first | (refine trim_S (t := 29) (u := 29) (s := 26) (w := w) ?_; (iterate 11 with_reducible refine TriM.setm ?_ _ _); with_reducible exact TriM.mk E3.out))) (fun hHeld => ?_)
  clear hK K
  try simp only [Act.put, List.setIfInBounds_toArray, List.set_cons_zero, List.set_cons_succ]
  refine wpAnyH_done (by kernel_rfl) ?_ _
  refine NoPanic.normal ?_
  go_wp2_with fail
  refine bodyPost_ret (v := .agg #[.slice g0 x.d.exits.length c0, .slice g1 x.d.players.length c1, .slice g2 x.d.coins.length c2, .slice g3 x.d.items.length c3, .slice g4 x.d.boxes.length c4, .int .i64 x.d.room, .int .i64 x.d.player, .int .i64 x.d.box, .slice k1 x.at_.length kc1, .slice k2 x.coins.length kc2, .slice k3 x.wher.length kc3]) (by simp [results, Try.results31, go_sem, hc2]) rfl ⟨⟨⟨g0, c0, g1, c1, g2, c2, g3, c3, g4, c4⟩, k1, kc1, k2, kc2, k3, kc3⟩, rfl, ?_, ?_⟩
  · refine WorldOwn.less (n := w.heap.size + 3) ?_ (by omega)
    iterate 11 refine WorldOwn.set (q := w.heap.size + 1) ?_ (by omega) _ _
    exact O.out
  · iterate 11 refine Below.setCell ?_ (by show w.heap.size ≤ w.heap.size + 1; omega) _
    exact E3.out.b
/-- All these items laid there. -/
def setLW (x : Wd) (l : List Nat) (y : Pl) : Wd := ⟨x.d, x.at_, x.coins, setL x.wher l y⟩
theorem setLW_shape (x : Wd) (l : List Nat) (y : Pl) : Shape x (setLW x l y) := ⟨rfl, rfl, rfl, rfl, rfl, rfl, rfl, rfl, rfl, rfl, by simp [setLW]⟩
theorem setLW_more (x : Wd) {l : List Nat} {j : Nat} (hj : j < l.length) (y : Pl) : setLW x (l.take (j + 1)) y = putW (setLW x (l.take j) y) l[j] y := by
  unfold setLW putW
  rw [List.take_succ_eq_append_getElem hj, setL_snoc]
theorem setLW_few {x : Wd} (h : FewW x) (l : List Nat) (y : Pl) : FewW (setLW x l y) := ⟨h.1, h.2.1, h.2.2.1, by simpa [setLW] using h.2.2.2⟩
theorem gto_as {x z : Wd} (hs : Shape x z) (p : Wp) (k : Nat) (y : Pl) (w : World) (h : WorldAt w p z) (hf : FewW z) (hk : k < z.wher.length) : Calls Try.prog 52 #[.agg #[.slice p.d.ex x.d.exits.length p.d.exc, .slice p.d.pl x.d.players.length p.d.plc, .slice p.d.co x.d.coins.length p.d.coc, .slice p.d.it x.d.items.length p.d.itc, .slice p.d.bo x.d.boxes.length p.d.boc, .int .i64 x.d.room, .int .i64 x.d.player, .int .i64 x.d.box, .slice p.at_ x.at_.length p.atc, .slice p.co x.coins.length p.coc, .slice p.wh x.wher.length p.whc], .int .i64 (k : Int), .agg #[.int .i64 y.kind, .int .i64 y.id]] w fun e w' => ∃ q : Wp, e = .returned (.agg #[.slice q.d.ex x.d.exits.length q.d.exc, .slice q.d.pl x.d.players.length q.d.plc, .slice q.d.co x.d.coins.length q.d.coc, .slice q.d.it x.d.items.length q.d.itc, .slice q.d.bo x.d.boxes.length q.d.boc, .int .i64 x.d.room, .int .i64 x.d.player, .int .i64 x.d.box, .slice q.at_ x.at_.length q.atc, .slice q.co x.coins.length q.coc, .slice q.wh x.wher.length q.whc]) ∧ WorldOwn w.heap.size w' q (putW z k y) ∧ Below w.heap.size w w' := by
  have := to_any z p k y w h hf hk
  simp only [hs.val] at this
  exact this
/-- The world that there was, or one of the call's own. -/
def Brought (B : Nat) (W : World) (p q : Wp) (x z : Wd) : Prop := (q = p ∧ z = x) ∨ WorldOwn B W q z
theorem Brought.world {w W : World} {B : Nat} {p q : Wp} {x z : Wd} (h : Brought B W p q x z) (hw : WorldAt w p x) (hb : Below w.heap.size w W) : WorldAt W q z := by
  rcases h with ⟨rfl, rfl⟩ | h
  · exact hw.below hb (Nat.le_refl _)
  · exact h.world
theorem Brought.call {B : Nat} {W W' : World} {p q : Wp} {x z : Wd} (h : Brought B W p q x z) (hb : Below W.heap.size W W') : Brought B W' p q x z := h.imp id (fun h => h.call hb)
theorem Brought.set {B : Nat} {W : World} {p q : Wp} {x z : Wd} (h : Brought B W p q x z) {b : Nat} (hb : b < B) (i : Nat) (u : Value) : Brought B (W.setCell ⟨b, i, none⟩ u) p q x z := h.imp id (fun h => h.set hb i u)
set_option maxRecDepth 100000 in
theorem blk_set11 {W : World} {g : Nat} {t : TypeId} {c0 c1 c2 c3 c4 c5 c6 c7 c8 c9 c10 u0 u1 u2 u3 u4 u5 u6 u7 u8 u9 u10 : Value} (h : Blk W g t #[c0, c1, c2, c3, c4, c5, c6, c7, c8, c9, c10]) :
    Blk (((((((((((W.setCell ⟨g, 0, none⟩ u0).setCell ⟨g, 1, none⟩ u1).setCell ⟨g, 2, none⟩ u2).setCell ⟨g, 3, none⟩ u3).setCell ⟨g, 4, none⟩ u4).setCell ⟨g, 5, none⟩ u5).setCell ⟨g, 6, none⟩ u6).setCell ⟨g, 7, none⟩ u7).setCell ⟨g, 8, none⟩ u8).setCell ⟨g, 9, none⟩ u9).setCell ⟨g, 10, none⟩ u10) g t #[u0, u1, u2, u3, u4, u5, u6, u7, u8, u9, u10] := by
  have := ((((((((((h.set_ 0 u0).set_ 1 u1).set_ 2 u2).set_ 3 u3).set_ 4 u4).set_ 5 u5).set_ 6 u6).set_ 7 u7).set_ 8 u8).set_ 9 u9).set_ 10 u10
  simpa using this
set_option maxRecDepth 100000 in
set_option maxHeartbeats 1000000 in
theorem gbring_any (x : Wd) (p : Wp) (l : List Nat) (a : Option Addr) (c : Nat) (y : Pl) (w : World) (n : Nat) (hn : n ≤ w.heap.size) (h : WorldOwn n w p x) (hf : FewW x) (hi : IntsAt w a (l.map fun (k : Nat) => (k : Int))) (hl : ∀ k ∈ l, k < x.wher.length) :
    Calls Try.prog 32 #[.agg #[.slice p.d.ex x.d.exits.length p.d.exc, .slice p.d.pl x.d.players.length p.d.plc, .slice p.d.co x.d.coins.length p.d.coc, .slice p.d.it x.d.items.length p.d.itc, .slice p.d.bo x.d.boxes.length p.d.boc, .int .i64 x.d.room, .int .i64 x.d.player, .int .i64 x.d.box, .slice p.at_ x.at_.length p.atc, .slice p.co x.coins.length p.coc, .slice p.wh x.wher.length p.whc], .slice a l.length c, .agg #[.int .i64 y.kind, .int .i64 y.id]] w fun e w' => ∃ q : Wp, e = .returned (.agg #[.slice q.d.ex x.d.exits.length q.d.exc, .slice q.d.pl x.d.players.length q.d.plc, .slice q.d.co x.d.coins.length q.d.coc, .slice q.d.it x.d.items.length q.d.itc, .slice q.d.bo x.d.boxes.length q.d.boc, .int .i64 x.d.room, .int .i64 x.d.player, .int .i64 x.d.box, .slice q.at_ x.at_.length q.atc, .slice q.co x.coins.length q.coc, .slice q.wh x.wher.length q.whc]) ∧ WorldOwn n w' q (setLW x l y) ∧ Below w.heap.size w w' := by
  have hm : l.length ≤ 9223372036854775807 := by simpa using hi.len
  have C0 := Lib.hid (Tri.start 29 54 29 w #[.slice p.d.ex x.d.exits.length p.d.exc, .slice p.d.pl x.d.players.length p.d.plc, .slice p.d.co x.d.coins.length p.d.coc, .slice p.d.it x.d.items.length p.d.itc, .slice p.d.bo x.d.boxes.length p.d.boc, .int .i64 x.d.room, .int .i64 x.d.player, .int .i64 x.d.box, .slice p.at_ x.at_.length p.atc, .slice p.co x.coins.length p.coc, .slice p.wh x.wher.length p.whc] #[.int .i64 y.kind, .int .i64 y.id] #[.slice none 0 0, .slice none 0 0, .slice none 0 0, .slice none 0 0, .slice none 0 0, .int .i64 0, .int .i64 0, .int .i64 0, .slice none 0 0, .slice none 0 0, .slice none 0 0])
  have H := Lib.hid h
  have HF := Lib.hid hf
  have HI := Lib.hid hi
  have HL := Lib.hid hl
  have HN := Lib.hid hn
  clear h hf hi hl hn
  go_enter Try.func32, Try.ntmps32
  go_wp2_with fail
  go_loopw [8, 11] (fun _ i wr => ∃ (j : Nat) (q : Wp), j ≤ l.length ∧ i = .int .i64 j ∧ Tri 29 54 29 w wr #[.slice q.d.ex x.d.exits.length q.d.exc, .slice q.d.pl x.d.players.length q.d.plc, .slice q.d.co x.d.coins.length q.d.coc, .slice q.d.it x.d.items.length q.d.itc, .slice q.d.bo x.d.boxes.length q.d.boc, .int .i64 x.d.room, .int .i64 x.d.player, .int .i64 x.d.box, .slice q.at_ x.at_.length q.atc, .slice q.co x.coins.length q.coc, .slice q.wh x.wher.length q.whc] #[.int .i64 y.kind, .int .i64 y.id] #[.slice none 0 0, .slice none 0 0, .slice none 0 0, .slice none 0 0, .slice none 0 0, .int .i64 0, .int .i64 0, .int .i64 0, .slice none 0 0, .slice none 0 0, .slice none 0 0] ∧ Brought (w.heap.size + 3) wr p q x (setLW x (l.take j) y)) (fun _ i _ => l.length - (intOf i).toNat)
  case atStart => exact ⟨0, p, Nat.zero_le _, rfl, C0.out, .inl ⟨rfl, by simp [setLW]⟩⟩
  case round =>
    obtain ⟨j, ⟨qd, qa, qac, qk, qkc, qw, qwc⟩, hj, rfl, hT, hB⟩ := hrel
    have HT := Lib.hid hT
    have HB := Lib.hid hB
    clear hB
    by_cases hlt : j < l.length
    · have HM := Lib.hid (setLW_more x hlt y)
      obtain ⟨b, o, rfl, hb, hc⟩ := HI.out.at_ (show j < (l.map fun (k : Nat) => (k : Int)).length by simpa using hlt)
      have c1 := hc j (by simpa using hlt)
      simp only [List.getElem_map] at c1
      have hk := Lib.hid (HL.out l[j] (List.getElem_mem hlt))
      clear hc hb
      generalize l[j] = k at *
      have c1 := cell_call c1 hT.b
      have hca := hT.a.cell
      have hla := hT.a.lt
      have hcm := hT.m.cell
      have hlm := hT.m.lt
      clear hT
      go_wp2_with fail
      refine (gto_as (setLW_shape x (l.take j) y) ⟨qd, qa, qac, qk, qkc, qw, qwc⟩ k y wr (HB.out.world H.out.world HT.out.b) (setLW_few HF.out _ _) (by rw [(setLW_shape x (l.take j) y).w]; exact hk.out)).mono ?_
      rintro e w2 ⟨⟨rd, ra, rac, rk, rkc, rw_, rwc⟩, rfl, ho, b2⟩
      have C2 := Lib.hid (HT.out.call b2)
      have HO := Lib.hid (ho.less HT.out.size)
      clear ho b2 hca hla hcm hlm c1
      have hca := C2.out.a.cell
      have hza := C2.out.a.frozen
      have hla := C2.out.a.lt
      go_wp2_with fail
      go_roundw
      case rel =>
        refine ⟨j + 1, ⟨rd, ra, rac, rk, rkc, rw_, rwc⟩, by omega, by go_num, ⟨blk_set11 C2.out.a, ?_, ?_, ?_⟩, .inr ?_⟩
        · iterate 11 with_reducible refine Blk.far ?_ (by show w.heap.size + 1 ≠ w.heap.size; omega) _
          exact C2.out.m
        · iterate 11 with_reducible refine Blk.far ?_ (by show w.heap.size + 2 ≠ w.heap.size; omega) _
          exact C2.out.r
        · iterate 11 with_reducible refine Below.setCell ?_ (by show w.heap.size ≤ w.heap.size; omega) _
          exact C2.out.b
        · rw [HM.out]
          iterate 11 with_reducible refine WorldOwn.set (q := w.heap.size) ?_ (by omega) _ _
          exact HO.out
      case measure => simp [intOf]; omega
    · have hke : j = l.length := by omega
      subst hke
      have HE := Lib.hid (show setLW x (l.take l.length) y = setLW x l y by rw [List.take_length])
      have hca := hT.a.cell
      have hla := hT.a.lt
      have hcr : ∀ i, World.cell? _ ⟨w.heap.size + 1 + 1, i, none⟩ = _ := hT.r.cell
      have hzr : ∀ i, World.frozen? _ ⟨w.heap.size + 1 + 1, i, none⟩ = false := hT.r.frozen
      have hlr : w.heap.size + 1 + 1 < _ := hT.r.lt
      clear hT
      go_wp2_with fail
      refine bodyPost_ret (v := .agg #[.slice qd.ex x.d.exits.length qd.exc, .slice qd.pl x.d.players.length qd.plc, .slice qd.co x.d.coins.length qd.coc, .slice qd.it x.d.items.length qd.itc, .slice qd.bo x.d.boxes.length qd.boc, .int .i64 x.d.room, .int .i64 x.d.player, .int .i64 x.d.box, .slice qa x.at_.length qac, .slice qk x.coins.length qkc, .slice qw x.wher.length qwc]) (by simp [results, Try.results32, go_sem, hcr]) rfl ⟨⟨qd, qa, qac, qk, qkc, qw, qwc⟩, rfl, ?_, ?_⟩
      · rcases HB.out with ⟨e1, e2⟩ | ho
        · rw [← HE.out, e2, e1]
          refine H.out.call ?_
          iterate 11 with_reducible refine Below.setCell ?_ (by show w.heap.size ≤ w.heap.size + 2; omega) _
          exact HT.out.b
        · rw [← HE.out]
          refine WorldOwn.less (n := w.heap.size + 3) ?_ (by have := HN.out; omega)
          iterate 11 with_reducible refine WorldOwn.set (q := w.heap.size + 2) ?_ (by omega) _ _
          exact ho
      · iterate 11 with_reducible refine Below.setCell ?_ (by show w.heap.size ≤ w.heap.size + 2; omega) _
        exact HT.out.b
end Go.Proofs.Ytcigbliilmonfaa
