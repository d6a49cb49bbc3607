/- desc.copyDesc: a description, each of its lists in memory of its own. -/
import Derived.Test.YtkhjmgedamndhaaRows
import Derived.Test.YtkhjmgedamndhaaKit
import Derived.Test.YtkhjmgedamndhaaStrs
import Derived.Test.YtkhjmgedamndhaaCoin
import Derived.Test.YtkhjmgedamndhaaBlk
import Derived.Test.YtkhjmgedamndhaaHolds
import Derived.Test.YtkhjmgedamndhaaWorldMath
import Derived.Test.YtkhjmgedamndhaaWorldAt
import Derived.Test.YtkhjmgedamndhaaDescClone
import Derived.Deep.QuietTactic
import Derived.BigQuiet
import Derived.WalkKit
import Derived.ProofKit
import Derived.OpenShut
import Derived.IntWalk
namespace Go.Proofs.Ytkhjmgedamndhaa
open Go.ChangeShapes Go.WideShapes Go.ChangeAt Go.RowKit
set_option linter.unusedVariables false
open Go.RowKit
section
variable {α : Type} {k : Nat} {e : TypeId} {enc : α → List Value} {n : Nat} {W W' : World} {a : Option Addr} {xs : List α}
theorem OwnR.keep (h : OwnR k e enc n W a xs) (hb : ∀ b, n ≤ b → b < W.heap.size → W'.heap[b]? = W.heap[b]?) : OwnR k e enc n W' a xs := by
  obtain ⟨hl, h⟩ := h
  refine ⟨hl, h.imp id ?_⟩
  rintro ⟨b, cs, rfl, hn, hB, hc⟩
  exact ⟨b, cs, rfl, hn, (hb b hn hB.lt).trans hB, hc⟩
theorem OwnR.call (h : OwnR k e enc n W a xs) (hb : Below W.heap.size W W') : OwnR k e enc n W' a xs := h.keep (fun b _ hl => hb.block b hl)
theorem OwnR.alloc (h : OwnR k e enc n W a xs) (o : Obj) : OwnR k e enc n (W.alloc o) a xs := h.call ((Below.refl _ _).alloc (Nat.le_refl _) _)
theorem OwnR.drew (h : OwnR k e enc n W a xs) : OwnR k e enc n W.drew a xs := h
theorem OwnR.set (h : OwnR k e enc n W a xs) {q : Nat} (hq : q < n) (i : Nat) (u : Value) : OwnR k e enc n (W.setCell ⟨q, i, none⟩ u) a xs :=
  h.keep (fun b hn _ => Below.heap_setCell W _ u b (by show b ≠ q; omega))
theorem OwnR.less (h : OwnR k e enc n W a xs) {m : Nat} (hm : m ≤ n) : OwnR k e enc m W a xs := by
  obtain ⟨hl, h⟩ := h
  refine ⟨hl, h.imp id ?_⟩
  rintro ⟨b, cs, rfl, hn, hB, hc⟩
  exact ⟨b, cs, rfl, by omega, hB, hc⟩
end
/-- A description whose lists lie each in a block of its own, from block n on. -/
structure DescOwn (n : Nat) (W : World) (p : Dp) (d : Ds) : Prop where
  ex : OwnR 4 41 exC n W p.ex d.exits
  pl : OwnR 1 3 inC n W p.pl d.players
  co : OwnR 1 3 inC n W p.co d.coins
  it : OwnR 1 3 inC n W p.it d.items
  bo : OwnR 1 4 blC n W p.bo d.boxes
theorem DescOwn.desc {n : Nat} {W : World} {p : Dp} {d : Ds} (h : DescOwn n W p d) : DescAt W p d := ⟨h.ex.row, ints_row.2 h.pl.row, ints_row.2 h.co.row, ints_row.2 h.it.row, h.bo.row⟩
theorem DescOwn.keep {n : Nat} {W W' : World} {p : Dp} {d : Ds} (h : DescOwn n W p d) (hb : ∀ b, n ≤ b → b < W.heap.size → W'.heap[b]? = W.heap[b]?) : DescOwn n W' p d := ⟨h.ex.keep hb, h.pl.keep hb, h.co.keep hb, h.it.keep hb, h.bo.keep hb⟩
theorem DescOwn.call {n : Nat} {W W' : World} {p : Dp} {d : Ds} (h : DescOwn n W p d) (hb : Below W.heap.size W W') : DescOwn n W' p d := h.keep (fun b _ hl => hb.block b hl)
/-- Short lists. -/
def FewD (d : Ds) : Prop := d.exits.length ≤ 1000000 ∧ d.players.length ≤ 1000000 ∧ d.coins.length ≤ 1000000 ∧ d.items.length ≤ 1000000 ∧ d.boxes.length ≤ 1000000
/-- The world in the midst of a call that has boxed its argument and keeps its result in a block. -/
structure Two (t u : TypeId) (w v : World) (cs z : Array Value) : Prop where
  a : Blk v w.heap.size t cs
  r : Blk v (w.heap.size + 1) u z
  b : Below w.heap.size w v
section
variable {t s : TypeId} {w v v1 : World} {cs z : Array Value}
theorem Two.start (t s : TypeId) (w : World) (cs z : Array Value) : Two t s w ((w.alloc (.cells cs t)).alloc (.cells z s)) cs z :=
  ⟨(Blk.new w _ cs).alloc _, Blk.newn _ _ _ (by simp), ((Below.refl _ _).alloc (Nat.le_refl _) _).alloc (by simp) _⟩
theorem Two.call (h : Two t s w v cs z) (hb : Below v.heap.size v v1) : Two t s w v1 cs z := ⟨h.a.call hb, h.r.call hb, bl h.b (hb.mono (Nat.le_refl _))⟩
theorem Two.drew (h : Two t s w v cs z) : Two t s w v.drew cs z := ⟨h.a, h.r, ⟨h.b.os, h.b.tape, h.b.output, h.b.size, h.b.block⟩⟩
theorem Two.set (h : Two t s w v cs z) (i : Nat) (u : Value) : Two t s w (v.setCell ⟨w.heap.size, i, none⟩ u) (cs.setIfInBounds i u) z :=
  ⟨h.a.set_ i u, h.r.far (by show w.heap.size + 1 ≠ w.heap.size; omega) u, h.b.setCell (Nat.le_refl _) u⟩
theorem Two.set2 (h : Two t s w v cs z) (i : Nat) (u : Value) : Two t s w (v.setCell ⟨w.heap.size + 1, i, none⟩ u) cs (z.setIfInBounds i u) :=
  ⟨h.a.far (by show w.heap.size ≠ w.heap.size + 1; omega) u, h.r.set_ i u, h.b.setCell (by show w.heap.size ≤ w.heap.size + 1; omega) u⟩
theorem Two.alloc (h : Two t s w v cs z) (o : Obj) : Two t s w (v.alloc o) cs z := ⟨h.a.alloc o, h.r.alloc o, h.b.alloc h.b.size o⟩
theorem Two.size (h : Two t s w v cs z) : w.heap.size + 2 ≤ v.heap.size := h.r.lt
end
set_option maxRecDepth 100000 in
theorem copydesc_any (d : Ds) (p : Dp) (w : World) (h : DescAt w p d) (hf : FewD d) :
    Calls Try.prog 33 #[.agg #[.slice p.ex d.exits.length p.exc, .slice p.pl d.players.length p.plc, .slice p.co d.coins.length p.coc, .slice p.it d.items.length p.itc, .slice p.bo d.boxes.length p.boc, .int .i64 d.room, .int .i64 d.player, .int .i64 d.box]] w fun e w' => ∃ p' : Dp, e = .returned (.agg #[.slice p'.ex d.exits.length p'.exc, .slice p'.pl d.players.length p'.plc, .slice p'.co d.coins.length p'.coc, .slice p'.it d.items.length p'.itc, .slice p'.bo d.boxes.length p'.boc, .int .i64 d.room, .int .i64 d.player, .int .i64 d.box]) ∧ DescOwn w.heap.size w' p' d ∧ Below w.heap.size w w' := by
  have H := Lib.hid h
  have HF := Lib.hid hf
  clear h hf
  have C0 := Lib.hid (Two.start 26 26 w #[.slice p.ex d.exits.length p.exc, .slice p.pl d.players.length p.plc, .slice p.co d.coins.length p.coc, .slice p.it d.items.length p.itc, .slice p.bo d.boxes.length p.boc, .int .i64 d.room, .int .i64 d.player, .int .i64 d.box] #[.slice none 0 0, .slice none 0 0, .slice none 0 0, .slice none 0 0, .slice none 0 0, .int .i64 0, .int .i64 0, .int .i64 0])
  go_enter Try.func33, Try.ntmps33
  go_wp2_with fail
  generalize hw0 : (w.alloc (.cells #[.slice p.ex d.exits.length p.exc, .slice p.pl d.players.length p.plc, .slice p.co d.coins.length p.coc, .slice p.it d.items.length p.itc, .slice p.bo d.boxes.length p.boc, .int .i64 d.room, .int .i64 d.player, .int .i64 d.box] 26)).alloc (.cells #[.slice none 0 0, .slice none 0 0, .slice none 0 0, .slice none 0 0, .slice none 0 0, .int .i64 0, .int .i64 0, .int .i64 0] 26) = v0 at *
  clear hw0
  refine (clone_exits _ _ _ v0 (H.out.below C0.out.b (Nat.le_refl _)).ex HF.out.1).mono ?_
  rintro e w1 ⟨g0, c0, rfl, o0, b0⟩
  have O0 := Lib.hid (o0.less C0.out.size)
  have D0 := Lib.hid (C0.out.call b0)
  have C1 := Lib.hid (show Two 26 26 w (w1.setCell ⟨w.heap.size, 0, none⟩ (.slice g0 d.exits.length c0)) #[.slice g0 d.exits.length c0, .slice p.pl d.players.length p.plc, .slice p.co d.coins.length p.coc, .slice p.it d.items.length p.itc, .slice p.bo d.boxes.length p.boc, .int .i64 d.room, .int .i64 d.player, .int .i64 d.box] #[.slice none 0 0, .slice none 0 0, .slice none 0 0, .slice none 0 0, .slice none 0 0, .int .i64 0, .int .i64 0, .int .i64 0] from D0.out.set 0 _)
  have O0 := Lib.hid (O0.out.set (q := w.heap.size) (by omega) 0 (.slice g0 d.exits.length c0))
  have hc := D0.out.a.cell
  have hz := D0.out.a.frozen
  clear o0 b0
  go_wp2_with fail
  clear hc hz
  generalize hw1 : w1.setCell ⟨w.heap.size, 0, none⟩ (.slice g0 d.exits.length c0) = v1 at *
  clear hw1
  refine (clone_ints _ _ _ v1 (ints_row.1 (H.out.below C1.out.b (Nat.le_refl _)).pl) HF.out.2.1).mono ?_
  rintro e w2 ⟨g1, c1, rfl, o1, b1⟩
  have O1 := Lib.hid (o1.less C1.out.size)
  have O0 := Lib.hid (O0.out.call b1)
  have D1 := Lib.hid (C1.out.call b1)
  have C2 := Lib.hid (show Two 26 26 w (w2.setCell ⟨w.heap.size, 1, none⟩ (.slice g1 d.players.length c1)) #[.slice g0 d.exits.length c0, .slice g1 d.players.length c1, .slice p.co d.coins.length p.coc, .slice p.it d.items.length p.itc, .slice p.bo d.boxes.length p.boc, .int .i64 d.room, .int .i64 d.player, .int .i64 d.box] #[.slice none 0 0, .slice none 0 0, .slice none 0 0, .slice none 0 0, .slice none 0 0, .int .i64 0, .int .i64 0, .int .i64 0] from D1.out.set 1 _)
  have O0 := Lib.hid (O0.out.set (q := w.heap.size) (by omega) 1 (.slice g1 d.players.length c1))
  have O1 := Lib.hid (O1.out.set (q := w.heap.size) (by omega) 1 (.slice g1 d.players.length c1))
  have hc := D1.out.a.cell
  have hz := D1.out.a.frozen
  clear o1 b1
  go_wp2_with fail
  clear hc hz
  generalize hw2 : w2.setCell ⟨w.heap.size, 1, none⟩ (.slice g1 d.players.length c1) = v2 at *
  clear hw2
  refine (clone_ints _ _ _ v2 (ints_row.1 (H.out.below C2.out.b (Nat.le_refl _)).co) HF.out.2.2.1).mono ?_
  rintro e w3 ⟨g2, c2, rfl, o2, b2⟩
  have O2 := Lib.hid (o2.less C2.out.size)
  have O0 := Lib.hid (O0.out.call b2)
  have O1 := Lib.hid (O1.out.call b2)
  have D2 := Lib.hid (C2.out.call b2)
  have C3 := Lib.hid (show Two 26 26 w (w3.setCell ⟨w.heap.size, 2, none⟩ (.slice g2 d.coins.length c2)) #[.slice g0 d.exits.length c0, .slice g1 d.players.length c1, .slice g2 d.coins.length c2, .slice p.it d.items.length p.itc, .slice p.bo d.boxes.length p.boc, .int .i64 d.room, .int .i64 d.player, .int .i64 d.box] #[.slice none 0 0, .slice none 0 0, .slice none 0 0, .slice none 0 0, .slice none 0 0, .int .i64 0, .int .i64 0, .int .i64 0] from D2.out.set 2 _)
  have O0 := Lib.hid (O0.out.set (q := w.heap.size) (by omega) 2 (.slice g2 d.coins.length c2))
  have O1 := Lib.hid (O1.out.set (q := w.heap.size) (by omega) 2 (.slice g2 d.coins.length c2))
  have O2 := Lib.hid (O2.out.set (q := w.heap.size) (by omega) 2 (.slice g2 d.coins.length c2))
  have hc := D2.out.a.cell
  have hz := D2.out.a.frozen
  clear o2 b2
  go_wp2_with fail
  clear hc hz
  generalize hw3 : w3.setCell ⟨w.heap.size, 2, none⟩ (.slice g2 d.coins.length c2) = v3 at *
  clear hw3
  refine (clone_ints _ _ _ v3 (ints_row.1 (H.out.below C3.out.b (Nat.le_refl _)).it) HF.out.2.2.2.1).mono ?_
  rintro e w4 ⟨g3, c3, rfl, o3, b3⟩
  have O3 := Lib.hid (o3.less C3.out.size)
  have O0 := Lib.hid (O0.out.call b3)
  have O1 := Lib.hid (O1.out.call b3)
  have O2 := Lib.hid (O2.out.call b3)
  have D3 := Lib.hid (C3.out.call b3)
  have C4 := Lib.hid (show Two 26 26 w (w4.setCell ⟨w.heap.size, 3, none⟩ (.slice g3 d.items.length c3)) #[.slice g0 d.exits.length c0, .slice g1 d.players.length c1, .slice g2 d.coins.length c2, .slice g3 d.items.length c3, .slice p.bo d.boxes.length p.boc, .int .i64 d.room, .int .i64 d.player, .int .i64 d.box] #[.slice none 0 0, .slice none 0 0, .slice none 0 0, .slice none 0 0, .slice none 0 0, .int .i64 0, .int .i64 0, .int .i64 0] from D3.out.set 3 _)
  have O0 := Lib.hid (O0.out.set (q := w.heap.size) (by omega) 3 (.slice g3 d.items.length c3))
  have O1 := Lib.hid (O1.out.set (q := w.heap.size) (by omega) 3 (.slice g3 d.items.length c3))
  have O2 := Lib.hid (O2.out.set (q := w.heap.size) (by omega) 3 (.slice g3 d.items.length c3))
  have O3 := Lib.hid (O3.out.set (q := w.heap.size) (by omega) 3 (.slice g3 d.items.length c3))
  have hc := D3.out.a.cell
  have hz := D3.out.a.frozen
  clear o3 b3
  go_wp2_with fail
  clear hc hz
  generalize hw4 : w4.setCell ⟨w.heap.size, 3, none⟩ (.slice g3 d.items.length c3) = v4 at *
  clear hw4
  refine (clone_bools _ _ _ v4 (H.out.below C4.out.b (Nat.le_refl _)).bo HF.out.2.2.2.2).mono ?_
  rintro e w5 ⟨g4, c4, rfl, o4, b4⟩
  have O4 := Lib.hid (o4.less C4.out.size)
  have O0 := Lib.hid (O0.out.call b4)
  have O1 := Lib.hid (O1.out.call b4)
  have O2 := Lib.hid (O2.out.call b4)
  have O3 := Lib.hid (O3.out.call b4)
  have D4 := Lib.hid (C4.out.call b4)
  have C5 := Lib.hid (show Two 26 26 w (w5.setCell ⟨w.heap.size, 4, none⟩ (.slice g4 d.boxes.length c4)) #[.slice g0 d.exits.length c0, .slice g1 d.players.length c1, .slice g2 d.coins.length c2, .slice g3 d.items.length c3, .slice g4 d.boxes.length c4, .int .i64 d.room, .int .i64 d.player, .int .i64 d.box] #[.slice none 0 0, .slice none 0 0, .slice none 0 0, .slice none 0 0, .slice none 0 0, .int .i64 0, .int .i64 0, .int .i64 0] from D4.out.set 4 _)
  have O0 := Lib.hid (O0.out.set (q := w.heap.size) (by omega) 4 (.slice g4 d.boxes.length c4))
  have O1 := Lib.hid (O1.out.set (q := w.heap.size) (by omega) 4 (.slice g4 d.boxes.length c4))
  have O2 := Lib.hid (O2.out.set (q := w.heap.size) (by omega) 4 (.slice g4 d.boxes.length c4))
  have O3 := Lib.hid (O3.out.set (q := w.heap.size) (by omega) 4 (.slice g4 d.boxes.length c4))
  have O4 := Lib.hid (O4.out.set (q := w.heap.size) (by omega) 4 (.slice g4 d.boxes.length c4))
  have hc := D4.out.a.cell
  have hz := D4.out.a.frozen
  have hc2 := D4.out.r.cell
  have hz2 := D4.out.r.frozen
  clear o4 b4
  have hs2 := D4.out.size
  go_wp2_with fail
  clear hz hz2
  refine bodyPost_ret (v := .agg #[.slice g0 d.exits.length c0, .slice g1 d.players.length c1, .slice g2 d.coins.length c2, .slice g3 d.items.length c3, .slice g4 d.boxes.length c4, .int .i64 d.room, .int .i64 d.player, .int .i64 d.box]) (by simp [results, Try.results33, go_sem, hc2]) rfl ⟨⟨g0, c0, g1, c1, g2, c2, g3, c3, g4, c4⟩, rfl, ?_, ?_⟩
  · constructor
    · refine OwnR.less (n := w.heap.size + 2) ?_ (by omega)
      iterate 8 refine OwnR.set (q := w.heap.size + 1) ?_ (by omega) _ _
      exact O0.out
    · refine OwnR.less (n := w.heap.size + 2) ?_ (by omega)
      iterate 8 refine OwnR.set (q := w.heap.size + 1) ?_ (by omega) _ _
      exact O1.out
    · refine OwnR.less (n := w.heap.size + 2) ?_ (by omega)
      iterate 8 refine OwnR.set (q := w.heap.size + 1) ?_ (by omega) _ _
      exact O2.out
    · refine OwnR.less (n := w.heap.size + 2) ?_ (by omega)
      iterate 8 refine OwnR.set (q := w.heap.size + 1) ?_ (by omega) _ _
      exact O3.out
    · refine OwnR.less (n := w.heap.size + 2) ?_ (by omega)
      iterate 8 refine OwnR.set (q := w.heap.size + 1) ?_ (by omega) _ _
      exact O4.out
  · iterate 8 refine Below.setCell ?_ (by show w.heap.size ≤ w.heap.size + 1; omega) _
    exact C5.out.b
end Go.Proofs.Ytkhjmgedamndhaa
