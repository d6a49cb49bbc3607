/- The document's own Copied: a world, its own lists in memory of their own. -/
import Derived.Test.YtkhjmgedamndhaaRows
import Derived.Test.YtkhjmgedamndhaaKit
import Derived.Test.YtkhjmgedamndhaaStrs
import Derived.Test.YtkhjmgedamndhaaCoin
import Derived.Test.YtkhjmgedamndhaaBlk
import Derived.Test.YtkhjmgedamndhaaHolds
import Derived.Test.YtkhjmgedamndhaaWorldMath
import Derived.Test.YtkhjmgedamndhaaWorldAt
import Derived.Test.YtkhjmgedamndhaaDescFloors
import Derived.Test.YtkhjmgedamndhaaDescClone
import Derived.Test.YtkhjmgedamndhaaDescCopy
import Derived.Test.YtkhjmgedamndhaaDescCopy2
import Derived.Test.YtkhjmgedamndhaaDescStore
import Derived.Test.YtkhjmgedamndhaaRefNew3
import Derived.OwnWalk
import Derived.Deep.QuietTactic
import Derived.BigQuiet
import Derived.WalkKit
import Derived.ProofKit
import Derived.OpenShut
import Derived.IntWalk
namespace Go.Proofs.Ytkhjmgedamndhaa
open Go.ChangeShapes Go.WideShapes Go.ChangeAt Go.RowKit
set_option linter.unusedVariables false
open Go.RowKit
/-- A copied world: its description's lists are those that were handed in; its own lie each in a block of its own, in this order. -/
def WhOwn (n : Nat) (W : World) (p : Dp) (q : Wp) (x : Wd) : Prop :=
  q.d = p ∧ ∃ m1 m2, n ≤ m1 ∧ m1 ≤ m2 ∧ OwnR 1 3 inC n W q.at_ x.at_ ∧ (∀ r, q.at_ = some r → r.block < m1) ∧ OwnR 1 3 inC m1 W q.co x.coins ∧ (∀ r, q.co = some r → r.block < m2) ∧ OwnR 2 57 plC m2 W q.wh x.wher
theorem WhOwn.new {n : Nat} {W : World} {p : Dp} {q : Wp} {x : Wd} (h : WhOwn n W p q x) : WhNew n W p q x := by
  obtain ⟨h0, m1, m2, h1, h2, ha, la, hc, lc, hw⟩ := h
  exact ⟨h0, m2, by omega, ha, fun r hr => by have := la r hr; omega, hc.less h1, lc, hw⟩
theorem WhOwn.call {n : Nat} {W W' : World} {p : Dp} {q : Wp} {x : Wd} (h : WhOwn n W p q x) (hb : Below W.heap.size W W') : WhOwn n W' p q x := by
  obtain ⟨h0, m1, m2, h1, h2, ha, la, hc, lc, hw⟩ := h
  exact ⟨h0, m1, m2, h1, h2, ha.call hb, la, hc.call hb, lc, hw.call hb⟩
theorem WhOwn.alloc {n : Nat} {W : World} {p : Dp} {q : Wp} {x : Wd} (h : WhOwn n W p q x) (o : Obj) : WhOwn n (W.alloc o) p q x := h.call ((Below.refl _ _).alloc (Nat.le_refl _) _)
theorem WhOwn.set {n : Nat} {W : World} {p : Dp} {q : Wp} {x : Wd} (h : WhOwn n W p q x) {b : Nat} (hb : b < n) (i : Nat) (u : Value) : WhOwn n (W.setCell ⟨b, i, none⟩ u) p q x := by
  obtain ⟨h0, m1, m2, h1, h2, ha, la, hc, lc, hw⟩ := h
  exact ⟨h0, m1, m2, h1, h2, ha.set hb i u, la, hc.set (by omega) i u, lc, hw.set (by omega) i u⟩
theorem WhOwn.less {n m : Nat} {W : World} {p : Dp} {q : Wp} {x : Wd} (h : WhOwn n W p q x) (hm : m ≤ n) : WhOwn m W p q x := by
  obtain ⟨h0, m1, m2, h1, h2, ha, r⟩ := h
  exact ⟨h0, m1, m2, by omega, h2, ha.less hm, r⟩
/-- Player k's room is written. -/
theorem WhOwn.putAt {n : Nat} {W : World} {p : Dp} {q : Wp} {x : Wd} (h : WhOwn n W p q x) {k : Nat} (hk : k < x.at_.length) : ∃ b, q.at_ = some ⟨b, 0, none⟩ ∧ n ≤ b ∧ b < W.heap.size ∧ W.cell? ⟨b, k, none⟩ = some (.int .i64 x.at_[k]) ∧ (∀ r, W.frozen? ⟨b, r, none⟩ = false) ∧
    ∀ v : Int, WhOwn n (W.setCell ⟨b, k, none⟩ (.int .i64 v)) p q ⟨x.d, x.at_.set k v, x.coins, x.wher⟩ := by
  obtain ⟨h0, m1, m2, h1, h2, ha, la, hc, lc, hw⟩ := h
  obtain ⟨b, hb, hn, hl, hcell, hf, hput⟩ := ha.put hk (j := 0) (by omega)
  have hlt : b < m1 := la _ hb
  refine ⟨b, hb, by omega, hl, by simpa [inC] using hcell 0 (by omega), hf, fun v => ⟨h0, m1, m2, h1, h2, ?_, la, hc.far (fun r hr => by have h5 := hc.from_ hr; omega) _ _, lc, hw.far (fun r hr => by have h5 := hw.from_ hr; omega) _ _⟩⟩
  have := hput (.int .i64 v) v rfl (fun r hr => by obtain rfl : r = 0 := by omega
                                                   simp [inC])
  rw [hb]
  simpa using this
/-- Player k's coins are written. -/
theorem WhOwn.putCo {n : Nat} {W : World} {p : Dp} {q : Wp} {x : Wd} (h : WhOwn n W p q x) {k : Nat} (hk : k < x.coins.length) : ∃ b, q.co = some ⟨b, 0, none⟩ ∧ n ≤ b ∧ b < W.heap.size ∧ W.cell? ⟨b, k, none⟩ = some (.int .i64 x.coins[k]) ∧ (∀ r, W.frozen? ⟨b, r, none⟩ = false) ∧
    ∀ v : Int, WhOwn n (W.setCell ⟨b, k, none⟩ (.int .i64 v)) p q ⟨x.d, x.at_, x.coins.set k v, x.wher⟩ := by
  obtain ⟨h0, m1, m2, h1, h2, ha, la, hc, lc, hw⟩ := h
  obtain ⟨b, hb, hn, hl, hcell, hf, hput⟩ := hc.put hk (j := 0) (by omega)
  have hlt : b < m2 := lc _ hb
  refine ⟨b, hb, by omega, hl, by simpa [inC] using hcell 0 (by omega), hf, fun v => ⟨h0, m1, m2, h1, h2, ha.far (fun r hr => by have h5 := la r hr; omega) _ _, la, ?_, lc, hw.far (fun r hr => by have h5 := hw.from_ hr; omega) _ _⟩⟩
  have := hput (.int .i64 v) v rfl (fun r hr => by obtain rfl : r = 0 := by omega
                                                   simp [inC])
  rw [hb]
  simpa using this
theorem whnew_fin {x : Wd} {p : Dp} {w W : World} {a1 a2 a3 : Option Addr} {c1 c2 c3 m1 m : Nat} (hd : DescAt w p x.d) (hb : Below w.heap.size w W) (hm1 : w.heap.size ≤ m1) (hm : m1 ≤ m) (h1 : OwnR 1 3 inC w.heap.size W a1 x.at_) (l1 : ∀ r, a1 = some r → r.block < m1)
    (h2 : OwnR 1 3 inC m1 W a2 x.coins) (l2 : ∀ r, a2 = some r → r.block < m) (h3 : OwnR 2 57 plC m W a3 x.wher) :
    ∃ q : Wp, Ending.returned (.agg #[.slice p.ex x.d.exits.length p.exc, .slice p.pl x.d.players.length p.plc, .slice p.co x.d.coins.length p.coc, .slice p.it x.d.items.length p.itc, .slice p.bo x.d.boxes.length p.boc, .int .i64 x.d.room, .int .i64 x.d.player, .int .i64 x.d.box, .slice a1 x.at_.length c1, .slice a2 x.coins.length c2, .slice a3 x.wher.length c3]) = .returned (.agg #[.slice q.d.ex x.d.exits.length q.d.exc, .slice q.d.pl x.d.players.length q.d.plc, .slice q.d.co x.d.coins.length q.d.coc, .slice q.d.it x.d.items.length q.d.itc, .slice q.d.bo x.d.boxes.length q.d.boc, .int .i64 x.d.room, .int .i64 x.d.player, .int .i64 x.d.box, .slice q.at_ x.at_.length q.atc, .slice q.co x.coins.length q.coc, .slice q.wh x.wher.length q.whc]) ∧ WorldAt W q x ∧ Below w.heap.size w W ∧ WhOwn w.heap.size W p q x := by
  have hn : WhOwn w.heap.size W p ⟨p, a1, c1, a2, c2, a3, c3⟩ x := ⟨rfl, m1, m, hm1, hm, h1, l1, h2, l2, h3⟩
  exact ⟨⟨p, a1, c1, a2, c2, a3, c3⟩, rfl, hn.new.world hd hb, hb, hn⟩
theorem below_cast {n m : Nat} {a b : World} (h : Below n a b) (e : n = m) : Below m a b := e ▸ h
set_option maxRecDepth 100000 in
set_option maxHeartbeats 400000 in
theorem copied_own3 (x : Wd) (p : Wp) (w : World) (h : WorldAt w p x) (hf : FewW x) :
    Calls Try.prog 32 #[.agg #[.slice p.d.ex x.d.exits.length p.d.exc, .slice p.d.pl x.d.players.length p.d.plc, .slice p.d.co x.d.coins.length p.d.coc, .slice p.d.it x.d.items.length p.d.itc, .slice p.d.bo x.d.boxes.length p.d.boc, .int .i64 x.d.room, .int .i64 x.d.player, .int .i64 x.d.box, .slice p.at_ x.at_.length p.atc, .slice p.co x.coins.length p.coc, .slice p.wh x.wher.length p.whc]] w fun e w' => ∃ q : Wp, e = .returned (.agg #[.slice q.d.ex x.d.exits.length q.d.exc, .slice q.d.pl x.d.players.length q.d.plc, .slice q.d.co x.d.coins.length q.d.coc, .slice q.d.it x.d.items.length q.d.itc, .slice q.d.bo x.d.boxes.length q.d.boc, .int .i64 x.d.room, .int .i64 x.d.player, .int .i64 x.d.box, .slice q.at_ x.at_.length q.atc, .slice q.co x.coins.length q.coc, .slice q.wh x.wher.length q.whc]) ∧ WorldAt w' q x ∧ Below w.heap.size w w' ∧ WhOwn w.heap.size w' p.d q x := by
  have H := Lib.hid h
  have HF := Lib.hid hf
  clear h hf
  have C0 := Lib.hid (Two.start 29 29 w #[.slice p.d.ex x.d.exits.length p.d.exc, .slice p.d.pl x.d.players.length p.d.plc, .slice p.d.co x.d.coins.length p.d.coc, .slice p.d.it x.d.items.length p.d.itc, .slice p.d.bo x.d.boxes.length p.d.boc, .int .i64 x.d.room, .int .i64 x.d.player, .int .i64 x.d.box, .slice p.at_ x.at_.length p.atc, .slice p.co x.coins.length p.coc, .slice p.wh x.wher.length p.whc] #[.slice none 0 0, .slice none 0 0, .slice none 0 0, .slice none 0 0, .slice none 0 0, .int .i64 0, .int .i64 0, .int .i64 0, .slice none 0 0, .slice none 0 0, .slice none 0 0])
  generalize hw0 : (w.alloc (.cells #[.slice p.d.ex x.d.exits.length p.d.exc, .slice p.d.pl x.d.players.length p.d.plc, .slice p.d.co x.d.coins.length p.d.coc, .slice p.d.it x.d.items.length p.d.itc, .slice p.d.bo x.d.boxes.length p.d.boc, .int .i64 x.d.room, .int .i64 x.d.player, .int .i64 x.d.box, .slice p.at_ x.at_.length p.atc, .slice p.co x.coins.length p.coc, .slice p.wh x.wher.length p.whc] 29)).alloc (.cells #[.slice none 0 0, .slice none 0 0, .slice none 0 0, .slice none 0 0, .slice none 0 0, .int .i64 0, .int .i64 0, .int .i64 0, .slice none 0 0, .slice none 0 0, .slice none 0 0] 29) = v0 at C0
  obtain ⟨g0, c0, u0, w1, hr0, hg0, hb0, hc0, hl0⟩ := append_row 23 3 1 8 (.int .i64 0) inC Try.underlying23 int_info rfl (by decide) (by decide) inC_len inC_one (cap := p.atc) (xs := x.at_) (w.heap.size + 1 + 1) (Blk.newn v0 3 #[] (n := w.heap.size + 1 + 1) (by rw [← hw0]; simp)) (RowAt.alloc (ints_row.1 (H.out.below C0.out.b (Nat.le_refl _)).at_) _) HF.out.2.1
  have R0 := Lib.hid hr0
  have B0 := Lib.hid (show Below v0.heap.size v0 w1 from ((Below.refl _ _).alloc (Nat.le_refl _) (.cells #[] 3)).trans (below_cast hl0 (by rw [← hw0]; simp)))
  have O0 := Lib.hid (show OwnR 1 3 inC (w.heap.size + 2) w1 (some ⟨g0, 0, none⟩) x.at_ from ⟨((ints_row.1 (H.out.below C0.out.b (Nat.le_refl _)).at_)).1, .inr ⟨g0, u0, rfl, Nat.le_trans (by omega) hg0, hb0, hc0⟩⟩)
  have D0 := Lib.hid (C0.out.call B0.out)
  have C1 := Lib.hid (show Two 29 29 w (w1.setCell ⟨w.heap.size, 8, none⟩ (.slice (some ⟨g0, 0, none⟩) x.at_.length c0)) #[.slice p.d.ex x.d.exits.length p.d.exc, .slice p.d.pl x.d.players.length p.d.plc, .slice p.d.co x.d.coins.length p.d.coc, .slice p.d.it x.d.items.length p.d.itc, .slice p.d.bo x.d.boxes.length p.d.boc, .int .i64 x.d.room, .int .i64 x.d.player, .int .i64 x.d.box, .slice (some ⟨g0, 0, none⟩) x.at_.length c0, .slice p.co x.coins.length p.coc, .slice p.wh x.wher.length p.whc] #[.slice none 0 0, .slice none 0 0, .slice none 0 0, .slice none 0 0, .slice none 0 0, .int .i64 0, .int .i64 0, .int .i64 0, .slice none 0 0, .slice none 0 0, .slice none 0 0] from D0.out.set 8 _)
  have O0 := Lib.hid (O0.out.set (q := w.heap.size) (by omega) 8 (.slice (some ⟨g0, 0, none⟩) x.at_.length c0))
  have L0 := Lib.hid hb0.lt
  clear hr0 hg0 hb0 hc0 hl0
  generalize hw1 : w1.setCell ⟨w.heap.size, 8, none⟩ (.slice (some ⟨g0, 0, none⟩) x.at_.length c0) = v1 at *
  obtain ⟨g1, c1, u1, w2, hr1, hg1, hb1, hc1, hl1⟩ := append_row 23 3 1 8 (.int .i64 0) inC Try.underlying23 int_info rfl (by decide) (by decide) inC_len inC_one (cap := p.coc) (xs := x.coins) w1.heap.size (Blk.newn v1 3 #[] (n := w1.heap.size) (by rw [← hw1]; simp [World.setCell])) (RowAt.alloc (ints_row.1 (H.out.below C1.out.b (Nat.le_refl _)).co) _) HF.out.2.2.1
  have R1 := Lib.hid hr1
  have B1 := Lib.hid (show Below v1.heap.size v1 w2 from ((Below.refl _ _).alloc (Nat.le_refl _) (.cells #[] 3)).trans (below_cast hl1 (by rw [← hw1]; simp [World.setCell])))
  have O1 := Lib.hid (show OwnR 1 3 inC w1.heap.size w2 (some ⟨g1, 0, none⟩) x.coins from ⟨((ints_row.1 (H.out.below C1.out.b (Nat.le_refl _)).co)).1, .inr ⟨g1, u1, rfl, hg1, hb1, hc1⟩⟩)
  have O0 := Lib.hid (O0.out.call B1.out)
  have D1 := Lib.hid (C1.out.call B1.out)
  have C2 := Lib.hid (show Two 29 29 w (w2.setCell ⟨w.heap.size, 9, none⟩ (.slice (some ⟨g1, 0, none⟩) x.coins.length c1)) #[.slice p.d.ex x.d.exits.length p.d.exc, .slice p.d.pl x.d.players.length p.d.plc, .slice p.d.co x.d.coins.length p.d.coc, .slice p.d.it x.d.items.length p.d.itc, .slice p.d.bo x.d.boxes.length p.d.boc, .int .i64 x.d.room, .int .i64 x.d.player, .int .i64 x.d.box, .slice (some ⟨g0, 0, none⟩) x.at_.length c0, .slice (some ⟨g1, 0, none⟩) x.coins.length c1, .slice p.wh x.wher.length p.whc] #[.slice none 0 0, .slice none 0 0, .slice none 0 0, .slice none 0 0, .slice none 0 0, .int .i64 0, .int .i64 0, .int .i64 0, .slice none 0 0, .slice none 0 0, .slice none 0 0] from D1.out.set 9 _)
  have O0 := Lib.hid (O0.out.set (q := w.heap.size) (by omega) 9 (.slice (some ⟨g1, 0, none⟩) x.coins.length c1))
  have O1 := Lib.hid (O1.out.set (q := w.heap.size) (by have := D0.out.size; omega) 9 (.slice (some ⟨g1, 0, none⟩) x.coins.length c1))
  have L1 := Lib.hid hb1.lt
  have L2 := Lib.hid (show w1.heap.size ≤ w2.heap.size by have := B1.out.size; rw [← hw1] at this; simpa [World.setCell] using this)
  clear hr1 hg1 hb1 hc1 hl1
  generalize hw2 : w2.setCell ⟨w.heap.size, 9, none⟩ (.slice (some ⟨g1, 0, none⟩) x.coins.length c1) = v2 at *
  obtain ⟨g2, c2, u2, w3, hr2, hg2, hb2, hc2, hl2⟩ := append_row 27 57 2 16 (.agg #[.int .i64 0, .int .i64 0]) plC Try.underlying27 place_info rfl (by decide) (by decide) plC_len plC_one (cap := p.whc) (xs := x.wher) w2.heap.size (Blk.newn v2 57 #[] (n := w2.heap.size) (by rw [← hw2]; simp [World.setCell])) (RowAt.alloc (H.out.below C2.out.b (Nat.le_refl _)).wh _) HF.out.2.2.2
  have R2 := Lib.hid hr2
  have B2 := Lib.hid (show Below v2.heap.size v2 w3 from ((Below.refl _ _).alloc (Nat.le_refl _) (.cells #[] 57)).trans (below_cast hl2 (by rw [← hw2]; simp [World.setCell])))
  have O2 := Lib.hid (show OwnR 2 57 plC w2.heap.size w3 (some ⟨g2, 0, none⟩) x.wher from ⟨((H.out.below C2.out.b (Nat.le_refl _)).wh).1, .inr ⟨g2, u2, rfl, hg2, hb2, hc2⟩⟩)
  have L3 := Lib.hid D1.out.size
  have O0 := Lib.hid (O0.out.call B2.out)
  have O1 := Lib.hid (O1.out.call B2.out)
  have D2 := Lib.hid (C2.out.call B2.out)
  have C3 := Lib.hid (show Two 29 29 w (w3.setCell ⟨w.heap.size, 10, none⟩ (.slice (some ⟨g2, 0, none⟩) x.wher.length c2)) #[.slice p.d.ex x.d.exits.length p.d.exc, .slice p.d.pl x.d.players.length p.d.plc, .slice p.d.co x.d.coins.length p.d.coc, .slice p.d.it x.d.items.length p.d.itc, .slice p.d.bo x.d.boxes.length p.d.boc, .int .i64 x.d.room, .int .i64 x.d.player, .int .i64 x.d.box, .slice (some ⟨g0, 0, none⟩) x.at_.length c0, .slice (some ⟨g1, 0, none⟩) x.coins.length c1, .slice (some ⟨g2, 0, none⟩) x.wher.length c2] #[.slice none 0 0, .slice none 0 0, .slice none 0 0, .slice none 0 0, .slice none 0 0, .int .i64 0, .int .i64 0, .int .i64 0, .slice none 0 0, .slice none 0 0, .slice none 0 0] from D2.out.set 10 _)
  have O0 := Lib.hid (O0.out.set (q := w.heap.size) (by omega) 10 (.slice (some ⟨g2, 0, none⟩) x.wher.length c2))
  have O1 := Lib.hid (O1.out.set (q := w.heap.size) (by have := D0.out.size; omega) 10 (.slice (some ⟨g2, 0, none⟩) x.wher.length c2))
  have O2 := Lib.hid (O2.out.set (q := w.heap.size) (by have := L3.out; omega) 10 (.slice (some ⟨g2, 0, none⟩) x.wher.length c2))
  clear hr2 hg2 hb2 hc2 hl2
  have HW1 := Lib.hid hw1
  have HW2 := Lib.hid hw2
  clear hw1 hw2
  subst hw0
  have k1 := D0.out.a.cell
  have f1 := D0.out.a.frozen
  have k2 := D1.out.a.cell
  have f2 := D1.out.a.frozen
  have k3 := D2.out.a.cell
  have f3 := D2.out.a.frozen
  have hc2 := D2.out.r.cell
  have hz2 := D2.out.r.frozen
  have hs2 := D2.out.size
  have ls1 : w.heap.size < w1.heap.size := D0.out.a.lt
  have ls2 : w.heap.size < w2.heap.size := D1.out.a.lt
  have ls3 : w.heap.size < w3.heap.size := D2.out.a.lt
  have ls4 : w.heap.size + 1 < w3.heap.size := D2.out.r.lt
  go_enter Try.func32, Try.ntmps32
  go_wp2_with (at_builtin; first | (refine append_step1 rfl (.tmp 3) (.tmp 5) 23 rfl _ _ _ w1 rfl rfl R0.out ?_; clear R0) | (rw [HW1.out]; refine append_step1 rfl (.tmp 8) (.tmp 10) 23 rfl _ _ _ w2 rfl rfl R1.out ?_; clear R1) | (rw [HW2.out]; refine append_step1 rfl (.tmp 13) (.tmp 15) 27 rfl _ _ _ w3 rfl rfl R2.out ?_))
  refine bodyPost_ret (v := .agg #[.slice p.d.ex x.d.exits.length p.d.exc, .slice p.d.pl x.d.players.length p.d.plc, .slice p.d.co x.d.coins.length p.d.coc, .slice p.d.it x.d.items.length p.d.itc, .slice p.d.bo x.d.boxes.length p.d.boc, .int .i64 x.d.room, .int .i64 x.d.player, .int .i64 x.d.box, .slice (some ⟨g0, 0, none⟩) x.at_.length c0, .slice (some ⟨g1, 0, none⟩) x.coins.length c1, .slice (some ⟨g2, 0, none⟩) x.wher.length c2]) (by simp [results, Try.results32, go_sem, hc2]) rfl ?_
  refine whnew_fin (m1 := w1.heap.size) (m := w2.heap.size) H.out.d ?_ (by have := D0.out.size; omega) L2.out ?_ (fun r hr => by cases hr; exact L0.out) ?_ (fun r hr => by cases hr; exact L1.out) ?_
  · iterate 11 refine Below.setCell ?_ (by show w.heap.size ≤ w.heap.size + 1; omega) _
    exact C3.out.b
  · refine OwnR.less (n := w.heap.size + 2) ?_ (by omega)
    iterate 11 refine OwnR.set (q := w.heap.size + 1) ?_ (by omega) _ _
    exact O0.out
  · iterate 11 refine OwnR.set (q := w.heap.size + 1) ?_ (by have := D0.out.size; omega) _ _
    exact O1.out
  · iterate 11 refine OwnR.set (q := w.heap.size + 1) ?_ (by have := L3.out; omega) _ _
    exact O2.out
theorem copied_own (x : Wd) (p : Wp) (w : World) (h : WorldAt w p x) (hf : FewW x) :
    Calls Try.prog 32 #[.agg #[.slice p.d.ex x.d.exits.length p.d.exc, .slice p.d.pl x.d.players.length p.d.plc, .slice p.d.co x.d.coins.length p.d.coc, .slice p.d.it x.d.items.length p.d.itc, .slice p.d.bo x.d.boxes.length p.d.boc, .int .i64 x.d.room, .int .i64 x.d.player, .int .i64 x.d.box, .slice p.at_ x.at_.length p.atc, .slice p.co x.coins.length p.coc, .slice p.wh x.wher.length p.whc]] w fun e w' => ∃ q : Wp, e = .returned (.agg #[.slice q.d.ex x.d.exits.length q.d.exc, .slice q.d.pl x.d.players.length q.d.plc, .slice q.d.co x.d.coins.length q.d.coc, .slice q.d.it x.d.items.length q.d.itc, .slice q.d.bo x.d.boxes.length q.d.boc, .int .i64 x.d.room, .int .i64 x.d.player, .int .i64 x.d.box, .slice q.at_ x.at_.length q.atc, .slice q.co x.coins.length q.coc, .slice q.wh x.wher.length q.whc]) ∧ WorldAt w' q x ∧ Below w.heap.size w w' ∧ WhNew w.heap.size w' p.d q x :=
  (copied_own3 x p w h hf).mono fun _ _ ⟨q, h1, h2, h3, h4⟩ => ⟨q, h1, h2, h3, h4.new⟩
theorem copied_any (x : Wd) (p : Wp) (w : World) (h : WorldAt w p x) (hf : FewW x) :
    Calls Try.prog 32 #[.agg #[.slice p.d.ex x.d.exits.length p.d.exc, .slice p.d.pl x.d.players.length p.d.plc, .slice p.d.co x.d.coins.length p.d.coc, .slice p.d.it x.d.items.length p.d.itc, .slice p.d.bo x.d.boxes.length p.d.boc, .int .i64 x.d.room, .int .i64 x.d.player, .int .i64 x.d.box, .slice p.at_ x.at_.length p.atc, .slice p.co x.coins.length p.coc, .slice p.wh x.wher.length p.whc]] w fun e w' => ∃ q : Wp, e = .returned (.agg #[.slice q.d.ex x.d.exits.length q.d.exc, .slice q.d.pl x.d.players.length q.d.plc, .slice q.d.co x.d.coins.length q.d.coc, .slice q.d.it x.d.items.length q.d.itc, .slice q.d.bo x.d.boxes.length q.d.boc, .int .i64 x.d.room, .int .i64 x.d.player, .int .i64 x.d.box, .slice q.at_ x.at_.length q.atc, .slice q.co x.coins.length q.coc, .slice q.wh x.wher.length q.whc]) ∧ WorldAt w' q x ∧ Below w.heap.size w w' :=
  (copied_own x p w h hf).mono fun _ _ ⟨q, h1, h2, h3, _⟩ => ⟨q, h1, h2, h3⟩
end Go.Proofs.Ytkhjmgedamndhaa
