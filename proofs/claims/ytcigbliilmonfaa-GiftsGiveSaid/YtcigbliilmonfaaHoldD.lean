/- The document's own: an item brought elsewhere, what is got, and dropped. -/
import Derived.Test.YtcigbliilmonfaaRows
import Derived.Test.YtcigbliilmonfaaKit
import Derived.Test.YtcigbliilmonfaaGMem
import Derived.Test.YtcigbliilmonfaaCoin
import Derived.Test.YtcigbliilmonfaaGWorld
import Derived.Test.YtcigbliilmonfaaDescMay
import Derived.Test.YtcigbliilmonfaaGDescN
import Derived.Test.YtcigbliilmonfaaGRight
import Derived.Test.YtcigbliilmonfaaGCopy
import Derived.Test.YtcigbliilmonfaaGRefD
import Derived.Test.YtcigbliilmonfaaGEq
import Derived.Test.YtcigbliilmonfaaGAs
import Derived.Test.YtcigbliilmonfaaGNew
import Derived.Test.YtcigbliilmonfaaGTreeL
import Derived.Test.YtcigbliilmonfaaGHoldA
import Derived.Deep.QuietTactic
import Derived.BigQuiet
import Derived.Deep.RegionHeld3
import Derived.WalkKit
import Derived.ProofKit
import Derived.OpenShut
import Derived.IntWalk
namespace Go.Proofs.Ytcigbliilmonfaa
open Go.ChangeShapes Go.WideShapes Go.ChangeAt Go.RowKit
set_option linter.unusedVariables false
open Go.RowKit
/-- Item k's place is written, whole. -/
theorem WhOwn.putPlace {n : Nat} {W : World} {p : Dp} {q : Wp} {x : Wd} (h : WhOwn n W p q x) {k : Nat} (hk : k < x.wher.length) : ∃ b, q.wh = some ⟨b, 0, none⟩ ∧ n ≤ b ∧ b < W.heap.size ∧ (W.cell? ⟨b, k * 2, none⟩ = some (.int .i64 x.wher[k].kind) ∧ W.cell? ⟨b, k * 2 + 1, none⟩ = some (.int .i64 x.wher[k].id)) ∧ (∀ r, W.frozen? ⟨b, r, none⟩ = false) ∧
    ∀ y : Pl, WhOwn n ((W.setCell ⟨b, k * 2, none⟩ (.int .i64 y.kind)).setCell ⟨b, k * 2 + 1, none⟩ (.int .i64 y.id)) p q ⟨x.d, x.at_, x.coins, x.wher.set k y⟩ := by
  obtain ⟨h0, m1, m2, g1, g2, h1, l1, h2, l2, h3⟩ := h
  obtain ⟨b, hb, hn, hl, hc, hf, hput⟩ := h3.put hk (j := 0) (by omega)
  refine ⟨b, hb, by omega, hl, ⟨by simpa [plC] using hc 0 (by omega), by simpa [plC] using hc 1 (by omega)⟩, hf, fun y => ⟨h0, m1, m2, g1, g2, (h1.far (fun r hr => by have := l1 r hr; omega) _ _).far (fun r hr => by have := l1 r hr; omega) _ _, l1, (h2.far (fun r hr => by have := l2 r hr; omega) _ _).far (fun r hr => by have := l2 r hr; omega) _ _, l2, ?_⟩⟩
  have h4 := hput (.int .i64 y.kind) ⟨y.kind, x.wher[k].id⟩ rfl (fun r hr => by
    obtain rfl | rfl : r = 0 ∨ r = 1 := by omega
    · rfl
    · rfl)
  obtain ⟨b', hb', _, _, _, _, hput'⟩ := h4.put (i := k) (by simpa using hk) (j := 1) (by omega)
  obtain rfl : b' = b := by simpa using hb'.symm
  have h5 := hput' (.int .i64 y.id) y rfl (fun r hr => by
    obtain rfl | rfl : r = 0 ∨ r = 1 := by omega
    · simp [plC]
    · rfl)
  rw [hb]
  simpa using h5
set_option maxRecDepth 100000 in
set_option maxHeartbeats 400000 in
theorem refto_any (x : Wd) (p : Wp) (k : Nat) (y : Pl) (w : World) (h : WorldAt w p x) (hf : FewW x) (hk : k < x.wher.length) : Calls Try.prog 27 #[.agg #[.slice p.d.ex x.d.exits.length p.d.exc, .slice p.d.pl x.d.players.length p.d.plc, .slice p.d.co x.d.coins.length p.d.coc, .slice p.d.it x.d.items.length p.d.itc, .slice p.d.bo x.d.boxes.length p.d.boc, .int .i64 x.d.room, .int .i64 x.d.player, .int .i64 x.d.box, .slice p.at_ x.at_.length p.atc, .slice p.co x.coins.length p.coc, .slice p.wh x.wher.length p.whc], .int .i64 (k : Int), .agg #[.int .i64 y.kind, .int .i64 y.id]] w fun e w' => ∃ q : Wp, e = .returned (.agg #[.slice q.d.ex x.d.exits.length q.d.exc, .slice q.d.pl x.d.players.length q.d.plc, .slice q.d.co x.d.coins.length q.d.coc, .slice q.d.it x.d.items.length q.d.itc, .slice q.d.bo x.d.boxes.length q.d.boc, .int .i64 x.d.room, .int .i64 x.d.player, .int .i64 x.d.box, .slice q.at_ x.at_.length q.atc, .slice q.co x.coins.length q.coc, .slice q.wh x.wher.length q.whc]) ∧ WhOwn w.heap.size w' p.d q (putW x k y) ∧ Below w.heap.size w w' := by
  have C0 := Lib.hid (Tri.start 29 54 29 w #[.slice p.d.ex x.d.exits.length p.d.exc, .slice p.d.pl x.d.players.length p.d.plc, .slice p.d.co x.d.coins.length p.d.coc, .slice p.d.it x.d.items.length p.d.itc, .slice p.d.bo x.d.boxes.length p.d.boc, .int .i64 x.d.room, .int .i64 x.d.player, .int .i64 x.d.box, .slice p.at_ x.at_.length p.atc, .slice p.co x.coins.length p.coc, .slice p.wh x.wher.length p.whc] #[.int .i64 y.kind, .int .i64 y.id] #[.slice none 0 0, .slice none 0 0, .slice none 0 0, .slice none 0 0, .slice none 0 0, .int .i64 0, .int .i64 0, .int .i64 0, .slice none 0 0, .slice none 0 0, .slice none 0 0])
  have H := Lib.hid h
  have HF := Lib.hid hf
  have hlen := h.wh.len
  clear h hf
  go_enter Try.func27, Try.ntmps27
  go_wp2_with fail
  refine (copied_own3 x p _ (H.out.below C0.out.b (Nat.le_refl _)) HF.out).mono ?_
  rintro e w1 ⟨⟨qd, qa, qac, qk, qkc, qw, qwc⟩, rfl, -, b1, ho⟩
  obtain ⟨rfl, -⟩ := id ho
  obtain ⟨g, hqw, hg0, hg2, ⟨cA, cB⟩, fA, hput⟩ := ho.putPlace hk
  simp only at hqw
  subst hqw
  have hg1 := C0.out.size
  have C1 := Lib.hid (C0.out.call b1)
  have HP := Lib.hid ((hput y).less hg1)
  have hg1 : w.heap.size + 3 ≤ g := Nat.le_trans hg1 hg0
  have hsz := C1.out.size
  clear ho b1 hg0 hput
  have hca := C1.out.a.cell
  have hla := C1.out.a.lt
  have hcm := C1.out.m.cell
  have hlm := C1.out.m.lt
  have hcr := C1.out.r.cell
  have hzr := C1.out.r.frozen
  have hlr := C1.out.r.lt
  have n3 : g ≠ w.heap.size + 2 := by omega
  have n4 : w.heap.size + 2 ≠ g := by omega
  have n5 : w.heap.size + 1 ≠ g := by omega
  have n6 : w.heap.size ≠ g := by omega
  go_wp2_with fail
  refine bodyPost_ret (v := .agg #[.slice p.d.ex x.d.exits.length p.d.exc, .slice p.d.pl x.d.players.length p.d.plc, .slice p.d.co x.d.coins.length p.d.coc, .slice p.d.it x.d.items.length p.d.itc, .slice p.d.bo x.d.boxes.length p.d.boc, .int .i64 x.d.room, .int .i64 x.d.player, .int .i64 x.d.box, .slice qa x.at_.length qac, .slice qk x.coins.length qkc, .slice (some ⟨g, 0, none⟩) x.wher.length qwc]) (by simp [results, Try.results27, go_sem, hcr, hlr]) rfl ⟨⟨p.d, qa, qac, qk, qkc, some ⟨g, 0, none⟩, qwc⟩, rfl, ?_, ?_⟩
  · refine WhOwn.less (n := w.heap.size + 3) (WhOwn.alloc ?_ _) (by omega)
    iterate 11 refine WhOwn.set (b := w.heap.size + 2) ?_ (by omega) _ _
    exact HP.out
  · refine Below.alloc ?_ (by simp [World.setCell]; omega) _
    iterate 11 refine Below.setCell ?_ (by show w.heap.size ≤ w.heap.size + 2; omega) _
    iterate 2 refine Below.setCell ?_ (by show w.heap.size ≤ g; omega) _
    exact C1.out.b
/-- What the document's own answer is: a world that stays, or one whose own lists are new. -/
def RTook (n : Nat) (W : World) (p q : Wp) (x : Wd) (R : Wd × Int) : Prop := (¬ R.2 = 0 ∧ R.1 = x ∧ q = p) ∨ (R.2 = 0 ∧ R.1.d = x.d ∧ WhOwn n W p.d q R.1)
theorem RTook.world {w W : World} {p q : Wp} {x : Wd} {R : Wd × Int} (h : RTook w.heap.size W p q x R) (hw : WorldAt w p x) (hb : Below w.heap.size w W) : WorldAt W q R.1 := by
  rcases h with ⟨_, h1, h2⟩ | ⟨_, h1, h2⟩
  · rw [h1, h2]; exact hw.call hb
  · exact h2.new.world (by rw [h1]; exact hw.d) hb
theorem rS7 {t s : TypeId} {w v : World} {cs : Array Value} (h : TwoE t s w v cs) {p1 p2 p3 : Addr} {u1 u2 u3 : Value} (c1 : w.cell? p1 = some u1) (c2 : w.cell? p2 = some u2) (c3 : w.cell? p3 = some u3) : Below w.heap.size w v ∧ w.heap.size < v.heap.size ∧ (∀ i, v.cell? ⟨w.heap.size, i, none⟩ = cs[i]?) ∧ w.heap.size + 1 < v.heap.size ∧ v.cell? p1 = some u1 ∧ v.cell? p2 = some u2 ∧ v.cell? p3 = some u3 := by
  obtain ⟨h1, h2, h3, h4⟩ := two_S h
  exact ⟨h1, h2, h3, h4, cell_call c1 h1, cell_call c2 h1, cell_call c3 h1⟩
theorem rroom_pl (x : Wd) (p : Wp) (i : Nat) (w : World) (hx : rightW x = true) (h : WorldAt w p x) : Calls Try.prog 26 #[.agg #[.slice p.d.ex x.d.exits.length p.d.exc, .slice p.d.pl x.d.players.length p.d.plc, .slice p.d.co x.d.coins.length p.d.coc, .slice p.d.it x.d.items.length p.d.itc, .slice p.d.bo x.d.boxes.length p.d.boc, .int .i64 x.d.room, .int .i64 x.d.player, .int .i64 x.d.box, .slice p.at_ x.at_.length p.atc, .slice p.co x.coins.length p.coc, .slice p.wh x.wher.length p.whc], .agg #[.int .i64 1, .int .i64 (i : Int)]] w fun e w' => e = .returned (.int .i64 (roomI x ⟨1, (i : Int)⟩)) ∧ Below w.heap.size w w' :=
  refroom_any x p 1 i (by decide) (cap_in hx (by decide)) w h.wh (by have := (right_lens hx).2.2.2.1; omega)
theorem rroom_rm (x : Wd) (p : Wp) (i : Nat) (w : World) (hx : rightW x = true) (h : WorldAt w p x) : Calls Try.prog 26 #[.agg #[.slice p.d.ex x.d.exits.length p.d.exc, .slice p.d.pl x.d.players.length p.d.plc, .slice p.d.co x.d.coins.length p.d.coc, .slice p.d.it x.d.items.length p.d.itc, .slice p.d.bo x.d.boxes.length p.d.boc, .int .i64 x.d.room, .int .i64 x.d.player, .int .i64 x.d.box, .slice p.at_ x.at_.length p.atc, .slice p.co x.coins.length p.coc, .slice p.wh x.wher.length p.whc], .agg #[.int .i64 0, .int .i64 (i : Int)]] w fun e w' => e = .returned (.int .i64 (roomI x ⟨0, (i : Int)⟩)) ∧ Below w.heap.size w w' :=
  refroom_any x p 0 i (by decide) (cap_in hx (by decide)) w h.wh (by have := (right_lens hx).2.2.2.1; omega)
theorem refto_pl (x : Wd) (p : Wp) (k i : Nat) (w : World) (h : WorldAt w p x) (hf : FewW x) (hk : k < x.wher.length) : Calls Try.prog 27 #[.agg #[.slice p.d.ex x.d.exits.length p.d.exc, .slice p.d.pl x.d.players.length p.d.plc, .slice p.d.co x.d.coins.length p.d.coc, .slice p.d.it x.d.items.length p.d.itc, .slice p.d.bo x.d.boxes.length p.d.boc, .int .i64 x.d.room, .int .i64 x.d.player, .int .i64 x.d.box, .slice p.at_ x.at_.length p.atc, .slice p.co x.coins.length p.coc, .slice p.wh x.wher.length p.whc], .int .i64 (k : Int), .agg #[.int .i64 1, .int .i64 (i : Int)]] w fun e w' => ∃ q : Wp, e = .returned (.agg #[.slice q.d.ex x.d.exits.length q.d.exc, .slice q.d.pl x.d.players.length q.d.plc, .slice q.d.co x.d.coins.length q.d.coc, .slice q.d.it x.d.items.length q.d.itc, .slice q.d.bo x.d.boxes.length q.d.boc, .int .i64 x.d.room, .int .i64 x.d.player, .int .i64 x.d.box, .slice q.at_ x.at_.length q.atc, .slice q.co x.coins.length q.coc, .slice q.wh x.wher.length q.whc]) ∧ WhOwn w.heap.size w' p.d q (putW x k ⟨1, (i : Int)⟩) ∧ Below w.heap.size w w' :=
  refto_any x p k ⟨1, i⟩ w h hf hk
theorem refto_rm (x : Wd) (p : Wp) (k i : Nat) (w : World) (h : WorldAt w p x) (hf : FewW x) (hk : k < x.wher.length) : Calls Try.prog 27 #[.agg #[.slice p.d.ex x.d.exits.length p.d.exc, .slice p.d.pl x.d.players.length p.d.plc, .slice p.d.co x.d.coins.length p.d.coc, .slice p.d.it x.d.items.length p.d.itc, .slice p.d.bo x.d.boxes.length p.d.boc, .int .i64 x.d.room, .int .i64 x.d.player, .int .i64 x.d.box, .slice p.at_ x.at_.length p.atc, .slice p.co x.coins.length p.coc, .slice p.wh x.wher.length p.whc], .int .i64 (k : Int), .agg #[.int .i64 0, .int .i64 (i : Int)]] w fun e w' => ∃ q : Wp, e = .returned (.agg #[.slice q.d.ex x.d.exits.length q.d.exc, .slice q.d.pl x.d.players.length q.d.plc, .slice q.d.co x.d.coins.length q.d.coc, .slice q.d.it x.d.items.length q.d.itc, .slice q.d.bo x.d.boxes.length q.d.boc, .int .i64 x.d.room, .int .i64 x.d.player, .int .i64 x.d.box, .slice q.at_ x.at_.length q.atc, .slice q.co x.coins.length q.coc, .slice q.wh x.wher.length q.whc]) ∧ WhOwn w.heap.size w' p.d q (putW x k ⟨0, (i : Int)⟩) ∧ Below w.heap.size w w' :=
  refto_any x p k ⟨0, i⟩ w h hf hk
end Go.Proofs.Ytcigbliilmonfaa
