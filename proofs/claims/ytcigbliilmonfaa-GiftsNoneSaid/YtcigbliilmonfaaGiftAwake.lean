/- What the laws of gifts begin with: answers that the document fixes; whether a world fits. -/
import Derived.Test.YtcigbliilmonfaaRows
import Derived.Test.YtcigbliilmonfaaKit
import Derived.Test.YtcigbliilmonfaaGMem
import Derived.Test.YtcigbliilmonfaaCoin
import Derived.Test.YtcigbliilmonfaaGWorld
import Derived.Test.YtcigbliilmonfaaDescMay
import Derived.Test.YtcigbliilmonfaaGDescN
import Derived.Test.YtcigbliilmonfaaGRight
import Derived.Test.YtcigbliilmonfaaGCopy
import Derived.Test.YtcigbliilmonfaaGRefD
import Derived.Test.YtcigbliilmonfaaGAs
import Derived.Test.YtcigbliilmonfaaRefRight
import Derived.Test.YtcigbliilmonfaaGEq
import Derived.Test.YtcigbliilmonfaaGNew
import Derived.Test.YtcigbliilmonfaaGHoldA
import Derived.Test.YtcigbliilmonfaaHoldD
import Derived.Test.YtcigbliilmonfaaHoldE
import Derived.Test.YtcigbliilmonfaaGiftMath
import Derived.Test.YtcigbliilmonfaaGiftMath2
import Derived.Test.YtcigbliilmonfaaGiftMath4
import Derived.Test.YtcigbliilmonfaaGiftD
import Derived.Test.YtcigbliilmonfaaGiftH
import Derived.Deep.QuietTactic
import Derived.BigQuiet
import Derived.Deep.RegionHeld3
import Derived.WalkKit
import Derived.ProofKit
import Derived.OpenShut
import Derived.IntWalk
namespace Go.Proofs.Ytcigbliilmonfaa
open Go.ChangeShapes Go.WideShapes Go.ChangeAt Go.RowKit
set_option linter.unusedVariables false
open Go.RowKit
section
variable {x u : Wd} (hs : Shape x u) (p : Wp) (i : Nat) (w : World) (hu : rightW u = true) (h : WorldAt w p u) (hi : i < u.at_.length) {y : Wd} {e : Int}
include hs hu h hi
theorem give_as (item b : Int) (hR : giveW u i item b = (y, e)) : Calls Try.prog 11 #[.agg #[.slice p.d.ex x.d.exits.length p.d.exc, .slice p.d.pl x.d.players.length p.d.plc, .slice p.d.co x.d.coins.length p.d.coc, .slice p.d.it x.d.items.length p.d.itc, .slice p.d.bo x.d.boxes.length p.d.boc, .int .i64 x.d.room, .int .i64 x.d.player, .int .i64 x.d.box, .slice p.at_ x.at_.length p.atc, .slice p.co x.coins.length p.coc, .slice p.wh x.wher.length p.whc], .int .i64 (i : Int), .int .i64 item, .int .i64 b] w fun e' w' => ∃ q : Wp, e' = .returned (.tuple #[.agg #[.slice q.d.ex x.d.exits.length q.d.exc, .slice q.d.pl x.d.players.length q.d.plc, .slice q.d.co x.d.coins.length q.d.coc, .slice q.d.it x.d.items.length q.d.itc, .slice q.d.bo x.d.boxes.length q.d.boc, .int .i64 x.d.room, .int .i64 x.d.player, .int .i64 x.d.box, .slice q.at_ x.at_.length q.atc, .slice q.co x.coins.length q.coc, .slice q.wh x.wher.length q.whc], .int .i64 e]) ∧ WorldAt w' q y ∧ Below w.heap.size w w' := by
  have := ggive_any u p i item b w hu h hi
  rw [hs.val, hR] at this
  refine this.mono fun e' w' ⟨q, he, hq, hb⟩ => ⟨q, by rw [← hs.val]; exact he, hq.world (h.call hb), hb⟩
theorem trade_as (kd di it bx who pay fee : Int) (gl wl : List Int) (ga wa : Option Addr) (gc wc : Nat) (hg : IntsAt w ga gl) (hw : IntsAt w wa wl) (hgl : gl.length ≤ 16) (hwl : wl.length ≤ 16) (hR : tradeW u i who gl wl pay fee = (y, e)) :
    Calls Try.prog 13 #[.agg #[.slice p.d.ex x.d.exits.length p.d.exc, .slice p.d.pl x.d.players.length p.d.plc, .slice p.d.co x.d.coins.length p.d.coc, .slice p.d.it x.d.items.length p.d.itc, .slice p.d.bo x.d.boxes.length p.d.boc, .int .i64 x.d.room, .int .i64 x.d.player, .int .i64 x.d.box, .slice p.at_ x.at_.length p.atc, .slice p.co x.coins.length p.coc, .slice p.wh x.wher.length p.whc], .int .i64 (i : Int), .agg #[.int .i64 kd, .int .i64 di, .int .i64 it, .int .i64 bx, .int .i64 who, .slice ga gl.length gc, .int .i64 pay, .slice wa wl.length wc, .int .i64 fee]] w fun e' w' => ∃ q : Wp, e' = .returned (.tuple #[.agg #[.slice q.d.ex x.d.exits.length q.d.exc, .slice q.d.pl x.d.players.length q.d.plc, .slice q.d.co x.d.coins.length q.d.coc, .slice q.d.it x.d.items.length q.d.itc, .slice q.d.bo x.d.boxes.length q.d.boc, .int .i64 x.d.room, .int .i64 x.d.player, .int .i64 x.d.box, .slice q.at_ x.at_.length q.atc, .slice q.co x.coins.length q.coc, .slice q.wh x.wher.length q.whc], .int .i64 e]) ∧ WorldAt w' q y ∧ Below w.heap.size w w' := by
  have := gtrade_any u p i kd di it bx who pay fee gl wl ga wa gc wc w hu h hi hg hw hgl hwl
  rw [hs.val, hR] at this
  refine this.mono fun e' w' ⟨q, he, hq, hb⟩ => ⟨q, by rw [← hs.val]; exact he, hq.world (h.call hb), hb⟩
end
def aD11 : Ds := ⟨[⟨0, 0, 0, 0⟩, ⟨0, 0, 0, 0⟩], [0, 0, 1], [5, 2, 5], [0, 0, 0], [false, false, false], 4, 2, 1⟩
def aP11 (n : Nat) : Dp := ⟨some ⟨n, 0, none⟩, 2, some ⟨n + 1, 0, none⟩, 3, some ⟨n + 1 + 1, 0, none⟩, 3, some ⟨n + 1 + 1 + 1, 0, none⟩, 3, some ⟨n + 1 + 1 + 1 + 1, 0, none⟩, 3⟩
def aN11 : Wd := newW aD11
def aX11 : Wd := ⟨aN11.d, aN11.at_, aN11.coins, [⟨1, 0⟩, ⟨1, 1⟩, ⟨1, 1⟩]⟩
theorem aX11_right : rightW aX11 = true := by decide
def aA11 : Wd := putW aX11 1 ⟨1, 0⟩
def aB11 : Wd := trW aX11 0 1 [0] [1, 2] 2 5
theorem exits_info11 : (Try.prog.info? 67).map (fun i => (i.zero, i.size, i.bytes)) = some (some (.agg #[.int .i64 0, .int .i64 0, .int .i64 0, .int .i64 0]), 4, 32) := by kernel_rfl
theorem make_exits11 (W : World) : (Instr.makeSlice 22 (.int .i64 2) (.int .i64 2)).run Try.prog W = .ok (.slice (some ⟨W.heap.size, 0, none⟩) 2 2) (W.alloc (.cells #[.int .i64 0, .int .i64 0, .int .i64 0, .int .i64 0, .int .i64 0, .int .i64 0, .int .i64 0, .int .i64 0] 67)) := by
  obtain ⟨i0, hi0, hz0, hz1, hz2⟩ := info_parts exits_info11
  have hr := run_make (P := Try.prog) W 22 67 i0 (.agg #[.int .i64 0, .int .i64 0, .int .i64 0, .int .i64 0]) Try.underlying22 hi0 hz0 .i64 .i64 2 2 (by omega) (by omega) (by rw [hz2]; omega) (by omega)
  rw [hz1] at hr
  exact hr.trans (by kernel_rfl)
theorem row11 {α : Type} {k : Nat} {enc : α → List Value} {W : World} {g : Nat} {t : TypeId} {cs : Array Value} {xs : List α} (h : Blk W g t cs) (hl : xs.length ≤ maxLen) (hc : ∀ i (hi : i < xs.length) j, j < k → cs[i * k + j]? = (enc xs[i])[j]?) : RowAt k enc W (some ⟨g, 0, none⟩) xs :=
  ⟨hl, .inr ⟨g, 0, rfl, h.lt, fun i hi j hj => by rw [Nat.zero_add, h.cell]; exact hc i hi j hj⟩⟩
theorem aD11_at {W : World} {n : Nat} (h0 : Blk W n 67 #[.int .i64 0, .int .i64 0, .int .i64 0, .int .i64 0, .int .i64 0, .int .i64 0, .int .i64 0, .int .i64 0]) (h1 : Blk W (n + 1) 3 #[.int .i64 0, .int .i64 0, .int .i64 1]) (h2 : Blk W (n + 1 + 1) 3 #[.int .i64 5, .int .i64 2, .int .i64 5])
    (h3 : Blk W (n + 1 + 1 + 1) 3 #[.int .i64 0, .int .i64 0, .int .i64 0]) (h4 : Blk W (n + 1 + 1 + 1 + 1) 4 #[.bool false, .bool false, .bool false]) : DescAt W (aP11 n) aD11 := by
  refine ⟨row11 h0 (by simp [aD11, maxLen]) ?_, ints_row.2 (row11 h1 (by simp [aD11, maxLen]) ?_), ints_row.2 (row11 h2 (by simp [aD11, maxLen]) ?_), ints_row.2 (row11 h3 (by simp [aD11, maxLen]) ?_), row11 h4 (by simp [aD11, maxLen]) ?_⟩
  · intro i hi j hj
    obtain rfl | rfl : i = 0 ∨ i = 1 := by simp [aD11] at hi; omega
    all_goals obtain rfl | rfl | rfl | rfl : j = 0 ∨ j = 1 ∨ j = 2 ∨ j = 3 := by omega
    all_goals rfl
  all_goals
    intro i hi j hj
    obtain rfl : j = 0 := by omega
    obtain rfl | rfl | rfl : i = 0 ∨ i = 1 ∨ i = 2 := by simp [aD11] at hi; omega
    all_goals rfl
theorem aw11_start (w : World) : DescAt (((((w.alloc (.cells #[.int .i64 0, .int .i64 0, .int .i64 0, .int .i64 0, .int .i64 0, .int .i64 0, .int .i64 0, .int .i64 0] 67)).alloc (.cells #[.int .i64 0, .int .i64 0, .int .i64 1] 3)).alloc (.cells #[.int .i64 5, .int .i64 2, .int .i64 5] 3)).alloc (.cells #[.int .i64 0, .int .i64 0, .int .i64 0] 3)).alloc (.cells #[.bool false, .bool false, .bool false] 4)) (aP11 w.heap.size) aD11 ∧ Below w.heap.size w (((((w.alloc (.cells #[.int .i64 0, .int .i64 0, .int .i64 0, .int .i64 0, .int .i64 0, .int .i64 0, .int .i64 0, .int .i64 0] 67)).alloc (.cells #[.int .i64 0, .int .i64 0, .int .i64 1] 3)).alloc (.cells #[.int .i64 5, .int .i64 2, .int .i64 5] 3)).alloc (.cells #[.int .i64 0, .int .i64 0, .int .i64 0] 3)).alloc (.cells #[.bool false, .bool false, .bool false] 4)) := by
  have b0 := Blk.newn w 67 #[.int .i64 0, .int .i64 0, .int .i64 0, .int .i64 0, .int .i64 0, .int .i64 0, .int .i64 0, .int .i64 0] (n := w.heap.size) rfl
  have b1 := Blk.newn (w.alloc (.cells #[.int .i64 0, .int .i64 0, .int .i64 0, .int .i64 0, .int .i64 0, .int .i64 0, .int .i64 0, .int .i64 0] 67)) 3 #[.int .i64 0, .int .i64 0, .int .i64 1] (n := w.heap.size + 1) (by simp)
  have b2 := Blk.newn ((w.alloc (.cells #[.int .i64 0, .int .i64 0, .int .i64 0, .int .i64 0, .int .i64 0, .int .i64 0, .int .i64 0, .int .i64 0] 67)).alloc (.cells #[.int .i64 0, .int .i64 0, .int .i64 1] 3)) 3 #[.int .i64 5, .int .i64 2, .int .i64 5] (n := w.heap.size + 1 + 1) (by simp)
  have b3 := Blk.newn (((w.alloc (.cells #[.int .i64 0, .int .i64 0, .int .i64 0, .int .i64 0, .int .i64 0, .int .i64 0, .int .i64 0, .int .i64 0] 67)).alloc (.cells #[.int .i64 0, .int .i64 0, .int .i64 1] 3)).alloc (.cells #[.int .i64 5, .int .i64 2, .int .i64 5] 3)) 3 #[.int .i64 0, .int .i64 0, .int .i64 0] (n := w.heap.size + 1 + 1 + 1) (by simp)
  have b4 := Blk.newn ((((w.alloc (.cells #[.int .i64 0, .int .i64 0, .int .i64 0, .int .i64 0, .int .i64 0, .int .i64 0, .int .i64 0, .int .i64 0] 67)).alloc (.cells #[.int .i64 0, .int .i64 0, .int .i64 1] 3)).alloc (.cells #[.int .i64 5, .int .i64 2, .int .i64 5] 3)).alloc (.cells #[.int .i64 0, .int .i64 0, .int .i64 0] 3)) 4 #[.bool false, .bool false, .bool false] (n := w.heap.size + 1 + 1 + 1 + 1) (by simp)
  exact ⟨aD11_at ((((b0.alloc _).alloc _).alloc _).alloc _) (((b1.alloc _).alloc _).alloc _) ((b2.alloc _).alloc _) (b3.alloc _) b4, (((((Below.refl _ _).alloc (Nat.le_refl _) _).alloc (by simp) _).alloc (by simp; omega) _).alloc (by simp; omega) _).alloc (by simp; omega) _⟩
/-- awake's world, as New answers it. -/
theorem aw11_new (n : Nat) (W : World) (h : DescAt W (aP11 n) aD11) : Calls Try.prog 21 #[.agg #[.slice (some ⟨n, 0, none⟩) 2 2, .slice (some ⟨n + 1, 0, none⟩) 3 3, .slice (some ⟨n + 1 + 1, 0, none⟩) 3 3, .slice (some ⟨n + 1 + 1 + 1, 0, none⟩) 3 3, .slice (some ⟨n + 1 + 1 + 1 + 1, 0, none⟩) 3 3, .int .i64 4, .int .i64 2, .int .i64 1]] W fun e w' => ∃ (a k wh : Option Addr) (ac kc whc : Nat), e = .returned (.agg #[.slice (some ⟨n, 0, none⟩) 2 2, .slice (some ⟨n + 1, 0, none⟩) 3 3, .slice (some ⟨n + 1 + 1, 0, none⟩) 3 3, .slice (some ⟨n + 1 + 1 + 1, 0, none⟩) 3 3, .slice (some ⟨n + 1 + 1 + 1 + 1, 0, none⟩) 3 3, .int .i64 4, .int .i64 2, .int .i64 1, .slice a 3 ac, .slice k 3 kc, .slice wh 3 whc]) ∧ WorldAt w' ⟨aP11 n, a, ac, k, kc, wh, whc⟩ aN11 ∧ Below W.heap.size W w' := by
  refine (refnew_own aD11 (aP11 n) W h (by decide)).mono ?_
  rintro e w' ⟨x, ⟨d, a, ac, k, kc, wh, whc⟩, rfl, rfl, hw, hb, hn⟩
  obtain ⟨rfl, _⟩ := id hn
  exact ⟨a, k, wh, ac, kc, whc, rfl, hw, hb⟩
theorem aw11_places {W : World} {g : Nat} (h : Blk W g 54 #[.int .i64 1, .int .i64 0, .int .i64 1, .int .i64 1, .int .i64 1, .int .i64 1]) : PlsAt W (some ⟨g, 0, none⟩) aX11.wher :=
  row11 h (by simp [aX11, maxLen]) (fun i hi j hj => by
    obtain rfl | rfl | rfl : i = 0 ∨ i = 1 ∨ i = 2 := by simp [aX11] at hi; omega
    all_goals obtain rfl | rfl : j = 0 ∨ j = 1 := by omega
    all_goals rfl)
/-- The second place of a list; the first one's and the third one's number. -/
def PlCellA (W : World) (g : Nat) (a b : Int) : Prop := W.cell? ⟨g, 2, none⟩ = some (.int .i64 a) ∧ W.cell? ⟨g, 3, none⟩ = some (.int .i64 b) ∧ g < W.heap.size
theorem PlCellA.call {W W' : World} {g : Nat} {a b : Int} (h : PlCellA W g a b) (hb : Below W.heap.size W W') : PlCellA W' g a b := ⟨cell_call h.1 hb, cell_call h.2.1 hb, Nat.lt_of_lt_of_le h.2.2 hb.size⟩
def PlCellB (W : World) (g : Nat) (a b : Int) : Prop := W.cell? ⟨g, 1, none⟩ = some (.int .i64 a) ∧ W.cell? ⟨g, 5, none⟩ = some (.int .i64 b) ∧ g < W.heap.size
theorem PlCellB.call {W W' : World} {g : Nat} {a b : Int} (h : PlCellB W g a b) (hb : Below W.heap.size W W') : PlCellB W' g a b := ⟨cell_call h.1 hb, cell_call h.2.1 hb, Nat.lt_of_lt_of_le h.2.2 hb.size⟩
theorem aw11_ok (q0 : Wp) (W : World) (h : WorldAt W q0 aX11) : Calls Try.prog 11 #[.agg #[.slice q0.d.ex 2 q0.d.exc, .slice q0.d.pl 3 q0.d.plc, .slice q0.d.co 3 q0.d.coc, .slice q0.d.it 3 q0.d.itc, .slice q0.d.bo 3 q0.d.boc, .int .i64 4, .int .i64 2, .int .i64 1, .slice q0.at_ 3 q0.atc, .slice q0.co 3 q0.coc, .slice q0.wh 3 q0.whc], .int .i64 1, .int .i64 1, .int .i64 0] W fun e w' => ∃ (q : Wp) (g : Nat), q.wh = some ⟨g, 0, none⟩ ∧ e = .returned (.tuple #[.agg #[.slice q.d.ex 2 q.d.exc, .slice q.d.pl 3 q.d.plc, .slice q.d.co 3 q.d.coc, .slice q.d.it 3 q.d.itc, .slice q.d.bo 3 q.d.boc, .int .i64 4, .int .i64 2, .int .i64 1, .slice q.at_ 3 q.atc, .slice q.co 3 q.coc, .slice q.wh 3 q.whc], .int .i64 0]) ∧ PlCellA w' g 1 0 ∧ Below W.heap.size W w' := by
  refine (ggive_any aX11 q0 1 1 0 W aX11_right h (by decide)).mono ?_
  rintro e w' ⟨q, rfl, hq, hb⟩
  rw [show giveW aX11 1 1 0 = (aA11, 0) by decide] at hq ⊢
  rcases hq with ⟨h1, _⟩ | ⟨_, ho⟩
  · exact absurd rfl h1
  · obtain ⟨g, hg, _, hl, hc, _, _⟩ := ho.putPlace (k := 1) (by decide)
    exact ⟨q, g, hg, rfl, ⟨hc.1, hc.2, hl⟩, hb⟩
theorem aw11_give (q0 : Wp) (W : World) (h : WorldAt W q0 aX11) (i k c : Nat) (hi : i < aX11.at_.length) (e : Int) (hR : giveW aX11 i k c = (aX11, e)) : Calls Try.prog 11 #[.agg #[.slice q0.d.ex 2 q0.d.exc, .slice q0.d.pl 3 q0.d.plc, .slice q0.d.co 3 q0.d.coc, .slice q0.d.it 3 q0.d.itc, .slice q0.d.bo 3 q0.d.boc, .int .i64 4, .int .i64 2, .int .i64 1, .slice q0.at_ 3 q0.atc, .slice q0.co 3 q0.coc, .slice q0.wh 3 q0.whc], .int .i64 (i : Int), .int .i64 (k : Int), .int .i64 (c : Int)] W fun e' w' => ∃ q : Wp, e' = .returned (.tuple #[.agg #[.slice q.d.ex 2 q.d.exc, .slice q.d.pl 3 q.d.plc, .slice q.d.co 3 q.d.coc, .slice q.d.it 3 q.d.itc, .slice q.d.bo 3 q.d.boc, .int .i64 4, .int .i64 2, .int .i64 1, .slice q.at_ 3 q.atc, .slice q.co 3 q.coc, .slice q.wh 3 q.whc], .int .i64 e]) ∧ WorldAt w' q aX11 ∧ Below W.heap.size W w' :=
  give_as (Shape.refl aX11) q0 i W aX11_right h hi k c hR
/-- A list of integers, somewhere. -/
def IntsIn (W : World) (a : Option Addr) (l : List Int) : Prop := IntsAt W a l
theorem IntsIn.call {W W' : World} {a : Option Addr} {l : List Int} (h : IntsIn W a l) (hb : Below W.heap.size W W') : IntsIn W' a l := IntsAt.below h hb (Nat.le_refl _)
theorem ints_of {W : World} {g : Nat} {cs : Array Value} {l : List Int} (h : Blk W g 3 cs) (hc : cs = (l.map (Value.int .i64)).toArray) (hl : l.length ≤ 16) : IntsAt W (some ⟨g, 0, none⟩) l :=
  h.ints (by unfold maxLen; omega) (fun i hi => by rw [hc]; simp [hi])
theorem aw11_big (q0 : Wp) (W : World) (h : WorldAt W q0 aX11) (g : Nat) (c1 c2 : Nat) (hg : IntsAt W (some ⟨g, 0, none⟩) [0]) (hw : IntsAt W (some ⟨g + 1, 0, none⟩) [1, 2]) :
    Calls Try.prog 13 #[.agg #[.slice q0.d.ex 2 q0.d.exc, .slice q0.d.pl 3 q0.d.plc, .slice q0.d.co 3 q0.d.coc, .slice q0.d.it 3 q0.d.itc, .slice q0.d.bo 3 q0.d.boc, .int .i64 4, .int .i64 2, .int .i64 1, .slice q0.at_ 3 q0.atc, .slice q0.co 3 q0.coc, .slice q0.wh 3 q0.whc], .int .i64 0, .agg #[.int .i64 8, .int .i64 0, .int .i64 0, .int .i64 0, .int .i64 1, .slice (some ⟨g, 0, none⟩) 1 c1, .int .i64 5, .slice (some ⟨g + 1, 0, none⟩) 2 c2, .int .i64 2]] W fun e w' => ∃ (q : Wp) (gw : Nat), q.wh = some ⟨gw, 0, none⟩ ∧ e = .returned (.tuple #[.agg #[.slice q.d.ex 2 q.d.exc, .slice q.d.pl 3 q.d.plc, .slice q.d.co 3 q.d.coc, .slice q.d.it 3 q.d.itc, .slice q.d.bo 3 q.d.boc, .int .i64 4, .int .i64 2, .int .i64 1, .slice q.at_ 3 q.atc, .slice q.co 3 q.coc, .slice q.wh 3 q.whc], .int .i64 0]) ∧ PlCellB w' gw 1 0 ∧ IntsAt w' q.co [2, 5, 5] ∧ Below W.heap.size W w' := by
  refine (gtrade_any aX11 q0 0 8 0 0 0 1 5 2 [0] [1, 2] (some ⟨g, 0, none⟩) (some ⟨g + 1, 0, none⟩) c1 c2 W aX11_right h (by decide) hg hw (by decide) (by decide)).mono ?_
  rintro e w' ⟨q, rfl, hq, hb⟩
  rw [show tradeW aX11 0 1 [0] [1, 2] 5 2 = (aB11, 0) by decide] at hq ⊢
  rcases hq with ⟨h1, _⟩ | ⟨_, ho⟩
  · exact absurd rfl h1
  · obtain ⟨gw, hg, _, hl, hc, _, _⟩ := ho.putPlace (k := 0) (by decide)
    obtain ⟨gw', hg', _, _, hc', _, _⟩ := ho.putPlace (k := 2) (by decide)
    obtain rfl : gw = gw' := by rw [hg] at hg'; simpa using hg'
    exact ⟨q, gw, hg, rfl, ⟨hc.2, hc'.2, hl⟩, ho.world.co, hb⟩
theorem aw11_ints (a b : Option Addr) (ca cb : Nat) (W : World) (h1 : IntsIn W a [2, 5, 5]) (h2 : IntsIn W b [2, 5, 5]) : Calls Try.prog 22 #[.slice a 3 ca, .slice b 3 cb] W fun e w' => e = .returned (.bool true) ∧ Below W.heap.size W w' := by
  have := ints_any a b ca cb [2, 5, 5] [2, 5, 5] W h1 h2
  simpa using this
theorem aw11_poor (q0 : Wp) (W : World) (h : WorldAt W q0 aX11) :
    Calls Try.prog 13 #[.agg #[.slice q0.d.ex 2 q0.d.exc, .slice q0.d.pl 3 q0.d.plc, .slice q0.d.co 3 q0.d.coc, .slice q0.d.it 3 q0.d.itc, .slice q0.d.bo 3 q0.d.boc, .int .i64 4, .int .i64 2, .int .i64 1, .slice q0.at_ 3 q0.atc, .slice q0.co 3 q0.coc, .slice q0.wh 3 q0.whc], .int .i64 0, .agg #[.int .i64 8, .int .i64 0, .int .i64 0, .int .i64 0, .int .i64 1, .slice none 0 0, .int .i64 0, .slice none 0 0, .int .i64 3]] W fun e' w' => ∃ q : Wp, e' = .returned (.tuple #[.agg #[.slice q.d.ex 2 q.d.exc, .slice q.d.pl 3 q.d.plc, .slice q.d.co 3 q.d.coc, .slice q.d.it 3 q.d.itc, .slice q.d.bo 3 q.d.boc, .int .i64 4, .int .i64 2, .int .i64 1, .slice q.at_ 3 q.atc, .slice q.co 3 q.coc, .slice q.wh 3 q.whc], .int .i64 10]) ∧ WorldAt w' q aX11 ∧ Below W.heap.size W w' :=
  trade_as (Shape.refl aX11) q0 0 W aX11_right h (by decide) 8 0 0 0 1 0 3 [] [] none none 0 0 (IntsAt.nil _ _) (IntsAt.nil _ _) (by decide) (by decide) (by decide)
theorem aw11_twice (q0 : Wp) (W : World) (h : WorldAt W q0 aX11) (g c1 : Nat) (hg : IntsAt W (some ⟨g, 0, none⟩) [0, 0]) :
    Calls Try.prog 13 #[.agg #[.slice q0.d.ex 2 q0.d.exc, .slice q0.d.pl 3 q0.d.plc, .slice q0.d.co 3 q0.d.coc, .slice q0.d.it 3 q0.d.itc, .slice q0.d.bo 3 q0.d.boc, .int .i64 4, .int .i64 2, .int .i64 1, .slice q0.at_ 3 q0.atc, .slice q0.co 3 q0.coc, .slice q0.wh 3 q0.whc], .int .i64 0, .agg #[.int .i64 8, .int .i64 0, .int .i64 0, .int .i64 0, .int .i64 1, .slice (some ⟨g, 0, none⟩) 2 c1, .int .i64 0, .slice none 0 0, .int .i64 0]] W fun e' w' => ∃ q : Wp, e' = .returned (.tuple #[.agg #[.slice q.d.ex 2 q.d.exc, .slice q.d.pl 3 q.d.plc, .slice q.d.co 3 q.d.coc, .slice q.d.it 3 q.d.itc, .slice q.d.bo 3 q.d.boc, .int .i64 4, .int .i64 2, .int .i64 1, .slice q.at_ 3 q.atc, .slice q.co 3 q.coc, .slice q.wh 3 q.whc], .int .i64 13]) ∧ WorldAt w' q aX11 ∧ Below W.heap.size W w' :=
  trade_as (Shape.refl aX11) q0 0 W aX11_right h (by decide) 8 0 0 0 1 0 0 [0, 0] [] (some ⟨g, 0, none⟩) none c1 0 hg (IntsAt.nil _ _) (by decide) (by decide) (by decide)
set_option maxRecDepth 100000 in
set_option maxHeartbeats 4000000 in
theorem awake11_any (w : World) : Calls Try.prog 7 #[] w fun e w' => e = .returned (.bool true) ∧ Below w.heap.size w w' := by
  have MK := make_exits11
  have A0 := Lib.hid (aw11_start w)
  go_enter Try.func7, Try.ntmps7
  go_wp2_with fail
  generalize (((((w.alloc (.cells #[.int .i64 0, .int .i64 0, .int .i64 0, .int .i64 0, .int .i64 0, .int .i64 0, .int .i64 0, .int .i64 0] 67)).alloc (.cells #[.int .i64 0, .int .i64 0, .int .i64 1] 3)).alloc (.cells #[.int .i64 5, .int .i64 2, .int .i64 5] 3)).alloc (.cells #[.int .i64 0, .int .i64 0, .int .i64 0] 3)).alloc (.cells #[.bool false, .bool false, .bool false] 4)) = V1 at *
  refine (aw11_new w.heap.size V1 A0.out.1).mono ?_
  rintro e w1 ⟨a, k, wh, ac, kc, whc, rfl, hn, b1⟩
  clear MK
  go_wp2_with fail
  have BL := Lib.hid (((Below.refl w1.heap.size w1).alloc (Nat.le_refl _) (.cells #[.slice (some ⟨w.heap.size, 0, none⟩) 2 2, .slice (some ⟨w.heap.size + 1, 0, none⟩) 3 3, .slice (some ⟨w.heap.size + 1 + 1, 0, none⟩) 3 3, .slice (some ⟨w.heap.size + 1 + 1 + 1, 0, none⟩) 3 3, .slice (some ⟨w.heap.size + 1 + 1 + 1 + 1, 0, none⟩) 3 3, .int .i64 4, .int .i64 2, .int .i64 1, .slice a 3 ac, .slice k 3 kc, .slice (some ⟨w1.heap.size + 1, 0, none⟩) 3 3] 29)).alloc (by simp) (.cells #[.int .i64 1, .int .i64 0, .int .i64 1, .int .i64 1, .int .i64 1, .int .i64 1] 54))
  have A_2 := Lib.hid (show WorldAt ((w1.alloc (.cells #[.slice (some ⟨w.heap.size, 0, none⟩) 2 2, .slice (some ⟨w.heap.size + 1, 0, none⟩) 3 3, .slice (some ⟨w.heap.size + 1 + 1, 0, none⟩) 3 3, .slice (some ⟨w.heap.size + 1 + 1 + 1, 0, none⟩) 3 3, .slice (some ⟨w.heap.size + 1 + 1 + 1 + 1, 0, none⟩) 3 3, .int .i64 4, .int .i64 2, .int .i64 1, .slice a 3 ac, .slice k 3 kc, .slice (some ⟨w1.heap.size + 1, 0, none⟩) 3 3] 29)).alloc (.cells #[.int .i64 1, .int .i64 0, .int .i64 1, .int .i64 1, .int .i64 1, .int .i64 1] 54)) ⟨aP11 w.heap.size, a, ac, k, kc, some ⟨w1.heap.size + 1, 0, none⟩, 3⟩ aX11 from ⟨(hn.call BL.out).d, (hn.call BL.out).at_, (hn.call BL.out).co, aw11_places (Blk.newn _ 54 #[.int .i64 1, .int .i64 0, .int .i64 1, .int .i64 1, .int .i64 1, .int .i64 1] (n := w1.heap.size + 1) (by simp))⟩)
  have B_2 := Lib.hid (show Below w.heap.size w ((w1.alloc (.cells #[.slice (some ⟨w.heap.size, 0, none⟩) 2 2, .slice (some ⟨w.heap.size + 1, 0, none⟩) 3 3, .slice (some ⟨w.heap.size + 1 + 1, 0, none⟩) 3 3, .slice (some ⟨w.heap.size + 1 + 1 + 1, 0, none⟩) 3 3, .slice (some ⟨w.heap.size + 1 + 1 + 1 + 1, 0, none⟩) 3 3, .int .i64 4, .int .i64 2, .int .i64 1, .slice a 3 ac, .slice k 3 kc, .slice (some ⟨w1.heap.size + 1, 0, none⟩) 3 3] 29)).alloc (.cells #[.int .i64 1, .int .i64 0, .int .i64 1, .int .i64 1, .int .i64 1, .int .i64 1] 54)) from A0.out.2.trans ((b1.trans (BL.out.mono b1.size)).mono A0.out.2.size))
  have X_2 := Lib.hid (show Holds w w1.heap.size #[.slice (some ⟨w.heap.size, 0, none⟩) 2 2, .slice (some ⟨w.heap.size + 1, 0, none⟩) 3 3, .slice (some ⟨w.heap.size + 1 + 1, 0, none⟩) 3 3, .slice (some ⟨w.heap.size + 1 + 1 + 1, 0, none⟩) 3 3, .slice (some ⟨w.heap.size + 1 + 1 + 1 + 1, 0, none⟩) 3 3, .int .i64 4, .int .i64 2, .int .i64 1, .slice a 3 ac, .slice k 3 kc, .slice (some ⟨w1.heap.size + 1, 0, none⟩) 3 3] ((w1.alloc (.cells #[.slice (some ⟨w.heap.size, 0, none⟩) 2 2, .slice (some ⟨w.heap.size + 1, 0, none⟩) 3 3, .slice (some ⟨w.heap.size + 1 + 1, 0, none⟩) 3 3, .slice (some ⟨w.heap.size + 1 + 1 + 1, 0, none⟩) 3 3, .slice (some ⟨w.heap.size + 1 + 1 + 1 + 1, 0, none⟩) 3 3, .int .i64 4, .int .i64 2, .int .i64 1, .slice a 3 ac, .slice k 3 kc, .slice (some ⟨w1.heap.size + 1, 0, none⟩) 3 3] 29)).alloc (.cells #[.int .i64 1, .int .i64 0, .int .i64 1, .int .i64 1, .int .i64 1, .int .i64 1] 54)) from (Holds.newb (w := w) (A := #[.slice (some ⟨w.heap.size, 0, none⟩) 2 2, .slice (some ⟨w.heap.size + 1, 0, none⟩) 3 3, .slice (some ⟨w.heap.size + 1 + 1, 0, none⟩) 3 3, .slice (some ⟨w.heap.size + 1 + 1 + 1, 0, none⟩) 3 3, .slice (some ⟨w.heap.size + 1 + 1 + 1 + 1, 0, none⟩) 3 3, .int .i64 4, .int .i64 2, .int .i64 1, .slice a 3 ac, .slice k 3 kc, .slice (some ⟨w1.heap.size + 1, 0, none⟩) 3 3]) (t := 29) (n := w1.heap.size) (A0.out.2.trans (b1.mono A0.out.2.size)) rfl).alloc _)
  generalize ((w1.alloc (.cells #[.slice (some ⟨w.heap.size, 0, none⟩) 2 2, .slice (some ⟨w.heap.size + 1, 0, none⟩) 3 3, .slice (some ⟨w.heap.size + 1 + 1, 0, none⟩) 3 3, .slice (some ⟨w.heap.size + 1 + 1 + 1, 0, none⟩) 3 3, .slice (some ⟨w.heap.size + 1 + 1 + 1 + 1, 0, none⟩) 3 3, .int .i64 4, .int .i64 2, .int .i64 1, .slice a 3 ac, .slice k 3 kc, .slice (some ⟨w1.heap.size + 1, 0, none⟩) 3 3] 29)).alloc (.cells #[.int .i64 1, .int .i64 0, .int .i64 1, .int .i64 1, .int .i64 1, .int .i64 1] 54)) = V5 at *
  clear A0 b1 hn BL
  have hcX := X_2.out.2.2
  have hlX := X_2.out.2.1
  refine (aw11_give ⟨aP11 w.heap.size, a, ac, k, kc, some ⟨w1.heap.size + 1, 0, none⟩, 3⟩ _ A_2.out 0 0 1 (by decide) 9 (by decide)).mono ?_
  rintro e u6 ⟨⟨xd6, xa6, xac6, xk6, xkc6, xw6, xwc6⟩, rfl, i6, b6⟩
  clear hcX hlX
  have B_3 := Lib.hid (bl B_2.out b6)
  have X_3 := Lib.hid (X_2.out.call b6)
  have A_3 := Lib.hid (A_2.out.call b6)
  clear b6 B_2 X_2 A_2
  have hcX := X_3.out.2.2
  have hlX := X_3.out.2.1
  clear i6
  go_wp2_with fail
  clear hcX hlX
  have s4 : (u6.alloc (.cells #[.slice xd6.ex 2 xd6.exc, .slice xd6.pl 3 xd6.plc, .slice xd6.co 3 xd6.coc, .slice xd6.it 3 xd6.itc, .slice xd6.bo 3 xd6.boc, .int .i64 4, .int .i64 2, .int .i64 1, .slice xa6 3 xac6, .slice xk6 3 xkc6, .slice xw6 3 xwc6] 29)).heap.size = u6.heap.size + 1 := by simp
  have B_4 := Lib.hid (B_3.out.alloc B_3.out.size (.cells #[.slice xd6.ex 2 xd6.exc, .slice xd6.pl 3 xd6.plc, .slice xd6.co 3 xd6.coc, .slice xd6.it 3 xd6.itc, .slice xd6.bo 3 xd6.boc, .int .i64 4, .int .i64 2, .int .i64 1, .slice xa6 3 xac6, .slice xk6 3 xkc6, .slice xw6 3 xwc6] 29))
  have X_4 := Lib.hid (X_3.out.alloc (.cells #[.slice xd6.ex 2 xd6.exc, .slice xd6.pl 3 xd6.plc, .slice xd6.co 3 xd6.coc, .slice xd6.it 3 xd6.itc, .slice xd6.bo 3 xd6.boc, .int .i64 4, .int .i64 2, .int .i64 1, .slice xa6 3 xac6, .slice xk6 3 xkc6, .slice xw6 3 xwc6] 29))
  have A_4 := Lib.hid (A_3.out.call ((Below.refl _ _).alloc (Nat.le_refl _) (.cells #[.slice xd6.ex 2 xd6.exc, .slice xd6.pl 3 xd6.plc, .slice xd6.co 3 xd6.coc, .slice xd6.it 3 xd6.itc, .slice xd6.bo 3 xd6.boc, .int .i64 4, .int .i64 2, .int .i64 1, .slice xa6 3 xac6, .slice xk6 3 xkc6, .slice xw6 3 xwc6] 29)))
  clear B_3 X_3 A_3
  generalize u6.alloc (.cells #[.slice xd6.ex 2 xd6.exc, .slice xd6.pl 3 xd6.plc, .slice xd6.co 3 xd6.coc, .slice xd6.it 3 xd6.itc, .slice xd6.bo 3 xd6.boc, .int .i64 4, .int .i64 2, .int .i64 1, .slice xa6 3 xac6, .slice xk6 3 xkc6, .slice xw6 3 xwc6] 29) = V7 at *
  have hcX := X_4.out.2.2
  have hlX := X_4.out.2.1
  refine (aw11_ok ⟨aP11 w.heap.size, a, ac, k, kc, some ⟨w1.heap.size + 1, 0, none⟩, 3⟩ _ A_4.out ).mono ?_
  rintro e u8 ⟨⟨xd8, xa8, xac8, xk8, xkc8, xw8, xwc8⟩, g, hg, rfl, j8, b8⟩
  clear hcX hlX
  have B_5 := Lib.hid (bl B_4.out b8)
  have X_5 := Lib.hid (X_4.out.call b8)
  have A_5 := Lib.hid (A_4.out.call b8)
  clear b8 B_4 X_4 A_4
  have hcX := X_5.out.2.2
  have hlX := X_5.out.2.1
  simp only at hg
  subst hg
  have PC_5 := Lib.hid j8
  clear j8
  go_wp2_with fail
  clear hcX hlX
  have s6 : (u8.alloc (.cells #[.slice xd8.ex 2 xd8.exc, .slice xd8.pl 3 xd8.plc, .slice xd8.co 3 xd8.coc, .slice xd8.it 3 xd8.itc, .slice xd8.bo 3 xd8.boc, .int .i64 4, .int .i64 2, .int .i64 1, .slice xa8 3 xac8, .slice xk8 3 xkc8, .slice (some ⟨g, 0, none⟩) 3 xwc8] 29)).heap.size = u8.heap.size + 1 := by simp
  have B_6 := Lib.hid (B_5.out.alloc B_5.out.size (.cells #[.slice xd8.ex 2 xd8.exc, .slice xd8.pl 3 xd8.plc, .slice xd8.co 3 xd8.coc, .slice xd8.it 3 xd8.itc, .slice xd8.bo 3 xd8.boc, .int .i64 4, .int .i64 2, .int .i64 1, .slice xa8 3 xac8, .slice xk8 3 xkc8, .slice (some ⟨g, 0, none⟩) 3 xwc8] 29))
  have X_6 := Lib.hid (X_5.out.alloc (.cells #[.slice xd8.ex 2 xd8.exc, .slice xd8.pl 3 xd8.plc, .slice xd8.co 3 xd8.coc, .slice xd8.it 3 xd8.itc, .slice xd8.bo 3 xd8.boc, .int .i64 4, .int .i64 2, .int .i64 1, .slice xa8 3 xac8, .slice xk8 3 xkc8, .slice (some ⟨g, 0, none⟩) 3 xwc8] 29))
  have A_6 := Lib.hid (A_5.out.call ((Below.refl _ _).alloc (Nat.le_refl _) (.cells #[.slice xd8.ex 2 xd8.exc, .slice xd8.pl 3 xd8.plc, .slice xd8.co 3 xd8.coc, .slice xd8.it 3 xd8.itc, .slice xd8.bo 3 xd8.boc, .int .i64 4, .int .i64 2, .int .i64 1, .slice xa8 3 xac8, .slice xk8 3 xkc8, .slice (some ⟨g, 0, none⟩) 3 xwc8] 29)))
  have PC_6 := Lib.hid (PC_5.out.call ((Below.refl _ _).alloc (Nat.le_refl _) (.cells #[.slice xd8.ex 2 xd8.exc, .slice xd8.pl 3 xd8.plc, .slice xd8.co 3 xd8.coc, .slice xd8.it 3 xd8.itc, .slice xd8.bo 3 xd8.boc, .int .i64 4, .int .i64 2, .int .i64 1, .slice xa8 3 xac8, .slice xk8 3 xkc8, .slice (some ⟨g, 0, none⟩) 3 xwc8] 29)))
  have P_6 := Lib.hid (Holds.newb (w := w) (A := #[.slice xd8.ex 2 xd8.exc, .slice xd8.pl 3 xd8.plc, .slice xd8.co 3 xd8.coc, .slice xd8.it 3 xd8.itc, .slice xd8.bo 3 xd8.boc, .int .i64 4, .int .i64 2, .int .i64 1, .slice xa8 3 xac8, .slice xk8 3 xkc8, .slice (some ⟨g, 0, none⟩) 3 xwc8]) (t := 29) (n := u8.heap.size) B_5.out rfl)
  clear B_5 X_5 A_5 PC_5
  generalize u8.alloc (.cells #[.slice xd8.ex 2 xd8.exc, .slice xd8.pl 3 xd8.plc, .slice xd8.co 3 xd8.coc, .slice xd8.it 3 xd8.itc, .slice xd8.bo 3 xd8.boc, .int .i64 4, .int .i64 2, .int .i64 1, .slice xa8 3 xac8, .slice xk8 3 xkc8, .slice (some ⟨g, 0, none⟩) 3 xwc8] 29) = V9 at *
  have hcX := X_6.out.2.2
  have hlX := X_6.out.2.1
  have hcP := P_6.out.2.2
  have hlP := P_6.out.2.1
  refine (aw11_give ⟨aP11 w.heap.size, a, ac, k, kc, some ⟨w1.heap.size + 1, 0, none⟩, 3⟩ _ A_6.out 0 0 2 (by decide) 5 (by decide)).mono ?_
  rintro e u10 ⟨⟨xd10, xa10, xac10, xk10, xkc10, xw10, xwc10⟩, rfl, i10, b10⟩
  clear hcX hlX hcP hlP
  have B_7 := Lib.hid (bl B_6.out b10)
  have X_7 := Lib.hid (X_6.out.call b10)
  have P_7 := Lib.hid (P_6.out.call b10)
  have A_7 := Lib.hid (A_6.out.call b10)
  have PC_7 := Lib.hid (PC_6.out.call b10)
  clear b10 B_6 X_6 P_6 A_6 PC_6
  have hcX := X_7.out.2.2
  have hlX := X_7.out.2.1
  have hcP := P_7.out.2.2
  have hlP := P_7.out.2.1
  clear i10
  go_wp2_with fail
  clear hcX hlX hcP hlP
  have s8 : (u10.alloc (.cells #[.slice xd10.ex 2 xd10.exc, .slice xd10.pl 3 xd10.plc, .slice xd10.co 3 xd10.coc, .slice xd10.it 3 xd10.itc, .slice xd10.bo 3 xd10.boc, .int .i64 4, .int .i64 2, .int .i64 1, .slice xa10 3 xac10, .slice xk10 3 xkc10, .slice xw10 3 xwc10] 29)).heap.size = u10.heap.size + 1 := by simp
  have B_8 := Lib.hid (B_7.out.alloc B_7.out.size (.cells #[.slice xd10.ex 2 xd10.exc, .slice xd10.pl 3 xd10.plc, .slice xd10.co 3 xd10.coc, .slice xd10.it 3 xd10.itc, .slice xd10.bo 3 xd10.boc, .int .i64 4, .int .i64 2, .int .i64 1, .slice xa10 3 xac10, .slice xk10 3 xkc10, .slice xw10 3 xwc10] 29))
  have X_8 := Lib.hid (X_7.out.alloc (.cells #[.slice xd10.ex 2 xd10.exc, .slice xd10.pl 3 xd10.plc, .slice xd10.co 3 xd10.coc, .slice xd10.it 3 xd10.itc, .slice xd10.bo 3 xd10.boc, .int .i64 4, .int .i64 2, .int .i64 1, .slice xa10 3 xac10, .slice xk10 3 xkc10, .slice xw10 3 xwc10] 29))
  have P_8 := Lib.hid (P_7.out.alloc (.cells #[.slice xd10.ex 2 xd10.exc, .slice xd10.pl 3 xd10.plc, .slice xd10.co 3 xd10.coc, .slice xd10.it 3 xd10.itc, .slice xd10.bo 3 xd10.boc, .int .i64 4, .int .i64 2, .int .i64 1, .slice xa10 3 xac10, .slice xk10 3 xkc10, .slice xw10 3 xwc10] 29))
  have A_8 := Lib.hid (A_7.out.call ((Below.refl _ _).alloc (Nat.le_refl _) (.cells #[.slice xd10.ex 2 xd10.exc, .slice xd10.pl 3 xd10.plc, .slice xd10.co 3 xd10.coc, .slice xd10.it 3 xd10.itc, .slice xd10.bo 3 xd10.boc, .int .i64 4, .int .i64 2, .int .i64 1, .slice xa10 3 xac10, .slice xk10 3 xkc10, .slice xw10 3 xwc10] 29)))
  have PC_8 := Lib.hid (PC_7.out.call ((Below.refl _ _).alloc (Nat.le_refl _) (.cells #[.slice xd10.ex 2 xd10.exc, .slice xd10.pl 3 xd10.plc, .slice xd10.co 3 xd10.coc, .slice xd10.it 3 xd10.itc, .slice xd10.bo 3 xd10.boc, .int .i64 4, .int .i64 2, .int .i64 1, .slice xa10 3 xac10, .slice xk10 3 xkc10, .slice xw10 3 xwc10] 29)))
  clear B_7 X_7 P_7 A_7 PC_7
  generalize u10.alloc (.cells #[.slice xd10.ex 2 xd10.exc, .slice xd10.pl 3 xd10.plc, .slice xd10.co 3 xd10.coc, .slice xd10.it 3 xd10.itc, .slice xd10.bo 3 xd10.boc, .int .i64 4, .int .i64 2, .int .i64 1, .slice xa10 3 xac10, .slice xk10 3 xkc10, .slice xw10 3 xwc10] 29) = V11 at *
  have hcX := X_8.out.2.2
  have hlX := X_8.out.2.1
  have hcP := P_8.out.2.2
  have hlP := P_8.out.2.1
  refine (aw11_give ⟨aP11 w.heap.size, a, ac, k, kc, some ⟨w1.heap.size + 1, 0, none⟩, 3⟩ _ A_8.out 0 0 0 (by decide) 12 (by decide)).mono ?_
  rintro e u12 ⟨⟨xd12, xa12, xac12, xk12, xkc12, xw12, xwc12⟩, rfl, i12, b12⟩
  clear hcX hlX hcP hlP
  have B_9 := Lib.hid (bl B_8.out b12)
  have X_9 := Lib.hid (X_8.out.call b12)
  have P_9 := Lib.hid (P_8.out.call b12)
  have A_9 := Lib.hid (A_8.out.call b12)
  have PC_9 := Lib.hid (PC_8.out.call b12)
  clear b12 B_8 X_8 P_8 A_8 PC_8
  have hcX := X_9.out.2.2
  have hlX := X_9.out.2.1
  have hcP := P_9.out.2.2
  have hlP := P_9.out.2.1
  clear i12
  go_wp2_with fail
  clear hcX hlX hcP hlP
  have s10 : (u12.alloc (.cells #[.slice xd12.ex 2 xd12.exc, .slice xd12.pl 3 xd12.plc, .slice xd12.co 3 xd12.coc, .slice xd12.it 3 xd12.itc, .slice xd12.bo 3 xd12.boc, .int .i64 4, .int .i64 2, .int .i64 1, .slice xa12 3 xac12, .slice xk12 3 xkc12, .slice xw12 3 xwc12] 29)).heap.size = u12.heap.size + 1 := by simp
  have B_10 := Lib.hid (B_9.out.alloc B_9.out.size (.cells #[.slice xd12.ex 2 xd12.exc, .slice xd12.pl 3 xd12.plc, .slice xd12.co 3 xd12.coc, .slice xd12.it 3 xd12.itc, .slice xd12.bo 3 xd12.boc, .int .i64 4, .int .i64 2, .int .i64 1, .slice xa12 3 xac12, .slice xk12 3 xkc12, .slice xw12 3 xwc12] 29))
  have X_10 := Lib.hid (X_9.out.alloc (.cells #[.slice xd12.ex 2 xd12.exc, .slice xd12.pl 3 xd12.plc, .slice xd12.co 3 xd12.coc, .slice xd12.it 3 xd12.itc, .slice xd12.bo 3 xd12.boc, .int .i64 4, .int .i64 2, .int .i64 1, .slice xa12 3 xac12, .slice xk12 3 xkc12, .slice xw12 3 xwc12] 29))
  have P_10 := Lib.hid (P_9.out.alloc (.cells #[.slice xd12.ex 2 xd12.exc, .slice xd12.pl 3 xd12.plc, .slice xd12.co 3 xd12.coc, .slice xd12.it 3 xd12.itc, .slice xd12.bo 3 xd12.boc, .int .i64 4, .int .i64 2, .int .i64 1, .slice xa12 3 xac12, .slice xk12 3 xkc12, .slice xw12 3 xwc12] 29))
  have A_10 := Lib.hid (A_9.out.call ((Below.refl _ _).alloc (Nat.le_refl _) (.cells #[.slice xd12.ex 2 xd12.exc, .slice xd12.pl 3 xd12.plc, .slice xd12.co 3 xd12.coc, .slice xd12.it 3 xd12.itc, .slice xd12.bo 3 xd12.boc, .int .i64 4, .int .i64 2, .int .i64 1, .slice xa12 3 xac12, .slice xk12 3 xkc12, .slice xw12 3 xwc12] 29)))
  have PC_10 := Lib.hid (PC_9.out.call ((Below.refl _ _).alloc (Nat.le_refl _) (.cells #[.slice xd12.ex 2 xd12.exc, .slice xd12.pl 3 xd12.plc, .slice xd12.co 3 xd12.coc, .slice xd12.it 3 xd12.itc, .slice xd12.bo 3 xd12.boc, .int .i64 4, .int .i64 2, .int .i64 1, .slice xa12 3 xac12, .slice xk12 3 xkc12, .slice xw12 3 xwc12] 29)))
  clear B_9 X_9 P_9 A_9 PC_9
  generalize u12.alloc (.cells #[.slice xd12.ex 2 xd12.exc, .slice xd12.pl 3 xd12.plc, .slice xd12.co 3 xd12.coc, .slice xd12.it 3 xd12.itc, .slice xd12.bo 3 xd12.boc, .int .i64 4, .int .i64 2, .int .i64 1, .slice xa12 3 xac12, .slice xk12 3 xkc12, .slice xw12 3 xwc12] 29) = V13 at *
  have hcX := X_10.out.2.2
  have hlX := X_10.out.2.1
  have hcP := P_10.out.2.2
  have hlP := P_10.out.2.1
  clear hcX hlX hcP hlP
  have s11 : (V13.alloc (.cells #[.int .i64 0] 3)).heap.size = V13.heap.size + 1 := by simp
  have B_11 := Lib.hid (B_10.out.alloc B_10.out.size (.cells #[.int .i64 0] 3))
  have X_11 := Lib.hid (X_10.out.alloc (.cells #[.int .i64 0] 3))
  have P_11 := Lib.hid (P_10.out.alloc (.cells #[.int .i64 0] 3))
  have A_11 := Lib.hid (A_10.out.call ((Below.refl _ _).alloc (Nat.le_refl _) (.cells #[.int .i64 0] 3)))
  have PC_11 := Lib.hid (PC_10.out.call ((Below.refl _ _).alloc (Nat.le_refl _) (.cells #[.int .i64 0] 3)))
  have IA_11 := Lib.hid (show IntsIn (V13.alloc (.cells #[.int .i64 0] 3)) (some ⟨u12.heap.size + 1, 0, none⟩) [0] from ints_of (Blk.newn V13 3 #[.int .i64 0] (n := u12.heap.size + 1) (by omega)) rfl (by decide))
  clear B_10 X_10 P_10 A_10 PC_10
  generalize V13.alloc (.cells #[.int .i64 0] 3) = V14 at *
  have hcX := X_11.out.2.2
  have hlX := X_11.out.2.1
  have hcP := P_11.out.2.2
  have hlP := P_11.out.2.1
  clear hcX hlX hcP hlP
  have s12 : (V14.alloc (.cells #[.int .i64 1, .int .i64 2] 3)).heap.size = V14.heap.size + 1 := by simp
  have B_12 := Lib.hid (B_11.out.alloc B_11.out.size (.cells #[.int .i64 1, .int .i64 2] 3))
  have X_12 := Lib.hid (X_11.out.alloc (.cells #[.int .i64 1, .int .i64 2] 3))
  have P_12 := Lib.hid (P_11.out.alloc (.cells #[.int .i64 1, .int .i64 2] 3))
  have A_12 := Lib.hid (A_11.out.call ((Below.refl _ _).alloc (Nat.le_refl _) (.cells #[.int .i64 1, .int .i64 2] 3)))
  have PC_12 := Lib.hid (PC_11.out.call ((Below.refl _ _).alloc (Nat.le_refl _) (.cells #[.int .i64 1, .int .i64 2] 3)))
  have IA_12 := Lib.hid (IA_11.out.call ((Below.refl _ _).alloc (Nat.le_refl _) (.cells #[.int .i64 1, .int .i64 2] 3)))
  have IB_12 := Lib.hid (show IntsIn (V14.alloc (.cells #[.int .i64 1, .int .i64 2] 3)) (some ⟨u12.heap.size + 1 + 1, 0, none⟩) [1, 2] from ints_of (Blk.newn V14 3 #[.int .i64 1, .int .i64 2] (n := u12.heap.size + 1 + 1) (by omega)) rfl (by decide))
  clear B_11 X_11 P_11 A_11 PC_11 IA_11
  generalize V14.alloc (.cells #[.int .i64 1, .int .i64 2] 3) = V15 at *
  have hcX := X_12.out.2.2
  have hlX := X_12.out.2.1
  have hcP := P_12.out.2.2
  have hlP := P_12.out.2.1
  refine (aw11_big ⟨aP11 w.heap.size, a, ac, k, kc, some ⟨w1.heap.size + 1, 0, none⟩, 3⟩ _ A_12.out (u12.heap.size + 1) 1 2 IA_12.out IB_12.out).mono ?_
  rintro e u16 ⟨⟨xd16, xa16, xac16, xk16, xkc16, xw16, xwc16⟩, gw, hg, rfl, j16, l16, b16⟩
  clear hcX hlX hcP hlP
  have B_13 := Lib.hid (bl B_12.out b16)
  have X_13 := Lib.hid (X_12.out.call b16)
  have P_13 := Lib.hid (P_12.out.call b16)
  have A_13 := Lib.hid (A_12.out.call b16)
  have PC_13 := Lib.hid (PC_12.out.call b16)
  have IA_13 := Lib.hid (IA_12.out.call b16)
  have IB_13 := Lib.hid (IB_12.out.call b16)
  clear b16 B_12 X_12 P_12 A_12 PC_12 IA_12 IB_12
  have hcX := X_13.out.2.2
  have hlX := X_13.out.2.1
  have hcP := P_13.out.2.2
  have hlP := P_13.out.2.1
  simp only at hg
  subst hg
  have PD_13 := Lib.hid j16
  have IC_13 := Lib.hid (show IntsIn u16 xk16 [2, 5, 5] from l16)
  clear j16 l16
  go_wp2_with fail
  clear hcX hlX hcP hlP
  have s14 : (u16.alloc (.cells #[.slice xd16.ex 2 xd16.exc, .slice xd16.pl 3 xd16.plc, .slice xd16.co 3 xd16.coc, .slice xd16.it 3 xd16.itc, .slice xd16.bo 3 xd16.boc, .int .i64 4, .int .i64 2, .int .i64 1, .slice xa16 3 xac16, .slice xk16 3 xkc16, .slice (some ⟨gw, 0, none⟩) 3 xwc16] 29)).heap.size = u16.heap.size + 1 := by simp
  have B_14 := Lib.hid (B_13.out.alloc B_13.out.size (.cells #[.slice xd16.ex 2 xd16.exc, .slice xd16.pl 3 xd16.plc, .slice xd16.co 3 xd16.coc, .slice xd16.it 3 xd16.itc, .slice xd16.bo 3 xd16.boc, .int .i64 4, .int .i64 2, .int .i64 1, .slice xa16 3 xac16, .slice xk16 3 xkc16, .slice (some ⟨gw, 0, none⟩) 3 xwc16] 29))
  have X_14 := Lib.hid (X_13.out.alloc (.cells #[.slice xd16.ex 2 xd16.exc, .slice xd16.pl 3 xd16.plc, .slice xd16.co 3 xd16.coc, .slice xd16.it 3 xd16.itc, .slice xd16.bo 3 xd16.boc, .int .i64 4, .int .i64 2, .int .i64 1, .slice xa16 3 xac16, .slice xk16 3 xkc16, .slice (some ⟨gw, 0, none⟩) 3 xwc16] 29))
  have P_14 := Lib.hid (P_13.out.alloc (.cells #[.slice xd16.ex 2 xd16.exc, .slice xd16.pl 3 xd16.plc, .slice xd16.co 3 xd16.coc, .slice xd16.it 3 xd16.itc, .slice xd16.bo 3 xd16.boc, .int .i64 4, .int .i64 2, .int .i64 1, .slice xa16 3 xac16, .slice xk16 3 xkc16, .slice (some ⟨gw, 0, none⟩) 3 xwc16] 29))
  have A_14 := Lib.hid (A_13.out.call ((Below.refl _ _).alloc (Nat.le_refl _) (.cells #[.slice xd16.ex 2 xd16.exc, .slice xd16.pl 3 xd16.plc, .slice xd16.co 3 xd16.coc, .slice xd16.it 3 xd16.itc, .slice xd16.bo 3 xd16.boc, .int .i64 4, .int .i64 2, .int .i64 1, .slice xa16 3 xac16, .slice xk16 3 xkc16, .slice (some ⟨gw, 0, none⟩) 3 xwc16] 29)))
  have PC_14 := Lib.hid (PC_13.out.call ((Below.refl _ _).alloc (Nat.le_refl _) (.cells #[.slice xd16.ex 2 xd16.exc, .slice xd16.pl 3 xd16.plc, .slice xd16.co 3 xd16.coc, .slice xd16.it 3 xd16.itc, .slice xd16.bo 3 xd16.boc, .int .i64 4, .int .i64 2, .int .i64 1, .slice xa16 3 xac16, .slice xk16 3 xkc16, .slice (some ⟨gw, 0, none⟩) 3 xwc16] 29)))
  have IA_14 := Lib.hid (IA_13.out.call ((Below.refl _ _).alloc (Nat.le_refl _) (.cells #[.slice xd16.ex 2 xd16.exc, .slice xd16.pl 3 xd16.plc, .slice xd16.co 3 xd16.coc, .slice xd16.it 3 xd16.itc, .slice xd16.bo 3 xd16.boc, .int .i64 4, .int .i64 2, .int .i64 1, .slice xa16 3 xac16, .slice xk16 3 xkc16, .slice (some ⟨gw, 0, none⟩) 3 xwc16] 29)))
  have IB_14 := Lib.hid (IB_13.out.call ((Below.refl _ _).alloc (Nat.le_refl _) (.cells #[.slice xd16.ex 2 xd16.exc, .slice xd16.pl 3 xd16.plc, .slice xd16.co 3 xd16.coc, .slice xd16.it 3 xd16.itc, .slice xd16.bo 3 xd16.boc, .int .i64 4, .int .i64 2, .int .i64 1, .slice xa16 3 xac16, .slice xk16 3 xkc16, .slice (some ⟨gw, 0, none⟩) 3 xwc16] 29)))
  have PD_14 := Lib.hid (PD_13.out.call ((Below.refl _ _).alloc (Nat.le_refl _) (.cells #[.slice xd16.ex 2 xd16.exc, .slice xd16.pl 3 xd16.plc, .slice xd16.co 3 xd16.coc, .slice xd16.it 3 xd16.itc, .slice xd16.bo 3 xd16.boc, .int .i64 4, .int .i64 2, .int .i64 1, .slice xa16 3 xac16, .slice xk16 3 xkc16, .slice (some ⟨gw, 0, none⟩) 3 xwc16] 29)))
  have IC_14 := Lib.hid (IC_13.out.call ((Below.refl _ _).alloc (Nat.le_refl _) (.cells #[.slice xd16.ex 2 xd16.exc, .slice xd16.pl 3 xd16.plc, .slice xd16.co 3 xd16.coc, .slice xd16.it 3 xd16.itc, .slice xd16.bo 3 xd16.boc, .int .i64 4, .int .i64 2, .int .i64 1, .slice xa16 3 xac16, .slice xk16 3 xkc16, .slice (some ⟨gw, 0, none⟩) 3 xwc16] 29)))
  have Q_14 := Lib.hid (Holds.newb (w := w) (A := #[.slice xd16.ex 2 xd16.exc, .slice xd16.pl 3 xd16.plc, .slice xd16.co 3 xd16.coc, .slice xd16.it 3 xd16.itc, .slice xd16.bo 3 xd16.boc, .int .i64 4, .int .i64 2, .int .i64 1, .slice xa16 3 xac16, .slice xk16 3 xkc16, .slice (some ⟨gw, 0, none⟩) 3 xwc16]) (t := 29) (n := u16.heap.size) B_13.out rfl)
  clear B_13 X_13 P_13 A_13 PC_13 IA_13 IB_13 PD_13 IC_13
  generalize u16.alloc (.cells #[.slice xd16.ex 2 xd16.exc, .slice xd16.pl 3 xd16.plc, .slice xd16.co 3 xd16.coc, .slice xd16.it 3 xd16.itc, .slice xd16.bo 3 xd16.boc, .int .i64 4, .int .i64 2, .int .i64 1, .slice xa16 3 xac16, .slice xk16 3 xkc16, .slice (some ⟨gw, 0, none⟩) 3 xwc16] 29) = V17 at *
  have hcX := X_14.out.2.2
  have hlX := X_14.out.2.1
  have hcP := P_14.out.2.2
  have hlP := P_14.out.2.1
  have hcQ := Q_14.out.2.2
  have hlQ := Q_14.out.2.1
  refine (aw11_poor ⟨aP11 w.heap.size, a, ac, k, kc, some ⟨w1.heap.size + 1, 0, none⟩, 3⟩ _ A_14.out ).mono ?_
  rintro e u18 ⟨⟨xd18, xa18, xac18, xk18, xkc18, xw18, xwc18⟩, rfl, i18, b18⟩
  clear hcX hlX hcP hlP hcQ hlQ
  have B_15 := Lib.hid (bl B_14.out b18)
  have X_15 := Lib.hid (X_14.out.call b18)
  have P_15 := Lib.hid (P_14.out.call b18)
  have Q_15 := Lib.hid (Q_14.out.call b18)
  have A_15 := Lib.hid (A_14.out.call b18)
  have PC_15 := Lib.hid (PC_14.out.call b18)
  have IA_15 := Lib.hid (IA_14.out.call b18)
  have IB_15 := Lib.hid (IB_14.out.call b18)
  have PD_15 := Lib.hid (PD_14.out.call b18)
  have IC_15 := Lib.hid (IC_14.out.call b18)
  clear b18 B_14 X_14 P_14 Q_14 A_14 PC_14 IA_14 IB_14 PD_14 IC_14
  have hcX := X_15.out.2.2
  have hlX := X_15.out.2.1
  have hcP := P_15.out.2.2
  have hlP := P_15.out.2.1
  have hcQ := Q_15.out.2.2
  have hlQ := Q_15.out.2.1
  clear i18
  go_wp2_with fail
  clear hcX hlX hcP hlP hcQ hlQ
  have s16 : (u18.alloc (.cells #[.slice xd18.ex 2 xd18.exc, .slice xd18.pl 3 xd18.plc, .slice xd18.co 3 xd18.coc, .slice xd18.it 3 xd18.itc, .slice xd18.bo 3 xd18.boc, .int .i64 4, .int .i64 2, .int .i64 1, .slice xa18 3 xac18, .slice xk18 3 xkc18, .slice xw18 3 xwc18] 29)).heap.size = u18.heap.size + 1 := by simp
  have B_16 := Lib.hid (B_15.out.alloc B_15.out.size (.cells #[.slice xd18.ex 2 xd18.exc, .slice xd18.pl 3 xd18.plc, .slice xd18.co 3 xd18.coc, .slice xd18.it 3 xd18.itc, .slice xd18.bo 3 xd18.boc, .int .i64 4, .int .i64 2, .int .i64 1, .slice xa18 3 xac18, .slice xk18 3 xkc18, .slice xw18 3 xwc18] 29))
  have X_16 := Lib.hid (X_15.out.alloc (.cells #[.slice xd18.ex 2 xd18.exc, .slice xd18.pl 3 xd18.plc, .slice xd18.co 3 xd18.coc, .slice xd18.it 3 xd18.itc, .slice xd18.bo 3 xd18.boc, .int .i64 4, .int .i64 2, .int .i64 1, .slice xa18 3 xac18, .slice xk18 3 xkc18, .slice xw18 3 xwc18] 29))
  have P_16 := Lib.hid (P_15.out.alloc (.cells #[.slice xd18.ex 2 xd18.exc, .slice xd18.pl 3 xd18.plc, .slice xd18.co 3 xd18.coc, .slice xd18.it 3 xd18.itc, .slice xd18.bo 3 xd18.boc, .int .i64 4, .int .i64 2, .int .i64 1, .slice xa18 3 xac18, .slice xk18 3 xkc18, .slice xw18 3 xwc18] 29))
  have Q_16 := Lib.hid (Q_15.out.alloc (.cells #[.slice xd18.ex 2 xd18.exc, .slice xd18.pl 3 xd18.plc, .slice xd18.co 3 xd18.coc, .slice xd18.it 3 xd18.itc, .slice xd18.bo 3 xd18.boc, .int .i64 4, .int .i64 2, .int .i64 1, .slice xa18 3 xac18, .slice xk18 3 xkc18, .slice xw18 3 xwc18] 29))
  have A_16 := Lib.hid (A_15.out.call ((Below.refl _ _).alloc (Nat.le_refl _) (.cells #[.slice xd18.ex 2 xd18.exc, .slice xd18.pl 3 xd18.plc, .slice xd18.co 3 xd18.coc, .slice xd18.it 3 xd18.itc, .slice xd18.bo 3 xd18.boc, .int .i64 4, .int .i64 2, .int .i64 1, .slice xa18 3 xac18, .slice xk18 3 xkc18, .slice xw18 3 xwc18] 29)))
  have PC_16 := Lib.hid (PC_15.out.call ((Below.refl _ _).alloc (Nat.le_refl _) (.cells #[.slice xd18.ex 2 xd18.exc, .slice xd18.pl 3 xd18.plc, .slice xd18.co 3 xd18.coc, .slice xd18.it 3 xd18.itc, .slice xd18.bo 3 xd18.boc, .int .i64 4, .int .i64 2, .int .i64 1, .slice xa18 3 xac18, .slice xk18 3 xkc18, .slice xw18 3 xwc18] 29)))
  have IA_16 := Lib.hid (IA_15.out.call ((Below.refl _ _).alloc (Nat.le_refl _) (.cells #[.slice xd18.ex 2 xd18.exc, .slice xd18.pl 3 xd18.plc, .slice xd18.co 3 xd18.coc, .slice xd18.it 3 xd18.itc, .slice xd18.bo 3 xd18.boc, .int .i64 4, .int .i64 2, .int .i64 1, .slice xa18 3 xac18, .slice xk18 3 xkc18, .slice xw18 3 xwc18] 29)))
  have IB_16 := Lib.hid (IB_15.out.call ((Below.refl _ _).alloc (Nat.le_refl _) (.cells #[.slice xd18.ex 2 xd18.exc, .slice xd18.pl 3 xd18.plc, .slice xd18.co 3 xd18.coc, .slice xd18.it 3 xd18.itc, .slice xd18.bo 3 xd18.boc, .int .i64 4, .int .i64 2, .int .i64 1, .slice xa18 3 xac18, .slice xk18 3 xkc18, .slice xw18 3 xwc18] 29)))
  have PD_16 := Lib.hid (PD_15.out.call ((Below.refl _ _).alloc (Nat.le_refl _) (.cells #[.slice xd18.ex 2 xd18.exc, .slice xd18.pl 3 xd18.plc, .slice xd18.co 3 xd18.coc, .slice xd18.it 3 xd18.itc, .slice xd18.bo 3 xd18.boc, .int .i64 4, .int .i64 2, .int .i64 1, .slice xa18 3 xac18, .slice xk18 3 xkc18, .slice xw18 3 xwc18] 29)))
  have IC_16 := Lib.hid (IC_15.out.call ((Below.refl _ _).alloc (Nat.le_refl _) (.cells #[.slice xd18.ex 2 xd18.exc, .slice xd18.pl 3 xd18.plc, .slice xd18.co 3 xd18.coc, .slice xd18.it 3 xd18.itc, .slice xd18.bo 3 xd18.boc, .int .i64 4, .int .i64 2, .int .i64 1, .slice xa18 3 xac18, .slice xk18 3 xkc18, .slice xw18 3 xwc18] 29)))
  clear B_15 X_15 P_15 Q_15 A_15 PC_15 IA_15 IB_15 PD_15 IC_15
  generalize u18.alloc (.cells #[.slice xd18.ex 2 xd18.exc, .slice xd18.pl 3 xd18.plc, .slice xd18.co 3 xd18.coc, .slice xd18.it 3 xd18.itc, .slice xd18.bo 3 xd18.boc, .int .i64 4, .int .i64 2, .int .i64 1, .slice xa18 3 xac18, .slice xk18 3 xkc18, .slice xw18 3 xwc18] 29) = V19 at *
  have hcX := X_16.out.2.2
  have hlX := X_16.out.2.1
  have hcP := P_16.out.2.2
  have hlP := P_16.out.2.1
  have hcQ := Q_16.out.2.2
  have hlQ := Q_16.out.2.1
  clear hcX hlX hcP hlP hcQ hlQ
  have s17 : (V19.alloc (.cells #[.int .i64 0, .int .i64 0] 3)).heap.size = V19.heap.size + 1 := by simp
  have B_17 := Lib.hid (B_16.out.alloc B_16.out.size (.cells #[.int .i64 0, .int .i64 0] 3))
  have X_17 := Lib.hid (X_16.out.alloc (.cells #[.int .i64 0, .int .i64 0] 3))
  have P_17 := Lib.hid (P_16.out.alloc (.cells #[.int .i64 0, .int .i64 0] 3))
  have Q_17 := Lib.hid (Q_16.out.alloc (.cells #[.int .i64 0, .int .i64 0] 3))
  have A_17 := Lib.hid (A_16.out.call ((Below.refl _ _).alloc (Nat.le_refl _) (.cells #[.int .i64 0, .int .i64 0] 3)))
  have PC_17 := Lib.hid (PC_16.out.call ((Below.refl _ _).alloc (Nat.le_refl _) (.cells #[.int .i64 0, .int .i64 0] 3)))
  have IA_17 := Lib.hid (IA_16.out.call ((Below.refl _ _).alloc (Nat.le_refl _) (.cells #[.int .i64 0, .int .i64 0] 3)))
  have IB_17 := Lib.hid (IB_16.out.call ((Below.refl _ _).alloc (Nat.le_refl _) (.cells #[.int .i64 0, .int .i64 0] 3)))
  have PD_17 := Lib.hid (PD_16.out.call ((Below.refl _ _).alloc (Nat.le_refl _) (.cells #[.int .i64 0, .int .i64 0] 3)))
  have IC_17 := Lib.hid (IC_16.out.call ((Below.refl _ _).alloc (Nat.le_refl _) (.cells #[.int .i64 0, .int .i64 0] 3)))
  have ID_17 := Lib.hid (show IntsIn (V19.alloc (.cells #[.int .i64 0, .int .i64 0] 3)) (some ⟨u18.heap.size + 1, 0, none⟩) [0, 0] from ints_of (Blk.newn V19 3 #[.int .i64 0, .int .i64 0] (n := u18.heap.size + 1) (by omega)) rfl (by decide))
  clear B_16 X_16 P_16 Q_16 A_16 PC_16 IA_16 IB_16 PD_16 IC_16
  generalize V19.alloc (.cells #[.int .i64 0, .int .i64 0] 3) = V20 at *
  have hcX := X_17.out.2.2
  have hlX := X_17.out.2.1
  have hcP := P_17.out.2.2
  have hlP := P_17.out.2.1
  have hcQ := Q_17.out.2.2
  have hlQ := Q_17.out.2.1
  refine (aw11_twice ⟨aP11 w.heap.size, a, ac, k, kc, some ⟨w1.heap.size + 1, 0, none⟩, 3⟩ _ A_17.out (u18.heap.size + 1) 2 ID_17.out).mono ?_
  rintro e u21 ⟨⟨xd21, xa21, xac21, xk21, xkc21, xw21, xwc21⟩, rfl, i21, b21⟩
  clear hcX hlX hcP hlP hcQ hlQ
  have B_18 := Lib.hid (bl B_17.out b21)
  have X_18 := Lib.hid (X_17.out.call b21)
  have P_18 := Lib.hid (P_17.out.call b21)
  have Q_18 := Lib.hid (Q_17.out.call b21)
  have A_18 := Lib.hid (A_17.out.call b21)
  have PC_18 := Lib.hid (PC_17.out.call b21)
  have IA_18 := Lib.hid (IA_17.out.call b21)
  have IB_18 := Lib.hid (IB_17.out.call b21)
  have PD_18 := Lib.hid (PD_17.out.call b21)
  have IC_18 := Lib.hid (IC_17.out.call b21)
  have ID_18 := Lib.hid (ID_17.out.call b21)
  clear b21 B_17 X_17 P_17 Q_17 A_17 PC_17 IA_17 IB_17 PD_17 IC_17 ID_17
  have hcX := X_18.out.2.2
  have hlX := X_18.out.2.1
  have hcP := P_18.out.2.2
  have hlP := P_18.out.2.1
  have hcQ := Q_18.out.2.2
  have hlQ := Q_18.out.2.1
  clear i21
  have p0 : u21.cell? ⟨g, 2, none⟩ = some (.int .i64 1) := PC_18.out.1
  have p1 : u21.cell? ⟨g, 2 + 1, none⟩ = some (.int .i64 0) := PC_18.out.2.1
  have p2 : u21.cell? ⟨g, 3, none⟩ = some (.int .i64 0) := PC_18.out.2.1
  have p3 : g < u21.heap.size := PC_18.out.2.2
  have r0 : u21.cell? ⟨gw, 1, none⟩ = some (.int .i64 1) := PD_18.out.1
  have r1 : u21.cell? ⟨gw, 0 + 1, none⟩ = some (.int .i64 1) := PD_18.out.1
  have r2 : u21.cell? ⟨gw, 5, none⟩ = some (.int .i64 0) := PD_18.out.2.1
  have r3 : u21.cell? ⟨gw, 4 + 1, none⟩ = some (.int .i64 0) := PD_18.out.2.1
  have r4 : gw < u21.heap.size := PD_18.out.2.2
  clear hcX hlX hcP hlP hcQ hlQ
  have hcX := X_18.out.2.2
  have hlX := X_18.out.2.1
  have hcP := P_18.out.2.2
  have hlP := P_18.out.2.1
  have hcQ := Q_18.out.2.2
  have hlQ := Q_18.out.2.1
  go_wp2_with fail
  clear hcX hlX hcP hlP hcQ hlQ p0 p1 p2 p3 r0 r1 r2 r3 r4
  have s19 : (u21.alloc (.cells #[.slice xd21.ex 2 xd21.exc, .slice xd21.pl 3 xd21.plc, .slice xd21.co 3 xd21.coc, .slice xd21.it 3 xd21.itc, .slice xd21.bo 3 xd21.boc, .int .i64 4, .int .i64 2, .int .i64 1, .slice xa21 3 xac21, .slice xk21 3 xkc21, .slice xw21 3 xwc21] 29)).heap.size = u21.heap.size + 1 := by simp
  have B_19 := Lib.hid (B_18.out.alloc B_18.out.size (.cells #[.slice xd21.ex 2 xd21.exc, .slice xd21.pl 3 xd21.plc, .slice xd21.co 3 xd21.coc, .slice xd21.it 3 xd21.itc, .slice xd21.bo 3 xd21.boc, .int .i64 4, .int .i64 2, .int .i64 1, .slice xa21 3 xac21, .slice xk21 3 xkc21, .slice xw21 3 xwc21] 29))
  have X_19 := Lib.hid (X_18.out.alloc (.cells #[.slice xd21.ex 2 xd21.exc, .slice xd21.pl 3 xd21.plc, .slice xd21.co 3 xd21.coc, .slice xd21.it 3 xd21.itc, .slice xd21.bo 3 xd21.boc, .int .i64 4, .int .i64 2, .int .i64 1, .slice xa21 3 xac21, .slice xk21 3 xkc21, .slice xw21 3 xwc21] 29))
  have P_19 := Lib.hid (P_18.out.alloc (.cells #[.slice xd21.ex 2 xd21.exc, .slice xd21.pl 3 xd21.plc, .slice xd21.co 3 xd21.coc, .slice xd21.it 3 xd21.itc, .slice xd21.bo 3 xd21.boc, .int .i64 4, .int .i64 2, .int .i64 1, .slice xa21 3 xac21, .slice xk21 3 xkc21, .slice xw21 3 xwc21] 29))
  have Q_19 := Lib.hid (Q_18.out.alloc (.cells #[.slice xd21.ex 2 xd21.exc, .slice xd21.pl 3 xd21.plc, .slice xd21.co 3 xd21.coc, .slice xd21.it 3 xd21.itc, .slice xd21.bo 3 xd21.boc, .int .i64 4, .int .i64 2, .int .i64 1, .slice xa21 3 xac21, .slice xk21 3 xkc21, .slice xw21 3 xwc21] 29))
  have A_19 := Lib.hid (A_18.out.call ((Below.refl _ _).alloc (Nat.le_refl _) (.cells #[.slice xd21.ex 2 xd21.exc, .slice xd21.pl 3 xd21.plc, .slice xd21.co 3 xd21.coc, .slice xd21.it 3 xd21.itc, .slice xd21.bo 3 xd21.boc, .int .i64 4, .int .i64 2, .int .i64 1, .slice xa21 3 xac21, .slice xk21 3 xkc21, .slice xw21 3 xwc21] 29)))
  have PC_19 := Lib.hid (PC_18.out.call ((Below.refl _ _).alloc (Nat.le_refl _) (.cells #[.slice xd21.ex 2 xd21.exc, .slice xd21.pl 3 xd21.plc, .slice xd21.co 3 xd21.coc, .slice xd21.it 3 xd21.itc, .slice xd21.bo 3 xd21.boc, .int .i64 4, .int .i64 2, .int .i64 1, .slice xa21 3 xac21, .slice xk21 3 xkc21, .slice xw21 3 xwc21] 29)))
  have IA_19 := Lib.hid (IA_18.out.call ((Below.refl _ _).alloc (Nat.le_refl _) (.cells #[.slice xd21.ex 2 xd21.exc, .slice xd21.pl 3 xd21.plc, .slice xd21.co 3 xd21.coc, .slice xd21.it 3 xd21.itc, .slice xd21.bo 3 xd21.boc, .int .i64 4, .int .i64 2, .int .i64 1, .slice xa21 3 xac21, .slice xk21 3 xkc21, .slice xw21 3 xwc21] 29)))
  have IB_19 := Lib.hid (IB_18.out.call ((Below.refl _ _).alloc (Nat.le_refl _) (.cells #[.slice xd21.ex 2 xd21.exc, .slice xd21.pl 3 xd21.plc, .slice xd21.co 3 xd21.coc, .slice xd21.it 3 xd21.itc, .slice xd21.bo 3 xd21.boc, .int .i64 4, .int .i64 2, .int .i64 1, .slice xa21 3 xac21, .slice xk21 3 xkc21, .slice xw21 3 xwc21] 29)))
  have PD_19 := Lib.hid (PD_18.out.call ((Below.refl _ _).alloc (Nat.le_refl _) (.cells #[.slice xd21.ex 2 xd21.exc, .slice xd21.pl 3 xd21.plc, .slice xd21.co 3 xd21.coc, .slice xd21.it 3 xd21.itc, .slice xd21.bo 3 xd21.boc, .int .i64 4, .int .i64 2, .int .i64 1, .slice xa21 3 xac21, .slice xk21 3 xkc21, .slice xw21 3 xwc21] 29)))
  have IC_19 := Lib.hid (IC_18.out.call ((Below.refl _ _).alloc (Nat.le_refl _) (.cells #[.slice xd21.ex 2 xd21.exc, .slice xd21.pl 3 xd21.plc, .slice xd21.co 3 xd21.coc, .slice xd21.it 3 xd21.itc, .slice xd21.bo 3 xd21.boc, .int .i64 4, .int .i64 2, .int .i64 1, .slice xa21 3 xac21, .slice xk21 3 xkc21, .slice xw21 3 xwc21] 29)))
  have ID_19 := Lib.hid (ID_18.out.call ((Below.refl _ _).alloc (Nat.le_refl _) (.cells #[.slice xd21.ex 2 xd21.exc, .slice xd21.pl 3 xd21.plc, .slice xd21.co 3 xd21.coc, .slice xd21.it 3 xd21.itc, .slice xd21.bo 3 xd21.boc, .int .i64 4, .int .i64 2, .int .i64 1, .slice xa21 3 xac21, .slice xk21 3 xkc21, .slice xw21 3 xwc21] 29)))
  clear B_18 X_18 P_18 Q_18 A_18 PC_18 IA_18 IB_18 PD_18 IC_18 ID_18
  generalize u21.alloc (.cells #[.slice xd21.ex 2 xd21.exc, .slice xd21.pl 3 xd21.plc, .slice xd21.co 3 xd21.coc, .slice xd21.it 3 xd21.itc, .slice xd21.bo 3 xd21.boc, .int .i64 4, .int .i64 2, .int .i64 1, .slice xa21 3 xac21, .slice xk21 3 xkc21, .slice xw21 3 xwc21] 29) = V22 at *
  have hcX := X_19.out.2.2
  have hlX := X_19.out.2.1
  have hcP := P_19.out.2.2
  have hlP := P_19.out.2.1
  have hcQ := Q_19.out.2.2
  have hlQ := Q_19.out.2.1
  clear hcX hlX hcP hlP hcQ hlQ
  have s20 : (V22.alloc (.cells #[.int .i64 2, .int .i64 5, .int .i64 5] 3)).heap.size = V22.heap.size + 1 := by simp
  have B_20 := Lib.hid (B_19.out.alloc B_19.out.size (.cells #[.int .i64 2, .int .i64 5, .int .i64 5] 3))
  have X_20 := Lib.hid (X_19.out.alloc (.cells #[.int .i64 2, .int .i64 5, .int .i64 5] 3))
  have P_20 := Lib.hid (P_19.out.alloc (.cells #[.int .i64 2, .int .i64 5, .int .i64 5] 3))
  have Q_20 := Lib.hid (Q_19.out.alloc (.cells #[.int .i64 2, .int .i64 5, .int .i64 5] 3))
  have A_20 := Lib.hid (A_19.out.call ((Below.refl _ _).alloc (Nat.le_refl _) (.cells #[.int .i64 2, .int .i64 5, .int .i64 5] 3)))
  have PC_20 := Lib.hid (PC_19.out.call ((Below.refl _ _).alloc (Nat.le_refl _) (.cells #[.int .i64 2, .int .i64 5, .int .i64 5] 3)))
  have IA_20 := Lib.hid (IA_19.out.call ((Below.refl _ _).alloc (Nat.le_refl _) (.cells #[.int .i64 2, .int .i64 5, .int .i64 5] 3)))
  have IB_20 := Lib.hid (IB_19.out.call ((Below.refl _ _).alloc (Nat.le_refl _) (.cells #[.int .i64 2, .int .i64 5, .int .i64 5] 3)))
  have PD_20 := Lib.hid (PD_19.out.call ((Below.refl _ _).alloc (Nat.le_refl _) (.cells #[.int .i64 2, .int .i64 5, .int .i64 5] 3)))
  have IC_20 := Lib.hid (IC_19.out.call ((Below.refl _ _).alloc (Nat.le_refl _) (.cells #[.int .i64 2, .int .i64 5, .int .i64 5] 3)))
  have ID_20 := Lib.hid (ID_19.out.call ((Below.refl _ _).alloc (Nat.le_refl _) (.cells #[.int .i64 2, .int .i64 5, .int .i64 5] 3)))
  have IE_20 := Lib.hid (show IntsIn (V22.alloc (.cells #[.int .i64 2, .int .i64 5, .int .i64 5] 3)) (some ⟨u21.heap.size + 1, 0, none⟩) [2, 5, 5] from ints_of (Blk.newn V22 3 #[.int .i64 2, .int .i64 5, .int .i64 5] (n := u21.heap.size + 1) (by omega)) rfl (by decide))
  clear B_19 X_19 P_19 Q_19 A_19 PC_19 IA_19 IB_19 PD_19 IC_19 ID_19
  generalize V22.alloc (.cells #[.int .i64 2, .int .i64 5, .int .i64 5] 3) = V23 at *
  have hcX := X_20.out.2.2
  have hlX := X_20.out.2.1
  have hcP := P_20.out.2.2
  have hlP := P_20.out.2.1
  have hcQ := Q_20.out.2.2
  have hlQ := Q_20.out.2.1
  clear hcX hlX hcP hlP hcQ hlQ
  refine (aw11_ints _ _ _ _ _ IC_20.out IE_20.out).mono ?_
  rintro e u24 ⟨rfl, b24⟩
  have B_21 := Lib.hid (bl B_20.out b24)
  have X_21 := Lib.hid (X_20.out.call b24)
  have P_21 := Lib.hid (P_20.out.call b24)
  have Q_21 := Lib.hid (Q_20.out.call b24)
  have A_21 := Lib.hid (A_20.out.call b24)
  have PC_21 := Lib.hid (PC_20.out.call b24)
  have IA_21 := Lib.hid (IA_20.out.call b24)
  have IB_21 := Lib.hid (IB_20.out.call b24)
  have PD_21 := Lib.hid (PD_20.out.call b24)
  have IC_21 := Lib.hid (IC_20.out.call b24)
  have ID_21 := Lib.hid (ID_20.out.call b24)
  have IE_21 := Lib.hid (IE_20.out.call b24)
  clear b24 B_20 X_20 P_20 Q_20 A_20 PC_20 IA_20 IB_20 PD_20 IC_20 ID_20 IE_20
  go_wp2_with fail
  go_ret
  exact ⟨rfl, B_21.out⟩
set_option maxRecDepth 100000 in
theorem fits11_any (x : Wd) (p : Wp) (w : World) (h : WorldAt w p x) : Calls Try.prog 8 #[.agg #[.slice p.d.ex x.d.exits.length p.d.exc, .slice p.d.pl x.d.players.length p.d.plc, .slice p.d.co x.d.coins.length p.d.coc, .slice p.d.it x.d.items.length p.d.itc, .slice p.d.bo x.d.boxes.length p.d.boc, .int .i64 x.d.room, .int .i64 x.d.player, .int .i64 x.d.box, .slice p.at_ x.at_.length p.atc, .slice p.co x.coins.length p.coc, .slice p.wh x.wher.length p.whc]] w fun e w' => e = .returned (.bool (fitsB x)) ∧ Below w.heap.size w w' := by
  have HN := Lib.hid (Holds.new w #[.slice p.d.ex x.d.exits.length p.d.exc, .slice p.d.pl x.d.players.length p.d.plc, .slice p.d.co x.d.coins.length p.d.coc, .slice p.d.it x.d.items.length p.d.itc, .slice p.d.bo x.d.boxes.length p.d.boc, .int .i64 x.d.room, .int .i64 x.d.player, .int .i64 x.d.box, .slice p.at_ x.at_.length p.atc, .slice p.co x.coins.length p.coc, .slice p.wh x.wher.length p.whc] 29)
  have H := Lib.hid h
  clear h
  cases hf : fewB x
  · have HF := Lib.hid hf
    have HR := Lib.hid (show fitsB x = false by simp [fitsB, hf])
    clear hf
    go_enter Try.func8, Try.ntmps8
    go_wp2_with fail
    refine (few_any x p _).mono ?_
    rintro e w1 ⟨rfl, b1⟩
    rw [HF.out]
    have K1 := Lib.hid (HN.out.call b1)
    clear b1
    go_wp2_with fail
    go_ret
    exact ⟨ret_bool HR.out.symm, K1.out.1⟩
  · have HF := Lib.hid hf
    have HR := Lib.hid (show fitsB x = rightW x by simp [fitsB, hf])
    obtain ⟨r, hr⟩ : ∃ r, rightW x = r := ⟨_, rfl⟩
    have HRR := Lib.hid hr
    clear hf hr
    go_enter Try.func8, Try.ntmps8
    go_wp2_with fail
    refine (few_any x p _).mono ?_
    rintro e w1 ⟨rfl, b1⟩
    rw [HF.out]
    have K1 := Lib.hid (HN.out.call b1)
    have hc := K1.out.2.2
    have hl := K1.out.2.1
    clear b1
    go_wp2_with fail
    refine (refright_any x p _ (H.out.below K1.out.1 (Nat.le_refl _))).mono ?_
    rintro e w2 ⟨rfl, b2⟩
    rw [HRR.out]
    have K2 := Lib.hid (K1.out.call b2)
    clear b2 hc hl
    go_wp2_with fail
    go_ret
    exact ⟨ret_bool (by rw [HR.out, HRR.out]), K2.out.1⟩
end Go.Proofs.Ytcigbliilmonfaa
