/- gifts.Give: a trade of one item for nothing. -/
import Derived.Test.YtcigbliilmonfaaRows
import Derived.Test.YtcigbliilmonfaaKit
import Derived.Test.YtcigbliilmonfaaGMem
import Derived.Test.YtcigbliilmonfaaCoin
import Derived.Test.YtcigbliilmonfaaGWorld
import Derived.Test.YtcigbliilmonfaaGCopy
import Derived.Test.YtcigbliilmonfaaGRight
import Derived.Test.YtcigbliilmonfaaGRefD
import Derived.Test.YtcigbliilmonfaaGEq
import Derived.Test.YtcigbliilmonfaaGAs
import Derived.Test.YtcigbliilmonfaaGHoldA
import Derived.Test.YtcigbliilmonfaaGiftMath
import Derived.Test.YtcigbliilmonfaaGiftMath4
import Derived.Test.YtcigbliilmonfaaGiftD
import Derived.Deep.QuietTactic
import Derived.BigQuiet
import Derived.WalkKit
import Derived.ProofKit
import Derived.OpenShut
import Derived.IntWalk
namespace Go.Proofs.Ytcigbliilmonfaa
open Go.ChangeShapes Go.WideShapes Go.ChangeAt Go.RowKit
set_option linter.unusedVariables false
open Go.RowKit
theorem gtrade_one (x : Wd) (p : Wp) (i : Nat) (item q : Int) (ga : Option Addr) (gc : Nat) (w : World) (hx : rightW x = true) (h : WorldAt w p x) (hi : i < x.at_.length) (hg : IntsAt w ga [item]) :
    Calls Try.prog 13 #[.agg #[.slice p.d.ex x.d.exits.length p.d.exc, .slice p.d.pl x.d.players.length p.d.plc, .slice p.d.co x.d.coins.length p.d.coc, .slice p.d.it x.d.items.length p.d.itc, .slice p.d.bo x.d.boxes.length p.d.boc, .int .i64 x.d.room, .int .i64 x.d.player, .int .i64 x.d.box, .slice p.at_ x.at_.length p.atc, .slice p.co x.coins.length p.coc, .slice p.wh x.wher.length p.whc], .int .i64 (i : Int), .agg #[.int .i64 8, .int .i64 0, .int .i64 0, .int .i64 0, .int .i64 q, .slice ga 1 gc, .int .i64 0, .slice none 0 0, .int .i64 0]] w fun e w' => ∃ q' : Wp, e = .returned (.tuple #[.agg #[.slice q'.d.ex x.d.exits.length q'.d.exc, .slice q'.d.pl x.d.players.length q'.d.plc, .slice q'.d.co x.d.coins.length q'.d.coc, .slice q'.d.it x.d.items.length q'.d.itc, .slice q'.d.bo x.d.boxes.length q'.d.boc, .int .i64 x.d.room, .int .i64 x.d.player, .int .i64 x.d.box, .slice q'.at_ x.at_.length q'.atc, .slice q'.co x.coins.length q'.coc, .slice q'.wh x.wher.length q'.whc], .int .i64 (giveW x i item q).2]) ∧ Took w.heap.size w' p q' x (giveW x i item q) ∧ Below w.heap.size w w' := by
  rw [give_trade hx hi]
  exact gtrade_any x p i 8 0 0 0 q 0 0 [item] [] ga none gc 0 w hx h hi hg (IntsAt.nil _ _) (by simp) (by simp)
set_option maxRecDepth 100000 in
theorem ggive_any (x : Wd) (p : Wp) (i : Nat) (item q : Int) (w : World) (hx : rightW x = true) (h : WorldAt w p x) (hi : i < x.at_.length) :
    Calls Try.prog 11 #[.agg #[.slice p.d.ex x.d.exits.length p.d.exc, .slice p.d.pl x.d.players.length p.d.plc, .slice p.d.co x.d.coins.length p.d.coc, .slice p.d.it x.d.items.length p.d.itc, .slice p.d.bo x.d.boxes.length p.d.boc, .int .i64 x.d.room, .int .i64 x.d.player, .int .i64 x.d.box, .slice p.at_ x.at_.length p.atc, .slice p.co x.coins.length p.coc, .slice p.wh x.wher.length p.whc], .int .i64 (i : Int), .int .i64 item, .int .i64 q] w fun e w' => ∃ q' : Wp, e = .returned (.tuple #[.agg #[.slice q'.d.ex x.d.exits.length q'.d.exc, .slice q'.d.pl x.d.players.length q'.d.plc, .slice q'.d.co x.d.coins.length q'.d.coc, .slice q'.d.it x.d.items.length q'.d.itc, .slice q'.d.bo x.d.boxes.length q'.d.boc, .int .i64 x.d.room, .int .i64 x.d.player, .int .i64 x.d.box, .slice q'.at_ x.at_.length q'.atc, .slice q'.co x.coins.length q'.coc, .slice q'.wh x.wher.length q'.whc], .int .i64 (giveW x i item q).2]) ∧ Took w.heap.size w' p q' x (giveW x i item q) ∧ Below w.heap.size w w' := by
  have C0 := Lib.hid (Two.start 29 29 w #[.slice p.d.ex x.d.exits.length p.d.exc, .slice p.d.pl x.d.players.length p.d.plc, .slice p.d.co x.d.coins.length p.d.coc, .slice p.d.it x.d.items.length p.d.itc, .slice p.d.bo x.d.boxes.length p.d.boc, .int .i64 x.d.room, .int .i64 x.d.player, .int .i64 x.d.box, .slice p.at_ x.at_.length p.atc, .slice p.co x.coins.length p.coc, .slice p.wh x.wher.length p.whc] #[.slice none 0 0, .slice none 0 0, .slice none 0 0, .slice none 0 0, .slice none 0 0, .int .i64 0, .int .i64 0, .int .i64 0, .slice none 0 0, .slice none 0 0, .slice none 0 0])
  have H := Lib.hid h
  have HX := Lib.hid hx
  obtain ⟨y, hy⟩ : ∃ y, y = giveW x i item q := ⟨_, rfl⟩
  have HT := Lib.hid (fun ga gc W h1 h2 => gtrade_one x p i item q ga gc W hx h1 hi h2)
  rw [← hy] at HT ⊢
  clear h hx hy
  go_enter Try.func11, Try.ntmps11
  go_wp2_with fail
  have D0 := Lib.hid (Blk.newn (((w.alloc (.cells #[.slice p.d.ex x.d.exits.length p.d.exc, .slice p.d.pl x.d.players.length p.d.plc, .slice p.d.co x.d.coins.length p.d.coc, .slice p.d.it x.d.items.length p.d.itc, .slice p.d.bo x.d.boxes.length p.d.boc, .int .i64 x.d.room, .int .i64 x.d.player, .int .i64 x.d.box, .slice p.at_ x.at_.length p.atc, .slice p.co x.coins.length p.coc, .slice p.wh x.wher.length p.whc] 29)).alloc (.cells #[.slice none 0 0, .slice none 0 0, .slice none 0 0, .slice none 0 0, .slice none 0 0, .int .i64 0, .int .i64 0, .int .i64 0, .slice none 0 0, .slice none 0 0, .slice none 0 0] 29))) 3 #[.int .i64 item] (n := w.heap.size + 1 + 1) (by simp))
  have C1 := Lib.hid (C0.out.alloc (.cells #[.int .i64 item] 3))
  refine (HT.out (some ⟨w.heap.size + 1 + 1, 0, none⟩) 1 _ (H.out.below C1.out.b (Nat.le_refl _)) (D0.out.ints (xs := [item]) (by simp [maxLen]) (fun j hj => by obtain rfl : j = 0 := (by simpa using hj); rfl))).mono ?_
  rintro e w1 ⟨⟨qd, qa, qac, qk, qkc, qw, qwc⟩, rfl, wn, b1⟩
  have C2 := Lib.hid (C1.out.call b1)
  have WN := Lib.hid wn
  clear b1 wn C0 D0
  have hcr := C2.out.r.cell
  have hzr := C2.out.r.frozen
  have hlr := C2.out.r.lt
  go_wp2_with fail
  refine bodyPost_ret (v := .tuple #[.agg #[.slice qd.ex x.d.exits.length qd.exc, .slice qd.pl x.d.players.length qd.plc, .slice qd.co x.d.coins.length qd.coc, .slice qd.it x.d.items.length qd.itc, .slice qd.bo x.d.boxes.length qd.boc, .int .i64 x.d.room, .int .i64 x.d.player, .int .i64 x.d.box, .slice qa x.at_.length qac, .slice qk x.coins.length qkc, .slice qw x.wher.length qwc], .int .i64 y.2]) (by simp [results, Try.results11, go_sem, hcr]) rfl ⟨⟨qd, qa, qac, qk, qkc, qw, qwc⟩, rfl, ?_, ?_⟩
  · refine Took.less (n := (((w.alloc (.cells #[.slice p.d.ex x.d.exits.length p.d.exc, .slice p.d.pl x.d.players.length p.d.plc, .slice p.d.co x.d.coins.length p.d.coc, .slice p.d.it x.d.items.length p.d.itc, .slice p.d.bo x.d.boxes.length p.d.boc, .int .i64 x.d.room, .int .i64 x.d.player, .int .i64 x.d.box, .slice p.at_ x.at_.length p.atc, .slice p.co x.coins.length p.coc, .slice p.wh x.wher.length p.whc] 29)).alloc (.cells #[.slice none 0 0, .slice none 0 0, .slice none 0 0, .slice none 0 0, .slice none 0 0, .int .i64 0, .int .i64 0, .int .i64 0, .slice none 0 0, .slice none 0 0, .slice none 0 0] 29)).alloc (.cells #[.int .i64 item] 3)).heap.size) ?_ (by simp; omega)
    iterate 11 refine Took.set (b := w.heap.size + 1) ?_ (by simp) _ _
    exact WN.out
  · iterate 11 refine Below.setCell ?_ (by show w.heap.size ≤ w.heap.size + 1; omega) _
    exact C2.out.b
end Go.Proofs.Ytcigbliilmonfaa
