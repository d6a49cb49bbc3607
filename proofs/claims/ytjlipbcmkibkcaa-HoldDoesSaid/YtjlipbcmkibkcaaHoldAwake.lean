/- What the laws of hold begin with: answers that the document fixes; whether a world fits. -/
import Derived.Test.YtjlipbcmkibkcaaRows
import Derived.Test.YtjlipbcmkibkcaaKit
import Derived.Test.YtjlipbcmkibkcaaGMem
import Derived.Test.YtjlipbcmkibkcaaCoin
import Derived.Test.YtjlipbcmkibkcaaGWorld
import Derived.Test.YtjlipbcmkibkcaaDescMay
import Derived.Test.YtjlipbcmkibkcaaGDescN
import Derived.Test.YtjlipbcmkibkcaaGRight
import Derived.Test.YtjlipbcmkibkcaaGCopy
import Derived.Test.YtjlipbcmkibkcaaGRefD
import Derived.Test.YtjlipbcmkibkcaaGAs
import Derived.Test.YtjlipbcmkibkcaaRefRight
import Derived.Test.YtjlipbcmkibkcaaGEq
import Derived.Test.YtjlipbcmkibkcaaGNew
import Derived.Test.YtjlipbcmkibkcaaGHoldA
import Derived.Test.YtjlipbcmkibkcaaHoldD
import Derived.Test.YtjlipbcmkibkcaaHoldE
import Derived.Deep.QuietTactic
import Derived.BigQuiet
import Derived.Deep.RegionHeld3
import Derived.WalkKit
import Derived.ProofKit
import Derived.OpenShut
import Derived.IntWalk
namespace Go.Proofs.Ytjlipbcmkibkcaa
open Go.ChangeShapes Go.WideShapes Go.ChangeAt Go.RowKit
set_option linter.unusedVariables false
open Go.RowKit
section
variable {x u : Wd} (hs : Shape x u) (p : Wp) (i : Nat) (item : Int) (w : World) (hu : rightW u = true) (h : WorldAt w p u) (hi : i < u.at_.length) {y : Wd} {e : Int}
include hs hu h hi
theorem get_as (hR : getW u i item = (y, e)) : Calls Try.prog 10 #[.agg #[.slice p.d.ex x.d.exits.length p.d.exc, .slice p.d.pl x.d.players.length p.d.plc, .slice p.d.co x.d.coins.length p.d.coc, .slice p.d.it x.d.items.length p.d.itc, .slice p.d.bo x.d.boxes.length p.d.boc, .int .i64 x.d.room, .int .i64 x.d.player, .int .i64 x.d.box, .slice p.at_ x.at_.length p.atc, .slice p.co x.coins.length p.coc, .slice p.wh x.wher.length p.whc], .int .i64 (i : Int), .int .i64 item] w fun e' w' => ∃ q : Wp, e' = .returned (.tuple #[.agg #[.slice q.d.ex x.d.exits.length q.d.exc, .slice q.d.pl x.d.players.length q.d.plc, .slice q.d.co x.d.coins.length q.d.coc, .slice q.d.it x.d.items.length q.d.itc, .slice q.d.bo x.d.boxes.length q.d.boc, .int .i64 x.d.room, .int .i64 x.d.player, .int .i64 x.d.box, .slice q.at_ x.at_.length q.atc, .slice q.co x.coins.length q.coc, .slice q.wh x.wher.length q.whc], .int .i64 e]) ∧ WorldAt w' q y ∧ Below w.heap.size w w' := by
  have := hget_any u p i item w hu h hi
  rw [hs.val, hR] at this
  refine this.mono fun e' w' ⟨q, he, hq, hb⟩ => ⟨q, by rw [← hs.val]; exact he, hq.world (h.call hb), hb⟩
theorem drop_as (hR : dropW u i item = (y, e)) : Calls Try.prog 12 #[.agg #[.slice p.d.ex x.d.exits.length p.d.exc, .slice p.d.pl x.d.players.length p.d.plc, .slice p.d.co x.d.coins.length p.d.coc, .slice p.d.it x.d.items.length p.d.itc, .slice p.d.bo x.d.boxes.length p.d.boc, .int .i64 x.d.room, .int .i64 x.d.player, .int .i64 x.d.box, .slice p.at_ x.at_.length p.atc, .slice p.co x.coins.length p.coc, .slice p.wh x.wher.length p.whc], .int .i64 (i : Int), .int .i64 item] w fun e' w' => ∃ q : Wp, e' = .returned (.tuple #[.agg #[.slice q.d.ex x.d.exits.length q.d.exc, .slice q.d.pl x.d.players.length q.d.plc, .slice q.d.co x.d.coins.length q.d.coc, .slice q.d.it x.d.items.length q.d.itc, .slice q.d.bo x.d.boxes.length q.d.boc, .int .i64 x.d.room, .int .i64 x.d.player, .int .i64 x.d.box, .slice q.at_ x.at_.length q.atc, .slice q.co x.coins.length q.coc, .slice q.wh x.wher.length q.whc], .int .i64 e]) ∧ WorldAt w' q y ∧ Below w.heap.size w w' := by
  have := hdrop_any u p i item w hu h hi
  rw [hs.val, hR] at this
  refine this.mono fun e' w' ⟨q, he, hq, hb⟩ => ⟨q, by rw [← hs.val]; exact he, hq.world (h.call hb), hb⟩
end
def aD9 : Ds := ⟨[⟨0, 0, 0, 0⟩, ⟨0, 0, 0, 0⟩], [0, 1], [5, 5], [0, 0, 1], [true, false, false], 3, 1, 1⟩
def aP9 (n : Nat) : Dp := ⟨some ⟨n, 0, none⟩, 2, some ⟨n + 1, 0, none⟩, 2, some ⟨n + 1 + 1, 0, none⟩, 2, some ⟨n + 1 + 1 + 1, 0, none⟩, 3, some ⟨n + 1 + 1 + 1 + 1, 0, none⟩, 3⟩
def aX9 : Wd := newW aD9
theorem aX9_right : rightW aX9 = true := by decide
def aA9 : Wd := putW aX9 0 ⟨1, 0⟩
def aC9 : Wd := putW aX9 1 ⟨2, 0⟩
theorem aA9_right : rightW aA9 = true := by decide
theorem aC9_right : rightW aC9 = true := by decide
theorem exits_info9 : (Try.prog.info? 53).map (fun i => (i.zero, i.size, i.bytes)) = some (some (.agg #[.int .i64 0, .int .i64 0, .int .i64 0, .int .i64 0]), 4, 32) := by kernel_rfl
theorem make_exits9 (W : World) : (Instr.makeSlice 22 (.int .i64 2) (.int .i64 2)).run Try.prog W = .ok (.slice (some ⟨W.heap.size, 0, none⟩) 2 2) (W.alloc (.cells #[.int .i64 0, .int .i64 0, .int .i64 0, .int .i64 0, .int .i64 0, .int .i64 0, .int .i64 0, .int .i64 0] 53)) := by
  obtain ⟨i0, hi0, hz0, hz1, hz2⟩ := info_parts exits_info9
  have hr := run_make (P := Try.prog) W 22 53 i0 (.agg #[.int .i64 0, .int .i64 0, .int .i64 0, .int .i64 0]) Try.underlying22 hi0 hz0 .i64 .i64 2 2 (by omega) (by omega) (by rw [hz2]; omega) (by omega)
  rw [hz1] at hr
  exact hr.trans (by kernel_rfl)
theorem row9 {α : Type} {k : Nat} {enc : α → List Value} {W : World} {g : Nat} {t : TypeId} {cs : Array Value} {xs : List α} (h : Blk W g t cs) (hl : xs.length ≤ maxLen) (hc : ∀ i (hi : i < xs.length) j, j < k → cs[i * k + j]? = (enc xs[i])[j]?) : RowAt k enc W (some ⟨g, 0, none⟩) xs :=
  ⟨hl, .inr ⟨g, 0, rfl, h.lt, fun i hi j hj => by rw [Nat.zero_add, h.cell]; exact hc i hi j hj⟩⟩
theorem aD9_at {W : World} {n : Nat} (h0 : Blk W n 53 #[.int .i64 0, .int .i64 0, .int .i64 0, .int .i64 0, .int .i64 0, .int .i64 0, .int .i64 0, .int .i64 0]) (h1 : Blk W (n + 1) 3 #[.int .i64 0, .int .i64 1]) (h2 : Blk W (n + 1 + 1) 3 #[.int .i64 5, .int .i64 5])
    (h3 : Blk W (n + 1 + 1 + 1) 3 #[.int .i64 0, .int .i64 0, .int .i64 1]) (h4 : Blk W (n + 1 + 1 + 1 + 1) 4 #[.bool true, .bool false, .bool false]) : DescAt W (aP9 n) aD9 := by
  refine ⟨row9 h0 (by simp [aD9, maxLen]) ?_, ints_row.2 (row9 h1 (by simp [aD9, maxLen]) ?_), ints_row.2 (row9 h2 (by simp [aD9, maxLen]) ?_), ints_row.2 (row9 h3 (by simp [aD9, maxLen]) ?_), row9 h4 (by simp [aD9, maxLen]) ?_⟩
  · intro i hi j hj
    obtain rfl | rfl : i = 0 ∨ i = 1 := by simp [aD9] at hi; omega
    all_goals obtain rfl | rfl | rfl | rfl : j = 0 ∨ j = 1 ∨ j = 2 ∨ j = 3 := by omega
    all_goals rfl
  · intro i hi j hj
    obtain rfl : j = 0 := by omega
    obtain rfl | rfl : i = 0 ∨ i = 1 := by simp [aD9] at hi; omega
    all_goals rfl
  · intro i hi j hj
    obtain rfl : j = 0 := by omega
    obtain rfl | rfl : i = 0 ∨ i = 1 := by simp [aD9] at hi; omega
    all_goals rfl
  all_goals
    intro i hi j hj
    obtain rfl : j = 0 := by omega
    obtain rfl | rfl | rfl : i = 0 ∨ i = 1 ∨ i = 2 := by simp [aD9] at hi; omega
    all_goals rfl
theorem aw9_start (w : World) : DescAt (((((w.alloc (.cells #[.int .i64 0, .int .i64 0, .int .i64 0, .int .i64 0, .int .i64 0, .int .i64 0, .int .i64 0, .int .i64 0] 53)).alloc (.cells #[.int .i64 0, .int .i64 1] 3)).alloc (.cells #[.int .i64 5, .int .i64 5] 3)).alloc (.cells #[.int .i64 0, .int .i64 0, .int .i64 1] 3)).alloc (.cells #[.bool true, .bool false, .bool false] 4)) (aP9 w.heap.size) aD9 ∧ Below w.heap.size w (((((w.alloc (.cells #[.int .i64 0, .int .i64 0, .int .i64 0, .int .i64 0, .int .i64 0, .int .i64 0, .int .i64 0, .int .i64 0] 53)).alloc (.cells #[.int .i64 0, .int .i64 1] 3)).alloc (.cells #[.int .i64 5, .int .i64 5] 3)).alloc (.cells #[.int .i64 0, .int .i64 0, .int .i64 1] 3)).alloc (.cells #[.bool true, .bool false, .bool false] 4)) := by
  have b0 := Blk.newn w 53 #[.int .i64 0, .int .i64 0, .int .i64 0, .int .i64 0, .int .i64 0, .int .i64 0, .int .i64 0, .int .i64 0] (n := w.heap.size) rfl
  have b1 := Blk.newn (w.alloc (.cells #[.int .i64 0, .int .i64 0, .int .i64 0, .int .i64 0, .int .i64 0, .int .i64 0, .int .i64 0, .int .i64 0] 53)) 3 #[.int .i64 0, .int .i64 1] (n := w.heap.size + 1) (by simp)
  have b2 := Blk.newn ((w.alloc (.cells #[.int .i64 0, .int .i64 0, .int .i64 0, .int .i64 0, .int .i64 0, .int .i64 0, .int .i64 0, .int .i64 0] 53)).alloc (.cells #[.int .i64 0, .int .i64 1] 3)) 3 #[.int .i64 5, .int .i64 5] (n := w.heap.size + 1 + 1) (by simp)
  have b3 := Blk.newn (((w.alloc (.cells #[.int .i64 0, .int .i64 0, .int .i64 0, .int .i64 0, .int .i64 0, .int .i64 0, .int .i64 0, .int .i64 0] 53)).alloc (.cells #[.int .i64 0, .int .i64 1] 3)).alloc (.cells #[.int .i64 5, .int .i64 5] 3)) 3 #[.int .i64 0, .int .i64 0, .int .i64 1] (n := w.heap.size + 1 + 1 + 1) (by simp)
  have b4 := Blk.newn ((((w.alloc (.cells #[.int .i64 0, .int .i64 0, .int .i64 0, .int .i64 0, .int .i64 0, .int .i64 0, .int .i64 0, .int .i64 0] 53)).alloc (.cells #[.int .i64 0, .int .i64 1] 3)).alloc (.cells #[.int .i64 5, .int .i64 5] 3)).alloc (.cells #[.int .i64 0, .int .i64 0, .int .i64 1] 3)) 4 #[.bool true, .bool false, .bool false] (n := w.heap.size + 1 + 1 + 1 + 1) (by simp)
  exact ⟨aD9_at ((((b0.alloc _).alloc _).alloc _).alloc _) (((b1.alloc _).alloc _).alloc _) ((b2.alloc _).alloc _) (b3.alloc _) b4, (((((Below.refl _ _).alloc (Nat.le_refl _) _).alloc (by simp) _).alloc (by simp; omega) _).alloc (by simp; omega) _).alloc (by simp; omega) _⟩
/-- awake's world, as New answers it. -/
theorem aw9_new (n : Nat) (W : World) (h : DescAt W (aP9 n) aD9) : Calls Try.prog 24 #[.agg #[.slice (some ⟨n, 0, none⟩) 2 2, .slice (some ⟨n + 1, 0, none⟩) 2 2, .slice (some ⟨n + 1 + 1, 0, none⟩) 2 2, .slice (some ⟨n + 1 + 1 + 1, 0, none⟩) 3 3, .slice (some ⟨n + 1 + 1 + 1 + 1, 0, none⟩) 3 3, .int .i64 3, .int .i64 1, .int .i64 1]] W fun e w' => ∃ (a k wh : Option Addr) (ac kc whc : Nat), e = .returned (.agg #[.slice (some ⟨n, 0, none⟩) 2 2, .slice (some ⟨n + 1, 0, none⟩) 2 2, .slice (some ⟨n + 1 + 1, 0, none⟩) 2 2, .slice (some ⟨n + 1 + 1 + 1, 0, none⟩) 3 3, .slice (some ⟨n + 1 + 1 + 1 + 1, 0, none⟩) 3 3, .int .i64 3, .int .i64 1, .int .i64 1, .slice a 2 ac, .slice k 2 kc, .slice wh 3 whc]) ∧ WorldAt w' ⟨aP9 n, a, ac, k, kc, wh, whc⟩ aX9 ∧ Below W.heap.size W w' := by
  refine (refnew_own aD9 (aP9 n) W h (by decide)).mono ?_
  rintro e w' ⟨x, ⟨d, a, ac, k, kc, wh, whc⟩, rfl, rfl, hw, hb, hn⟩
  obtain ⟨rfl, _⟩ := id hn
  exact ⟨a, k, wh, ac, kc, whc, rfl, hw, hb⟩
/-- The first place of a list. -/
def PlCell (W : World) (g : Nat) (a b : Int) : Prop := W.cell? ⟨g, 0, none⟩ = some (.int .i64 a) ∧ W.cell? ⟨g, 1, none⟩ = some (.int .i64 b) ∧ g < W.heap.size
theorem PlCell.call {W W' : World} {g : Nat} {a b : Int} (h : PlCell W g a b) (hb : Below W.heap.size W W') : PlCell W' g a b := ⟨cell_call h.1 hb, cell_call h.2.1 hb, Nat.lt_of_lt_of_le h.2.2 hb.size⟩
theorem aw9_take (n : Nat) (a k wh : Option Addr) (ac kc whc : Nat) (W : World) (h : WorldAt W ⟨aP9 n, a, ac, k, kc, wh, whc⟩ aX9) : Calls Try.prog 10 #[.agg #[.slice (some ⟨n, 0, none⟩) 2 2, .slice (some ⟨n + 1, 0, none⟩) 2 2, .slice (some ⟨n + 1 + 1, 0, none⟩) 2 2, .slice (some ⟨n + 1 + 1 + 1, 0, none⟩) 3 3, .slice (some ⟨n + 1 + 1 + 1 + 1, 0, none⟩) 3 3, .int .i64 3, .int .i64 1, .int .i64 1, .slice a 2 ac, .slice k 2 kc, .slice wh 3 whc], .int .i64 0, .int .i64 0] W fun e w' => ∃ (q : Wp) (g : Nat), q.wh = some ⟨g, 0, none⟩ ∧ e = .returned (.tuple #[.agg #[.slice q.d.ex 2 q.d.exc, .slice q.d.pl 2 q.d.plc, .slice q.d.co 2 q.d.coc, .slice q.d.it 3 q.d.itc, .slice q.d.bo 3 q.d.boc, .int .i64 3, .int .i64 1, .int .i64 1, .slice q.at_ 2 q.atc, .slice q.co 2 q.coc, .slice q.wh 3 q.whc], .int .i64 0]) ∧ WorldAt w' q aA9 ∧ PlCell w' g 1 0 ∧ Below W.heap.size W w' := by
  refine (hget_any aX9 ⟨aP9 n, a, ac, k, kc, wh, whc⟩ 0 0 W aX9_right h (by decide)).mono ?_
  rintro e w' ⟨q, rfl, hq, hb⟩
  rw [show getW aX9 0 0 = (aA9, 0) by decide] at hq ⊢
  rcases hq with ⟨h1, _⟩ | ⟨_, ho⟩
  · exact absurd rfl h1
  · obtain ⟨g, hg, _, hl, hc, _, _⟩ := ho.putPlace (k := 0) (by decide)
    exact ⟨q, g, hg, rfl, ho.world, ⟨hc.1, hc.2, hl⟩, hb⟩
theorem aw9_get (q0 : Wp) (u : Wd) (hs : Shape aX9 u) (hu : rightW u = true) (W : World) (h : WorldAt W q0 u) (i k : Nat) (hi : i < u.at_.length) (y : Wd) (e : Int) (hR : getW u i k = (y, e)) : Calls Try.prog 10 #[.agg #[.slice q0.d.ex 2 q0.d.exc, .slice q0.d.pl 2 q0.d.plc, .slice q0.d.co 2 q0.d.coc, .slice q0.d.it 3 q0.d.itc, .slice q0.d.bo 3 q0.d.boc, .int .i64 3, .int .i64 1, .int .i64 1, .slice q0.at_ 2 q0.atc, .slice q0.co 2 q0.coc, .slice q0.wh 3 q0.whc], .int .i64 (i : Int), .int .i64 (k : Int)] W fun e' w' => ∃ q : Wp, e' = .returned (.tuple #[.agg #[.slice q.d.ex 2 q.d.exc, .slice q.d.pl 2 q.d.plc, .slice q.d.co 2 q.d.coc, .slice q.d.it 3 q.d.itc, .slice q.d.bo 3 q.d.boc, .int .i64 3, .int .i64 1, .int .i64 1, .slice q.at_ 2 q.atc, .slice q.co 2 q.coc, .slice q.wh 3 q.whc], .int .i64 e]) ∧ WorldAt w' q y ∧ Below W.heap.size W w' :=
  get_as hs q0 i k W hu h hi hR
theorem aw9_drop (q0 : Wp) (u : Wd) (hs : Shape aX9 u) (hu : rightW u = true) (W : World) (h : WorldAt W q0 u) (i k : Nat) (hi : i < u.at_.length) (y : Wd) (e : Int) (hR : dropW u i k = (y, e)) : Calls Try.prog 12 #[.agg #[.slice q0.d.ex 2 q0.d.exc, .slice q0.d.pl 2 q0.d.plc, .slice q0.d.co 2 q0.d.coc, .slice q0.d.it 3 q0.d.itc, .slice q0.d.bo 3 q0.d.boc, .int .i64 3, .int .i64 1, .int .i64 1, .slice q0.at_ 2 q0.atc, .slice q0.co 2 q0.coc, .slice q0.wh 3 q0.whc], .int .i64 (i : Int), .int .i64 (k : Int)] W fun e' w' => ∃ q : Wp, e' = .returned (.tuple #[.agg #[.slice q.d.ex 2 q.d.exc, .slice q.d.pl 2 q.d.plc, .slice q.d.co 2 q.d.coc, .slice q.d.it 3 q.d.itc, .slice q.d.bo 3 q.d.boc, .int .i64 3, .int .i64 1, .int .i64 1, .slice q.at_ 2 q.atc, .slice q.co 2 q.coc, .slice q.wh 3 q.whc], .int .i64 e]) ∧ WorldAt w' q y ∧ Below W.heap.size W w' :=
  drop_as hs q0 i k W hu h hi hR
theorem aw9_to (n : Nat) (a k wh : Option Addr) (ac kc whc : Nat) (W : World) (h : WorldAt W ⟨aP9 n, a, ac, k, kc, wh, whc⟩ aX9) : Calls Try.prog 15 #[.agg #[.slice (some ⟨n, 0, none⟩) 2 2, .slice (some ⟨n + 1, 0, none⟩) 2 2, .slice (some ⟨n + 1 + 1, 0, none⟩) 2 2, .slice (some ⟨n + 1 + 1 + 1, 0, none⟩) 3 3, .slice (some ⟨n + 1 + 1 + 1 + 1, 0, none⟩) 3 3, .int .i64 3, .int .i64 1, .int .i64 1, .slice a 2 ac, .slice k 2 kc, .slice wh 3 whc], .int .i64 1, .agg #[.int .i64 2, .int .i64 0]] W fun e w' => ∃ q : Wp, e = .returned (.agg #[.slice q.d.ex 2 q.d.exc, .slice q.d.pl 2 q.d.plc, .slice q.d.co 2 q.d.coc, .slice q.d.it 3 q.d.itc, .slice q.d.bo 3 q.d.boc, .int .i64 3, .int .i64 1, .int .i64 1, .slice q.at_ 2 q.atc, .slice q.co 2 q.coc, .slice q.wh 3 q.whc]) ∧ WorldAt w' q aC9 ∧ Below W.heap.size W w' :=
  (to_any aX9 ⟨aP9 n, a, ac, k, kc, wh, whc⟩ 1 ⟨2, 0⟩ W h (right_fewW9 aX9_right) (by decide)).mono fun e w' ⟨q, he, ho, hb⟩ => ⟨q, he, ho.world, hb⟩
theorem aw9_same (n : Nat) (a k wh : Option Addr) (ac kc whc : Nat) (q0 : Wp) (W : World) (h : WorldAt W ⟨aP9 n, a, ac, k, kc, wh, whc⟩ aX9) (h0 : WorldAt W q0 aX9) : Calls Try.prog 14 #[.agg #[.slice q0.d.ex 2 q0.d.exc, .slice q0.d.pl 2 q0.d.plc, .slice q0.d.co 2 q0.d.coc, .slice q0.d.it 3 q0.d.itc, .slice q0.d.bo 3 q0.d.boc, .int .i64 3, .int .i64 1, .int .i64 1, .slice q0.at_ 2 q0.atc, .slice q0.co 2 q0.coc, .slice q0.wh 3 q0.whc], .agg #[.slice (some ⟨n, 0, none⟩) 2 2, .slice (some ⟨n + 1, 0, none⟩) 2 2, .slice (some ⟨n + 1 + 1, 0, none⟩) 2 2, .slice (some ⟨n + 1 + 1 + 1, 0, none⟩) 3 3, .slice (some ⟨n + 1 + 1 + 1 + 1, 0, none⟩) 3 3, .int .i64 3, .int .i64 1, .int .i64 1, .slice a 2 ac, .slice k 2 kc, .slice wh 3 whc]] W fun e w' => e = .returned (.bool true) ∧ Below W.heap.size W w' :=
  rsame_yes (Shape.refl aX9) (Shape.refl aX9) rfl q0 ⟨aP9 n, a, ac, k, kc, wh, whc⟩ W h0 h
set_option maxRecDepth 100000 in
set_option maxHeartbeats 4000000 in
theorem awake9_any (w : World) : Calls Try.prog 8 #[] w fun e w' => e = .returned (.bool true) ∧ Below w.heap.size w w' := by
  have MK := make_exits9
  have A0 := Lib.hid (aw9_start w)
  go_enter Try.func8, Try.ntmps8
  go_wp2_with fail
  generalize (((((w.alloc (.cells #[.int .i64 0, .int .i64 0, .int .i64 0, .int .i64 0, .int .i64 0, .int .i64 0, .int .i64 0, .int .i64 0] 53)).alloc (.cells #[.int .i64 0, .int .i64 1] 3)).alloc (.cells #[.int .i64 5, .int .i64 5] 3)).alloc (.cells #[.int .i64 0, .int .i64 0, .int .i64 1] 3)).alloc (.cells #[.bool true, .bool false, .bool false] 4)) = V0 at *
  have B_0 := Lib.hid A0.out.2
  refine (aw9_new w.heap.size V0 A0.out.1).mono ?_
  rintro e w1 ⟨a, k, wh, ac, kc, whc, rfl, hA, b1⟩
  clear MK
  have B_1 := Lib.hid (bl B_0.out b1)
  have A_1 := Lib.hid hA
  clear b1 hA B_0 A0
  go_wp2_with fail
  have s2 : (w1.alloc (.cells #[.slice (some ⟨w.heap.size, 0, none⟩) 2 2, .slice (some ⟨w.heap.size + 1, 0, none⟩) 2 2, .slice (some ⟨w.heap.size + 1 + 1, 0, none⟩) 2 2, .slice (some ⟨w.heap.size + 1 + 1 + 1, 0, none⟩) 3 3, .slice (some ⟨w.heap.size + 1 + 1 + 1 + 1, 0, none⟩) 3 3, .int .i64 3, .int .i64 1, .int .i64 1, .slice a 2 ac, .slice k 2 kc, .slice wh 3 whc] 29)).heap.size = w1.heap.size + 1 := by simp
  have B_2 := Lib.hid (B_1.out.alloc B_1.out.size (.cells #[.slice (some ⟨w.heap.size, 0, none⟩) 2 2, .slice (some ⟨w.heap.size + 1, 0, none⟩) 2 2, .slice (some ⟨w.heap.size + 1 + 1, 0, none⟩) 2 2, .slice (some ⟨w.heap.size + 1 + 1 + 1, 0, none⟩) 3 3, .slice (some ⟨w.heap.size + 1 + 1 + 1 + 1, 0, none⟩) 3 3, .int .i64 3, .int .i64 1, .int .i64 1, .slice a 2 ac, .slice k 2 kc, .slice wh 3 whc] 29))
  have A_2 := Lib.hid (A_1.out.call ((Below.refl _ _).alloc (Nat.le_refl _) (.cells #[.slice (some ⟨w.heap.size, 0, none⟩) 2 2, .slice (some ⟨w.heap.size + 1, 0, none⟩) 2 2, .slice (some ⟨w.heap.size + 1 + 1, 0, none⟩) 2 2, .slice (some ⟨w.heap.size + 1 + 1 + 1, 0, none⟩) 3 3, .slice (some ⟨w.heap.size + 1 + 1 + 1 + 1, 0, none⟩) 3 3, .int .i64 3, .int .i64 1, .int .i64 1, .slice a 2 ac, .slice k 2 kc, .slice wh 3 whc] 29)))
  have X_2 := Lib.hid (Holds.newb (w := w) (A := #[.slice (some ⟨w.heap.size, 0, none⟩) 2 2, .slice (some ⟨w.heap.size + 1, 0, none⟩) 2 2, .slice (some ⟨w.heap.size + 1 + 1, 0, none⟩) 2 2, .slice (some ⟨w.heap.size + 1 + 1 + 1, 0, none⟩) 3 3, .slice (some ⟨w.heap.size + 1 + 1 + 1 + 1, 0, none⟩) 3 3, .int .i64 3, .int .i64 1, .int .i64 1, .slice a 2 ac, .slice k 2 kc, .slice wh 3 whc]) (t := 29) (n := w1.heap.size) B_1.out rfl)
  clear B_1 A_1
  generalize w1.alloc (.cells #[.slice (some ⟨w.heap.size, 0, none⟩) 2 2, .slice (some ⟨w.heap.size + 1, 0, none⟩) 2 2, .slice (some ⟨w.heap.size + 1 + 1, 0, none⟩) 2 2, .slice (some ⟨w.heap.size + 1 + 1 + 1, 0, none⟩) 3 3, .slice (some ⟨w.heap.size + 1 + 1 + 1 + 1, 0, none⟩) 3 3, .int .i64 3, .int .i64 1, .int .i64 1, .slice a 2 ac, .slice k 2 kc, .slice wh 3 whc] 29) = V2 at *
  have hcX := X_2.out.2.2
  have hlX := X_2.out.2.1
  refine (aw9_take w.heap.size a k wh ac kc whc _ A_2.out).mono ?_
  rintro e u3 ⟨⟨xd3, xa3, xac3, xk3, xkc3, xw3, xwc3⟩, g, hg, rfl, i3, j3, b3⟩
  clear hcX hlX
  have B_3 := Lib.hid (bl B_2.out b3)
  have X_3 := Lib.hid (X_2.out.call b3)
  have A_3 := Lib.hid (A_2.out.call b3)
  clear b3 B_2 X_2 A_2
  have hcX := X_3.out.2.2
  have hlX := X_3.out.2.1
  simp only at hg
  subst hg
  have Y_3 := Lib.hid i3
  have PC_3 := Lib.hid j3
  clear i3 j3
  go_wp2_with fail
  clear hcX hlX
  have s4 : (u3.alloc (.cells #[.slice xd3.ex 2 xd3.exc, .slice xd3.pl 2 xd3.plc, .slice xd3.co 2 xd3.coc, .slice xd3.it 3 xd3.itc, .slice xd3.bo 3 xd3.boc, .int .i64 3, .int .i64 1, .int .i64 1, .slice xa3 2 xac3, .slice xk3 2 xkc3, .slice (some ⟨g, 0, none⟩) 3 xwc3] 29)).heap.size = u3.heap.size + 1 := by simp
  have B_4 := Lib.hid (B_3.out.alloc B_3.out.size (.cells #[.slice xd3.ex 2 xd3.exc, .slice xd3.pl 2 xd3.plc, .slice xd3.co 2 xd3.coc, .slice xd3.it 3 xd3.itc, .slice xd3.bo 3 xd3.boc, .int .i64 3, .int .i64 1, .int .i64 1, .slice xa3 2 xac3, .slice xk3 2 xkc3, .slice (some ⟨g, 0, none⟩) 3 xwc3] 29))
  have X_4 := Lib.hid (X_3.out.alloc (.cells #[.slice xd3.ex 2 xd3.exc, .slice xd3.pl 2 xd3.plc, .slice xd3.co 2 xd3.coc, .slice xd3.it 3 xd3.itc, .slice xd3.bo 3 xd3.boc, .int .i64 3, .int .i64 1, .int .i64 1, .slice xa3 2 xac3, .slice xk3 2 xkc3, .slice (some ⟨g, 0, none⟩) 3 xwc3] 29))
  have A_4 := Lib.hid (A_3.out.call ((Below.refl _ _).alloc (Nat.le_refl _) (.cells #[.slice xd3.ex 2 xd3.exc, .slice xd3.pl 2 xd3.plc, .slice xd3.co 2 xd3.coc, .slice xd3.it 3 xd3.itc, .slice xd3.bo 3 xd3.boc, .int .i64 3, .int .i64 1, .int .i64 1, .slice xa3 2 xac3, .slice xk3 2 xkc3, .slice (some ⟨g, 0, none⟩) 3 xwc3] 29)))
  have Y_4 := Lib.hid (Y_3.out.call ((Below.refl _ _).alloc (Nat.le_refl _) (.cells #[.slice xd3.ex 2 xd3.exc, .slice xd3.pl 2 xd3.plc, .slice xd3.co 2 xd3.coc, .slice xd3.it 3 xd3.itc, .slice xd3.bo 3 xd3.boc, .int .i64 3, .int .i64 1, .int .i64 1, .slice xa3 2 xac3, .slice xk3 2 xkc3, .slice (some ⟨g, 0, none⟩) 3 xwc3] 29)))
  have PC_4 := Lib.hid (PC_3.out.call ((Below.refl _ _).alloc (Nat.le_refl _) (.cells #[.slice xd3.ex 2 xd3.exc, .slice xd3.pl 2 xd3.plc, .slice xd3.co 2 xd3.coc, .slice xd3.it 3 xd3.itc, .slice xd3.bo 3 xd3.boc, .int .i64 3, .int .i64 1, .int .i64 1, .slice xa3 2 xac3, .slice xk3 2 xkc3, .slice (some ⟨g, 0, none⟩) 3 xwc3] 29)))
  have P_4 := Lib.hid (Holds.newb (w := w) (A := #[.slice xd3.ex 2 xd3.exc, .slice xd3.pl 2 xd3.plc, .slice xd3.co 2 xd3.coc, .slice xd3.it 3 xd3.itc, .slice xd3.bo 3 xd3.boc, .int .i64 3, .int .i64 1, .int .i64 1, .slice xa3 2 xac3, .slice xk3 2 xkc3, .slice (some ⟨g, 0, none⟩) 3 xwc3]) (t := 29) (n := u3.heap.size) B_3.out rfl)
  clear B_3 X_3 A_3 Y_3 PC_3
  generalize u3.alloc (.cells #[.slice xd3.ex 2 xd3.exc, .slice xd3.pl 2 xd3.plc, .slice xd3.co 2 xd3.coc, .slice xd3.it 3 xd3.itc, .slice xd3.bo 3 xd3.boc, .int .i64 3, .int .i64 1, .int .i64 1, .slice xa3 2 xac3, .slice xk3 2 xkc3, .slice (some ⟨g, 0, none⟩) 3 xwc3] 29) = V4 at *
  have hcX := X_4.out.2.2
  have hlX := X_4.out.2.1
  have hcP := P_4.out.2.2
  have hlP := P_4.out.2.1
  refine (aw9_get ⟨xd3, xa3, xac3, xk3, xkc3, some ⟨g, 0, none⟩, xwc3⟩ aA9 (putW_shape _ _ _) aA9_right _ Y_4.out 0 1 (by decide) aA9 9 (by decide)).mono ?_
  rintro e u5 ⟨⟨xd5, xa5, xac5, xk5, xkc5, xw5, xwc5⟩, rfl, i5, b5⟩
  clear hcX hlX hcP hlP
  have B_5 := Lib.hid (bl B_4.out b5)
  have X_5 := Lib.hid (X_4.out.call b5)
  have P_5 := Lib.hid (P_4.out.call b5)
  have A_5 := Lib.hid (A_4.out.call b5)
  have Y_5 := Lib.hid (Y_4.out.call b5)
  have PC_5 := Lib.hid (PC_4.out.call b5)
  clear b5 B_4 X_4 P_4 A_4 Y_4 PC_4
  have hcX := X_5.out.2.2
  have hlX := X_5.out.2.1
  have hcP := P_5.out.2.2
  have hlP := P_5.out.2.1
  clear i5
  go_wp2_with fail
  clear hcX hlX hcP hlP
  have s6 : (u5.alloc (.cells #[.slice xd5.ex 2 xd5.exc, .slice xd5.pl 2 xd5.plc, .slice xd5.co 2 xd5.coc, .slice xd5.it 3 xd5.itc, .slice xd5.bo 3 xd5.boc, .int .i64 3, .int .i64 1, .int .i64 1, .slice xa5 2 xac5, .slice xk5 2 xkc5, .slice xw5 3 xwc5] 29)).heap.size = u5.heap.size + 1 := by simp
  have B_6 := Lib.hid (B_5.out.alloc B_5.out.size (.cells #[.slice xd5.ex 2 xd5.exc, .slice xd5.pl 2 xd5.plc, .slice xd5.co 2 xd5.coc, .slice xd5.it 3 xd5.itc, .slice xd5.bo 3 xd5.boc, .int .i64 3, .int .i64 1, .int .i64 1, .slice xa5 2 xac5, .slice xk5 2 xkc5, .slice xw5 3 xwc5] 29))
  have X_6 := Lib.hid (X_5.out.alloc (.cells #[.slice xd5.ex 2 xd5.exc, .slice xd5.pl 2 xd5.plc, .slice xd5.co 2 xd5.coc, .slice xd5.it 3 xd5.itc, .slice xd5.bo 3 xd5.boc, .int .i64 3, .int .i64 1, .int .i64 1, .slice xa5 2 xac5, .slice xk5 2 xkc5, .slice xw5 3 xwc5] 29))
  have P_6 := Lib.hid (P_5.out.alloc (.cells #[.slice xd5.ex 2 xd5.exc, .slice xd5.pl 2 xd5.plc, .slice xd5.co 2 xd5.coc, .slice xd5.it 3 xd5.itc, .slice xd5.bo 3 xd5.boc, .int .i64 3, .int .i64 1, .int .i64 1, .slice xa5 2 xac5, .slice xk5 2 xkc5, .slice xw5 3 xwc5] 29))
  have A_6 := Lib.hid (A_5.out.call ((Below.refl _ _).alloc (Nat.le_refl _) (.cells #[.slice xd5.ex 2 xd5.exc, .slice xd5.pl 2 xd5.plc, .slice xd5.co 2 xd5.coc, .slice xd5.it 3 xd5.itc, .slice xd5.bo 3 xd5.boc, .int .i64 3, .int .i64 1, .int .i64 1, .slice xa5 2 xac5, .slice xk5 2 xkc5, .slice xw5 3 xwc5] 29)))
  have Y_6 := Lib.hid (Y_5.out.call ((Below.refl _ _).alloc (Nat.le_refl _) (.cells #[.slice xd5.ex 2 xd5.exc, .slice xd5.pl 2 xd5.plc, .slice xd5.co 2 xd5.coc, .slice xd5.it 3 xd5.itc, .slice xd5.bo 3 xd5.boc, .int .i64 3, .int .i64 1, .int .i64 1, .slice xa5 2 xac5, .slice xk5 2 xkc5, .slice xw5 3 xwc5] 29)))
  have PC_6 := Lib.hid (PC_5.out.call ((Below.refl _ _).alloc (Nat.le_refl _) (.cells #[.slice xd5.ex 2 xd5.exc, .slice xd5.pl 2 xd5.plc, .slice xd5.co 2 xd5.coc, .slice xd5.it 3 xd5.itc, .slice xd5.bo 3 xd5.boc, .int .i64 3, .int .i64 1, .int .i64 1, .slice xa5 2 xac5, .slice xk5 2 xkc5, .slice xw5 3 xwc5] 29)))
  clear B_5 X_5 P_5 A_5 Y_5 PC_5
  generalize u5.alloc (.cells #[.slice xd5.ex 2 xd5.exc, .slice xd5.pl 2 xd5.plc, .slice xd5.co 2 xd5.coc, .slice xd5.it 3 xd5.itc, .slice xd5.bo 3 xd5.boc, .int .i64 3, .int .i64 1, .int .i64 1, .slice xa5 2 xac5, .slice xk5 2 xkc5, .slice xw5 3 xwc5] 29) = V6 at *
  have hcX := X_6.out.2.2
  have hlX := X_6.out.2.1
  have hcP := P_6.out.2.2
  have hlP := P_6.out.2.1
  refine (aw9_get ⟨xd3, xa3, xac3, xk3, xkc3, some ⟨g, 0, none⟩, xwc3⟩ aA9 (putW_shape _ _ _) aA9_right _ Y_6.out 0 2 (by decide) aA9 5 (by decide)).mono ?_
  rintro e u7 ⟨⟨xd7, xa7, xac7, xk7, xkc7, xw7, xwc7⟩, rfl, i7, b7⟩
  clear hcX hlX hcP hlP
  have B_7 := Lib.hid (bl B_6.out b7)
  have X_7 := Lib.hid (X_6.out.call b7)
  have P_7 := Lib.hid (P_6.out.call b7)
  have A_7 := Lib.hid (A_6.out.call b7)
  have Y_7 := Lib.hid (Y_6.out.call b7)
  have PC_7 := Lib.hid (PC_6.out.call b7)
  clear b7 B_6 X_6 P_6 A_6 Y_6 PC_6
  have hcX := X_7.out.2.2
  have hlX := X_7.out.2.1
  have hcP := P_7.out.2.2
  have hlP := P_7.out.2.1
  clear i7
  go_wp2_with fail
  clear hcX hlX hcP hlP
  have s8 : (u7.alloc (.cells #[.slice xd7.ex 2 xd7.exc, .slice xd7.pl 2 xd7.plc, .slice xd7.co 2 xd7.coc, .slice xd7.it 3 xd7.itc, .slice xd7.bo 3 xd7.boc, .int .i64 3, .int .i64 1, .int .i64 1, .slice xa7 2 xac7, .slice xk7 2 xkc7, .slice xw7 3 xwc7] 29)).heap.size = u7.heap.size + 1 := by simp
  have B_8 := Lib.hid (B_7.out.alloc B_7.out.size (.cells #[.slice xd7.ex 2 xd7.exc, .slice xd7.pl 2 xd7.plc, .slice xd7.co 2 xd7.coc, .slice xd7.it 3 xd7.itc, .slice xd7.bo 3 xd7.boc, .int .i64 3, .int .i64 1, .int .i64 1, .slice xa7 2 xac7, .slice xk7 2 xkc7, .slice xw7 3 xwc7] 29))
  have X_8 := Lib.hid (X_7.out.alloc (.cells #[.slice xd7.ex 2 xd7.exc, .slice xd7.pl 2 xd7.plc, .slice xd7.co 2 xd7.coc, .slice xd7.it 3 xd7.itc, .slice xd7.bo 3 xd7.boc, .int .i64 3, .int .i64 1, .int .i64 1, .slice xa7 2 xac7, .slice xk7 2 xkc7, .slice xw7 3 xwc7] 29))
  have P_8 := Lib.hid (P_7.out.alloc (.cells #[.slice xd7.ex 2 xd7.exc, .slice xd7.pl 2 xd7.plc, .slice xd7.co 2 xd7.coc, .slice xd7.it 3 xd7.itc, .slice xd7.bo 3 xd7.boc, .int .i64 3, .int .i64 1, .int .i64 1, .slice xa7 2 xac7, .slice xk7 2 xkc7, .slice xw7 3 xwc7] 29))
  have A_8 := Lib.hid (A_7.out.call ((Below.refl _ _).alloc (Nat.le_refl _) (.cells #[.slice xd7.ex 2 xd7.exc, .slice xd7.pl 2 xd7.plc, .slice xd7.co 2 xd7.coc, .slice xd7.it 3 xd7.itc, .slice xd7.bo 3 xd7.boc, .int .i64 3, .int .i64 1, .int .i64 1, .slice xa7 2 xac7, .slice xk7 2 xkc7, .slice xw7 3 xwc7] 29)))
  have Y_8 := Lib.hid (Y_7.out.call ((Below.refl _ _).alloc (Nat.le_refl _) (.cells #[.slice xd7.ex 2 xd7.exc, .slice xd7.pl 2 xd7.plc, .slice xd7.co 2 xd7.coc, .slice xd7.it 3 xd7.itc, .slice xd7.bo 3 xd7.boc, .int .i64 3, .int .i64 1, .int .i64 1, .slice xa7 2 xac7, .slice xk7 2 xkc7, .slice xw7 3 xwc7] 29)))
  have PC_8 := Lib.hid (PC_7.out.call ((Below.refl _ _).alloc (Nat.le_refl _) (.cells #[.slice xd7.ex 2 xd7.exc, .slice xd7.pl 2 xd7.plc, .slice xd7.co 2 xd7.coc, .slice xd7.it 3 xd7.itc, .slice xd7.bo 3 xd7.boc, .int .i64 3, .int .i64 1, .int .i64 1, .slice xa7 2 xac7, .slice xk7 2 xkc7, .slice xw7 3 xwc7] 29)))
  clear B_7 X_7 P_7 A_7 Y_7 PC_7
  generalize u7.alloc (.cells #[.slice xd7.ex 2 xd7.exc, .slice xd7.pl 2 xd7.plc, .slice xd7.co 2 xd7.coc, .slice xd7.it 3 xd7.itc, .slice xd7.bo 3 xd7.boc, .int .i64 3, .int .i64 1, .int .i64 1, .slice xa7 2 xac7, .slice xk7 2 xkc7, .slice xw7 3 xwc7] 29) = V8 at *
  have hcX := X_8.out.2.2
  have hlX := X_8.out.2.1
  have hcP := P_8.out.2.2
  have hlP := P_8.out.2.1
  refine (aw9_get ⟨xd3, xa3, xac3, xk3, xkc3, some ⟨g, 0, none⟩, xwc3⟩ aA9 (putW_shape _ _ _) aA9_right _ Y_8.out 0 3 (by decide) aA9 3 (by decide)).mono ?_
  rintro e u9 ⟨⟨xd9, xa9, xac9, xk9, xkc9, xw9, xwc9⟩, rfl, i9, b9⟩
  clear hcX hlX hcP hlP
  have B_9 := Lib.hid (bl B_8.out b9)
  have X_9 := Lib.hid (X_8.out.call b9)
  have P_9 := Lib.hid (P_8.out.call b9)
  have A_9 := Lib.hid (A_8.out.call b9)
  have Y_9 := Lib.hid (Y_8.out.call b9)
  have PC_9 := Lib.hid (PC_8.out.call b9)
  clear b9 B_8 X_8 P_8 A_8 Y_8 PC_8
  have hcX := X_9.out.2.2
  have hlX := X_9.out.2.1
  have hcP := P_9.out.2.2
  have hlP := P_9.out.2.1
  clear i9
  go_wp2_with fail
  clear hcX hlX hcP hlP
  have s10 : (u9.alloc (.cells #[.slice xd9.ex 2 xd9.exc, .slice xd9.pl 2 xd9.plc, .slice xd9.co 2 xd9.coc, .slice xd9.it 3 xd9.itc, .slice xd9.bo 3 xd9.boc, .int .i64 3, .int .i64 1, .int .i64 1, .slice xa9 2 xac9, .slice xk9 2 xkc9, .slice xw9 3 xwc9] 29)).heap.size = u9.heap.size + 1 := by simp
  have B_10 := Lib.hid (B_9.out.alloc B_9.out.size (.cells #[.slice xd9.ex 2 xd9.exc, .slice xd9.pl 2 xd9.plc, .slice xd9.co 2 xd9.coc, .slice xd9.it 3 xd9.itc, .slice xd9.bo 3 xd9.boc, .int .i64 3, .int .i64 1, .int .i64 1, .slice xa9 2 xac9, .slice xk9 2 xkc9, .slice xw9 3 xwc9] 29))
  have X_10 := Lib.hid (X_9.out.alloc (.cells #[.slice xd9.ex 2 xd9.exc, .slice xd9.pl 2 xd9.plc, .slice xd9.co 2 xd9.coc, .slice xd9.it 3 xd9.itc, .slice xd9.bo 3 xd9.boc, .int .i64 3, .int .i64 1, .int .i64 1, .slice xa9 2 xac9, .slice xk9 2 xkc9, .slice xw9 3 xwc9] 29))
  have P_10 := Lib.hid (P_9.out.alloc (.cells #[.slice xd9.ex 2 xd9.exc, .slice xd9.pl 2 xd9.plc, .slice xd9.co 2 xd9.coc, .slice xd9.it 3 xd9.itc, .slice xd9.bo 3 xd9.boc, .int .i64 3, .int .i64 1, .int .i64 1, .slice xa9 2 xac9, .slice xk9 2 xkc9, .slice xw9 3 xwc9] 29))
  have A_10 := Lib.hid (A_9.out.call ((Below.refl _ _).alloc (Nat.le_refl _) (.cells #[.slice xd9.ex 2 xd9.exc, .slice xd9.pl 2 xd9.plc, .slice xd9.co 2 xd9.coc, .slice xd9.it 3 xd9.itc, .slice xd9.bo 3 xd9.boc, .int .i64 3, .int .i64 1, .int .i64 1, .slice xa9 2 xac9, .slice xk9 2 xkc9, .slice xw9 3 xwc9] 29)))
  have Y_10 := Lib.hid (Y_9.out.call ((Below.refl _ _).alloc (Nat.le_refl _) (.cells #[.slice xd9.ex 2 xd9.exc, .slice xd9.pl 2 xd9.plc, .slice xd9.co 2 xd9.coc, .slice xd9.it 3 xd9.itc, .slice xd9.bo 3 xd9.boc, .int .i64 3, .int .i64 1, .int .i64 1, .slice xa9 2 xac9, .slice xk9 2 xkc9, .slice xw9 3 xwc9] 29)))
  have PC_10 := Lib.hid (PC_9.out.call ((Below.refl _ _).alloc (Nat.le_refl _) (.cells #[.slice xd9.ex 2 xd9.exc, .slice xd9.pl 2 xd9.plc, .slice xd9.co 2 xd9.coc, .slice xd9.it 3 xd9.itc, .slice xd9.bo 3 xd9.boc, .int .i64 3, .int .i64 1, .int .i64 1, .slice xa9 2 xac9, .slice xk9 2 xkc9, .slice xw9 3 xwc9] 29)))
  clear B_9 X_9 P_9 A_9 Y_9 PC_9
  generalize u9.alloc (.cells #[.slice xd9.ex 2 xd9.exc, .slice xd9.pl 2 xd9.plc, .slice xd9.co 2 xd9.coc, .slice xd9.it 3 xd9.itc, .slice xd9.bo 3 xd9.boc, .int .i64 3, .int .i64 1, .int .i64 1, .slice xa9 2 xac9, .slice xk9 2 xkc9, .slice xw9 3 xwc9] 29) = V10 at *
  have hcX := X_10.out.2.2
  have hlX := X_10.out.2.1
  have hcP := P_10.out.2.2
  have hlP := P_10.out.2.1
  refine (aw9_drop ⟨xd3, xa3, xac3, xk3, xkc3, some ⟨g, 0, none⟩, xwc3⟩ aA9 (putW_shape _ _ _) aA9_right _ Y_10.out 0 0 (by decide) aX9 0 (by decide)).mono ?_
  rintro e u11 ⟨⟨xd11, xa11, xac11, xk11, xkc11, xw11, xwc11⟩, rfl, i11, b11⟩
  clear hcX hlX hcP hlP
  have B_11 := Lib.hid (bl B_10.out b11)
  have X_11 := Lib.hid (X_10.out.call b11)
  have P_11 := Lib.hid (P_10.out.call b11)
  have A_11 := Lib.hid (A_10.out.call b11)
  have Y_11 := Lib.hid (Y_10.out.call b11)
  have PC_11 := Lib.hid (PC_10.out.call b11)
  clear b11 B_10 X_10 P_10 A_10 Y_10 PC_10
  have hcX := X_11.out.2.2
  have hlX := X_11.out.2.1
  have hcP := P_11.out.2.2
  have hlP := P_11.out.2.1
  have Z_11 := Lib.hid i11
  clear i11
  go_wp2_with fail
  clear hcX hlX hcP hlP
  have s12 : (u11.alloc (.cells #[.slice xd11.ex 2 xd11.exc, .slice xd11.pl 2 xd11.plc, .slice xd11.co 2 xd11.coc, .slice xd11.it 3 xd11.itc, .slice xd11.bo 3 xd11.boc, .int .i64 3, .int .i64 1, .int .i64 1, .slice xa11 2 xac11, .slice xk11 2 xkc11, .slice xw11 3 xwc11] 29)).heap.size = u11.heap.size + 1 := by simp
  have B_12 := Lib.hid (B_11.out.alloc B_11.out.size (.cells #[.slice xd11.ex 2 xd11.exc, .slice xd11.pl 2 xd11.plc, .slice xd11.co 2 xd11.coc, .slice xd11.it 3 xd11.itc, .slice xd11.bo 3 xd11.boc, .int .i64 3, .int .i64 1, .int .i64 1, .slice xa11 2 xac11, .slice xk11 2 xkc11, .slice xw11 3 xwc11] 29))
  have X_12 := Lib.hid (X_11.out.alloc (.cells #[.slice xd11.ex 2 xd11.exc, .slice xd11.pl 2 xd11.plc, .slice xd11.co 2 xd11.coc, .slice xd11.it 3 xd11.itc, .slice xd11.bo 3 xd11.boc, .int .i64 3, .int .i64 1, .int .i64 1, .slice xa11 2 xac11, .slice xk11 2 xkc11, .slice xw11 3 xwc11] 29))
  have P_12 := Lib.hid (P_11.out.alloc (.cells #[.slice xd11.ex 2 xd11.exc, .slice xd11.pl 2 xd11.plc, .slice xd11.co 2 xd11.coc, .slice xd11.it 3 xd11.itc, .slice xd11.bo 3 xd11.boc, .int .i64 3, .int .i64 1, .int .i64 1, .slice xa11 2 xac11, .slice xk11 2 xkc11, .slice xw11 3 xwc11] 29))
  have A_12 := Lib.hid (A_11.out.call ((Below.refl _ _).alloc (Nat.le_refl _) (.cells #[.slice xd11.ex 2 xd11.exc, .slice xd11.pl 2 xd11.plc, .slice xd11.co 2 xd11.coc, .slice xd11.it 3 xd11.itc, .slice xd11.bo 3 xd11.boc, .int .i64 3, .int .i64 1, .int .i64 1, .slice xa11 2 xac11, .slice xk11 2 xkc11, .slice xw11 3 xwc11] 29)))
  have Y_12 := Lib.hid (Y_11.out.call ((Below.refl _ _).alloc (Nat.le_refl _) (.cells #[.slice xd11.ex 2 xd11.exc, .slice xd11.pl 2 xd11.plc, .slice xd11.co 2 xd11.coc, .slice xd11.it 3 xd11.itc, .slice xd11.bo 3 xd11.boc, .int .i64 3, .int .i64 1, .int .i64 1, .slice xa11 2 xac11, .slice xk11 2 xkc11, .slice xw11 3 xwc11] 29)))
  have PC_12 := Lib.hid (PC_11.out.call ((Below.refl _ _).alloc (Nat.le_refl _) (.cells #[.slice xd11.ex 2 xd11.exc, .slice xd11.pl 2 xd11.plc, .slice xd11.co 2 xd11.coc, .slice xd11.it 3 xd11.itc, .slice xd11.bo 3 xd11.boc, .int .i64 3, .int .i64 1, .int .i64 1, .slice xa11 2 xac11, .slice xk11 2 xkc11, .slice xw11 3 xwc11] 29)))
  have Z_12 := Lib.hid (Z_11.out.call ((Below.refl _ _).alloc (Nat.le_refl _) (.cells #[.slice xd11.ex 2 xd11.exc, .slice xd11.pl 2 xd11.plc, .slice xd11.co 2 xd11.coc, .slice xd11.it 3 xd11.itc, .slice xd11.bo 3 xd11.boc, .int .i64 3, .int .i64 1, .int .i64 1, .slice xa11 2 xac11, .slice xk11 2 xkc11, .slice xw11 3 xwc11] 29)))
  have Q_12 := Lib.hid (Holds.newb (w := w) (A := #[.slice xd11.ex 2 xd11.exc, .slice xd11.pl 2 xd11.plc, .slice xd11.co 2 xd11.coc, .slice xd11.it 3 xd11.itc, .slice xd11.bo 3 xd11.boc, .int .i64 3, .int .i64 1, .int .i64 1, .slice xa11 2 xac11, .slice xk11 2 xkc11, .slice xw11 3 xwc11]) (t := 29) (n := u11.heap.size) B_11.out rfl)
  clear B_11 X_11 P_11 A_11 Y_11 PC_11 Z_11
  generalize u11.alloc (.cells #[.slice xd11.ex 2 xd11.exc, .slice xd11.pl 2 xd11.plc, .slice xd11.co 2 xd11.coc, .slice xd11.it 3 xd11.itc, .slice xd11.bo 3 xd11.boc, .int .i64 3, .int .i64 1, .int .i64 1, .slice xa11 2 xac11, .slice xk11 2 xkc11, .slice xw11 3 xwc11] 29) = V12 at *
  have hcX := X_12.out.2.2
  have hlX := X_12.out.2.1
  have hcP := P_12.out.2.2
  have hlP := P_12.out.2.1
  have hcQ := Q_12.out.2.2
  have hlQ := Q_12.out.2.1
  refine (aw9_drop ⟨xd3, xa3, xac3, xk3, xkc3, some ⟨g, 0, none⟩, xwc3⟩ aA9 (putW_shape _ _ _) aA9_right _ Y_12.out 1 0 (by decide) aA9 5 (by decide)).mono ?_
  rintro e u13 ⟨⟨xd13, xa13, xac13, xk13, xkc13, xw13, xwc13⟩, rfl, i13, b13⟩
  clear hcX hlX hcP hlP hcQ hlQ
  have B_13 := Lib.hid (bl B_12.out b13)
  have X_13 := Lib.hid (X_12.out.call b13)
  have P_13 := Lib.hid (P_12.out.call b13)
  have Q_13 := Lib.hid (Q_12.out.call b13)
  have A_13 := Lib.hid (A_12.out.call b13)
  have Y_13 := Lib.hid (Y_12.out.call b13)
  have PC_13 := Lib.hid (PC_12.out.call b13)
  have Z_13 := Lib.hid (Z_12.out.call b13)
  clear b13 B_12 X_12 P_12 Q_12 A_12 Y_12 PC_12 Z_12
  have hcX := X_13.out.2.2
  have hlX := X_13.out.2.1
  have hcP := P_13.out.2.2
  have hlP := P_13.out.2.1
  have hcQ := Q_13.out.2.2
  have hlQ := Q_13.out.2.1
  clear i13
  go_wp2_with fail
  clear hcX hlX hcP hlP hcQ hlQ
  have s14 : (u13.alloc (.cells #[.slice xd13.ex 2 xd13.exc, .slice xd13.pl 2 xd13.plc, .slice xd13.co 2 xd13.coc, .slice xd13.it 3 xd13.itc, .slice xd13.bo 3 xd13.boc, .int .i64 3, .int .i64 1, .int .i64 1, .slice xa13 2 xac13, .slice xk13 2 xkc13, .slice xw13 3 xwc13] 29)).heap.size = u13.heap.size + 1 := by simp
  have B_14 := Lib.hid (B_13.out.alloc B_13.out.size (.cells #[.slice xd13.ex 2 xd13.exc, .slice xd13.pl 2 xd13.plc, .slice xd13.co 2 xd13.coc, .slice xd13.it 3 xd13.itc, .slice xd13.bo 3 xd13.boc, .int .i64 3, .int .i64 1, .int .i64 1, .slice xa13 2 xac13, .slice xk13 2 xkc13, .slice xw13 3 xwc13] 29))
  have X_14 := Lib.hid (X_13.out.alloc (.cells #[.slice xd13.ex 2 xd13.exc, .slice xd13.pl 2 xd13.plc, .slice xd13.co 2 xd13.coc, .slice xd13.it 3 xd13.itc, .slice xd13.bo 3 xd13.boc, .int .i64 3, .int .i64 1, .int .i64 1, .slice xa13 2 xac13, .slice xk13 2 xkc13, .slice xw13 3 xwc13] 29))
  have P_14 := Lib.hid (P_13.out.alloc (.cells #[.slice xd13.ex 2 xd13.exc, .slice xd13.pl 2 xd13.plc, .slice xd13.co 2 xd13.coc, .slice xd13.it 3 xd13.itc, .slice xd13.bo 3 xd13.boc, .int .i64 3, .int .i64 1, .int .i64 1, .slice xa13 2 xac13, .slice xk13 2 xkc13, .slice xw13 3 xwc13] 29))
  have Q_14 := Lib.hid (Q_13.out.alloc (.cells #[.slice xd13.ex 2 xd13.exc, .slice xd13.pl 2 xd13.plc, .slice xd13.co 2 xd13.coc, .slice xd13.it 3 xd13.itc, .slice xd13.bo 3 xd13.boc, .int .i64 3, .int .i64 1, .int .i64 1, .slice xa13 2 xac13, .slice xk13 2 xkc13, .slice xw13 3 xwc13] 29))
  have A_14 := Lib.hid (A_13.out.call ((Below.refl _ _).alloc (Nat.le_refl _) (.cells #[.slice xd13.ex 2 xd13.exc, .slice xd13.pl 2 xd13.plc, .slice xd13.co 2 xd13.coc, .slice xd13.it 3 xd13.itc, .slice xd13.bo 3 xd13.boc, .int .i64 3, .int .i64 1, .int .i64 1, .slice xa13 2 xac13, .slice xk13 2 xkc13, .slice xw13 3 xwc13] 29)))
  have Y_14 := Lib.hid (Y_13.out.call ((Below.refl _ _).alloc (Nat.le_refl _) (.cells #[.slice xd13.ex 2 xd13.exc, .slice xd13.pl 2 xd13.plc, .slice xd13.co 2 xd13.coc, .slice xd13.it 3 xd13.itc, .slice xd13.bo 3 xd13.boc, .int .i64 3, .int .i64 1, .int .i64 1, .slice xa13 2 xac13, .slice xk13 2 xkc13, .slice xw13 3 xwc13] 29)))
  have PC_14 := Lib.hid (PC_13.out.call ((Below.refl _ _).alloc (Nat.le_refl _) (.cells #[.slice xd13.ex 2 xd13.exc, .slice xd13.pl 2 xd13.plc, .slice xd13.co 2 xd13.coc, .slice xd13.it 3 xd13.itc, .slice xd13.bo 3 xd13.boc, .int .i64 3, .int .i64 1, .int .i64 1, .slice xa13 2 xac13, .slice xk13 2 xkc13, .slice xw13 3 xwc13] 29)))
  have Z_14 := Lib.hid (Z_13.out.call ((Below.refl _ _).alloc (Nat.le_refl _) (.cells #[.slice xd13.ex 2 xd13.exc, .slice xd13.pl 2 xd13.plc, .slice xd13.co 2 xd13.coc, .slice xd13.it 3 xd13.itc, .slice xd13.bo 3 xd13.boc, .int .i64 3, .int .i64 1, .int .i64 1, .slice xa13 2 xac13, .slice xk13 2 xkc13, .slice xw13 3 xwc13] 29)))
  clear B_13 X_13 P_13 Q_13 A_13 Y_13 PC_13 Z_13
  generalize u13.alloc (.cells #[.slice xd13.ex 2 xd13.exc, .slice xd13.pl 2 xd13.plc, .slice xd13.co 2 xd13.coc, .slice xd13.it 3 xd13.itc, .slice xd13.bo 3 xd13.boc, .int .i64 3, .int .i64 1, .int .i64 1, .slice xa13 2 xac13, .slice xk13 2 xkc13, .slice xw13 3 xwc13] 29) = V14 at *
  have hcX := X_14.out.2.2
  have hlX := X_14.out.2.1
  have hcP := P_14.out.2.2
  have hlP := P_14.out.2.1
  have hcQ := Q_14.out.2.2
  have hlQ := Q_14.out.2.1
  refine (aw9_to w.heap.size a k wh ac kc whc _ A_14.out).mono ?_
  rintro e u15 ⟨⟨xd15, xa15, xac15, xk15, xkc15, xw15, xwc15⟩, rfl, i15, b15⟩
  clear hcX hlX hcP hlP hcQ hlQ
  have B_15 := Lib.hid (bl B_14.out b15)
  have X_15 := Lib.hid (X_14.out.call b15)
  have P_15 := Lib.hid (P_14.out.call b15)
  have Q_15 := Lib.hid (Q_14.out.call b15)
  have A_15 := Lib.hid (A_14.out.call b15)
  have Y_15 := Lib.hid (Y_14.out.call b15)
  have PC_15 := Lib.hid (PC_14.out.call b15)
  have Z_15 := Lib.hid (Z_14.out.call b15)
  clear b15 B_14 X_14 P_14 Q_14 A_14 Y_14 PC_14 Z_14
  have hcX := X_15.out.2.2
  have hlX := X_15.out.2.1
  have hcP := P_15.out.2.2
  have hlP := P_15.out.2.1
  have hcQ := Q_15.out.2.2
  have hlQ := Q_15.out.2.1
  have U_15 := Lib.hid i15
  clear i15
  go_wp2_with fail
  clear hcX hlX hcP hlP hcQ hlQ
  have s16 : (u15.alloc (.cells #[.slice xd15.ex 2 xd15.exc, .slice xd15.pl 2 xd15.plc, .slice xd15.co 2 xd15.coc, .slice xd15.it 3 xd15.itc, .slice xd15.bo 3 xd15.boc, .int .i64 3, .int .i64 1, .int .i64 1, .slice xa15 2 xac15, .slice xk15 2 xkc15, .slice xw15 3 xwc15] 29)).heap.size = u15.heap.size + 1 := by simp
  have B_16 := Lib.hid (B_15.out.alloc B_15.out.size (.cells #[.slice xd15.ex 2 xd15.exc, .slice xd15.pl 2 xd15.plc, .slice xd15.co 2 xd15.coc, .slice xd15.it 3 xd15.itc, .slice xd15.bo 3 xd15.boc, .int .i64 3, .int .i64 1, .int .i64 1, .slice xa15 2 xac15, .slice xk15 2 xkc15, .slice xw15 3 xwc15] 29))
  have X_16 := Lib.hid (X_15.out.alloc (.cells #[.slice xd15.ex 2 xd15.exc, .slice xd15.pl 2 xd15.plc, .slice xd15.co 2 xd15.coc, .slice xd15.it 3 xd15.itc, .slice xd15.bo 3 xd15.boc, .int .i64 3, .int .i64 1, .int .i64 1, .slice xa15 2 xac15, .slice xk15 2 xkc15, .slice xw15 3 xwc15] 29))
  have P_16 := Lib.hid (P_15.out.alloc (.cells #[.slice xd15.ex 2 xd15.exc, .slice xd15.pl 2 xd15.plc, .slice xd15.co 2 xd15.coc, .slice xd15.it 3 xd15.itc, .slice xd15.bo 3 xd15.boc, .int .i64 3, .int .i64 1, .int .i64 1, .slice xa15 2 xac15, .slice xk15 2 xkc15, .slice xw15 3 xwc15] 29))
  have Q_16 := Lib.hid (Q_15.out.alloc (.cells #[.slice xd15.ex 2 xd15.exc, .slice xd15.pl 2 xd15.plc, .slice xd15.co 2 xd15.coc, .slice xd15.it 3 xd15.itc, .slice xd15.bo 3 xd15.boc, .int .i64 3, .int .i64 1, .int .i64 1, .slice xa15 2 xac15, .slice xk15 2 xkc15, .slice xw15 3 xwc15] 29))
  have A_16 := Lib.hid (A_15.out.call ((Below.refl _ _).alloc (Nat.le_refl _) (.cells #[.slice xd15.ex 2 xd15.exc, .slice xd15.pl 2 xd15.plc, .slice xd15.co 2 xd15.coc, .slice xd15.it 3 xd15.itc, .slice xd15.bo 3 xd15.boc, .int .i64 3, .int .i64 1, .int .i64 1, .slice xa15 2 xac15, .slice xk15 2 xkc15, .slice xw15 3 xwc15] 29)))
  have Y_16 := Lib.hid (Y_15.out.call ((Below.refl _ _).alloc (Nat.le_refl _) (.cells #[.slice xd15.ex 2 xd15.exc, .slice xd15.pl 2 xd15.plc, .slice xd15.co 2 xd15.coc, .slice xd15.it 3 xd15.itc, .slice xd15.bo 3 xd15.boc, .int .i64 3, .int .i64 1, .int .i64 1, .slice xa15 2 xac15, .slice xk15 2 xkc15, .slice xw15 3 xwc15] 29)))
  have PC_16 := Lib.hid (PC_15.out.call ((Below.refl _ _).alloc (Nat.le_refl _) (.cells #[.slice xd15.ex 2 xd15.exc, .slice xd15.pl 2 xd15.plc, .slice xd15.co 2 xd15.coc, .slice xd15.it 3 xd15.itc, .slice xd15.bo 3 xd15.boc, .int .i64 3, .int .i64 1, .int .i64 1, .slice xa15 2 xac15, .slice xk15 2 xkc15, .slice xw15 3 xwc15] 29)))
  have Z_16 := Lib.hid (Z_15.out.call ((Below.refl _ _).alloc (Nat.le_refl _) (.cells #[.slice xd15.ex 2 xd15.exc, .slice xd15.pl 2 xd15.plc, .slice xd15.co 2 xd15.coc, .slice xd15.it 3 xd15.itc, .slice xd15.bo 3 xd15.boc, .int .i64 3, .int .i64 1, .int .i64 1, .slice xa15 2 xac15, .slice xk15 2 xkc15, .slice xw15 3 xwc15] 29)))
  have U_16 := Lib.hid (U_15.out.call ((Below.refl _ _).alloc (Nat.le_refl _) (.cells #[.slice xd15.ex 2 xd15.exc, .slice xd15.pl 2 xd15.plc, .slice xd15.co 2 xd15.coc, .slice xd15.it 3 xd15.itc, .slice xd15.bo 3 xd15.boc, .int .i64 3, .int .i64 1, .int .i64 1, .slice xa15 2 xac15, .slice xk15 2 xkc15, .slice xw15 3 xwc15] 29)))
  have R_16 := Lib.hid (Holds.newb (w := w) (A := #[.slice xd15.ex 2 xd15.exc, .slice xd15.pl 2 xd15.plc, .slice xd15.co 2 xd15.coc, .slice xd15.it 3 xd15.itc, .slice xd15.bo 3 xd15.boc, .int .i64 3, .int .i64 1, .int .i64 1, .slice xa15 2 xac15, .slice xk15 2 xkc15, .slice xw15 3 xwc15]) (t := 29) (n := u15.heap.size) B_15.out rfl)
  clear B_15 X_15 P_15 Q_15 A_15 Y_15 PC_15 Z_15 U_15
  generalize u15.alloc (.cells #[.slice xd15.ex 2 xd15.exc, .slice xd15.pl 2 xd15.plc, .slice xd15.co 2 xd15.coc, .slice xd15.it 3 xd15.itc, .slice xd15.bo 3 xd15.boc, .int .i64 3, .int .i64 1, .int .i64 1, .slice xa15 2 xac15, .slice xk15 2 xkc15, .slice xw15 3 xwc15] 29) = V16 at *
  have hcX := X_16.out.2.2
  have hlX := X_16.out.2.1
  have hcP := P_16.out.2.2
  have hlP := P_16.out.2.1
  have hcQ := Q_16.out.2.2
  have hlQ := Q_16.out.2.1
  have hcR := R_16.out.2.2
  have hlR := R_16.out.2.1
  refine (aw9_get ⟨xd15, xa15, xac15, xk15, xkc15, xw15, xwc15⟩ aC9 (putW_shape _ _ _) aC9_right _ U_16.out 0 1 (by decide) aC9 5 (by decide)).mono ?_
  rintro e u17 ⟨⟨xd17, xa17, xac17, xk17, xkc17, xw17, xwc17⟩, rfl, i17, b17⟩
  clear hcX hlX hcP hlP hcQ hlQ hcR hlR
  have B_17 := Lib.hid (bl B_16.out b17)
  have X_17 := Lib.hid (X_16.out.call b17)
  have P_17 := Lib.hid (P_16.out.call b17)
  have Q_17 := Lib.hid (Q_16.out.call b17)
  have R_17 := Lib.hid (R_16.out.call b17)
  have A_17 := Lib.hid (A_16.out.call b17)
  have Y_17 := Lib.hid (Y_16.out.call b17)
  have PC_17 := Lib.hid (PC_16.out.call b17)
  have Z_17 := Lib.hid (Z_16.out.call b17)
  have U_17 := Lib.hid (U_16.out.call b17)
  clear b17 B_16 X_16 P_16 Q_16 R_16 A_16 Y_16 PC_16 Z_16 U_16
  have hcX := X_17.out.2.2
  have hlX := X_17.out.2.1
  have hcP := P_17.out.2.2
  have hlP := P_17.out.2.1
  have hcQ := Q_17.out.2.2
  have hlQ := Q_17.out.2.1
  have hcR := R_17.out.2.2
  have hlR := R_17.out.2.1
  clear i17
  have p0 : u17.cell? ⟨g, 0, none⟩ = some (.int .i64 1) := PC_17.out.1
  have p1 : u17.cell? ⟨g, 0 + 1, none⟩ = some (.int .i64 0) := PC_17.out.2.1
  have p2 : u17.cell? ⟨g, 1, none⟩ = some (.int .i64 0) := PC_17.out.2.1
  have p3 : g < u17.heap.size := PC_17.out.2.2
  go_wp2_with fail
  clear hcX hlX hcP hlP hcQ hlQ hcR hlR p0 p1 p2 p3
  have s18 : (u17.alloc (.cells #[.slice xd17.ex 2 xd17.exc, .slice xd17.pl 2 xd17.plc, .slice xd17.co 2 xd17.coc, .slice xd17.it 3 xd17.itc, .slice xd17.bo 3 xd17.boc, .int .i64 3, .int .i64 1, .int .i64 1, .slice xa17 2 xac17, .slice xk17 2 xkc17, .slice xw17 3 xwc17] 29)).heap.size = u17.heap.size + 1 := by simp
  have B_18 := Lib.hid (B_17.out.alloc B_17.out.size (.cells #[.slice xd17.ex 2 xd17.exc, .slice xd17.pl 2 xd17.plc, .slice xd17.co 2 xd17.coc, .slice xd17.it 3 xd17.itc, .slice xd17.bo 3 xd17.boc, .int .i64 3, .int .i64 1, .int .i64 1, .slice xa17 2 xac17, .slice xk17 2 xkc17, .slice xw17 3 xwc17] 29))
  have X_18 := Lib.hid (X_17.out.alloc (.cells #[.slice xd17.ex 2 xd17.exc, .slice xd17.pl 2 xd17.plc, .slice xd17.co 2 xd17.coc, .slice xd17.it 3 xd17.itc, .slice xd17.bo 3 xd17.boc, .int .i64 3, .int .i64 1, .int .i64 1, .slice xa17 2 xac17, .slice xk17 2 xkc17, .slice xw17 3 xwc17] 29))
  have P_18 := Lib.hid (P_17.out.alloc (.cells #[.slice xd17.ex 2 xd17.exc, .slice xd17.pl 2 xd17.plc, .slice xd17.co 2 xd17.coc, .slice xd17.it 3 xd17.itc, .slice xd17.bo 3 xd17.boc, .int .i64 3, .int .i64 1, .int .i64 1, .slice xa17 2 xac17, .slice xk17 2 xkc17, .slice xw17 3 xwc17] 29))
  have Q_18 := Lib.hid (Q_17.out.alloc (.cells #[.slice xd17.ex 2 xd17.exc, .slice xd17.pl 2 xd17.plc, .slice xd17.co 2 xd17.coc, .slice xd17.it 3 xd17.itc, .slice xd17.bo 3 xd17.boc, .int .i64 3, .int .i64 1, .int .i64 1, .slice xa17 2 xac17, .slice xk17 2 xkc17, .slice xw17 3 xwc17] 29))
  have R_18 := Lib.hid (R_17.out.alloc (.cells #[.slice xd17.ex 2 xd17.exc, .slice xd17.pl 2 xd17.plc, .slice xd17.co 2 xd17.coc, .slice xd17.it 3 xd17.itc, .slice xd17.bo 3 xd17.boc, .int .i64 3, .int .i64 1, .int .i64 1, .slice xa17 2 xac17, .slice xk17 2 xkc17, .slice xw17 3 xwc17] 29))
  have A_18 := Lib.hid (A_17.out.call ((Below.refl _ _).alloc (Nat.le_refl _) (.cells #[.slice xd17.ex 2 xd17.exc, .slice xd17.pl 2 xd17.plc, .slice xd17.co 2 xd17.coc, .slice xd17.it 3 xd17.itc, .slice xd17.bo 3 xd17.boc, .int .i64 3, .int .i64 1, .int .i64 1, .slice xa17 2 xac17, .slice xk17 2 xkc17, .slice xw17 3 xwc17] 29)))
  have Y_18 := Lib.hid (Y_17.out.call ((Below.refl _ _).alloc (Nat.le_refl _) (.cells #[.slice xd17.ex 2 xd17.exc, .slice xd17.pl 2 xd17.plc, .slice xd17.co 2 xd17.coc, .slice xd17.it 3 xd17.itc, .slice xd17.bo 3 xd17.boc, .int .i64 3, .int .i64 1, .int .i64 1, .slice xa17 2 xac17, .slice xk17 2 xkc17, .slice xw17 3 xwc17] 29)))
  have PC_18 := Lib.hid (PC_17.out.call ((Below.refl _ _).alloc (Nat.le_refl _) (.cells #[.slice xd17.ex 2 xd17.exc, .slice xd17.pl 2 xd17.plc, .slice xd17.co 2 xd17.coc, .slice xd17.it 3 xd17.itc, .slice xd17.bo 3 xd17.boc, .int .i64 3, .int .i64 1, .int .i64 1, .slice xa17 2 xac17, .slice xk17 2 xkc17, .slice xw17 3 xwc17] 29)))
  have Z_18 := Lib.hid (Z_17.out.call ((Below.refl _ _).alloc (Nat.le_refl _) (.cells #[.slice xd17.ex 2 xd17.exc, .slice xd17.pl 2 xd17.plc, .slice xd17.co 2 xd17.coc, .slice xd17.it 3 xd17.itc, .slice xd17.bo 3 xd17.boc, .int .i64 3, .int .i64 1, .int .i64 1, .slice xa17 2 xac17, .slice xk17 2 xkc17, .slice xw17 3 xwc17] 29)))
  have U_18 := Lib.hid (U_17.out.call ((Below.refl _ _).alloc (Nat.le_refl _) (.cells #[.slice xd17.ex 2 xd17.exc, .slice xd17.pl 2 xd17.plc, .slice xd17.co 2 xd17.coc, .slice xd17.it 3 xd17.itc, .slice xd17.bo 3 xd17.boc, .int .i64 3, .int .i64 1, .int .i64 1, .slice xa17 2 xac17, .slice xk17 2 xkc17, .slice xw17 3 xwc17] 29)))
  clear B_17 X_17 P_17 Q_17 R_17 A_17 Y_17 PC_17 Z_17 U_17
  generalize u17.alloc (.cells #[.slice xd17.ex 2 xd17.exc, .slice xd17.pl 2 xd17.plc, .slice xd17.co 2 xd17.coc, .slice xd17.it 3 xd17.itc, .slice xd17.bo 3 xd17.boc, .int .i64 3, .int .i64 1, .int .i64 1, .slice xa17 2 xac17, .slice xk17 2 xkc17, .slice xw17 3 xwc17] 29) = V18 at *
  refine (aw9_same w.heap.size a k wh ac kc whc ⟨xd11, xa11, xac11, xk11, xkc11, xw11, xwc11⟩ _ A_18.out Z_18.out).mono ?_
  rintro e u19 ⟨rfl, b19⟩
  have B_19 := Lib.hid (bl B_18.out b19)
  have X_19 := Lib.hid (X_18.out.call b19)
  have P_19 := Lib.hid (P_18.out.call b19)
  have Q_19 := Lib.hid (Q_18.out.call b19)
  have R_19 := Lib.hid (R_18.out.call b19)
  have A_19 := Lib.hid (A_18.out.call b19)
  have Y_19 := Lib.hid (Y_18.out.call b19)
  have PC_19 := Lib.hid (PC_18.out.call b19)
  have Z_19 := Lib.hid (Z_18.out.call b19)
  have U_19 := Lib.hid (U_18.out.call b19)
  clear b19 B_18 X_18 P_18 Q_18 R_18 A_18 Y_18 PC_18 Z_18 U_18
  go_wp2_with fail
  go_ret
  exact ⟨rfl, B_19.out⟩
set_option maxRecDepth 100000 in
theorem fits9_any (x : Wd) (p : Wp) (w : World) (h : WorldAt w p x) : Calls Try.prog 9 #[.agg #[.slice p.d.ex x.d.exits.length p.d.exc, .slice p.d.pl x.d.players.length p.d.plc, .slice p.d.co x.d.coins.length p.d.coc, .slice p.d.it x.d.items.length p.d.itc, .slice p.d.bo x.d.boxes.length p.d.boc, .int .i64 x.d.room, .int .i64 x.d.player, .int .i64 x.d.box, .slice p.at_ x.at_.length p.atc, .slice p.co x.coins.length p.coc, .slice p.wh x.wher.length p.whc]] w fun e w' => e = .returned (.bool (fitsB x)) ∧ Below w.heap.size w w' := by
  have HN := Lib.hid (Holds.new w #[.slice p.d.ex x.d.exits.length p.d.exc, .slice p.d.pl x.d.players.length p.d.plc, .slice p.d.co x.d.coins.length p.d.coc, .slice p.d.it x.d.items.length p.d.itc, .slice p.d.bo x.d.boxes.length p.d.boc, .int .i64 x.d.room, .int .i64 x.d.player, .int .i64 x.d.box, .slice p.at_ x.at_.length p.atc, .slice p.co x.coins.length p.coc, .slice p.wh x.wher.length p.whc] 29)
  have H := Lib.hid h
  clear h
  cases hf : fewB x
  · have HF := Lib.hid hf
    have HR := Lib.hid (show fitsB x = false by simp [fitsB, hf])
    clear hf
    go_enter Try.func9, Try.ntmps9
    go_wp2_with fail
    refine (few_any x p _).mono ?_
    rintro e w1 ⟨rfl, b1⟩
    rw [HF.out]
    have K1 := Lib.hid (HN.out.call b1)
    clear b1
    go_wp2_with fail
    go_ret
    exact ⟨ret_bool HR.out.symm, K1.out.1⟩
  · have HF := Lib.hid hf
    have HR := Lib.hid (show fitsB x = rightW x by simp [fitsB, hf])
    obtain ⟨r, hr⟩ : ∃ r, rightW x = r := ⟨_, rfl⟩
    have HRR := Lib.hid hr
    clear hf hr
    go_enter Try.func9, Try.ntmps9
    go_wp2_with fail
    refine (few_any x p _).mono ?_
    rintro e w1 ⟨rfl, b1⟩
    rw [HF.out]
    have K1 := Lib.hid (HN.out.call b1)
    have hc := K1.out.2.2
    have hl := K1.out.2.1
    clear b1
    go_wp2_with fail
    refine (refright_any x p _ (H.out.below K1.out.1 (Nat.le_refl _))).mono ?_
    rintro e w2 ⟨rfl, b2⟩
    rw [HRR.out]
    have K2 := Lib.hid (K1.out.call b2)
    clear b2 hc hl
    go_wp2_with fail
    go_ret
    exact ⟨ret_bool (by rw [HR.out, HRR.out]), K2.out.1⟩
end Go.Proofs.Ytjlipbcmkibkcaa
