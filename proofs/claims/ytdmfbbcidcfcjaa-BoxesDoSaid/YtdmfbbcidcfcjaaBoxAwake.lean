/- What the laws of boxes begin with: answers that the document fixes; whether a world fits. -/
import Derived.Test.YtdmfbbcidcfcjaaRows
import Derived.Test.YtdmfbbcidcfcjaaKit
import Derived.Test.YtdmfbbcidcfcjaaGMem
import Derived.Test.YtdmfbbcidcfcjaaCoin
import Derived.Test.YtdmfbbcidcfcjaaGWorld
import Derived.Test.YtdmfbbcidcfcjaaDescMay
import Derived.Test.YtdmfbbcidcfcjaaGDescN
import Derived.Test.YtdmfbbcidcfcjaaGRight
import Derived.Test.YtdmfbbcidcfcjaaGCopy
import Derived.Test.YtdmfbbcidcfcjaaGRefD
import Derived.Test.YtdmfbbcidcfcjaaGAs
import Derived.Test.YtdmfbbcidcfcjaaRefRight
import Derived.Test.YtdmfbbcidcfcjaaGEq
import Derived.Test.YtdmfbbcidcfcjaaGNew
import Derived.Test.YtdmfbbcidcfcjaaGHoldA
import Derived.Test.YtdmfbbcidcfcjaaHoldD
import Derived.Test.YtdmfbbcidcfcjaaHoldE
import Derived.Test.YtdmfbbcidcfcjaaGBoxM
import Derived.Test.YtdmfbbcidcfcjaaBoxA
import Derived.Test.YtdmfbbcidcfcjaaBoxD
import Derived.Deep.QuietTactic
import Derived.BigQuiet
import Derived.Deep.RegionHeld3
import Derived.WalkKit
import Derived.ProofKit
import Derived.OpenShut
import Derived.IntWalk
namespace Go.Proofs.Ytdmfbbcidcfcjaa
open Go.ChangeShapes Go.WideShapes Go.ChangeAt Go.RowKit
set_option linter.unusedVariables false
open Go.RowKit
section
variable {x u : Wd} (hs : Shape x u) (p : Wp) (i : Nat) (item b : Int) (w : World) (hu : rightW u = true) (h : WorldAt w p u) (hi : i < u.at_.length) {y : Wd} {e : Int}
include hs hu h hi
theorem bput_as (hR : boxW u i item b = (y, e)) : Calls Try.prog 10 #[.agg #[.slice p.d.ex x.d.exits.length p.d.exc, .slice p.d.pl x.d.players.length p.d.plc, .slice p.d.co x.d.coins.length p.d.coc, .slice p.d.it x.d.items.length p.d.itc, .slice p.d.bo x.d.boxes.length p.d.boc, .int .i64 x.d.room, .int .i64 x.d.player, .int .i64 x.d.box, .slice p.at_ x.at_.length p.atc, .slice p.co x.coins.length p.coc, .slice p.wh x.wher.length p.whc], .int .i64 (i : Int), .int .i64 item, .int .i64 b] w fun e' w' => ∃ q : Wp, e' = .returned (.tuple #[.agg #[.slice q.d.ex x.d.exits.length q.d.exc, .slice q.d.pl x.d.players.length q.d.plc, .slice q.d.co x.d.coins.length q.d.coc, .slice q.d.it x.d.items.length q.d.itc, .slice q.d.bo x.d.boxes.length q.d.boc, .int .i64 x.d.room, .int .i64 x.d.player, .int .i64 x.d.box, .slice q.at_ x.at_.length q.atc, .slice q.co x.coins.length q.coc, .slice q.wh x.wher.length q.whc], .int .i64 e]) ∧ WorldAt w' q y ∧ Below w.heap.size w w' := by
  have := bput_any u p i item b w hu h hi
  rw [hs.val, hR] at this
  refine this.mono fun e' w' ⟨q, he, hq, hb⟩ => ⟨q, by rw [← hs.val]; exact he, hq.world (h.call hb), hb⟩
theorem btake_as (hR : outW u i item b = (y, e)) : Calls Try.prog 12 #[.agg #[.slice p.d.ex x.d.exits.length p.d.exc, .slice p.d.pl x.d.players.length p.d.plc, .slice p.d.co x.d.coins.length p.d.coc, .slice p.d.it x.d.items.length p.d.itc, .slice p.d.bo x.d.boxes.length p.d.boc, .int .i64 x.d.room, .int .i64 x.d.player, .int .i64 x.d.box, .slice p.at_ x.at_.length p.atc, .slice p.co x.coins.length p.coc, .slice p.wh x.wher.length p.whc], .int .i64 (i : Int), .int .i64 item, .int .i64 b] w fun e' w' => ∃ q : Wp, e' = .returned (.tuple #[.agg #[.slice q.d.ex x.d.exits.length q.d.exc, .slice q.d.pl x.d.players.length q.d.plc, .slice q.d.co x.d.coins.length q.d.coc, .slice q.d.it x.d.items.length q.d.itc, .slice q.d.bo x.d.boxes.length q.d.boc, .int .i64 x.d.room, .int .i64 x.d.player, .int .i64 x.d.box, .slice q.at_ x.at_.length q.atc, .slice q.co x.coins.length q.coc, .slice q.wh x.wher.length q.whc], .int .i64 e]) ∧ WorldAt w' q y ∧ Below w.heap.size w w' := by
  have := btake_any u p i item b w hu h hi
  rw [hs.val, hR] at this
  refine this.mono fun e' w' ⟨q, he, hq, hb⟩ => ⟨q, by rw [← hs.val]; exact he, hq.world (h.call hb), hb⟩
theorem near_as (k : Nat) (hk : k < u.wher.length) {v : Bool} (hR : nearB u i k = v) : Calls Try.prog 15 #[.agg #[.slice p.d.ex x.d.exits.length p.d.exc, .slice p.d.pl x.d.players.length p.d.plc, .slice p.d.co x.d.coins.length p.d.coc, .slice p.d.it x.d.items.length p.d.itc, .slice p.d.bo x.d.boxes.length p.d.boc, .int .i64 x.d.room, .int .i64 x.d.player, .int .i64 x.d.box, .slice p.at_ x.at_.length p.atc, .slice p.co x.coins.length p.coc, .slice p.wh x.wher.length p.whc], .int .i64 (i : Int), .int .i64 (k : Int)] w fun e' w' => e' = .returned (.bool v) ∧ Below w.heap.size w w' := by
  have := near_any u p i k w hu h hi hk
  rwa [hs.val, hR] at this
end
def aD10 : Ds := ⟨[⟨0, 0, 0, 0⟩, ⟨0, 0, 0, 0⟩], [0, 1], [5, 5], [0, 0, 1, 0], [true, false, true, true], 4, 3, 1⟩
def aP10 (n : Nat) : Dp := ⟨some ⟨n, 0, none⟩, 2, some ⟨n + 1, 0, none⟩, 2, some ⟨n + 1 + 1, 0, none⟩, 2, some ⟨n + 1 + 1 + 1, 0, none⟩, 4, some ⟨n + 1 + 1 + 1 + 1, 0, none⟩, 4⟩
def aN10 : Wd := newW aD10
def aX10 : Wd := putW (putW aN10 1 ⟨1, 0⟩) 3 ⟨1, 0⟩
theorem aX10_right : rightW aX10 = true := by decide
def aA10 : Wd := putW aX10 1 ⟨2, 0⟩
theorem aA10_right : rightW aA10 = true := by decide
theorem exits_info10 : (Try.prog.info? 58).map (fun i => (i.zero, i.size, i.bytes)) = some (some (.agg #[.int .i64 0, .int .i64 0, .int .i64 0, .int .i64 0]), 4, 32) := by kernel_rfl
theorem make_exits10 (W : World) : (Instr.makeSlice 22 (.int .i64 2) (.int .i64 2)).run Try.prog W = .ok (.slice (some ⟨W.heap.size, 0, none⟩) 2 2) (W.alloc (.cells #[.int .i64 0, .int .i64 0, .int .i64 0, .int .i64 0, .int .i64 0, .int .i64 0, .int .i64 0, .int .i64 0] 58)) := by
  obtain ⟨i0, hi0, hz0, hz1, hz2⟩ := info_parts exits_info10
  have hr := run_make (P := Try.prog) W 22 58 i0 (.agg #[.int .i64 0, .int .i64 0, .int .i64 0, .int .i64 0]) Try.underlying22 hi0 hz0 .i64 .i64 2 2 (by omega) (by omega) (by rw [hz2]; omega) (by omega)
  rw [hz1] at hr
  exact hr.trans (by kernel_rfl)
theorem row10 {α : Type} {k : Nat} {enc : α → List Value} {W : World} {g : Nat} {t : TypeId} {cs : Array Value} {xs : List α} (h : Blk W g t cs) (hl : xs.length ≤ maxLen) (hc : ∀ i (hi : i < xs.length) j, j < k → cs[i * k + j]? = (enc xs[i])[j]?) : RowAt k enc W (some ⟨g, 0, none⟩) xs :=
  ⟨hl, .inr ⟨g, 0, rfl, h.lt, fun i hi j hj => by rw [Nat.zero_add, h.cell]; exact hc i hi j hj⟩⟩
theorem aD10_at {W : World} {n : Nat} (h0 : Blk W n 58 #[.int .i64 0, .int .i64 0, .int .i64 0, .int .i64 0, .int .i64 0, .int .i64 0, .int .i64 0, .int .i64 0]) (h1 : Blk W (n + 1) 3 #[.int .i64 0, .int .i64 1]) (h2 : Blk W (n + 1 + 1) 3 #[.int .i64 5, .int .i64 5])
    (h3 : Blk W (n + 1 + 1 + 1) 3 #[.int .i64 0, .int .i64 0, .int .i64 1, .int .i64 0]) (h4 : Blk W (n + 1 + 1 + 1 + 1) 4 #[.bool true, .bool false, .bool true, .bool true]) : DescAt W (aP10 n) aD10 := by
  refine ⟨row10 h0 (by simp [aD10, maxLen]) ?_, ints_row.2 (row10 h1 (by simp [aD10, maxLen]) ?_), ints_row.2 (row10 h2 (by simp [aD10, maxLen]) ?_), ints_row.2 (row10 h3 (by simp [aD10, maxLen]) ?_), row10 h4 (by simp [aD10, maxLen]) ?_⟩
  · intro i hi j hj
    obtain rfl | rfl : i = 0 ∨ i = 1 := by simp [aD10] at hi; omega
    all_goals obtain rfl | rfl | rfl | rfl : j = 0 ∨ j = 1 ∨ j = 2 ∨ j = 3 := by omega
    all_goals rfl
  · intro i hi j hj
    obtain rfl : j = 0 := by omega
    obtain rfl | rfl : i = 0 ∨ i = 1 := by simp [aD10] at hi; omega
    all_goals rfl
  · intro i hi j hj
    obtain rfl : j = 0 := by omega
    obtain rfl | rfl : i = 0 ∨ i = 1 := by simp [aD10] at hi; omega
    all_goals rfl
  all_goals
    intro i hi j hj
    obtain rfl : j = 0 := by omega
    obtain rfl | rfl | rfl | rfl : i = 0 ∨ i = 1 ∨ i = 2 ∨ i = 3 := by simp [aD10] at hi; omega
    all_goals rfl
theorem aw10_start (w : World) : DescAt (((((w.alloc (.cells #[.int .i64 0, .int .i64 0, .int .i64 0, .int .i64 0, .int .i64 0, .int .i64 0, .int .i64 0, .int .i64 0] 58)).alloc (.cells #[.int .i64 0, .int .i64 1] 3)).alloc (.cells #[.int .i64 5, .int .i64 5] 3)).alloc (.cells #[.int .i64 0, .int .i64 0, .int .i64 1, .int .i64 0] 3)).alloc (.cells #[.bool true, .bool false, .bool true, .bool true] 4)) (aP10 w.heap.size) aD10 ∧ Below w.heap.size w (((((w.alloc (.cells #[.int .i64 0, .int .i64 0, .int .i64 0, .int .i64 0, .int .i64 0, .int .i64 0, .int .i64 0, .int .i64 0] 58)).alloc (.cells #[.int .i64 0, .int .i64 1] 3)).alloc (.cells #[.int .i64 5, .int .i64 5] 3)).alloc (.cells #[.int .i64 0, .int .i64 0, .int .i64 1, .int .i64 0] 3)).alloc (.cells #[.bool true, .bool false, .bool true, .bool true] 4)) := by
  have b0 := Blk.newn w 58 #[.int .i64 0, .int .i64 0, .int .i64 0, .int .i64 0, .int .i64 0, .int .i64 0, .int .i64 0, .int .i64 0] (n := w.heap.size) rfl
  have b1 := Blk.newn (w.alloc (.cells #[.int .i64 0, .int .i64 0, .int .i64 0, .int .i64 0, .int .i64 0, .int .i64 0, .int .i64 0, .int .i64 0] 58)) 3 #[.int .i64 0, .int .i64 1] (n := w.heap.size + 1) (by simp)
  have b2 := Blk.newn ((w.alloc (.cells #[.int .i64 0, .int .i64 0, .int .i64 0, .int .i64 0, .int .i64 0, .int .i64 0, .int .i64 0, .int .i64 0] 58)).alloc (.cells #[.int .i64 0, .int .i64 1] 3)) 3 #[.int .i64 5, .int .i64 5] (n := w.heap.size + 1 + 1) (by simp)
  have b3 := Blk.newn (((w.alloc (.cells #[.int .i64 0, .int .i64 0, .int .i64 0, .int .i64 0, .int .i64 0, .int .i64 0, .int .i64 0, .int .i64 0] 58)).alloc (.cells #[.int .i64 0, .int .i64 1] 3)).alloc (.cells #[.int .i64 5, .int .i64 5] 3)) 3 #[.int .i64 0, .int .i64 0, .int .i64 1, .int .i64 0] (n := w.heap.size + 1 + 1 + 1) (by simp)
  have b4 := Blk.newn ((((w.alloc (.cells #[.int .i64 0, .int .i64 0, .int .i64 0, .int .i64 0, .int .i64 0, .int .i64 0, .int .i64 0, .int .i64 0] 58)).alloc (.cells #[.int .i64 0, .int .i64 1] 3)).alloc (.cells #[.int .i64 5, .int .i64 5] 3)).alloc (.cells #[.int .i64 0, .int .i64 0, .int .i64 1, .int .i64 0] 3)) 4 #[.bool true, .bool false, .bool true, .bool true] (n := w.heap.size + 1 + 1 + 1 + 1) (by simp)
  exact ⟨aD10_at ((((b0.alloc _).alloc _).alloc _).alloc _) (((b1.alloc _).alloc _).alloc _) ((b2.alloc _).alloc _) (b3.alloc _) b4, (((((Below.refl _ _).alloc (Nat.le_refl _) _).alloc (by simp) _).alloc (by simp; omega) _).alloc (by simp; omega) _).alloc (by simp; omega) _⟩
/-- awake's world, as New answers it. -/
theorem aw10_new (n : Nat) (W : World) (h : DescAt W (aP10 n) aD10) : Calls Try.prog 23 #[.agg #[.slice (some ⟨n, 0, none⟩) 2 2, .slice (some ⟨n + 1, 0, none⟩) 2 2, .slice (some ⟨n + 1 + 1, 0, none⟩) 2 2, .slice (some ⟨n + 1 + 1 + 1, 0, none⟩) 4 4, .slice (some ⟨n + 1 + 1 + 1 + 1, 0, none⟩) 4 4, .int .i64 4, .int .i64 3, .int .i64 1]] W fun e w' => ∃ (a k wh : Option Addr) (ac kc whc : Nat), e = .returned (.agg #[.slice (some ⟨n, 0, none⟩) 2 2, .slice (some ⟨n + 1, 0, none⟩) 2 2, .slice (some ⟨n + 1 + 1, 0, none⟩) 2 2, .slice (some ⟨n + 1 + 1 + 1, 0, none⟩) 4 4, .slice (some ⟨n + 1 + 1 + 1 + 1, 0, none⟩) 4 4, .int .i64 4, .int .i64 3, .int .i64 1, .slice a 2 ac, .slice k 2 kc, .slice wh 4 whc]) ∧ WhNew W.heap.size w' (aP10 n) ⟨aP10 n, a, ac, k, kc, wh, whc⟩ aN10 ∧ Below W.heap.size W w' := by
  refine (refnew_own aD10 (aP10 n) W h (by decide)).mono ?_
  rintro e w' ⟨x, ⟨d, a, ac, k, kc, wh, whc⟩, rfl, rfl, hw, hb, hn⟩
  obtain ⟨rfl, _⟩ := id hn
  exact ⟨a, k, wh, ac, kc, whc, rfl, hn, hb⟩
/-- The second place of a list. -/
def PlCell2 (W : World) (g : Nat) (a b : Int) : Prop := W.cell? ⟨g, 2, none⟩ = some (.int .i64 a) ∧ W.cell? ⟨g, 3, none⟩ = some (.int .i64 b) ∧ g < W.heap.size
theorem PlCell2.call {W W' : World} {g : Nat} {a b : Int} (h : PlCell2 W g a b) (hb : Below W.heap.size W W') : PlCell2 W' g a b := ⟨cell_call h.1 hb, cell_call h.2.1 hb, Nat.lt_of_lt_of_le h.2.2 hb.size⟩
theorem aw10_first (q0 : Wp) (W : World) (h : WorldAt W q0 aX10) : Calls Try.prog 10 #[.agg #[.slice q0.d.ex 2 q0.d.exc, .slice q0.d.pl 2 q0.d.plc, .slice q0.d.co 2 q0.d.coc, .slice q0.d.it 4 q0.d.itc, .slice q0.d.bo 4 q0.d.boc, .int .i64 4, .int .i64 3, .int .i64 1, .slice q0.at_ 2 q0.atc, .slice q0.co 2 q0.coc, .slice q0.wh 4 q0.whc], .int .i64 0, .int .i64 1, .int .i64 0] W fun e w' => ∃ (q : Wp) (g : Nat), q.wh = some ⟨g, 0, none⟩ ∧ e = .returned (.tuple #[.agg #[.slice q.d.ex 2 q.d.exc, .slice q.d.pl 2 q.d.plc, .slice q.d.co 2 q.d.coc, .slice q.d.it 4 q.d.itc, .slice q.d.bo 4 q.d.boc, .int .i64 4, .int .i64 3, .int .i64 1, .slice q.at_ 2 q.atc, .slice q.co 2 q.coc, .slice q.wh 4 q.whc], .int .i64 0]) ∧ WorldAt w' q aA10 ∧ PlCell2 w' g 2 0 ∧ Below W.heap.size W w' := by
  refine (bput_any aX10 q0 0 1 0 W aX10_right h (by decide)).mono ?_
  rintro e w' ⟨q, rfl, hq, hb⟩
  rw [show boxW aX10 0 1 0 = (aA10, 0) by decide] at hq ⊢
  rcases hq with ⟨h1, _⟩ | ⟨_, ho⟩
  · exact absurd rfl h1
  · obtain ⟨g, hg, _, hl, hc, _, _⟩ := ho.putPlace (k := 1) (by decide)
    exact ⟨q, g, hg, rfl, ho.world, ⟨hc.1, hc.2, hl⟩, hb⟩
theorem aw10_put (q0 : Wp) (u : Wd) (hs : Shape aX10 u) (hu : rightW u = true) (W : World) (h : WorldAt W q0 u) (i k c : Nat) (hi : i < u.at_.length) (y : Wd) (e : Int) (hR : boxW u i k c = (y, e)) : Calls Try.prog 10 #[.agg #[.slice q0.d.ex 2 q0.d.exc, .slice q0.d.pl 2 q0.d.plc, .slice q0.d.co 2 q0.d.coc, .slice q0.d.it 4 q0.d.itc, .slice q0.d.bo 4 q0.d.boc, .int .i64 4, .int .i64 3, .int .i64 1, .slice q0.at_ 2 q0.atc, .slice q0.co 2 q0.coc, .slice q0.wh 4 q0.whc], .int .i64 (i : Int), .int .i64 (k : Int), .int .i64 (c : Int)] W fun e' w' => ∃ q : Wp, e' = .returned (.tuple #[.agg #[.slice q.d.ex 2 q.d.exc, .slice q.d.pl 2 q.d.plc, .slice q.d.co 2 q.d.coc, .slice q.d.it 4 q.d.itc, .slice q.d.bo 4 q.d.boc, .int .i64 4, .int .i64 3, .int .i64 1, .slice q.at_ 2 q.atc, .slice q.co 2 q.coc, .slice q.wh 4 q.whc], .int .i64 e]) ∧ WorldAt w' q y ∧ Below W.heap.size W w' :=
  bput_as hs q0 i k c W hu h hi hR
theorem aw10_take (q0 : Wp) (u : Wd) (hs : Shape aX10 u) (hu : rightW u = true) (W : World) (h : WorldAt W q0 u) (i k c : Nat) (hi : i < u.at_.length) (y : Wd) (e : Int) (hR : outW u i k c = (y, e)) : Calls Try.prog 12 #[.agg #[.slice q0.d.ex 2 q0.d.exc, .slice q0.d.pl 2 q0.d.plc, .slice q0.d.co 2 q0.d.coc, .slice q0.d.it 4 q0.d.itc, .slice q0.d.bo 4 q0.d.boc, .int .i64 4, .int .i64 3, .int .i64 1, .slice q0.at_ 2 q0.atc, .slice q0.co 2 q0.coc, .slice q0.wh 4 q0.whc], .int .i64 (i : Int), .int .i64 (k : Int), .int .i64 (c : Int)] W fun e' w' => ∃ q : Wp, e' = .returned (.tuple #[.agg #[.slice q.d.ex 2 q.d.exc, .slice q.d.pl 2 q.d.plc, .slice q.d.co 2 q.d.coc, .slice q.d.it 4 q.d.itc, .slice q.d.bo 4 q.d.boc, .int .i64 4, .int .i64 3, .int .i64 1, .slice q.at_ 2 q.atc, .slice q.co 2 q.coc, .slice q.wh 4 q.whc], .int .i64 e]) ∧ WorldAt w' q y ∧ Below W.heap.size W w' :=
  btake_as hs q0 i k c W hu h hi hR
theorem aw10_near (q0 : Wp) (W : World) (h : WorldAt W q0 aX10) (i : Nat) (hi : i < 2) (v : Bool) (hR : nearB aX10 i 0 = v) : Calls Try.prog 15 #[.agg #[.slice q0.d.ex 2 q0.d.exc, .slice q0.d.pl 2 q0.d.plc, .slice q0.d.co 2 q0.d.coc, .slice q0.d.it 4 q0.d.itc, .slice q0.d.bo 4 q0.d.boc, .int .i64 4, .int .i64 3, .int .i64 1, .slice q0.at_ 2 q0.atc, .slice q0.co 2 q0.coc, .slice q0.wh 4 q0.whc], .int .i64 (i : Int), .int .i64 0] W fun e' w' => e' = .returned (.bool v) ∧ Below W.heap.size W w' :=
  near_as (Shape.refl aX10) q0 i W aX10_right h hi 0 (by decide) hR
theorem aw10_same (q0 q1 : Wp) (W : World) (h : WorldAt W q0 aX10) (h1 : WorldAt W q1 aX10) : Calls Try.prog 14 #[.agg #[.slice q0.d.ex 2 q0.d.exc, .slice q0.d.pl 2 q0.d.plc, .slice q0.d.co 2 q0.d.coc, .slice q0.d.it 4 q0.d.itc, .slice q0.d.bo 4 q0.d.boc, .int .i64 4, .int .i64 3, .int .i64 1, .slice q0.at_ 2 q0.atc, .slice q0.co 2 q0.coc, .slice q0.wh 4 q0.whc], .agg #[.slice q1.d.ex 2 q1.d.exc, .slice q1.d.pl 2 q1.d.plc, .slice q1.d.co 2 q1.d.coc, .slice q1.d.it 4 q1.d.itc, .slice q1.d.bo 4 q1.d.boc, .int .i64 4, .int .i64 3, .int .i64 1, .slice q1.at_ 2 q1.atc, .slice q1.co 2 q1.coc, .slice q1.wh 4 q1.whc]] W fun e w' => e = .returned (.bool true) ∧ Below W.heap.size W w' :=
  rsame_yes (Shape.refl aX10) (Shape.refl aX10) rfl q0 q1 W h h1
set_option maxRecDepth 100000 in
set_option maxHeartbeats 4000000 in
theorem awake10_any (w : World) : Calls Try.prog 8 #[] w fun e w' => e = .returned (.bool true) ∧ Below w.heap.size w w' := by
  have MK := make_exits10
  have A0 := Lib.hid (aw10_start w)
  go_enter Try.func8, Try.ntmps8
  go_wp2_with fail
  generalize (((((w.alloc (.cells #[.int .i64 0, .int .i64 0, .int .i64 0, .int .i64 0, .int .i64 0, .int .i64 0, .int .i64 0, .int .i64 0] 58)).alloc (.cells #[.int .i64 0, .int .i64 1] 3)).alloc (.cells #[.int .i64 5, .int .i64 5] 3)).alloc (.cells #[.int .i64 0, .int .i64 0, .int .i64 1, .int .i64 0] 3)).alloc (.cells #[.bool true, .bool false, .bool true, .bool true] 4)) = V1 at *
  refine (aw10_new w.heap.size V1 A0.out.1).mono ?_
  rintro e w1 ⟨a, k, wh, ac, kc, whc, rfl, hn, b1⟩
  clear MK
  obtain ⟨b, hwh, hb1, hb2, ⟨c0, c1⟩, hf, hput⟩ := hn.putPlace (k := 1) (by decide)
  simp only at hwh
  subst hwh
  obtain ⟨b', hwh', _, _, ⟨c2, c3⟩, _, _⟩ := hn.putPlace (k := 3) (by decide)
  obtain rfl : b = b' := by simpa using hwh'
  obtain ⟨b', hwh2, _, _, _, _, hput2⟩ := (hput ⟨1, 0⟩).putPlace (k := 3) (by decide)
  obtain rfl : b = b' := by simpa using hwh2
  have HN := Lib.hid (hput2 ⟨1, 0⟩)
  have c0' : w1.cell? ⟨b, 2, none⟩ = some (.int .i64 0) := c0
  have c1' : w1.cell? ⟨b, 3, none⟩ = some (.int .i64 0) := c1
  have c2' : w1.cell? ⟨b, 6, none⟩ = some (.int .i64 0) := c2
  have c3' : w1.cell? ⟨b, 7, none⟩ = some (.int .i64 0) := c3
  clear hwh' hwh2 hput hput2 c0 c1 c2 c3
  have s1 := b1.size
  have s0 := A0.out.2.size
  have BS := Lib.hid ((((b1.setCell (p := ⟨b, 2, none⟩) (by show V1.heap.size ≤ b; omega) (.int .i64 1)).setCell (p := ⟨b, 3, none⟩) (by show V1.heap.size ≤ b; omega) (.int .i64 0)).setCell (p := ⟨b, 6, none⟩) (by show V1.heap.size ≤ b; omega) (.int .i64 1)).setCell (p := ⟨b, 7, none⟩) (by show V1.heap.size ≤ b; omega) (.int .i64 0))
  have z0 : ((((w1.setCell ⟨b, 2, none⟩ (.int .i64 1)).setCell ⟨b, 3, none⟩ (.int .i64 0)).setCell ⟨b, 6, none⟩ (.int .i64 1)).setCell ⟨b, 7, none⟩ (.int .i64 0)).heap.size = w1.heap.size := by simp [World.setCell]
  have ne1 : w1.heap.size ≠ b := by omega
  have ne2 : b ≠ w1.heap.size := by omega
  clear hn b1
  go_wp2_with fail
  clear c0' c1' c2' c3' hf
  have HN4 := Lib.hid (show WhNew V1.heap.size ((((w1.setCell ⟨b, 2, none⟩ (.int .i64 1)).setCell ⟨b, 3, none⟩ (.int .i64 0)).setCell ⟨b, 6, none⟩ (.int .i64 1)).setCell ⟨b, 7, none⟩ (.int .i64 0)) (aP10 w.heap.size) ⟨aP10 w.heap.size, a, ac, k, kc, some ⟨b, 0, none⟩, whc⟩ aX10 from HN.out)
  clear HN
  generalize ((((w1.setCell ⟨b, 2, none⟩ (.int .i64 1)).setCell ⟨b, 3, none⟩ (.int .i64 0)).setCell ⟨b, 6, none⟩ (.int .i64 1)).setCell ⟨b, 7, none⟩ (.int .i64 0)) = V4 at *
  have A4 := Lib.hid (HN4.out.world A0.out.1 BS.out)
  have BW := Lib.hid (A0.out.2.trans (BS.out.mono s0))
  have B_2 := Lib.hid (BW.out.alloc BW.out.size (.cells #[.slice (some ⟨w.heap.size, 0, none⟩) 2 2, .slice (some ⟨w.heap.size + 1, 0, none⟩) 2 2, .slice (some ⟨w.heap.size + 1 + 1, 0, none⟩) 2 2, .slice (some ⟨w.heap.size + 1 + 1 + 1, 0, none⟩) 4 4, .slice (some ⟨w.heap.size + 1 + 1 + 1 + 1, 0, none⟩) 4 4, .int .i64 4, .int .i64 3, .int .i64 1, .slice a 2 ac, .slice k 2 kc, .slice (some ⟨b, 0, none⟩) 4 whc] 29))
  have A_2 := Lib.hid (A4.out.call ((Below.refl _ _).alloc (Nat.le_refl _) (.cells #[.slice (some ⟨w.heap.size, 0, none⟩) 2 2, .slice (some ⟨w.heap.size + 1, 0, none⟩) 2 2, .slice (some ⟨w.heap.size + 1 + 1, 0, none⟩) 2 2, .slice (some ⟨w.heap.size + 1 + 1 + 1, 0, none⟩) 4 4, .slice (some ⟨w.heap.size + 1 + 1 + 1 + 1, 0, none⟩) 4 4, .int .i64 4, .int .i64 3, .int .i64 1, .slice a 2 ac, .slice k 2 kc, .slice (some ⟨b, 0, none⟩) 4 whc] 29)))
  have X_2 := Lib.hid (Holds.newb (w := w) (A := #[.slice (some ⟨w.heap.size, 0, none⟩) 2 2, .slice (some ⟨w.heap.size + 1, 0, none⟩) 2 2, .slice (some ⟨w.heap.size + 1 + 1, 0, none⟩) 2 2, .slice (some ⟨w.heap.size + 1 + 1 + 1, 0, none⟩) 4 4, .slice (some ⟨w.heap.size + 1 + 1 + 1 + 1, 0, none⟩) 4 4, .int .i64 4, .int .i64 3, .int .i64 1, .slice a 2 ac, .slice k 2 kc, .slice (some ⟨b, 0, none⟩) 4 whc]) (t := 29) (n := w1.heap.size) BW.out z0)
  generalize V4.alloc (.cells #[.slice (some ⟨w.heap.size, 0, none⟩) 2 2, .slice (some ⟨w.heap.size + 1, 0, none⟩) 2 2, .slice (some ⟨w.heap.size + 1 + 1, 0, none⟩) 2 2, .slice (some ⟨w.heap.size + 1 + 1 + 1, 0, none⟩) 4 4, .slice (some ⟨w.heap.size + 1 + 1 + 1 + 1, 0, none⟩) 4 4, .int .i64 4, .int .i64 3, .int .i64 1, .slice a 2 ac, .slice k 2 kc, .slice (some ⟨b, 0, none⟩) 4 whc] 29) = V5 at *
  clear A4 BW HN4 BS A0 z0 ne1 ne2 s0 s1 hb1 hb2
  have hcX := X_2.out.2.2
  have hlX := X_2.out.2.1
  refine (aw10_first ⟨aP10 w.heap.size, a, ac, k, kc, some ⟨b, 0, none⟩, whc⟩ _ A_2.out).mono ?_
  rintro e u6 ⟨⟨xd6, xa6, xac6, xk6, xkc6, xw6, xwc6⟩, g, hg, rfl, i6, j6, b6⟩
  clear hcX hlX
  have B_3 := Lib.hid (bl B_2.out b6)
  have X_3 := Lib.hid (X_2.out.call b6)
  have A_3 := Lib.hid (A_2.out.call b6)
  clear b6 B_2 X_2 A_2
  have hcX := X_3.out.2.2
  have hlX := X_3.out.2.1
  simp only at hg
  subst hg
  have Y_3 := Lib.hid i6
  have PC_3 := Lib.hid j6
  clear i6 j6
  go_wp2_with fail
  clear hcX hlX
  have s4 : (u6.alloc (.cells #[.slice xd6.ex 2 xd6.exc, .slice xd6.pl 2 xd6.plc, .slice xd6.co 2 xd6.coc, .slice xd6.it 4 xd6.itc, .slice xd6.bo 4 xd6.boc, .int .i64 4, .int .i64 3, .int .i64 1, .slice xa6 2 xac6, .slice xk6 2 xkc6, .slice (some ⟨g, 0, none⟩) 4 xwc6] 29)).heap.size = u6.heap.size + 1 := by simp
  have B_4 := Lib.hid (B_3.out.alloc B_3.out.size (.cells #[.slice xd6.ex 2 xd6.exc, .slice xd6.pl 2 xd6.plc, .slice xd6.co 2 xd6.coc, .slice xd6.it 4 xd6.itc, .slice xd6.bo 4 xd6.boc, .int .i64 4, .int .i64 3, .int .i64 1, .slice xa6 2 xac6, .slice xk6 2 xkc6, .slice (some ⟨g, 0, none⟩) 4 xwc6] 29))
  have X_4 := Lib.hid (X_3.out.alloc (.cells #[.slice xd6.ex 2 xd6.exc, .slice xd6.pl 2 xd6.plc, .slice xd6.co 2 xd6.coc, .slice xd6.it 4 xd6.itc, .slice xd6.bo 4 xd6.boc, .int .i64 4, .int .i64 3, .int .i64 1, .slice xa6 2 xac6, .slice xk6 2 xkc6, .slice (some ⟨g, 0, none⟩) 4 xwc6] 29))
  have A_4 := Lib.hid (A_3.out.call ((Below.refl _ _).alloc (Nat.le_refl _) (.cells #[.slice xd6.ex 2 xd6.exc, .slice xd6.pl 2 xd6.plc, .slice xd6.co 2 xd6.coc, .slice xd6.it 4 xd6.itc, .slice xd6.bo 4 xd6.boc, .int .i64 4, .int .i64 3, .int .i64 1, .slice xa6 2 xac6, .slice xk6 2 xkc6, .slice (some ⟨g, 0, none⟩) 4 xwc6] 29)))
  have Y_4 := Lib.hid (Y_3.out.call ((Below.refl _ _).alloc (Nat.le_refl _) (.cells #[.slice xd6.ex 2 xd6.exc, .slice xd6.pl 2 xd6.plc, .slice xd6.co 2 xd6.coc, .slice xd6.it 4 xd6.itc, .slice xd6.bo 4 xd6.boc, .int .i64 4, .int .i64 3, .int .i64 1, .slice xa6 2 xac6, .slice xk6 2 xkc6, .slice (some ⟨g, 0, none⟩) 4 xwc6] 29)))
  have PC_4 := Lib.hid (PC_3.out.call ((Below.refl _ _).alloc (Nat.le_refl _) (.cells #[.slice xd6.ex 2 xd6.exc, .slice xd6.pl 2 xd6.plc, .slice xd6.co 2 xd6.coc, .slice xd6.it 4 xd6.itc, .slice xd6.bo 4 xd6.boc, .int .i64 4, .int .i64 3, .int .i64 1, .slice xa6 2 xac6, .slice xk6 2 xkc6, .slice (some ⟨g, 0, none⟩) 4 xwc6] 29)))
  have P_4 := Lib.hid (Holds.newb (w := w) (A := #[.slice xd6.ex 2 xd6.exc, .slice xd6.pl 2 xd6.plc, .slice xd6.co 2 xd6.coc, .slice xd6.it 4 xd6.itc, .slice xd6.bo 4 xd6.boc, .int .i64 4, .int .i64 3, .int .i64 1, .slice xa6 2 xac6, .slice xk6 2 xkc6, .slice (some ⟨g, 0, none⟩) 4 xwc6]) (t := 29) (n := u6.heap.size) B_3.out rfl)
  clear B_3 X_3 A_3 Y_3 PC_3
  generalize u6.alloc (.cells #[.slice xd6.ex 2 xd6.exc, .slice xd6.pl 2 xd6.plc, .slice xd6.co 2 xd6.coc, .slice xd6.it 4 xd6.itc, .slice xd6.bo 4 xd6.boc, .int .i64 4, .int .i64 3, .int .i64 1, .slice xa6 2 xac6, .slice xk6 2 xkc6, .slice (some ⟨g, 0, none⟩) 4 xwc6] 29) = V7 at *
  have hcX := X_4.out.2.2
  have hlX := X_4.out.2.1
  have hcP := P_4.out.2.2
  have hlP := P_4.out.2.1
  refine (aw10_put ⟨xd6, xa6, xac6, xk6, xkc6, some ⟨g, 0, none⟩, xwc6⟩ aA10 (putW_shape _ _ _) aA10_right _ Y_4.out 0 3 0 (by decide) aA10 9 (by decide)).mono ?_
  rintro e u8 ⟨⟨xd8, xa8, xac8, xk8, xkc8, xw8, xwc8⟩, rfl, i8, b8⟩
  clear hcX hlX hcP hlP
  have B_5 := Lib.hid (bl B_4.out b8)
  have X_5 := Lib.hid (X_4.out.call b8)
  have P_5 := Lib.hid (P_4.out.call b8)
  have A_5 := Lib.hid (A_4.out.call b8)
  have Y_5 := Lib.hid (Y_4.out.call b8)
  have PC_5 := Lib.hid (PC_4.out.call b8)
  clear b8 B_4 X_4 P_4 A_4 Y_4 PC_4
  have hcX := X_5.out.2.2
  have hlX := X_5.out.2.1
  have hcP := P_5.out.2.2
  have hlP := P_5.out.2.1
  clear i8
  go_wp2_with fail
  clear hcX hlX hcP hlP
  have s6 : (u8.alloc (.cells #[.slice xd8.ex 2 xd8.exc, .slice xd8.pl 2 xd8.plc, .slice xd8.co 2 xd8.coc, .slice xd8.it 4 xd8.itc, .slice xd8.bo 4 xd8.boc, .int .i64 4, .int .i64 3, .int .i64 1, .slice xa8 2 xac8, .slice xk8 2 xkc8, .slice xw8 4 xwc8] 29)).heap.size = u8.heap.size + 1 := by simp
  have B_6 := Lib.hid (B_5.out.alloc B_5.out.size (.cells #[.slice xd8.ex 2 xd8.exc, .slice xd8.pl 2 xd8.plc, .slice xd8.co 2 xd8.coc, .slice xd8.it 4 xd8.itc, .slice xd8.bo 4 xd8.boc, .int .i64 4, .int .i64 3, .int .i64 1, .slice xa8 2 xac8, .slice xk8 2 xkc8, .slice xw8 4 xwc8] 29))
  have X_6 := Lib.hid (X_5.out.alloc (.cells #[.slice xd8.ex 2 xd8.exc, .slice xd8.pl 2 xd8.plc, .slice xd8.co 2 xd8.coc, .slice xd8.it 4 xd8.itc, .slice xd8.bo 4 xd8.boc, .int .i64 4, .int .i64 3, .int .i64 1, .slice xa8 2 xac8, .slice xk8 2 xkc8, .slice xw8 4 xwc8] 29))
  have P_6 := Lib.hid (P_5.out.alloc (.cells #[.slice xd8.ex 2 xd8.exc, .slice xd8.pl 2 xd8.plc, .slice xd8.co 2 xd8.coc, .slice xd8.it 4 xd8.itc, .slice xd8.bo 4 xd8.boc, .int .i64 4, .int .i64 3, .int .i64 1, .slice xa8 2 xac8, .slice xk8 2 xkc8, .slice xw8 4 xwc8] 29))
  have A_6 := Lib.hid (A_5.out.call ((Below.refl _ _).alloc (Nat.le_refl _) (.cells #[.slice xd8.ex 2 xd8.exc, .slice xd8.pl 2 xd8.plc, .slice xd8.co 2 xd8.coc, .slice xd8.it 4 xd8.itc, .slice xd8.bo 4 xd8.boc, .int .i64 4, .int .i64 3, .int .i64 1, .slice xa8 2 xac8, .slice xk8 2 xkc8, .slice xw8 4 xwc8] 29)))
  have Y_6 := Lib.hid (Y_5.out.call ((Below.refl _ _).alloc (Nat.le_refl _) (.cells #[.slice xd8.ex 2 xd8.exc, .slice xd8.pl 2 xd8.plc, .slice xd8.co 2 xd8.coc, .slice xd8.it 4 xd8.itc, .slice xd8.bo 4 xd8.boc, .int .i64 4, .int .i64 3, .int .i64 1, .slice xa8 2 xac8, .slice xk8 2 xkc8, .slice xw8 4 xwc8] 29)))
  have PC_6 := Lib.hid (PC_5.out.call ((Below.refl _ _).alloc (Nat.le_refl _) (.cells #[.slice xd8.ex 2 xd8.exc, .slice xd8.pl 2 xd8.plc, .slice xd8.co 2 xd8.coc, .slice xd8.it 4 xd8.itc, .slice xd8.bo 4 xd8.boc, .int .i64 4, .int .i64 3, .int .i64 1, .slice xa8 2 xac8, .slice xk8 2 xkc8, .slice xw8 4 xwc8] 29)))
  clear B_5 X_5 P_5 A_5 Y_5 PC_5
  generalize u8.alloc (.cells #[.slice xd8.ex 2 xd8.exc, .slice xd8.pl 2 xd8.plc, .slice xd8.co 2 xd8.coc, .slice xd8.it 4 xd8.itc, .slice xd8.bo 4 xd8.boc, .int .i64 4, .int .i64 3, .int .i64 1, .slice xa8 2 xac8, .slice xk8 2 xkc8, .slice xw8 4 xwc8] 29) = V9 at *
  have hcX := X_6.out.2.2
  have hlX := X_6.out.2.1
  have hcP := P_6.out.2.2
  have hlP := P_6.out.2.1
  refine (aw10_put ⟨aP10 w.heap.size, a, ac, k, kc, some ⟨b, 0, none⟩, whc⟩ aX10 (Shape.refl _) aX10_right _ A_6.out 0 3 3 (by decide) aX10 7 (by decide)).mono ?_
  rintro e u10 ⟨⟨xd10, xa10, xac10, xk10, xkc10, xw10, xwc10⟩, rfl, i10, b10⟩
  clear hcX hlX hcP hlP
  have B_7 := Lib.hid (bl B_6.out b10)
  have X_7 := Lib.hid (X_6.out.call b10)
  have P_7 := Lib.hid (P_6.out.call b10)
  have A_7 := Lib.hid (A_6.out.call b10)
  have Y_7 := Lib.hid (Y_6.out.call b10)
  have PC_7 := Lib.hid (PC_6.out.call b10)
  clear b10 B_6 X_6 P_6 A_6 Y_6 PC_6
  have hcX := X_7.out.2.2
  have hlX := X_7.out.2.1
  have hcP := P_7.out.2.2
  have hlP := P_7.out.2.1
  clear i10
  go_wp2_with fail
  clear hcX hlX hcP hlP
  have s8 : (u10.alloc (.cells #[.slice xd10.ex 2 xd10.exc, .slice xd10.pl 2 xd10.plc, .slice xd10.co 2 xd10.coc, .slice xd10.it 4 xd10.itc, .slice xd10.bo 4 xd10.boc, .int .i64 4, .int .i64 3, .int .i64 1, .slice xa10 2 xac10, .slice xk10 2 xkc10, .slice xw10 4 xwc10] 29)).heap.size = u10.heap.size + 1 := by simp
  have B_8 := Lib.hid (B_7.out.alloc B_7.out.size (.cells #[.slice xd10.ex 2 xd10.exc, .slice xd10.pl 2 xd10.plc, .slice xd10.co 2 xd10.coc, .slice xd10.it 4 xd10.itc, .slice xd10.bo 4 xd10.boc, .int .i64 4, .int .i64 3, .int .i64 1, .slice xa10 2 xac10, .slice xk10 2 xkc10, .slice xw10 4 xwc10] 29))
  have X_8 := Lib.hid (X_7.out.alloc (.cells #[.slice xd10.ex 2 xd10.exc, .slice xd10.pl 2 xd10.plc, .slice xd10.co 2 xd10.coc, .slice xd10.it 4 xd10.itc, .slice xd10.bo 4 xd10.boc, .int .i64 4, .int .i64 3, .int .i64 1, .slice xa10 2 xac10, .slice xk10 2 xkc10, .slice xw10 4 xwc10] 29))
  have P_8 := Lib.hid (P_7.out.alloc (.cells #[.slice xd10.ex 2 xd10.exc, .slice xd10.pl 2 xd10.plc, .slice xd10.co 2 xd10.coc, .slice xd10.it 4 xd10.itc, .slice xd10.bo 4 xd10.boc, .int .i64 4, .int .i64 3, .int .i64 1, .slice xa10 2 xac10, .slice xk10 2 xkc10, .slice xw10 4 xwc10] 29))
  have A_8 := Lib.hid (A_7.out.call ((Below.refl _ _).alloc (Nat.le_refl _) (.cells #[.slice xd10.ex 2 xd10.exc, .slice xd10.pl 2 xd10.plc, .slice xd10.co 2 xd10.coc, .slice xd10.it 4 xd10.itc, .slice xd10.bo 4 xd10.boc, .int .i64 4, .int .i64 3, .int .i64 1, .slice xa10 2 xac10, .slice xk10 2 xkc10, .slice xw10 4 xwc10] 29)))
  have Y_8 := Lib.hid (Y_7.out.call ((Below.refl _ _).alloc (Nat.le_refl _) (.cells #[.slice xd10.ex 2 xd10.exc, .slice xd10.pl 2 xd10.plc, .slice xd10.co 2 xd10.coc, .slice xd10.it 4 xd10.itc, .slice xd10.bo 4 xd10.boc, .int .i64 4, .int .i64 3, .int .i64 1, .slice xa10 2 xac10, .slice xk10 2 xkc10, .slice xw10 4 xwc10] 29)))
  have PC_8 := Lib.hid (PC_7.out.call ((Below.refl _ _).alloc (Nat.le_refl _) (.cells #[.slice xd10.ex 2 xd10.exc, .slice xd10.pl 2 xd10.plc, .slice xd10.co 2 xd10.coc, .slice xd10.it 4 xd10.itc, .slice xd10.bo 4 xd10.boc, .int .i64 4, .int .i64 3, .int .i64 1, .slice xa10 2 xac10, .slice xk10 2 xkc10, .slice xw10 4 xwc10] 29)))
  clear B_7 X_7 P_7 A_7 Y_7 PC_7
  generalize u10.alloc (.cells #[.slice xd10.ex 2 xd10.exc, .slice xd10.pl 2 xd10.plc, .slice xd10.co 2 xd10.coc, .slice xd10.it 4 xd10.itc, .slice xd10.bo 4 xd10.boc, .int .i64 4, .int .i64 3, .int .i64 1, .slice xa10 2 xac10, .slice xk10 2 xkc10, .slice xw10 4 xwc10] 29) = V11 at *
  have hcX := X_8.out.2.2
  have hlX := X_8.out.2.1
  have hcP := P_8.out.2.2
  have hlP := P_8.out.2.1
  refine (aw10_put ⟨aP10 w.heap.size, a, ac, k, kc, some ⟨b, 0, none⟩, whc⟩ aX10 (Shape.refl _) aX10_right _ A_8.out 0 3 1 (by decide) aX10 6 (by decide)).mono ?_
  rintro e u12 ⟨⟨xd12, xa12, xac12, xk12, xkc12, xw12, xwc12⟩, rfl, i12, b12⟩
  clear hcX hlX hcP hlP
  have B_9 := Lib.hid (bl B_8.out b12)
  have X_9 := Lib.hid (X_8.out.call b12)
  have P_9 := Lib.hid (P_8.out.call b12)
  have A_9 := Lib.hid (A_8.out.call b12)
  have Y_9 := Lib.hid (Y_8.out.call b12)
  have PC_9 := Lib.hid (PC_8.out.call b12)
  clear b12 B_8 X_8 P_8 A_8 Y_8 PC_8
  have hcX := X_9.out.2.2
  have hlX := X_9.out.2.1
  have hcP := P_9.out.2.2
  have hlP := P_9.out.2.1
  clear i12
  go_wp2_with fail
  clear hcX hlX hcP hlP
  have s10 : (u12.alloc (.cells #[.slice xd12.ex 2 xd12.exc, .slice xd12.pl 2 xd12.plc, .slice xd12.co 2 xd12.coc, .slice xd12.it 4 xd12.itc, .slice xd12.bo 4 xd12.boc, .int .i64 4, .int .i64 3, .int .i64 1, .slice xa12 2 xac12, .slice xk12 2 xkc12, .slice xw12 4 xwc12] 29)).heap.size = u12.heap.size + 1 := by simp
  have B_10 := Lib.hid (B_9.out.alloc B_9.out.size (.cells #[.slice xd12.ex 2 xd12.exc, .slice xd12.pl 2 xd12.plc, .slice xd12.co 2 xd12.coc, .slice xd12.it 4 xd12.itc, .slice xd12.bo 4 xd12.boc, .int .i64 4, .int .i64 3, .int .i64 1, .slice xa12 2 xac12, .slice xk12 2 xkc12, .slice xw12 4 xwc12] 29))
  have X_10 := Lib.hid (X_9.out.alloc (.cells #[.slice xd12.ex 2 xd12.exc, .slice xd12.pl 2 xd12.plc, .slice xd12.co 2 xd12.coc, .slice xd12.it 4 xd12.itc, .slice xd12.bo 4 xd12.boc, .int .i64 4, .int .i64 3, .int .i64 1, .slice xa12 2 xac12, .slice xk12 2 xkc12, .slice xw12 4 xwc12] 29))
  have P_10 := Lib.hid (P_9.out.alloc (.cells #[.slice xd12.ex 2 xd12.exc, .slice xd12.pl 2 xd12.plc, .slice xd12.co 2 xd12.coc, .slice xd12.it 4 xd12.itc, .slice xd12.bo 4 xd12.boc, .int .i64 4, .int .i64 3, .int .i64 1, .slice xa12 2 xac12, .slice xk12 2 xkc12, .slice xw12 4 xwc12] 29))
  have A_10 := Lib.hid (A_9.out.call ((Below.refl _ _).alloc (Nat.le_refl _) (.cells #[.slice xd12.ex 2 xd12.exc, .slice xd12.pl 2 xd12.plc, .slice xd12.co 2 xd12.coc, .slice xd12.it 4 xd12.itc, .slice xd12.bo 4 xd12.boc, .int .i64 4, .int .i64 3, .int .i64 1, .slice xa12 2 xac12, .slice xk12 2 xkc12, .slice xw12 4 xwc12] 29)))
  have Y_10 := Lib.hid (Y_9.out.call ((Below.refl _ _).alloc (Nat.le_refl _) (.cells #[.slice xd12.ex 2 xd12.exc, .slice xd12.pl 2 xd12.plc, .slice xd12.co 2 xd12.coc, .slice xd12.it 4 xd12.itc, .slice xd12.bo 4 xd12.boc, .int .i64 4, .int .i64 3, .int .i64 1, .slice xa12 2 xac12, .slice xk12 2 xkc12, .slice xw12 4 xwc12] 29)))
  have PC_10 := Lib.hid (PC_9.out.call ((Below.refl _ _).alloc (Nat.le_refl _) (.cells #[.slice xd12.ex 2 xd12.exc, .slice xd12.pl 2 xd12.plc, .slice xd12.co 2 xd12.coc, .slice xd12.it 4 xd12.itc, .slice xd12.bo 4 xd12.boc, .int .i64 4, .int .i64 3, .int .i64 1, .slice xa12 2 xac12, .slice xk12 2 xkc12, .slice xw12 4 xwc12] 29)))
  clear B_9 X_9 P_9 A_9 Y_9 PC_9
  generalize u12.alloc (.cells #[.slice xd12.ex 2 xd12.exc, .slice xd12.pl 2 xd12.plc, .slice xd12.co 2 xd12.coc, .slice xd12.it 4 xd12.itc, .slice xd12.bo 4 xd12.boc, .int .i64 4, .int .i64 3, .int .i64 1, .slice xa12 2 xac12, .slice xk12 2 xkc12, .slice xw12 4 xwc12] 29) = V13 at *
  have hcX := X_10.out.2.2
  have hlX := X_10.out.2.1
  have hcP := P_10.out.2.2
  have hlP := P_10.out.2.1
  refine (aw10_put ⟨aP10 w.heap.size, a, ac, k, kc, some ⟨b, 0, none⟩, whc⟩ aX10 (Shape.refl _) aX10_right _ A_10.out 0 1 2 (by decide) aX10 5 (by decide)).mono ?_
  rintro e u14 ⟨⟨xd14, xa14, xac14, xk14, xkc14, xw14, xwc14⟩, rfl, i14, b14⟩
  clear hcX hlX hcP hlP
  have B_11 := Lib.hid (bl B_10.out b14)
  have X_11 := Lib.hid (X_10.out.call b14)
  have P_11 := Lib.hid (P_10.out.call b14)
  have A_11 := Lib.hid (A_10.out.call b14)
  have Y_11 := Lib.hid (Y_10.out.call b14)
  have PC_11 := Lib.hid (PC_10.out.call b14)
  clear b14 B_10 X_10 P_10 A_10 Y_10 PC_10
  have hcX := X_11.out.2.2
  have hlX := X_11.out.2.1
  have hcP := P_11.out.2.2
  have hlP := P_11.out.2.1
  clear i14
  go_wp2_with fail
  clear hcX hlX hcP hlP
  have s12 : (u14.alloc (.cells #[.slice xd14.ex 2 xd14.exc, .slice xd14.pl 2 xd14.plc, .slice xd14.co 2 xd14.coc, .slice xd14.it 4 xd14.itc, .slice xd14.bo 4 xd14.boc, .int .i64 4, .int .i64 3, .int .i64 1, .slice xa14 2 xac14, .slice xk14 2 xkc14, .slice xw14 4 xwc14] 29)).heap.size = u14.heap.size + 1 := by simp
  have B_12 := Lib.hid (B_11.out.alloc B_11.out.size (.cells #[.slice xd14.ex 2 xd14.exc, .slice xd14.pl 2 xd14.plc, .slice xd14.co 2 xd14.coc, .slice xd14.it 4 xd14.itc, .slice xd14.bo 4 xd14.boc, .int .i64 4, .int .i64 3, .int .i64 1, .slice xa14 2 xac14, .slice xk14 2 xkc14, .slice xw14 4 xwc14] 29))
  have X_12 := Lib.hid (X_11.out.alloc (.cells #[.slice xd14.ex 2 xd14.exc, .slice xd14.pl 2 xd14.plc, .slice xd14.co 2 xd14.coc, .slice xd14.it 4 xd14.itc, .slice xd14.bo 4 xd14.boc, .int .i64 4, .int .i64 3, .int .i64 1, .slice xa14 2 xac14, .slice xk14 2 xkc14, .slice xw14 4 xwc14] 29))
  have P_12 := Lib.hid (P_11.out.alloc (.cells #[.slice xd14.ex 2 xd14.exc, .slice xd14.pl 2 xd14.plc, .slice xd14.co 2 xd14.coc, .slice xd14.it 4 xd14.itc, .slice xd14.bo 4 xd14.boc, .int .i64 4, .int .i64 3, .int .i64 1, .slice xa14 2 xac14, .slice xk14 2 xkc14, .slice xw14 4 xwc14] 29))
  have A_12 := Lib.hid (A_11.out.call ((Below.refl _ _).alloc (Nat.le_refl _) (.cells #[.slice xd14.ex 2 xd14.exc, .slice xd14.pl 2 xd14.plc, .slice xd14.co 2 xd14.coc, .slice xd14.it 4 xd14.itc, .slice xd14.bo 4 xd14.boc, .int .i64 4, .int .i64 3, .int .i64 1, .slice xa14 2 xac14, .slice xk14 2 xkc14, .slice xw14 4 xwc14] 29)))
  have Y_12 := Lib.hid (Y_11.out.call ((Below.refl _ _).alloc (Nat.le_refl _) (.cells #[.slice xd14.ex 2 xd14.exc, .slice xd14.pl 2 xd14.plc, .slice xd14.co 2 xd14.coc, .slice xd14.it 4 xd14.itc, .slice xd14.bo 4 xd14.boc, .int .i64 4, .int .i64 3, .int .i64 1, .slice xa14 2 xac14, .slice xk14 2 xkc14, .slice xw14 4 xwc14] 29)))
  have PC_12 := Lib.hid (PC_11.out.call ((Below.refl _ _).alloc (Nat.le_refl _) (.cells #[.slice xd14.ex 2 xd14.exc, .slice xd14.pl 2 xd14.plc, .slice xd14.co 2 xd14.coc, .slice xd14.it 4 xd14.itc, .slice xd14.bo 4 xd14.boc, .int .i64 4, .int .i64 3, .int .i64 1, .slice xa14 2 xac14, .slice xk14 2 xkc14, .slice xw14 4 xwc14] 29)))
  clear B_11 X_11 P_11 A_11 Y_11 PC_11
  generalize u14.alloc (.cells #[.slice xd14.ex 2 xd14.exc, .slice xd14.pl 2 xd14.plc, .slice xd14.co 2 xd14.coc, .slice xd14.it 4 xd14.itc, .slice xd14.bo 4 xd14.boc, .int .i64 4, .int .i64 3, .int .i64 1, .slice xa14 2 xac14, .slice xk14 2 xkc14, .slice xw14 4 xwc14] 29) = V15 at *
  have hcX := X_12.out.2.2
  have hlX := X_12.out.2.1
  have hcP := P_12.out.2.2
  have hlP := P_12.out.2.1
  refine (aw10_take ⟨xd6, xa6, xac6, xk6, xkc6, some ⟨g, 0, none⟩, xwc6⟩ aA10 (putW_shape _ _ _) aA10_right _ Y_12.out 0 1 0 (by decide) aX10 0 (by decide)).mono ?_
  rintro e u16 ⟨⟨xd16, xa16, xac16, xk16, xkc16, xw16, xwc16⟩, rfl, i16, b16⟩
  clear hcX hlX hcP hlP
  have B_13 := Lib.hid (bl B_12.out b16)
  have X_13 := Lib.hid (X_12.out.call b16)
  have P_13 := Lib.hid (P_12.out.call b16)
  have A_13 := Lib.hid (A_12.out.call b16)
  have Y_13 := Lib.hid (Y_12.out.call b16)
  have PC_13 := Lib.hid (PC_12.out.call b16)
  clear b16 B_12 X_12 P_12 A_12 Y_12 PC_12
  have hcX := X_13.out.2.2
  have hlX := X_13.out.2.1
  have hcP := P_13.out.2.2
  have hlP := P_13.out.2.1
  have Z_13 := Lib.hid i16
  clear i16
  go_wp2_with fail
  clear hcX hlX hcP hlP
  have s14 : (u16.alloc (.cells #[.slice xd16.ex 2 xd16.exc, .slice xd16.pl 2 xd16.plc, .slice xd16.co 2 xd16.coc, .slice xd16.it 4 xd16.itc, .slice xd16.bo 4 xd16.boc, .int .i64 4, .int .i64 3, .int .i64 1, .slice xa16 2 xac16, .slice xk16 2 xkc16, .slice xw16 4 xwc16] 29)).heap.size = u16.heap.size + 1 := by simp
  have B_14 := Lib.hid (B_13.out.alloc B_13.out.size (.cells #[.slice xd16.ex 2 xd16.exc, .slice xd16.pl 2 xd16.plc, .slice xd16.co 2 xd16.coc, .slice xd16.it 4 xd16.itc, .slice xd16.bo 4 xd16.boc, .int .i64 4, .int .i64 3, .int .i64 1, .slice xa16 2 xac16, .slice xk16 2 xkc16, .slice xw16 4 xwc16] 29))
  have X_14 := Lib.hid (X_13.out.alloc (.cells #[.slice xd16.ex 2 xd16.exc, .slice xd16.pl 2 xd16.plc, .slice xd16.co 2 xd16.coc, .slice xd16.it 4 xd16.itc, .slice xd16.bo 4 xd16.boc, .int .i64 4, .int .i64 3, .int .i64 1, .slice xa16 2 xac16, .slice xk16 2 xkc16, .slice xw16 4 xwc16] 29))
  have P_14 := Lib.hid (P_13.out.alloc (.cells #[.slice xd16.ex 2 xd16.exc, .slice xd16.pl 2 xd16.plc, .slice xd16.co 2 xd16.coc, .slice xd16.it 4 xd16.itc, .slice xd16.bo 4 xd16.boc, .int .i64 4, .int .i64 3, .int .i64 1, .slice xa16 2 xac16, .slice xk16 2 xkc16, .slice xw16 4 xwc16] 29))
  have A_14 := Lib.hid (A_13.out.call ((Below.refl _ _).alloc (Nat.le_refl _) (.cells #[.slice xd16.ex 2 xd16.exc, .slice xd16.pl 2 xd16.plc, .slice xd16.co 2 xd16.coc, .slice xd16.it 4 xd16.itc, .slice xd16.bo 4 xd16.boc, .int .i64 4, .int .i64 3, .int .i64 1, .slice xa16 2 xac16, .slice xk16 2 xkc16, .slice xw16 4 xwc16] 29)))
  have Y_14 := Lib.hid (Y_13.out.call ((Below.refl _ _).alloc (Nat.le_refl _) (.cells #[.slice xd16.ex 2 xd16.exc, .slice xd16.pl 2 xd16.plc, .slice xd16.co 2 xd16.coc, .slice xd16.it 4 xd16.itc, .slice xd16.bo 4 xd16.boc, .int .i64 4, .int .i64 3, .int .i64 1, .slice xa16 2 xac16, .slice xk16 2 xkc16, .slice xw16 4 xwc16] 29)))
  have PC_14 := Lib.hid (PC_13.out.call ((Below.refl _ _).alloc (Nat.le_refl _) (.cells #[.slice xd16.ex 2 xd16.exc, .slice xd16.pl 2 xd16.plc, .slice xd16.co 2 xd16.coc, .slice xd16.it 4 xd16.itc, .slice xd16.bo 4 xd16.boc, .int .i64 4, .int .i64 3, .int .i64 1, .slice xa16 2 xac16, .slice xk16 2 xkc16, .slice xw16 4 xwc16] 29)))
  have Z_14 := Lib.hid (Z_13.out.call ((Below.refl _ _).alloc (Nat.le_refl _) (.cells #[.slice xd16.ex 2 xd16.exc, .slice xd16.pl 2 xd16.plc, .slice xd16.co 2 xd16.coc, .slice xd16.it 4 xd16.itc, .slice xd16.bo 4 xd16.boc, .int .i64 4, .int .i64 3, .int .i64 1, .slice xa16 2 xac16, .slice xk16 2 xkc16, .slice xw16 4 xwc16] 29)))
  have Q_14 := Lib.hid (Holds.newb (w := w) (A := #[.slice xd16.ex 2 xd16.exc, .slice xd16.pl 2 xd16.plc, .slice xd16.co 2 xd16.coc, .slice xd16.it 4 xd16.itc, .slice xd16.bo 4 xd16.boc, .int .i64 4, .int .i64 3, .int .i64 1, .slice xa16 2 xac16, .slice xk16 2 xkc16, .slice xw16 4 xwc16]) (t := 29) (n := u16.heap.size) B_13.out rfl)
  clear B_13 X_13 P_13 A_13 Y_13 PC_13 Z_13
  generalize u16.alloc (.cells #[.slice xd16.ex 2 xd16.exc, .slice xd16.pl 2 xd16.plc, .slice xd16.co 2 xd16.coc, .slice xd16.it 4 xd16.itc, .slice xd16.bo 4 xd16.boc, .int .i64 4, .int .i64 3, .int .i64 1, .slice xa16 2 xac16, .slice xk16 2 xkc16, .slice xw16 4 xwc16] 29) = V17 at *
  have hcX := X_14.out.2.2
  have hlX := X_14.out.2.1
  have hcP := P_14.out.2.2
  have hlP := P_14.out.2.1
  have hcQ := Q_14.out.2.2
  have hlQ := Q_14.out.2.1
  refine (aw10_take ⟨xd6, xa6, xac6, xk6, xkc6, some ⟨g, 0, none⟩, xwc6⟩ aA10 (putW_shape _ _ _) aA10_right _ Y_14.out 0 1 3 (by decide) aA10 5 (by decide)).mono ?_
  rintro e u18 ⟨⟨xd18, xa18, xac18, xk18, xkc18, xw18, xwc18⟩, rfl, i18, b18⟩
  clear hcX hlX hcP hlP hcQ hlQ
  have B_15 := Lib.hid (bl B_14.out b18)
  have X_15 := Lib.hid (X_14.out.call b18)
  have P_15 := Lib.hid (P_14.out.call b18)
  have Q_15 := Lib.hid (Q_14.out.call b18)
  have A_15 := Lib.hid (A_14.out.call b18)
  have Y_15 := Lib.hid (Y_14.out.call b18)
  have PC_15 := Lib.hid (PC_14.out.call b18)
  have Z_15 := Lib.hid (Z_14.out.call b18)
  clear b18 B_14 X_14 P_14 Q_14 A_14 Y_14 PC_14 Z_14
  have hcX := X_15.out.2.2
  have hlX := X_15.out.2.1
  have hcP := P_15.out.2.2
  have hlP := P_15.out.2.1
  have hcQ := Q_15.out.2.2
  have hlQ := Q_15.out.2.1
  clear i18
  go_wp2_with fail
  clear hcX hlX hcP hlP hcQ hlQ
  have s16 : (u18.alloc (.cells #[.slice xd18.ex 2 xd18.exc, .slice xd18.pl 2 xd18.plc, .slice xd18.co 2 xd18.coc, .slice xd18.it 4 xd18.itc, .slice xd18.bo 4 xd18.boc, .int .i64 4, .int .i64 3, .int .i64 1, .slice xa18 2 xac18, .slice xk18 2 xkc18, .slice xw18 4 xwc18] 29)).heap.size = u18.heap.size + 1 := by simp
  have B_16 := Lib.hid (B_15.out.alloc B_15.out.size (.cells #[.slice xd18.ex 2 xd18.exc, .slice xd18.pl 2 xd18.plc, .slice xd18.co 2 xd18.coc, .slice xd18.it 4 xd18.itc, .slice xd18.bo 4 xd18.boc, .int .i64 4, .int .i64 3, .int .i64 1, .slice xa18 2 xac18, .slice xk18 2 xkc18, .slice xw18 4 xwc18] 29))
  have X_16 := Lib.hid (X_15.out.alloc (.cells #[.slice xd18.ex 2 xd18.exc, .slice xd18.pl 2 xd18.plc, .slice xd18.co 2 xd18.coc, .slice xd18.it 4 xd18.itc, .slice xd18.bo 4 xd18.boc, .int .i64 4, .int .i64 3, .int .i64 1, .slice xa18 2 xac18, .slice xk18 2 xkc18, .slice xw18 4 xwc18] 29))
  have P_16 := Lib.hid (P_15.out.alloc (.cells #[.slice xd18.ex 2 xd18.exc, .slice xd18.pl 2 xd18.plc, .slice xd18.co 2 xd18.coc, .slice xd18.it 4 xd18.itc, .slice xd18.bo 4 xd18.boc, .int .i64 4, .int .i64 3, .int .i64 1, .slice xa18 2 xac18, .slice xk18 2 xkc18, .slice xw18 4 xwc18] 29))
  have Q_16 := Lib.hid (Q_15.out.alloc (.cells #[.slice xd18.ex 2 xd18.exc, .slice xd18.pl 2 xd18.plc, .slice xd18.co 2 xd18.coc, .slice xd18.it 4 xd18.itc, .slice xd18.bo 4 xd18.boc, .int .i64 4, .int .i64 3, .int .i64 1, .slice xa18 2 xac18, .slice xk18 2 xkc18, .slice xw18 4 xwc18] 29))
  have A_16 := Lib.hid (A_15.out.call ((Below.refl _ _).alloc (Nat.le_refl _) (.cells #[.slice xd18.ex 2 xd18.exc, .slice xd18.pl 2 xd18.plc, .slice xd18.co 2 xd18.coc, .slice xd18.it 4 xd18.itc, .slice xd18.bo 4 xd18.boc, .int .i64 4, .int .i64 3, .int .i64 1, .slice xa18 2 xac18, .slice xk18 2 xkc18, .slice xw18 4 xwc18] 29)))
  have Y_16 := Lib.hid (Y_15.out.call ((Below.refl _ _).alloc (Nat.le_refl _) (.cells #[.slice xd18.ex 2 xd18.exc, .slice xd18.pl 2 xd18.plc, .slice xd18.co 2 xd18.coc, .slice xd18.it 4 xd18.itc, .slice xd18.bo 4 xd18.boc, .int .i64 4, .int .i64 3, .int .i64 1, .slice xa18 2 xac18, .slice xk18 2 xkc18, .slice xw18 4 xwc18] 29)))
  have PC_16 := Lib.hid (PC_15.out.call ((Below.refl _ _).alloc (Nat.le_refl _) (.cells #[.slice xd18.ex 2 xd18.exc, .slice xd18.pl 2 xd18.plc, .slice xd18.co 2 xd18.coc, .slice xd18.it 4 xd18.itc, .slice xd18.bo 4 xd18.boc, .int .i64 4, .int .i64 3, .int .i64 1, .slice xa18 2 xac18, .slice xk18 2 xkc18, .slice xw18 4 xwc18] 29)))
  have Z_16 := Lib.hid (Z_15.out.call ((Below.refl _ _).alloc (Nat.le_refl _) (.cells #[.slice xd18.ex 2 xd18.exc, .slice xd18.pl 2 xd18.plc, .slice xd18.co 2 xd18.coc, .slice xd18.it 4 xd18.itc, .slice xd18.bo 4 xd18.boc, .int .i64 4, .int .i64 3, .int .i64 1, .slice xa18 2 xac18, .slice xk18 2 xkc18, .slice xw18 4 xwc18] 29)))
  clear B_15 X_15 P_15 Q_15 A_15 Y_15 PC_15 Z_15
  generalize u18.alloc (.cells #[.slice xd18.ex 2 xd18.exc, .slice xd18.pl 2 xd18.plc, .slice xd18.co 2 xd18.coc, .slice xd18.it 4 xd18.itc, .slice xd18.bo 4 xd18.boc, .int .i64 4, .int .i64 3, .int .i64 1, .slice xa18 2 xac18, .slice xk18 2 xkc18, .slice xw18 4 xwc18] 29) = V19 at *
  have hcX := X_16.out.2.2
  have hlX := X_16.out.2.1
  have hcP := P_16.out.2.2
  have hlP := P_16.out.2.1
  have hcQ := Q_16.out.2.2
  have hlQ := Q_16.out.2.1
  refine (aw10_take ⟨xd6, xa6, xac6, xk6, xkc6, some ⟨g, 0, none⟩, xwc6⟩ aA10 (putW_shape _ _ _) aA10_right _ Y_16.out 1 1 0 (by decide) aA10 5 (by decide)).mono ?_
  rintro e u20 ⟨⟨xd20, xa20, xac20, xk20, xkc20, xw20, xwc20⟩, rfl, i20, b20⟩
  clear hcX hlX hcP hlP hcQ hlQ
  have B_17 := Lib.hid (bl B_16.out b20)
  have X_17 := Lib.hid (X_16.out.call b20)
  have P_17 := Lib.hid (P_16.out.call b20)
  have Q_17 := Lib.hid (Q_16.out.call b20)
  have A_17 := Lib.hid (A_16.out.call b20)
  have Y_17 := Lib.hid (Y_16.out.call b20)
  have PC_17 := Lib.hid (PC_16.out.call b20)
  have Z_17 := Lib.hid (Z_16.out.call b20)
  clear b20 B_16 X_16 P_16 Q_16 A_16 Y_16 PC_16 Z_16
  have hcX := X_17.out.2.2
  have hlX := X_17.out.2.1
  have hcP := P_17.out.2.2
  have hlP := P_17.out.2.1
  have hcQ := Q_17.out.2.2
  have hlQ := Q_17.out.2.1
  clear i20
  have p0 : u20.cell? ⟨g, 2, none⟩ = some (.int .i64 2) := PC_17.out.1
  have p1 : u20.cell? ⟨g, 2 + 1, none⟩ = some (.int .i64 0) := PC_17.out.2.1
  have p2 : u20.cell? ⟨g, 3, none⟩ = some (.int .i64 0) := PC_17.out.2.1
  have p3 : g < u20.heap.size := PC_17.out.2.2
  go_wp2_with fail
  clear hcX hlX hcP hlP hcQ hlQ p0 p1 p2 p3
  have s18 : (u20.alloc (.cells #[.slice xd20.ex 2 xd20.exc, .slice xd20.pl 2 xd20.plc, .slice xd20.co 2 xd20.coc, .slice xd20.it 4 xd20.itc, .slice xd20.bo 4 xd20.boc, .int .i64 4, .int .i64 3, .int .i64 1, .slice xa20 2 xac20, .slice xk20 2 xkc20, .slice xw20 4 xwc20] 29)).heap.size = u20.heap.size + 1 := by simp
  have B_18 := Lib.hid (B_17.out.alloc B_17.out.size (.cells #[.slice xd20.ex 2 xd20.exc, .slice xd20.pl 2 xd20.plc, .slice xd20.co 2 xd20.coc, .slice xd20.it 4 xd20.itc, .slice xd20.bo 4 xd20.boc, .int .i64 4, .int .i64 3, .int .i64 1, .slice xa20 2 xac20, .slice xk20 2 xkc20, .slice xw20 4 xwc20] 29))
  have X_18 := Lib.hid (X_17.out.alloc (.cells #[.slice xd20.ex 2 xd20.exc, .slice xd20.pl 2 xd20.plc, .slice xd20.co 2 xd20.coc, .slice xd20.it 4 xd20.itc, .slice xd20.bo 4 xd20.boc, .int .i64 4, .int .i64 3, .int .i64 1, .slice xa20 2 xac20, .slice xk20 2 xkc20, .slice xw20 4 xwc20] 29))
  have P_18 := Lib.hid (P_17.out.alloc (.cells #[.slice xd20.ex 2 xd20.exc, .slice xd20.pl 2 xd20.plc, .slice xd20.co 2 xd20.coc, .slice xd20.it 4 xd20.itc, .slice xd20.bo 4 xd20.boc, .int .i64 4, .int .i64 3, .int .i64 1, .slice xa20 2 xac20, .slice xk20 2 xkc20, .slice xw20 4 xwc20] 29))
  have Q_18 := Lib.hid (Q_17.out.alloc (.cells #[.slice xd20.ex 2 xd20.exc, .slice xd20.pl 2 xd20.plc, .slice xd20.co 2 xd20.coc, .slice xd20.it 4 xd20.itc, .slice xd20.bo 4 xd20.boc, .int .i64 4, .int .i64 3, .int .i64 1, .slice xa20 2 xac20, .slice xk20 2 xkc20, .slice xw20 4 xwc20] 29))
  have A_18 := Lib.hid (A_17.out.call ((Below.refl _ _).alloc (Nat.le_refl _) (.cells #[.slice xd20.ex 2 xd20.exc, .slice xd20.pl 2 xd20.plc, .slice xd20.co 2 xd20.coc, .slice xd20.it 4 xd20.itc, .slice xd20.bo 4 xd20.boc, .int .i64 4, .int .i64 3, .int .i64 1, .slice xa20 2 xac20, .slice xk20 2 xkc20, .slice xw20 4 xwc20] 29)))
  have Y_18 := Lib.hid (Y_17.out.call ((Below.refl _ _).alloc (Nat.le_refl _) (.cells #[.slice xd20.ex 2 xd20.exc, .slice xd20.pl 2 xd20.plc, .slice xd20.co 2 xd20.coc, .slice xd20.it 4 xd20.itc, .slice xd20.bo 4 xd20.boc, .int .i64 4, .int .i64 3, .int .i64 1, .slice xa20 2 xac20, .slice xk20 2 xkc20, .slice xw20 4 xwc20] 29)))
  have PC_18 := Lib.hid (PC_17.out.call ((Below.refl _ _).alloc (Nat.le_refl _) (.cells #[.slice xd20.ex 2 xd20.exc, .slice xd20.pl 2 xd20.plc, .slice xd20.co 2 xd20.coc, .slice xd20.it 4 xd20.itc, .slice xd20.bo 4 xd20.boc, .int .i64 4, .int .i64 3, .int .i64 1, .slice xa20 2 xac20, .slice xk20 2 xkc20, .slice xw20 4 xwc20] 29)))
  have Z_18 := Lib.hid (Z_17.out.call ((Below.refl _ _).alloc (Nat.le_refl _) (.cells #[.slice xd20.ex 2 xd20.exc, .slice xd20.pl 2 xd20.plc, .slice xd20.co 2 xd20.coc, .slice xd20.it 4 xd20.itc, .slice xd20.bo 4 xd20.boc, .int .i64 4, .int .i64 3, .int .i64 1, .slice xa20 2 xac20, .slice xk20 2 xkc20, .slice xw20 4 xwc20] 29)))
  clear B_17 X_17 P_17 Q_17 A_17 Y_17 PC_17 Z_17
  generalize u20.alloc (.cells #[.slice xd20.ex 2 xd20.exc, .slice xd20.pl 2 xd20.plc, .slice xd20.co 2 xd20.coc, .slice xd20.it 4 xd20.itc, .slice xd20.bo 4 xd20.boc, .int .i64 4, .int .i64 3, .int .i64 1, .slice xa20 2 xac20, .slice xk20 2 xkc20, .slice xw20 4 xwc20] 29) = V21 at *
  have hcX := X_18.out.2.2
  have hlX := X_18.out.2.1
  have hcP := P_18.out.2.2
  have hlP := P_18.out.2.1
  have hcQ := Q_18.out.2.2
  have hlQ := Q_18.out.2.1
  refine (aw10_same ⟨xd16, xa16, xac16, xk16, xkc16, xw16, xwc16⟩ ⟨aP10 w.heap.size, a, ac, k, kc, some ⟨b, 0, none⟩, whc⟩ _ Z_18.out A_18.out).mono ?_
  rintro e u22 ⟨rfl, b22⟩
  clear hcX hlX hcP hlP hcQ hlQ
  have B_19 := Lib.hid (bl B_18.out b22)
  have X_19 := Lib.hid (X_18.out.call b22)
  have P_19 := Lib.hid (P_18.out.call b22)
  have Q_19 := Lib.hid (Q_18.out.call b22)
  have A_19 := Lib.hid (A_18.out.call b22)
  have Y_19 := Lib.hid (Y_18.out.call b22)
  have PC_19 := Lib.hid (PC_18.out.call b22)
  have Z_19 := Lib.hid (Z_18.out.call b22)
  clear b22 B_18 X_18 P_18 Q_18 A_18 Y_18 PC_18 Z_18
  have hcX := X_19.out.2.2
  have hlX := X_19.out.2.1
  have hcP := P_19.out.2.2
  have hlP := P_19.out.2.1
  have hcQ := Q_19.out.2.2
  have hlQ := Q_19.out.2.1
  go_wp2_with fail
  refine (aw10_near ⟨aP10 w.heap.size, a, ac, k, kc, some ⟨b, 0, none⟩, whc⟩ _ A_19.out 0 (by decide) true (by decide)).mono ?_
  rintro e u23 ⟨rfl, b23⟩
  clear hcX hlX hcP hlP hcQ hlQ
  have B_20 := Lib.hid (bl B_19.out b23)
  have X_20 := Lib.hid (X_19.out.call b23)
  have P_20 := Lib.hid (P_19.out.call b23)
  have Q_20 := Lib.hid (Q_19.out.call b23)
  have A_20 := Lib.hid (A_19.out.call b23)
  have Y_20 := Lib.hid (Y_19.out.call b23)
  have PC_20 := Lib.hid (PC_19.out.call b23)
  have Z_20 := Lib.hid (Z_19.out.call b23)
  clear b23 B_19 X_19 P_19 Q_19 A_19 Y_19 PC_19 Z_19
  have hcX := X_20.out.2.2
  have hlX := X_20.out.2.1
  have hcP := P_20.out.2.2
  have hlP := P_20.out.2.1
  have hcQ := Q_20.out.2.2
  have hlQ := Q_20.out.2.1
  go_wp2_with fail
  refine (aw10_near ⟨aP10 w.heap.size, a, ac, k, kc, some ⟨b, 0, none⟩, whc⟩ _ A_20.out 1 (by decide) false (by decide)).mono ?_
  rintro e u24 ⟨rfl, b24⟩
  clear hcX hlX hcP hlP hcQ hlQ
  have B_21 := Lib.hid (bl B_20.out b24)
  have X_21 := Lib.hid (X_20.out.call b24)
  have P_21 := Lib.hid (P_20.out.call b24)
  have Q_21 := Lib.hid (Q_20.out.call b24)
  have A_21 := Lib.hid (A_20.out.call b24)
  have Y_21 := Lib.hid (Y_20.out.call b24)
  have PC_21 := Lib.hid (PC_20.out.call b24)
  have Z_21 := Lib.hid (Z_20.out.call b24)
  clear b24 B_20 X_20 P_20 Q_20 A_20 Y_20 PC_20 Z_20
  go_wp2_with fail
  go_ret
  exact ⟨rfl, B_21.out⟩
set_option maxRecDepth 100000 in
theorem fits10_any (x : Wd) (p : Wp) (w : World) (h : WorldAt w p x) : Calls Try.prog 9 #[.agg #[.slice p.d.ex x.d.exits.length p.d.exc, .slice p.d.pl x.d.players.length p.d.plc, .slice p.d.co x.d.coins.length p.d.coc, .slice p.d.it x.d.items.length p.d.itc, .slice p.d.bo x.d.boxes.length p.d.boc, .int .i64 x.d.room, .int .i64 x.d.player, .int .i64 x.d.box, .slice p.at_ x.at_.length p.atc, .slice p.co x.coins.length p.coc, .slice p.wh x.wher.length p.whc]] w fun e w' => e = .returned (.bool (fitsB x)) ∧ Below w.heap.size w w' := by
  have HN := Lib.hid (Holds.new w #[.slice p.d.ex x.d.exits.length p.d.exc, .slice p.d.pl x.d.players.length p.d.plc, .slice p.d.co x.d.coins.length p.d.coc, .slice p.d.it x.d.items.length p.d.itc, .slice p.d.bo x.d.boxes.length p.d.boc, .int .i64 x.d.room, .int .i64 x.d.player, .int .i64 x.d.box, .slice p.at_ x.at_.length p.atc, .slice p.co x.coins.length p.coc, .slice p.wh x.wher.length p.whc] 29)
  have H := Lib.hid h
  clear h
  cases hf : fewB x
  · have HF := Lib.hid hf
    have HR := Lib.hid (show fitsB x = false by simp [fitsB, hf])
    clear hf
    go_enter Try.func9, Try.ntmps9
    go_wp2_with fail
    refine (few_any x p _).mono ?_
    rintro e w1 ⟨rfl, b1⟩
    rw [HF.out]
    have K1 := Lib.hid (HN.out.call b1)
    clear b1
    go_wp2_with fail
    go_ret
    exact ⟨ret_bool HR.out.symm, K1.out.1⟩
  · have HF := Lib.hid hf
    have HR := Lib.hid (show fitsB x = rightW x by simp [fitsB, hf])
    obtain ⟨r, hr⟩ : ∃ r, rightW x = r := ⟨_, rfl⟩
    have HRR := Lib.hid hr
    clear hf hr
    go_enter Try.func9, Try.ntmps9
    go_wp2_with fail
    refine (few_any x p _).mono ?_
    rintro e w1 ⟨rfl, b1⟩
    rw [HF.out]
    have K1 := Lib.hid (HN.out.call b1)
    have hc := K1.out.2.2
    have hl := K1.out.2.1
    clear b1
    go_wp2_with fail
    refine (refright_any x p _ (H.out.below K1.out.1 (Nat.le_refl _))).mono ?_
    rintro e w2 ⟨rfl, b2⟩
    rw [HRR.out]
    have K2 := Lib.hid (K1.out.call b2)
    clear b2 hc hl
    go_wp2_with fail
    go_ret
    exact ⟨ret_bool (by rw [HR.out, HRR.out]), K2.out.1⟩
end Go.Proofs.Ytdmfbbcidcfcjaa
