/- What the laws of ways begin with: answers that the document fixes; whether a world fits. -/
import Derived.Test.YtkhjmgedamndhaaRows
import Derived.Test.YtkhjmgedamndhaaKit
import Derived.Test.YtkhjmgedamndhaaSlices
import Derived.Test.YtkhjmgedamndhaaStrs
import Derived.Test.YtkhjmgedamndhaaCoin
import Derived.Test.YtkhjmgedamndhaaBlk
import Derived.Test.YtkhjmgedamndhaaHolds
import Derived.Test.YtkhjmgedamndhaaCmdInts
import Derived.Test.YtkhjmgedamndhaaWorldMath
import Derived.Test.YtkhjmgedamndhaaWorldAt
import Derived.Test.YtkhjmgedamndhaaDescNest
import Derived.Test.YtkhjmgedamndhaaDescRight
import Derived.Test.YtkhjmgedamndhaaDescCopy
import Derived.Test.YtkhjmgedamndhaaDescCopy2
import Derived.Test.YtkhjmgedamndhaaDescStore
import Derived.Test.YtkhjmgedamndhaaDescAs
import Derived.Test.YtkhjmgedamndhaaRefDescA
import Derived.Test.YtkhjmgedamndhaaRefRight
import Derived.Test.YtkhjmgedamndhaaRefSame
import Derived.Test.YtkhjmgedamndhaaTreeMath
import Derived.Test.YtkhjmgedamndhaaTreeIs
import Derived.Test.YtkhjmgedamndhaaRefNew3
import Derived.Test.YtkhjmgedamndhaaRefCopied
import Derived.Test.YtkhjmgedamndhaaWaysMath
import Derived.Test.YtkhjmgedamndhaaWaysA
import Derived.Test.YtkhjmgedamndhaaWaysB
import Derived.Test.YtkhjmgedamndhaaWaysC
import Derived.Test.YtkhjmgedamndhaaWaysD
import Derived.Test.YtkhjmgedamndhaaWaysE
import Derived.Deep.QuietTactic
import Derived.BigQuiet
import Derived.Deep.RegionHeld3
import Derived.WalkKit
import Derived.ProofKit
import Derived.OpenShut
import Derived.IntWalk
namespace Go.Proofs.Ytkhjmgedamndhaa
open Go.ChangeShapes Go.WideShapes Go.ChangeAt Go.RowKit
set_option linter.unusedVariables false
open Go.RowKit
def aD8 : Ds := ⟨[⟨1, -1, -1, -1⟩, ⟨-1, -1, 0, 1⟩], [0, 0, 1], [5, 5, 5], [], [], 0, 0, 0⟩
def aP8 (n : Nat) : Dp := ⟨some ⟨n, 0, none⟩, 2, some ⟨n + 1, 0, none⟩, 3, some ⟨n + 1 + 1, 0, none⟩, 3, none, 0, none, 0⟩
def aX8 : Wd := newW aD8
theorem aX8_right : rightW aX8 = true := by decide
theorem row8 {α : Type} {k : Nat} {enc : α → List Value} {W : World} {g : Nat} {t : TypeId} {cs : Array Value} {xs : List α} (h : Blk W g t cs) (hl : xs.length ≤ maxLen) (hc : ∀ i (hi : i < xs.length) j, j < k → cs[i * k + j]? = (enc xs[i])[j]?) : RowAt k enc W (some ⟨g, 0, none⟩) xs :=
  ⟨hl, .inr ⟨g, 0, rfl, h.lt, fun i hi j hj => by rw [Nat.zero_add, h.cell]; exact hc i hi j hj⟩⟩
theorem aD8_at {W : World} {n : Nat} (h0 : Blk W n 41 #[.int .i64 1, .int .i64 (-1), .int .i64 (-1), .int .i64 (-1), .int .i64 (-1), .int .i64 (-1), .int .i64 0, .int .i64 1]) (h1 : Blk W (n + 1) 3 #[.int .i64 0, .int .i64 0, .int .i64 1]) (h2 : Blk W (n + 1 + 1) 3 #[.int .i64 5, .int .i64 5, .int .i64 5]) : DescAt W (aP8 n) aD8 := by
  refine ⟨row8 h0 (by simp [aD8, maxLen]) ?_, ints_row.2 (row8 h1 (by simp [aD8, maxLen]) ?_), ints_row.2 (row8 h2 (by simp [aD8, maxLen]) ?_), IntsAt.nil _ _, RowAt.nil _ _⟩
  · intro i hi j hj
    obtain rfl | rfl : i = 0 ∨ i = 1 := by simp [aD8] at hi; omega
    all_goals obtain rfl | rfl | rfl | rfl : j = 0 ∨ j = 1 ∨ j = 2 ∨ j = 3 := by omega
    all_goals rfl
  all_goals
    intro i hi j hj
    obtain rfl : j = 0 := by omega
    obtain rfl | rfl | rfl : i = 0 ∨ i = 1 ∨ i = 2 := by simp [aD8] at hi; omega
    all_goals rfl
theorem aw8_start (w : World) : DescAt (((w.alloc (.cells #[.int .i64 1, .int .i64 (-1), .int .i64 (-1), .int .i64 (-1), .int .i64 (-1), .int .i64 (-1), .int .i64 0, .int .i64 1] 41)).alloc (.cells #[.int .i64 0, .int .i64 0, .int .i64 1] 3)).alloc (.cells #[.int .i64 5, .int .i64 5, .int .i64 5] 3)) (aP8 w.heap.size) aD8 ∧ Below w.heap.size w (((w.alloc (.cells #[.int .i64 1, .int .i64 (-1), .int .i64 (-1), .int .i64 (-1), .int .i64 (-1), .int .i64 (-1), .int .i64 0, .int .i64 1] 41)).alloc (.cells #[.int .i64 0, .int .i64 0, .int .i64 1] 3)).alloc (.cells #[.int .i64 5, .int .i64 5, .int .i64 5] 3)) := by
  have b0 := Blk.newn w 41 #[.int .i64 1, .int .i64 (-1), .int .i64 (-1), .int .i64 (-1), .int .i64 (-1), .int .i64 (-1), .int .i64 0, .int .i64 1] (n := w.heap.size) rfl
  have b1 := Blk.newn (w.alloc (.cells #[.int .i64 1, .int .i64 (-1), .int .i64 (-1), .int .i64 (-1), .int .i64 (-1), .int .i64 (-1), .int .i64 0, .int .i64 1] 41)) 3 #[.int .i64 0, .int .i64 0, .int .i64 1] (n := w.heap.size + 1) (by simp)
  have b2 := Blk.newn ((w.alloc (.cells #[.int .i64 1, .int .i64 (-1), .int .i64 (-1), .int .i64 (-1), .int .i64 (-1), .int .i64 (-1), .int .i64 0, .int .i64 1] 41)).alloc (.cells #[.int .i64 0, .int .i64 0, .int .i64 1] 3)) 3 #[.int .i64 5, .int .i64 5, .int .i64 5] (n := w.heap.size + 1 + 1) (by simp)
  exact ⟨aD8_at ((b0.alloc _).alloc _) (b1.alloc _) b2, (((Below.refl _ _).alloc (Nat.le_refl _) _).alloc (by simp) _).alloc (by simp; omega) _⟩
/-- awake's world, as New answers it. -/
theorem aw8_new (n : Nat) (W : World) (h : DescAt W (aP8 n) aD8) : Calls Try.prog 18 #[.agg #[.slice (some ⟨n, 0, none⟩) 2 2, .slice (some ⟨n + 1, 0, none⟩) 3 3, .slice (some ⟨n + 1 + 1, 0, none⟩) 3 3, .slice none 0 0, .slice none 0 0, .int .i64 0, .int .i64 0, .int .i64 0]] W fun e w' => ∃ (a k wh : Option Addr) (ac kc whc : Nat), e = .returned (.agg #[.slice (some ⟨n, 0, none⟩) 2 2, .slice (some ⟨n + 1, 0, none⟩) 3 3, .slice (some ⟨n + 1 + 1, 0, none⟩) 3 3, .slice none 0 0, .slice none 0 0, .int .i64 0, .int .i64 0, .int .i64 0, .slice a 3 ac, .slice k 3 kc, .slice wh 0 whc]) ∧ WorldAt w' ⟨aP8 n, a, ac, k, kc, wh, whc⟩ aX8 ∧ Below W.heap.size W w' := by
  refine (refnew_own aD8 (aP8 n) W h (by decide)).mono ?_
  rintro e w' ⟨x, ⟨d, a, ac, k, kc, wh, whc⟩, rfl, rfl, hw, hb, hn⟩
  obtain ⟨rfl, _⟩ := id hn
  exact ⟨a, k, wh, ac, kc, whc, rfl, hw, hb⟩
section
variable (n : Nat) (a k wh : Option Addr) (ac kc whc : Nat) (W : World) (h : WorldAt W ⟨aP8 n, a, ac, k, kc, wh, whc⟩ aX8)
include h
theorem aw8_move (d : Nat) (hd : d < 4) (y : Wd) (r e : Int) (hR : moveW aX8 0 d = (y, r, e)) : Calls Try.prog 9 #[.agg #[.slice (some ⟨n, 0, none⟩) 2 2, .slice (some ⟨n + 1, 0, none⟩) 3 3, .slice (some ⟨n + 1 + 1, 0, none⟩) 3 3, .slice none 0 0, .slice none 0 0, .int .i64 0, .int .i64 0, .int .i64 0, .slice a 3 ac, .slice k 3 kc, .slice wh 0 whc], .int .i64 0, .int .i64 (d : Int)] W fun e' w' => ∃ q : Wp, e' = .returned (.tuple #[.agg #[.slice q.d.ex 2 q.d.exc, .slice q.d.pl 3 q.d.plc, .slice q.d.co 3 q.d.coc, .slice q.d.it 0 q.d.itc, .slice q.d.bo 0 q.d.boc, .int .i64 0, .int .i64 0, .int .i64 0, .slice q.at_ 3 q.atc, .slice q.co 3 q.coc, .slice q.wh 0 q.whc], .int .i64 r, .int .i64 e]) ∧ IntsAt w' q.at_ y.at_ ∧ Below W.heap.size W w' := by
  refine (move_any aX8 ⟨aP8 n, a, ac, k, kc, wh, whc⟩ 0 d hd W aX8_right h (by decide)).mono ?_
  rintro e' w' ⟨q, rfl, hq, hb⟩
  rw [hR] at hq ⊢
  exact ⟨q, rfl, (hq.world (h.call hb)).at_, hb⟩
theorem aw8_push (q0 : Nat) (y : Wd) (r e : Int) (hR : pushW aX8 0 q0 0 = (y, r, e)) : Calls Try.prog 11 #[.agg #[.slice (some ⟨n, 0, none⟩) 2 2, .slice (some ⟨n + 1, 0, none⟩) 3 3, .slice (some ⟨n + 1 + 1, 0, none⟩) 3 3, .slice none 0 0, .slice none 0 0, .int .i64 0, .int .i64 0, .int .i64 0, .slice a 3 ac, .slice k 3 kc, .slice wh 0 whc], .int .i64 0, .int .i64 (q0 : Int), .int .i64 0] W fun e' w' => ∃ q : Wp, e' = .returned (.tuple #[.agg #[.slice q.d.ex 2 q.d.exc, .slice q.d.pl 3 q.d.plc, .slice q.d.co 3 q.d.coc, .slice q.d.it 0 q.d.itc, .slice q.d.bo 0 q.d.boc, .int .i64 0, .int .i64 0, .int .i64 0, .slice q.at_ 3 q.atc, .slice q.co 3 q.coc, .slice q.wh 0 q.whc], .int .i64 r, .int .i64 e]) ∧ IntsAt w' q.at_ y.at_ ∧ Below W.heap.size W w' := by
  refine (push_any aX8 ⟨aP8 n, a, ac, k, kc, wh, whc⟩ 0 q0 0 (by decide) W aX8_right h (by decide)).mono ?_
  rintro e' w' ⟨q, rfl, hq, hb⟩
  rw [hR] at hq ⊢
  exact ⟨q, rfl, (hq.world (h.call hb)).at_, hb⟩
theorem aw8_exit1 : Calls Try.prog 13 #[.agg #[.slice (some ⟨n, 0, none⟩) 2 2, .slice (some ⟨n + 1, 0, none⟩) 3 3, .slice (some ⟨n + 1 + 1, 0, none⟩) 3 3, .slice none 0 0, .slice none 0 0, .int .i64 0, .int .i64 0, .int .i64 0, .slice a 3 ac, .slice k 3 kc, .slice wh 0 whc], .int .i64 1, .int .i64 3] W fun e w' => e = .returned (.tuple #[.int .i64 1, .bool true]) ∧ Below W.heap.size W w' :=
  exit_any aX8 ⟨aP8 n, a, ac, k, kc, wh, whc⟩ 1 3 (by decide) (by decide) W h.d.ex
theorem aw8_exit0 : Calls Try.prog 13 #[.agg #[.slice (some ⟨n, 0, none⟩) 2 2, .slice (some ⟨n + 1, 0, none⟩) 3 3, .slice (some ⟨n + 1 + 1, 0, none⟩) 3 3, .slice none 0 0, .slice none 0 0, .int .i64 0, .int .i64 0, .int .i64 0, .slice a 3 ac, .slice k 3 kc, .slice wh 0 whc], .int .i64 0, .int .i64 3] W fun e w' => e = .returned (.tuple #[.int .i64 0, .bool false]) ∧ Below W.heap.size W w' :=
  exit_any aX8 ⟨aP8 n, a, ac, k, kc, wh, whc⟩ 0 3 (by decide) (by decide) W h.d.ex
end
theorem lit_ints (W : World) (xs : List Int) (cs : Array Value) (n : Nat) (hn : W.heap.size = n) (hl : xs.length ≤ maxLen) (hc : ∀ i (hi : i < xs.length), cs[i]? = some (.int .i64 xs[i])) : IntsAt (W.alloc (.cells cs 3)) (some ⟨n, 0, none⟩) xs := by
  subst hn
  exact Blk.ints (Blk.new W 3 cs) hl hc
theorem lit3 (a b c : Int) (i : Nat) (hi : i < [a, b, c].length) : (#[.int .i64 a, .int .i64 b, .int .i64 c] : Array Value)[i]? = some (.int .i64 [a, b, c][i]) := by
  obtain rfl | rfl | rfl : i = 0 ∨ i = 1 ∨ i = 2 := by simp at hi; omega
  all_goals rfl
theorem aw8_ints (W : World) (q : Option Addr) (c : Nat) (xs : List Int) (g : Nat) (hx : xs.length = 3) (h1 : IntsAt W q xs) (h2 : IntsAt W (some ⟨g, 0, none⟩) xs) : Calls Try.prog 17 #[.slice q 3 c, .slice (some ⟨g, 0, none⟩) 3 3] W fun e w' => e = .returned (.bool true) ∧ Below W.heap.size W w' := by
  have := ints_any q (some ⟨g, 0, none⟩) c 3 xs xs W h1 h2
  rw [hx] at this
  simpa using this
set_option maxRecDepth 100000 in
set_option maxHeartbeats 4000000 in
theorem awake8_any (w : World) : Calls Try.prog 7 #[] w fun e w' => e = .returned (.bool true) ∧ Below w.heap.size w w' := by
  have A0 := Lib.hid (aw8_start w)
  go_enter Try.func7, Try.ntmps7
  go_wp2_with fail
  generalize (((w.alloc (.cells #[.int .i64 1, .int .i64 (-1), .int .i64 (-1), .int .i64 (-1), .int .i64 (-1), .int .i64 (-1), .int .i64 0, .int .i64 1] 41)).alloc (.cells #[.int .i64 0, .int .i64 0, .int .i64 1] 3)).alloc (.cells #[.int .i64 5, .int .i64 5, .int .i64 5] 3)) = V0 at *
  have B_0 := Lib.hid A0.out.2
  refine (aw8_new w.heap.size V0 A0.out.1).mono ?_
  rintro e w1 ⟨a, k, wh, ac, kc, whc, rfl, hA, b1⟩
  have B_1 := Lib.hid (bl B_0.out b1)
  have A_1 := Lib.hid hA
  clear b1 hA B_0 A0
  go_wp2_with fail
  have s2 : (w1.alloc (.cells #[.slice (some ⟨w.heap.size, 0, none⟩) 2 2, .slice (some ⟨w.heap.size + 1, 0, none⟩) 3 3, .slice (some ⟨w.heap.size + 1 + 1, 0, none⟩) 3 3, .slice none 0 0, .slice none 0 0, .int .i64 0, .int .i64 0, .int .i64 0, .slice a 3 ac, .slice k 3 kc, .slice wh 0 whc] 29)).heap.size = w1.heap.size + 1 := by simp
  have B_2 := Lib.hid (B_1.out.alloc B_1.out.size (.cells #[.slice (some ⟨w.heap.size, 0, none⟩) 2 2, .slice (some ⟨w.heap.size + 1, 0, none⟩) 3 3, .slice (some ⟨w.heap.size + 1 + 1, 0, none⟩) 3 3, .slice none 0 0, .slice none 0 0, .int .i64 0, .int .i64 0, .int .i64 0, .slice a 3 ac, .slice k 3 kc, .slice wh 0 whc] 29))
  have A_2 := Lib.hid (A_1.out.call ((Below.refl _ _).alloc (Nat.le_refl _) (.cells #[.slice (some ⟨w.heap.size, 0, none⟩) 2 2, .slice (some ⟨w.heap.size + 1, 0, none⟩) 3 3, .slice (some ⟨w.heap.size + 1 + 1, 0, none⟩) 3 3, .slice none 0 0, .slice none 0 0, .int .i64 0, .int .i64 0, .int .i64 0, .slice a 3 ac, .slice k 3 kc, .slice wh 0 whc] 29)))
  have X_2 := Lib.hid (Holds.newb (w := w) (A := #[.slice (some ⟨w.heap.size, 0, none⟩) 2 2, .slice (some ⟨w.heap.size + 1, 0, none⟩) 3 3, .slice (some ⟨w.heap.size + 1 + 1, 0, none⟩) 3 3, .slice none 0 0, .slice none 0 0, .int .i64 0, .int .i64 0, .int .i64 0, .slice a 3 ac, .slice k 3 kc, .slice wh 0 whc]) (t := 29) (n := w1.heap.size) B_1.out rfl)
  clear B_1 A_1
  generalize w1.alloc (.cells #[.slice (some ⟨w.heap.size, 0, none⟩) 2 2, .slice (some ⟨w.heap.size + 1, 0, none⟩) 3 3, .slice (some ⟨w.heap.size + 1 + 1, 0, none⟩) 3 3, .slice none 0 0, .slice none 0 0, .int .i64 0, .int .i64 0, .int .i64 0, .slice a 3 ac, .slice k 3 kc, .slice wh 0 whc] 29) = V2 at *
  have hcX := X_2.out.2.2
  have hlX := X_2.out.2.1
  refine (aw8_move w.heap.size a k wh ac kc whc _ A_2.out 0 (by decide) (goW aX8 0 1) 1 0 (by decide)).mono ?_
  rintro e u3 ⟨⟨xd3, xa3, xac3, xk3, xkc3, xw3, xwc3⟩, rfl, i3, b3⟩
  clear hcX hlX
  have B_3 := Lib.hid (bl B_2.out b3)
  have X_3 := Lib.hid (X_2.out.call b3)
  have A_3 := Lib.hid (A_2.out.call b3)
  clear b3 B_2 X_2 A_2
  have hcX := X_3.out.2.2
  have hlX := X_3.out.2.1
  have I_3 := Lib.hid (show IntsAt u3 xa3 [1, 0, 1] from i3)
  clear i3
  go_wp2_with fail
  clear hcX hlX
  have s4 : (u3.alloc (.cells #[.slice xd3.ex 2 xd3.exc, .slice xd3.pl 3 xd3.plc, .slice xd3.co 3 xd3.coc, .slice xd3.it 0 xd3.itc, .slice xd3.bo 0 xd3.boc, .int .i64 0, .int .i64 0, .int .i64 0, .slice xa3 3 xac3, .slice xk3 3 xkc3, .slice xw3 0 xwc3] 29)).heap.size = u3.heap.size + 1 := by simp
  have B_4 := Lib.hid (B_3.out.alloc B_3.out.size (.cells #[.slice xd3.ex 2 xd3.exc, .slice xd3.pl 3 xd3.plc, .slice xd3.co 3 xd3.coc, .slice xd3.it 0 xd3.itc, .slice xd3.bo 0 xd3.boc, .int .i64 0, .int .i64 0, .int .i64 0, .slice xa3 3 xac3, .slice xk3 3 xkc3, .slice xw3 0 xwc3] 29))
  have X_4 := Lib.hid (X_3.out.alloc (.cells #[.slice xd3.ex 2 xd3.exc, .slice xd3.pl 3 xd3.plc, .slice xd3.co 3 xd3.coc, .slice xd3.it 0 xd3.itc, .slice xd3.bo 0 xd3.boc, .int .i64 0, .int .i64 0, .int .i64 0, .slice xa3 3 xac3, .slice xk3 3 xkc3, .slice xw3 0 xwc3] 29))
  have A_4 := Lib.hid (A_3.out.call ((Below.refl _ _).alloc (Nat.le_refl _) (.cells #[.slice xd3.ex 2 xd3.exc, .slice xd3.pl 3 xd3.plc, .slice xd3.co 3 xd3.coc, .slice xd3.it 0 xd3.itc, .slice xd3.bo 0 xd3.boc, .int .i64 0, .int .i64 0, .int .i64 0, .slice xa3 3 xac3, .slice xk3 3 xkc3, .slice xw3 0 xwc3] 29)))
  have I_4 := Lib.hid (I_3.out.call ((Below.refl _ _).alloc (Nat.le_refl _) (.cells #[.slice xd3.ex 2 xd3.exc, .slice xd3.pl 3 xd3.plc, .slice xd3.co 3 xd3.coc, .slice xd3.it 0 xd3.itc, .slice xd3.bo 0 xd3.boc, .int .i64 0, .int .i64 0, .int .i64 0, .slice xa3 3 xac3, .slice xk3 3 xkc3, .slice xw3 0 xwc3] 29)))
  have P_4 := Lib.hid (Holds.newb (w := w) (A := #[.slice xd3.ex 2 xd3.exc, .slice xd3.pl 3 xd3.plc, .slice xd3.co 3 xd3.coc, .slice xd3.it 0 xd3.itc, .slice xd3.bo 0 xd3.boc, .int .i64 0, .int .i64 0, .int .i64 0, .slice xa3 3 xac3, .slice xk3 3 xkc3, .slice xw3 0 xwc3]) (t := 29) (n := u3.heap.size) B_3.out rfl)
  clear B_3 X_3 A_3 I_3
  generalize u3.alloc (.cells #[.slice xd3.ex 2 xd3.exc, .slice xd3.pl 3 xd3.plc, .slice xd3.co 3 xd3.coc, .slice xd3.it 0 xd3.itc, .slice xd3.bo 0 xd3.boc, .int .i64 0, .int .i64 0, .int .i64 0, .slice xa3 3 xac3, .slice xk3 3 xkc3, .slice xw3 0 xwc3] 29) = V4 at *
  have hcX := X_4.out.2.2
  have hlX := X_4.out.2.1
  have hcP := P_4.out.2.2
  have hlP := P_4.out.2.1
  refine (aw8_move w.heap.size a k wh ac kc whc _ A_4.out 1 (by decide) aX8 0 4 (by decide)).mono ?_
  rintro e u5 ⟨⟨xd5, xa5, xac5, xk5, xkc5, xw5, xwc5⟩, rfl, i5, b5⟩
  clear hcX hlX hcP hlP
  have B_5 := Lib.hid (bl B_4.out b5)
  have X_5 := Lib.hid (X_4.out.call b5)
  have P_5 := Lib.hid (P_4.out.call b5)
  have A_5 := Lib.hid (A_4.out.call b5)
  have I_5 := Lib.hid (I_4.out.call b5)
  clear b5 B_4 X_4 P_4 A_4 I_4
  have hcX := X_5.out.2.2
  have hlX := X_5.out.2.1
  have hcP := P_5.out.2.2
  have hlP := P_5.out.2.1
  clear i5
  go_wp2_with fail
  clear hcX hlX hcP hlP
  have s6 : (u5.alloc (.cells #[.slice xd5.ex 2 xd5.exc, .slice xd5.pl 3 xd5.plc, .slice xd5.co 3 xd5.coc, .slice xd5.it 0 xd5.itc, .slice xd5.bo 0 xd5.boc, .int .i64 0, .int .i64 0, .int .i64 0, .slice xa5 3 xac5, .slice xk5 3 xkc5, .slice xw5 0 xwc5] 29)).heap.size = u5.heap.size + 1 := by simp
  have B_6 := Lib.hid (B_5.out.alloc B_5.out.size (.cells #[.slice xd5.ex 2 xd5.exc, .slice xd5.pl 3 xd5.plc, .slice xd5.co 3 xd5.coc, .slice xd5.it 0 xd5.itc, .slice xd5.bo 0 xd5.boc, .int .i64 0, .int .i64 0, .int .i64 0, .slice xa5 3 xac5, .slice xk5 3 xkc5, .slice xw5 0 xwc5] 29))
  have X_6 := Lib.hid (X_5.out.alloc (.cells #[.slice xd5.ex 2 xd5.exc, .slice xd5.pl 3 xd5.plc, .slice xd5.co 3 xd5.coc, .slice xd5.it 0 xd5.itc, .slice xd5.bo 0 xd5.boc, .int .i64 0, .int .i64 0, .int .i64 0, .slice xa5 3 xac5, .slice xk5 3 xkc5, .slice xw5 0 xwc5] 29))
  have P_6 := Lib.hid (P_5.out.alloc (.cells #[.slice xd5.ex 2 xd5.exc, .slice xd5.pl 3 xd5.plc, .slice xd5.co 3 xd5.coc, .slice xd5.it 0 xd5.itc, .slice xd5.bo 0 xd5.boc, .int .i64 0, .int .i64 0, .int .i64 0, .slice xa5 3 xac5, .slice xk5 3 xkc5, .slice xw5 0 xwc5] 29))
  have A_6 := Lib.hid (A_5.out.call ((Below.refl _ _).alloc (Nat.le_refl _) (.cells #[.slice xd5.ex 2 xd5.exc, .slice xd5.pl 3 xd5.plc, .slice xd5.co 3 xd5.coc, .slice xd5.it 0 xd5.itc, .slice xd5.bo 0 xd5.boc, .int .i64 0, .int .i64 0, .int .i64 0, .slice xa5 3 xac5, .slice xk5 3 xkc5, .slice xw5 0 xwc5] 29)))
  have I_6 := Lib.hid (I_5.out.call ((Below.refl _ _).alloc (Nat.le_refl _) (.cells #[.slice xd5.ex 2 xd5.exc, .slice xd5.pl 3 xd5.plc, .slice xd5.co 3 xd5.coc, .slice xd5.it 0 xd5.itc, .slice xd5.bo 0 xd5.boc, .int .i64 0, .int .i64 0, .int .i64 0, .slice xa5 3 xac5, .slice xk5 3 xkc5, .slice xw5 0 xwc5] 29)))
  clear B_5 X_5 P_5 A_5 I_5
  generalize u5.alloc (.cells #[.slice xd5.ex 2 xd5.exc, .slice xd5.pl 3 xd5.plc, .slice xd5.co 3 xd5.coc, .slice xd5.it 0 xd5.itc, .slice xd5.bo 0 xd5.boc, .int .i64 0, .int .i64 0, .int .i64 0, .slice xa5 3 xac5, .slice xk5 3 xkc5, .slice xw5 0 xwc5] 29) = V6 at *
  have hcX := X_6.out.2.2
  have hlX := X_6.out.2.1
  have hcP := P_6.out.2.2
  have hlP := P_6.out.2.1
  refine (aw8_push w.heap.size a k wh ac kc whc _ A_6.out 1 (goW aX8 1 1) 1 0 (by decide)).mono ?_
  rintro e u7 ⟨⟨xd7, xa7, xac7, xk7, xkc7, xw7, xwc7⟩, rfl, i7, b7⟩
  clear hcX hlX hcP hlP
  have B_7 := Lib.hid (bl B_6.out b7)
  have X_7 := Lib.hid (X_6.out.call b7)
  have P_7 := Lib.hid (P_6.out.call b7)
  have A_7 := Lib.hid (A_6.out.call b7)
  have I_7 := Lib.hid (I_6.out.call b7)
  clear b7 B_6 X_6 P_6 A_6 I_6
  have hcX := X_7.out.2.2
  have hlX := X_7.out.2.1
  have hcP := P_7.out.2.2
  have hlP := P_7.out.2.1
  have J_7 := Lib.hid (show IntsAt u7 xa7 [0, 1, 1] from i7)
  clear i7
  go_wp2_with fail
  clear hcX hlX hcP hlP
  have s8 : (u7.alloc (.cells #[.slice xd7.ex 2 xd7.exc, .slice xd7.pl 3 xd7.plc, .slice xd7.co 3 xd7.coc, .slice xd7.it 0 xd7.itc, .slice xd7.bo 0 xd7.boc, .int .i64 0, .int .i64 0, .int .i64 0, .slice xa7 3 xac7, .slice xk7 3 xkc7, .slice xw7 0 xwc7] 29)).heap.size = u7.heap.size + 1 := by simp
  have B_8 := Lib.hid (B_7.out.alloc B_7.out.size (.cells #[.slice xd7.ex 2 xd7.exc, .slice xd7.pl 3 xd7.plc, .slice xd7.co 3 xd7.coc, .slice xd7.it 0 xd7.itc, .slice xd7.bo 0 xd7.boc, .int .i64 0, .int .i64 0, .int .i64 0, .slice xa7 3 xac7, .slice xk7 3 xkc7, .slice xw7 0 xwc7] 29))
  have X_8 := Lib.hid (X_7.out.alloc (.cells #[.slice xd7.ex 2 xd7.exc, .slice xd7.pl 3 xd7.plc, .slice xd7.co 3 xd7.coc, .slice xd7.it 0 xd7.itc, .slice xd7.bo 0 xd7.boc, .int .i64 0, .int .i64 0, .int .i64 0, .slice xa7 3 xac7, .slice xk7 3 xkc7, .slice xw7 0 xwc7] 29))
  have P_8 := Lib.hid (P_7.out.alloc (.cells #[.slice xd7.ex 2 xd7.exc, .slice xd7.pl 3 xd7.plc, .slice xd7.co 3 xd7.coc, .slice xd7.it 0 xd7.itc, .slice xd7.bo 0 xd7.boc, .int .i64 0, .int .i64 0, .int .i64 0, .slice xa7 3 xac7, .slice xk7 3 xkc7, .slice xw7 0 xwc7] 29))
  have A_8 := Lib.hid (A_7.out.call ((Below.refl _ _).alloc (Nat.le_refl _) (.cells #[.slice xd7.ex 2 xd7.exc, .slice xd7.pl 3 xd7.plc, .slice xd7.co 3 xd7.coc, .slice xd7.it 0 xd7.itc, .slice xd7.bo 0 xd7.boc, .int .i64 0, .int .i64 0, .int .i64 0, .slice xa7 3 xac7, .slice xk7 3 xkc7, .slice xw7 0 xwc7] 29)))
  have I_8 := Lib.hid (I_7.out.call ((Below.refl _ _).alloc (Nat.le_refl _) (.cells #[.slice xd7.ex 2 xd7.exc, .slice xd7.pl 3 xd7.plc, .slice xd7.co 3 xd7.coc, .slice xd7.it 0 xd7.itc, .slice xd7.bo 0 xd7.boc, .int .i64 0, .int .i64 0, .int .i64 0, .slice xa7 3 xac7, .slice xk7 3 xkc7, .slice xw7 0 xwc7] 29)))
  have J_8 := Lib.hid (J_7.out.call ((Below.refl _ _).alloc (Nat.le_refl _) (.cells #[.slice xd7.ex 2 xd7.exc, .slice xd7.pl 3 xd7.plc, .slice xd7.co 3 xd7.coc, .slice xd7.it 0 xd7.itc, .slice xd7.bo 0 xd7.boc, .int .i64 0, .int .i64 0, .int .i64 0, .slice xa7 3 xac7, .slice xk7 3 xkc7, .slice xw7 0 xwc7] 29)))
  have Q_8 := Lib.hid (Holds.newb (w := w) (A := #[.slice xd7.ex 2 xd7.exc, .slice xd7.pl 3 xd7.plc, .slice xd7.co 3 xd7.coc, .slice xd7.it 0 xd7.itc, .slice xd7.bo 0 xd7.boc, .int .i64 0, .int .i64 0, .int .i64 0, .slice xa7 3 xac7, .slice xk7 3 xkc7, .slice xw7 0 xwc7]) (t := 29) (n := u7.heap.size) B_7.out rfl)
  clear B_7 X_7 P_7 A_7 I_7 J_7
  generalize u7.alloc (.cells #[.slice xd7.ex 2 xd7.exc, .slice xd7.pl 3 xd7.plc, .slice xd7.co 3 xd7.coc, .slice xd7.it 0 xd7.itc, .slice xd7.bo 0 xd7.boc, .int .i64 0, .int .i64 0, .int .i64 0, .slice xa7 3 xac7, .slice xk7 3 xkc7, .slice xw7 0 xwc7] 29) = V8 at *
  have hcX := X_8.out.2.2
  have hlX := X_8.out.2.1
  have hcP := P_8.out.2.2
  have hlP := P_8.out.2.1
  have hcQ := Q_8.out.2.2
  have hlQ := Q_8.out.2.1
  refine (aw8_push w.heap.size a k wh ac kc whc _ A_8.out 2 aX8 0 5 (by decide)).mono ?_
  rintro e u9 ⟨⟨xd9, xa9, xac9, xk9, xkc9, xw9, xwc9⟩, rfl, i9, b9⟩
  clear hcX hlX hcP hlP hcQ hlQ
  have B_9 := Lib.hid (bl B_8.out b9)
  have X_9 := Lib.hid (X_8.out.call b9)
  have P_9 := Lib.hid (P_8.out.call b9)
  have Q_9 := Lib.hid (Q_8.out.call b9)
  have A_9 := Lib.hid (A_8.out.call b9)
  have I_9 := Lib.hid (I_8.out.call b9)
  have J_9 := Lib.hid (J_8.out.call b9)
  clear b9 B_8 X_8 P_8 Q_8 A_8 I_8 J_8
  have hcX := X_9.out.2.2
  have hlX := X_9.out.2.1
  have hcP := P_9.out.2.2
  have hlP := P_9.out.2.1
  have hcQ := Q_9.out.2.2
  have hlQ := Q_9.out.2.1
  clear i9
  go_wp2_with fail
  clear hcX hlX hcP hlP hcQ hlQ
  have s10 : (u9.alloc (.cells #[.slice xd9.ex 2 xd9.exc, .slice xd9.pl 3 xd9.plc, .slice xd9.co 3 xd9.coc, .slice xd9.it 0 xd9.itc, .slice xd9.bo 0 xd9.boc, .int .i64 0, .int .i64 0, .int .i64 0, .slice xa9 3 xac9, .slice xk9 3 xkc9, .slice xw9 0 xwc9] 29)).heap.size = u9.heap.size + 1 := by simp
  have B_10 := Lib.hid (B_9.out.alloc B_9.out.size (.cells #[.slice xd9.ex 2 xd9.exc, .slice xd9.pl 3 xd9.plc, .slice xd9.co 3 xd9.coc, .slice xd9.it 0 xd9.itc, .slice xd9.bo 0 xd9.boc, .int .i64 0, .int .i64 0, .int .i64 0, .slice xa9 3 xac9, .slice xk9 3 xkc9, .slice xw9 0 xwc9] 29))
  have X_10 := Lib.hid (X_9.out.alloc (.cells #[.slice xd9.ex 2 xd9.exc, .slice xd9.pl 3 xd9.plc, .slice xd9.co 3 xd9.coc, .slice xd9.it 0 xd9.itc, .slice xd9.bo 0 xd9.boc, .int .i64 0, .int .i64 0, .int .i64 0, .slice xa9 3 xac9, .slice xk9 3 xkc9, .slice xw9 0 xwc9] 29))
  have P_10 := Lib.hid (P_9.out.alloc (.cells #[.slice xd9.ex 2 xd9.exc, .slice xd9.pl 3 xd9.plc, .slice xd9.co 3 xd9.coc, .slice xd9.it 0 xd9.itc, .slice xd9.bo 0 xd9.boc, .int .i64 0, .int .i64 0, .int .i64 0, .slice xa9 3 xac9, .slice xk9 3 xkc9, .slice xw9 0 xwc9] 29))
  have Q_10 := Lib.hid (Q_9.out.alloc (.cells #[.slice xd9.ex 2 xd9.exc, .slice xd9.pl 3 xd9.plc, .slice xd9.co 3 xd9.coc, .slice xd9.it 0 xd9.itc, .slice xd9.bo 0 xd9.boc, .int .i64 0, .int .i64 0, .int .i64 0, .slice xa9 3 xac9, .slice xk9 3 xkc9, .slice xw9 0 xwc9] 29))
  have A_10 := Lib.hid (A_9.out.call ((Below.refl _ _).alloc (Nat.le_refl _) (.cells #[.slice xd9.ex 2 xd9.exc, .slice xd9.pl 3 xd9.plc, .slice xd9.co 3 xd9.coc, .slice xd9.it 0 xd9.itc, .slice xd9.bo 0 xd9.boc, .int .i64 0, .int .i64 0, .int .i64 0, .slice xa9 3 xac9, .slice xk9 3 xkc9, .slice xw9 0 xwc9] 29)))
  have I_10 := Lib.hid (I_9.out.call ((Below.refl _ _).alloc (Nat.le_refl _) (.cells #[.slice xd9.ex 2 xd9.exc, .slice xd9.pl 3 xd9.plc, .slice xd9.co 3 xd9.coc, .slice xd9.it 0 xd9.itc, .slice xd9.bo 0 xd9.boc, .int .i64 0, .int .i64 0, .int .i64 0, .slice xa9 3 xac9, .slice xk9 3 xkc9, .slice xw9 0 xwc9] 29)))
  have J_10 := Lib.hid (J_9.out.call ((Below.refl _ _).alloc (Nat.le_refl _) (.cells #[.slice xd9.ex 2 xd9.exc, .slice xd9.pl 3 xd9.plc, .slice xd9.co 3 xd9.coc, .slice xd9.it 0 xd9.itc, .slice xd9.bo 0 xd9.boc, .int .i64 0, .int .i64 0, .int .i64 0, .slice xa9 3 xac9, .slice xk9 3 xkc9, .slice xw9 0 xwc9] 29)))
  clear B_9 X_9 P_9 Q_9 A_9 I_9 J_9
  generalize u9.alloc (.cells #[.slice xd9.ex 2 xd9.exc, .slice xd9.pl 3 xd9.plc, .slice xd9.co 3 xd9.coc, .slice xd9.it 0 xd9.itc, .slice xd9.bo 0 xd9.boc, .int .i64 0, .int .i64 0, .int .i64 0, .slice xa9 3 xac9, .slice xk9 3 xkc9, .slice xw9 0 xwc9] 29) = V10 at *
  have hcX := X_10.out.2.2
  have hlX := X_10.out.2.1
  have hcP := P_10.out.2.2
  have hlP := P_10.out.2.1
  have hcQ := Q_10.out.2.2
  have hlQ := Q_10.out.2.1
  refine (aw8_push w.heap.size a k wh ac kc whc _ A_10.out 0 aX8 0 12 (by decide)).mono ?_
  rintro e u11 ⟨⟨xd11, xa11, xac11, xk11, xkc11, xw11, xwc11⟩, rfl, i11, b11⟩
  clear hcX hlX hcP hlP hcQ hlQ
  have B_11 := Lib.hid (bl B_10.out b11)
  have X_11 := Lib.hid (X_10.out.call b11)
  have P_11 := Lib.hid (P_10.out.call b11)
  have Q_11 := Lib.hid (Q_10.out.call b11)
  have A_11 := Lib.hid (A_10.out.call b11)
  have I_11 := Lib.hid (I_10.out.call b11)
  have J_11 := Lib.hid (J_10.out.call b11)
  clear b11 B_10 X_10 P_10 Q_10 A_10 I_10 J_10
  have hcX := X_11.out.2.2
  have hlX := X_11.out.2.1
  have hcP := P_11.out.2.2
  have hlP := P_11.out.2.1
  have hcQ := Q_11.out.2.2
  have hlQ := Q_11.out.2.1
  clear i11
  go_wp2_with fail
  clear hcX hlX hcP hlP hcQ hlQ
  have s12 : (u11.alloc (.cells #[.slice xd11.ex 2 xd11.exc, .slice xd11.pl 3 xd11.plc, .slice xd11.co 3 xd11.coc, .slice xd11.it 0 xd11.itc, .slice xd11.bo 0 xd11.boc, .int .i64 0, .int .i64 0, .int .i64 0, .slice xa11 3 xac11, .slice xk11 3 xkc11, .slice xw11 0 xwc11] 29)).heap.size = u11.heap.size + 1 := by simp
  have B_12 := Lib.hid (B_11.out.alloc B_11.out.size (.cells #[.slice xd11.ex 2 xd11.exc, .slice xd11.pl 3 xd11.plc, .slice xd11.co 3 xd11.coc, .slice xd11.it 0 xd11.itc, .slice xd11.bo 0 xd11.boc, .int .i64 0, .int .i64 0, .int .i64 0, .slice xa11 3 xac11, .slice xk11 3 xkc11, .slice xw11 0 xwc11] 29))
  have X_12 := Lib.hid (X_11.out.alloc (.cells #[.slice xd11.ex 2 xd11.exc, .slice xd11.pl 3 xd11.plc, .slice xd11.co 3 xd11.coc, .slice xd11.it 0 xd11.itc, .slice xd11.bo 0 xd11.boc, .int .i64 0, .int .i64 0, .int .i64 0, .slice xa11 3 xac11, .slice xk11 3 xkc11, .slice xw11 0 xwc11] 29))
  have P_12 := Lib.hid (P_11.out.alloc (.cells #[.slice xd11.ex 2 xd11.exc, .slice xd11.pl 3 xd11.plc, .slice xd11.co 3 xd11.coc, .slice xd11.it 0 xd11.itc, .slice xd11.bo 0 xd11.boc, .int .i64 0, .int .i64 0, .int .i64 0, .slice xa11 3 xac11, .slice xk11 3 xkc11, .slice xw11 0 xwc11] 29))
  have Q_12 := Lib.hid (Q_11.out.alloc (.cells #[.slice xd11.ex 2 xd11.exc, .slice xd11.pl 3 xd11.plc, .slice xd11.co 3 xd11.coc, .slice xd11.it 0 xd11.itc, .slice xd11.bo 0 xd11.boc, .int .i64 0, .int .i64 0, .int .i64 0, .slice xa11 3 xac11, .slice xk11 3 xkc11, .slice xw11 0 xwc11] 29))
  have A_12 := Lib.hid (A_11.out.call ((Below.refl _ _).alloc (Nat.le_refl _) (.cells #[.slice xd11.ex 2 xd11.exc, .slice xd11.pl 3 xd11.plc, .slice xd11.co 3 xd11.coc, .slice xd11.it 0 xd11.itc, .slice xd11.bo 0 xd11.boc, .int .i64 0, .int .i64 0, .int .i64 0, .slice xa11 3 xac11, .slice xk11 3 xkc11, .slice xw11 0 xwc11] 29)))
  have I_12 := Lib.hid (I_11.out.call ((Below.refl _ _).alloc (Nat.le_refl _) (.cells #[.slice xd11.ex 2 xd11.exc, .slice xd11.pl 3 xd11.plc, .slice xd11.co 3 xd11.coc, .slice xd11.it 0 xd11.itc, .slice xd11.bo 0 xd11.boc, .int .i64 0, .int .i64 0, .int .i64 0, .slice xa11 3 xac11, .slice xk11 3 xkc11, .slice xw11 0 xwc11] 29)))
  have J_12 := Lib.hid (J_11.out.call ((Below.refl _ _).alloc (Nat.le_refl _) (.cells #[.slice xd11.ex 2 xd11.exc, .slice xd11.pl 3 xd11.plc, .slice xd11.co 3 xd11.coc, .slice xd11.it 0 xd11.itc, .slice xd11.bo 0 xd11.boc, .int .i64 0, .int .i64 0, .int .i64 0, .slice xa11 3 xac11, .slice xk11 3 xkc11, .slice xw11 0 xwc11] 29)))
  clear B_11 X_11 P_11 Q_11 A_11 I_11 J_11
  generalize u11.alloc (.cells #[.slice xd11.ex 2 xd11.exc, .slice xd11.pl 3 xd11.plc, .slice xd11.co 3 xd11.coc, .slice xd11.it 0 xd11.itc, .slice xd11.bo 0 xd11.boc, .int .i64 0, .int .i64 0, .int .i64 0, .slice xa11 3 xac11, .slice xk11 3 xkc11, .slice xw11 0 xwc11] 29) = V12 at *
  have hcX := X_12.out.2.2
  have hlX := X_12.out.2.1
  have hcP := P_12.out.2.2
  have hlP := P_12.out.2.1
  have hcQ := Q_12.out.2.2
  have hlQ := Q_12.out.2.1
  refine (aw8_push w.heap.size a k wh ac kc whc _ A_12.out 3 aX8 0 3 (by decide)).mono ?_
  rintro e u13 ⟨⟨xd13, xa13, xac13, xk13, xkc13, xw13, xwc13⟩, rfl, i13, b13⟩
  clear hcX hlX hcP hlP hcQ hlQ
  have B_13 := Lib.hid (bl B_12.out b13)
  have X_13 := Lib.hid (X_12.out.call b13)
  have P_13 := Lib.hid (P_12.out.call b13)
  have Q_13 := Lib.hid (Q_12.out.call b13)
  have A_13 := Lib.hid (A_12.out.call b13)
  have I_13 := Lib.hid (I_12.out.call b13)
  have J_13 := Lib.hid (J_12.out.call b13)
  clear b13 B_12 X_12 P_12 Q_12 A_12 I_12 J_12
  have hcX := X_13.out.2.2
  have hlX := X_13.out.2.1
  have hcP := P_13.out.2.2
  have hlP := P_13.out.2.1
  have hcQ := Q_13.out.2.2
  have hlQ := Q_13.out.2.1
  clear i13
  go_wp2_with fail
  clear hcX hlX hcP hlP hcQ hlQ
  have s14 : (u13.alloc (.cells #[.slice xd13.ex 2 xd13.exc, .slice xd13.pl 3 xd13.plc, .slice xd13.co 3 xd13.coc, .slice xd13.it 0 xd13.itc, .slice xd13.bo 0 xd13.boc, .int .i64 0, .int .i64 0, .int .i64 0, .slice xa13 3 xac13, .slice xk13 3 xkc13, .slice xw13 0 xwc13] 29)).heap.size = u13.heap.size + 1 := by simp
  have B_14 := Lib.hid (B_13.out.alloc B_13.out.size (.cells #[.slice xd13.ex 2 xd13.exc, .slice xd13.pl 3 xd13.plc, .slice xd13.co 3 xd13.coc, .slice xd13.it 0 xd13.itc, .slice xd13.bo 0 xd13.boc, .int .i64 0, .int .i64 0, .int .i64 0, .slice xa13 3 xac13, .slice xk13 3 xkc13, .slice xw13 0 xwc13] 29))
  have X_14 := Lib.hid (X_13.out.alloc (.cells #[.slice xd13.ex 2 xd13.exc, .slice xd13.pl 3 xd13.plc, .slice xd13.co 3 xd13.coc, .slice xd13.it 0 xd13.itc, .slice xd13.bo 0 xd13.boc, .int .i64 0, .int .i64 0, .int .i64 0, .slice xa13 3 xac13, .slice xk13 3 xkc13, .slice xw13 0 xwc13] 29))
  have P_14 := Lib.hid (P_13.out.alloc (.cells #[.slice xd13.ex 2 xd13.exc, .slice xd13.pl 3 xd13.plc, .slice xd13.co 3 xd13.coc, .slice xd13.it 0 xd13.itc, .slice xd13.bo 0 xd13.boc, .int .i64 0, .int .i64 0, .int .i64 0, .slice xa13 3 xac13, .slice xk13 3 xkc13, .slice xw13 0 xwc13] 29))
  have Q_14 := Lib.hid (Q_13.out.alloc (.cells #[.slice xd13.ex 2 xd13.exc, .slice xd13.pl 3 xd13.plc, .slice xd13.co 3 xd13.coc, .slice xd13.it 0 xd13.itc, .slice xd13.bo 0 xd13.boc, .int .i64 0, .int .i64 0, .int .i64 0, .slice xa13 3 xac13, .slice xk13 3 xkc13, .slice xw13 0 xwc13] 29))
  have A_14 := Lib.hid (A_13.out.call ((Below.refl _ _).alloc (Nat.le_refl _) (.cells #[.slice xd13.ex 2 xd13.exc, .slice xd13.pl 3 xd13.plc, .slice xd13.co 3 xd13.coc, .slice xd13.it 0 xd13.itc, .slice xd13.bo 0 xd13.boc, .int .i64 0, .int .i64 0, .int .i64 0, .slice xa13 3 xac13, .slice xk13 3 xkc13, .slice xw13 0 xwc13] 29)))
  have I_14 := Lib.hid (I_13.out.call ((Below.refl _ _).alloc (Nat.le_refl _) (.cells #[.slice xd13.ex 2 xd13.exc, .slice xd13.pl 3 xd13.plc, .slice xd13.co 3 xd13.coc, .slice xd13.it 0 xd13.itc, .slice xd13.bo 0 xd13.boc, .int .i64 0, .int .i64 0, .int .i64 0, .slice xa13 3 xac13, .slice xk13 3 xkc13, .slice xw13 0 xwc13] 29)))
  have J_14 := Lib.hid (J_13.out.call ((Below.refl _ _).alloc (Nat.le_refl _) (.cells #[.slice xd13.ex 2 xd13.exc, .slice xd13.pl 3 xd13.plc, .slice xd13.co 3 xd13.coc, .slice xd13.it 0 xd13.itc, .slice xd13.bo 0 xd13.boc, .int .i64 0, .int .i64 0, .int .i64 0, .slice xa13 3 xac13, .slice xk13 3 xkc13, .slice xw13 0 xwc13] 29)))
  clear B_13 X_13 P_13 Q_13 A_13 I_13 J_13
  generalize u13.alloc (.cells #[.slice xd13.ex 2 xd13.exc, .slice xd13.pl 3 xd13.plc, .slice xd13.co 3 xd13.coc, .slice xd13.it 0 xd13.itc, .slice xd13.bo 0 xd13.boc, .int .i64 0, .int .i64 0, .int .i64 0, .slice xa13 3 xac13, .slice xk13 3 xkc13, .slice xw13 0 xwc13] 29) = V14 at *
  have hcX := X_14.out.2.2
  have hlX := X_14.out.2.1
  have hcP := P_14.out.2.2
  have hlP := P_14.out.2.1
  have hcQ := Q_14.out.2.2
  have hlQ := Q_14.out.2.1
  refine (aw8_exit1 w.heap.size a k wh ac kc whc _ A_14.out).mono ?_
  rintro e u15 ⟨rfl, b15⟩
  clear hcX hlX hcP hlP hcQ hlQ
  have B_15 := Lib.hid (bl B_14.out b15)
  have X_15 := Lib.hid (X_14.out.call b15)
  have P_15 := Lib.hid (P_14.out.call b15)
  have Q_15 := Lib.hid (Q_14.out.call b15)
  have A_15 := Lib.hid (A_14.out.call b15)
  have I_15 := Lib.hid (I_14.out.call b15)
  have J_15 := Lib.hid (J_14.out.call b15)
  clear b15 B_14 X_14 P_14 Q_14 A_14 I_14 J_14
  have hcX := X_15.out.2.2
  have hlX := X_15.out.2.1
  have hcP := P_15.out.2.2
  have hlP := P_15.out.2.1
  have hcQ := Q_15.out.2.2
  have hlQ := Q_15.out.2.1
  go_wp2_with fail
  refine (aw8_exit0 w.heap.size a k wh ac kc whc _ A_15.out).mono ?_
  rintro e u16 ⟨rfl, b16⟩
  clear hcX hlX hcP hlP hcQ hlQ
  have B_16 := Lib.hid (bl B_15.out b16)
  have X_16 := Lib.hid (X_15.out.call b16)
  have P_16 := Lib.hid (P_15.out.call b16)
  have Q_16 := Lib.hid (Q_15.out.call b16)
  have A_16 := Lib.hid (A_15.out.call b16)
  have I_16 := Lib.hid (I_15.out.call b16)
  have J_16 := Lib.hid (J_15.out.call b16)
  clear b16 B_15 X_15 P_15 Q_15 A_15 I_15 J_15
  have hcX := X_16.out.2.2
  have hlX := X_16.out.2.1
  have hcP := P_16.out.2.2
  have hlP := P_16.out.2.1
  have hcQ := Q_16.out.2.2
  have hlQ := Q_16.out.2.1
  go_wp2_with fail
  have L1 := Lib.hid (lit_ints u16 [1, 0, 1] #[.int .i64 1, .int .i64 0, .int .i64 1] _ rfl (by simp [maxLen]) (lit3 _ _ _))
  clear hcX hlX hcP hlP hcQ hlQ
  have s17 : (u16.alloc (.cells #[.int .i64 1, .int .i64 0, .int .i64 1] 3)).heap.size = u16.heap.size + 1 := by simp
  have B_17 := Lib.hid (B_16.out.alloc B_16.out.size (.cells #[.int .i64 1, .int .i64 0, .int .i64 1] 3))
  have X_17 := Lib.hid (X_16.out.alloc (.cells #[.int .i64 1, .int .i64 0, .int .i64 1] 3))
  have P_17 := Lib.hid (P_16.out.alloc (.cells #[.int .i64 1, .int .i64 0, .int .i64 1] 3))
  have Q_17 := Lib.hid (Q_16.out.alloc (.cells #[.int .i64 1, .int .i64 0, .int .i64 1] 3))
  have A_17 := Lib.hid (A_16.out.call ((Below.refl _ _).alloc (Nat.le_refl _) (.cells #[.int .i64 1, .int .i64 0, .int .i64 1] 3)))
  have I_17 := Lib.hid (I_16.out.call ((Below.refl _ _).alloc (Nat.le_refl _) (.cells #[.int .i64 1, .int .i64 0, .int .i64 1] 3)))
  have J_17 := Lib.hid (J_16.out.call ((Below.refl _ _).alloc (Nat.le_refl _) (.cells #[.int .i64 1, .int .i64 0, .int .i64 1] 3)))
  clear B_16 X_16 P_16 Q_16 A_16 I_16 J_16
  generalize u16.alloc (.cells #[.int .i64 1, .int .i64 0, .int .i64 1] 3) = V17 at *
  have hcX := X_17.out.2.2
  have hlX := X_17.out.2.1
  have hcP := P_17.out.2.2
  have hlP := P_17.out.2.1
  have hcQ := Q_17.out.2.2
  have hlQ := Q_17.out.2.1
  refine (aw8_ints _ xa3 xac3 [1, 0, 1] _ rfl I_17.out L1.out).mono ?_
  rintro e u18 ⟨rfl, b18⟩
  clear hcX hlX hcP hlP hcQ hlQ
  have B_18 := Lib.hid (bl B_17.out b18)
  have X_18 := Lib.hid (X_17.out.call b18)
  have P_18 := Lib.hid (P_17.out.call b18)
  have Q_18 := Lib.hid (Q_17.out.call b18)
  have A_18 := Lib.hid (A_17.out.call b18)
  have I_18 := Lib.hid (I_17.out.call b18)
  have J_18 := Lib.hid (J_17.out.call b18)
  clear b18 B_17 X_17 P_17 Q_17 A_17 I_17 J_17
  have hcX := X_18.out.2.2
  have hlX := X_18.out.2.1
  have hcP := P_18.out.2.2
  have hlP := P_18.out.2.1
  have hcQ := Q_18.out.2.2
  have hlQ := Q_18.out.2.1
  go_wp2_with fail
  have L2 := Lib.hid (lit_ints u18 [0, 1, 1] #[.int .i64 0, .int .i64 1, .int .i64 1] _ rfl (by simp [maxLen]) (lit3 _ _ _))
  clear hcX hlX hcP hlP hcQ hlQ
  have s19 : (u18.alloc (.cells #[.int .i64 0, .int .i64 1, .int .i64 1] 3)).heap.size = u18.heap.size + 1 := by simp
  have B_19 := Lib.hid (B_18.out.alloc B_18.out.size (.cells #[.int .i64 0, .int .i64 1, .int .i64 1] 3))
  have X_19 := Lib.hid (X_18.out.alloc (.cells #[.int .i64 0, .int .i64 1, .int .i64 1] 3))
  have P_19 := Lib.hid (P_18.out.alloc (.cells #[.int .i64 0, .int .i64 1, .int .i64 1] 3))
  have Q_19 := Lib.hid (Q_18.out.alloc (.cells #[.int .i64 0, .int .i64 1, .int .i64 1] 3))
  have A_19 := Lib.hid (A_18.out.call ((Below.refl _ _).alloc (Nat.le_refl _) (.cells #[.int .i64 0, .int .i64 1, .int .i64 1] 3)))
  have I_19 := Lib.hid (I_18.out.call ((Below.refl _ _).alloc (Nat.le_refl _) (.cells #[.int .i64 0, .int .i64 1, .int .i64 1] 3)))
  have J_19 := Lib.hid (J_18.out.call ((Below.refl _ _).alloc (Nat.le_refl _) (.cells #[.int .i64 0, .int .i64 1, .int .i64 1] 3)))
  clear B_18 X_18 P_18 Q_18 A_18 I_18 J_18
  generalize u18.alloc (.cells #[.int .i64 0, .int .i64 1, .int .i64 1] 3) = V19 at *
  have hcX := X_19.out.2.2
  have hlX := X_19.out.2.1
  have hcP := P_19.out.2.2
  have hlP := P_19.out.2.1
  have hcQ := Q_19.out.2.2
  have hlQ := Q_19.out.2.1
  refine (aw8_ints _ xa7 xac7 [0, 1, 1] _ rfl J_19.out L2.out).mono ?_
  rintro e u20 ⟨rfl, b20⟩
  clear hcX hlX hcP hlP hcQ hlQ
  have B_20 := Lib.hid (bl B_19.out b20)
  have X_20 := Lib.hid (X_19.out.call b20)
  have P_20 := Lib.hid (P_19.out.call b20)
  have Q_20 := Lib.hid (Q_19.out.call b20)
  have A_20 := Lib.hid (A_19.out.call b20)
  have I_20 := Lib.hid (I_19.out.call b20)
  have J_20 := Lib.hid (J_19.out.call b20)
  clear b20 B_19 X_19 P_19 Q_19 A_19 I_19 J_19
  have hcX := X_20.out.2.2
  have hlX := X_20.out.2.1
  have hcP := P_20.out.2.2
  have hlP := P_20.out.2.1
  have hcQ := Q_20.out.2.2
  have hlQ := Q_20.out.2.1
  go_wp2_with fail
  go_ret
  exact ⟨rfl, B_20.out⟩
set_option maxRecDepth 100000 in
theorem fits8_any (x : Wd) (p : Wp) (w : World) (h : WorldAt w p x) : Calls Try.prog 8 #[.agg #[.slice p.d.ex x.d.exits.length p.d.exc, .slice p.d.pl x.d.players.length p.d.plc, .slice p.d.co x.d.coins.length p.d.coc, .slice p.d.it x.d.items.length p.d.itc, .slice p.d.bo x.d.boxes.length p.d.boc, .int .i64 x.d.room, .int .i64 x.d.player, .int .i64 x.d.box, .slice p.at_ x.at_.length p.atc, .slice p.co x.coins.length p.coc, .slice p.wh x.wher.length p.whc]] w fun e w' => e = .returned (.bool (fitsB x)) ∧ Below w.heap.size w w' := by
  have HN := Lib.hid (Holds.new w #[.slice p.d.ex x.d.exits.length p.d.exc, .slice p.d.pl x.d.players.length p.d.plc, .slice p.d.co x.d.coins.length p.d.coc, .slice p.d.it x.d.items.length p.d.itc, .slice p.d.bo x.d.boxes.length p.d.boc, .int .i64 x.d.room, .int .i64 x.d.player, .int .i64 x.d.box, .slice p.at_ x.at_.length p.atc, .slice p.co x.coins.length p.coc, .slice p.wh x.wher.length p.whc] 29)
  have H := Lib.hid h
  clear h
  cases hf : fewB x
  · have HF := Lib.hid hf
    have HR := Lib.hid (show fitsB x = false by simp [fitsB, hf])
    clear hf
    go_enter Try.func8, Try.ntmps8
    go_wp2_with fail
    refine (few_any x p _).mono ?_
    rintro e w1 ⟨rfl, b1⟩
    rw [HF.out]
    have K1 := Lib.hid (HN.out.call b1)
    clear b1
    go_wp2_with fail
    go_ret
    exact ⟨ret_bool HR.out.symm, K1.out.1⟩
  · have HF := Lib.hid hf
    have HR := Lib.hid (show fitsB x = rightW x by simp [fitsB, hf])
    obtain ⟨r, hr⟩ : ∃ r, rightW x = r := ⟨_, rfl⟩
    have HRR := Lib.hid hr
    clear hf hr
    go_enter Try.func8, Try.ntmps8
    go_wp2_with fail
    refine (few_any x p _).mono ?_
    rintro e w1 ⟨rfl, b1⟩
    rw [HF.out]
    have K1 := Lib.hid (HN.out.call b1)
    have hc := K1.out.2.2
    have hl := K1.out.2.1
    clear b1
    go_wp2_with fail
    refine (refright_any x p _ (H.out.below K1.out.1 (Nat.le_refl _))).mono ?_
    rintro e w2 ⟨rfl, b2⟩
    rw [HRR.out]
    have K2 := Lib.hid (K1.out.call b2)
    clear b2 hc hl
    go_wp2_with fail
    go_ret
    exact ⟨ret_bool (by rw [HR.out, HRR.out]), K2.out.1⟩
/-- Two values of one shape, the same or not. -/
theorem rsame_as {x y u v : Wd} (hs : Shape x y) (ht : Shape u v) (p q : Wp) (w : World) (h1 : WorldAt w p y) (h2 : WorldAt w q v) : Calls Try.prog 14 #[.agg #[.slice p.d.ex x.d.exits.length p.d.exc, .slice p.d.pl x.d.players.length p.d.plc, .slice p.d.co x.d.coins.length p.d.coc, .slice p.d.it x.d.items.length p.d.itc, .slice p.d.bo x.d.boxes.length p.d.boc, .int .i64 x.d.room, .int .i64 x.d.player, .int .i64 x.d.box, .slice p.at_ x.at_.length p.atc, .slice p.co x.coins.length p.coc, .slice p.wh x.wher.length p.whc], .agg #[.slice q.d.ex u.d.exits.length q.d.exc, .slice q.d.pl u.d.players.length q.d.plc, .slice q.d.co u.d.coins.length q.d.coc, .slice q.d.it u.d.items.length q.d.itc, .slice q.d.bo u.d.boxes.length q.d.boc, .int .i64 u.d.room, .int .i64 u.d.player, .int .i64 u.d.box, .slice q.at_ u.at_.length q.atc, .slice q.co u.coins.length q.coc, .slice q.wh u.wher.length q.whc]] w fun e w' => e = .returned (.bool (decide (y = v))) ∧ Below w.heap.size w w' := by
  have := refsame_any y v p q w h1 h2
  rwa [hs.val, ht.val] at this
theorem rsame_yes {x y u v : Wd} (hs : Shape x y) (ht : Shape u v) (he : y = v) (p q : Wp) (w : World) (h1 : WorldAt w p y) (h2 : WorldAt w q v) : Calls Try.prog 14 #[.agg #[.slice p.d.ex x.d.exits.length p.d.exc, .slice p.d.pl x.d.players.length p.d.plc, .slice p.d.co x.d.coins.length p.d.coc, .slice p.d.it x.d.items.length p.d.itc, .slice p.d.bo x.d.boxes.length p.d.boc, .int .i64 x.d.room, .int .i64 x.d.player, .int .i64 x.d.box, .slice p.at_ x.at_.length p.atc, .slice p.co x.coins.length p.coc, .slice p.wh x.wher.length p.whc], .agg #[.slice q.d.ex u.d.exits.length q.d.exc, .slice q.d.pl u.d.players.length q.d.plc, .slice q.d.co u.d.coins.length q.d.coc, .slice q.d.it u.d.items.length q.d.itc, .slice q.d.bo u.d.boxes.length q.d.boc, .int .i64 u.d.room, .int .i64 u.d.player, .int .i64 u.d.box, .slice q.at_ u.at_.length q.atc, .slice q.co u.coins.length q.coc, .slice q.wh u.wher.length q.whc]] w fun e w' => e = .returned (.bool true) ∧ Below w.heap.size w w' := by
  have := rsame_as hs ht p q w h1 h2
  rwa [decide_eq_true he] at this
theorem rright_as {x y : Wd} (hs : Shape x y) (p : Wp) (w : World) (h : WorldAt w p y) : Calls Try.prog 15 #[.agg #[.slice p.d.ex x.d.exits.length p.d.exc, .slice p.d.pl x.d.players.length p.d.plc, .slice p.d.co x.d.coins.length p.d.coc, .slice p.d.it x.d.items.length p.d.itc, .slice p.d.bo x.d.boxes.length p.d.boc, .int .i64 x.d.room, .int .i64 x.d.player, .int .i64 x.d.box, .slice p.at_ x.at_.length p.atc, .slice p.co x.coins.length p.coc, .slice p.wh x.wher.length p.whc]] w fun e w' => e = .returned (.bool (rightW y)) ∧ Below w.heap.size w w' := by
  have := refright_any y p w h
  rwa [hs.val] at this
end Go.Proofs.Ytkhjmgedamndhaa
