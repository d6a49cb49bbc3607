import Derived.Test.YtameelaiigljjaaRows
import Derived.Test.YtameelaiigljjaaKit
import Derived.Test.YtameelaiigljjaaJMem
import Derived.Test.YtameelaiigljjaaCoin
import Derived.Test.YtameelaiigljjaaJWorld
import Derived.Test.YtameelaiigljjaaJDesc
import Derived.Test.YtameelaiigljjaaJRefA
import Derived.Test.YtameelaiigljjaaJRefNew
import Derived.Test.YtameelaiigljjaaJSame
import Derived.Test.YtameelaiigljjaaJTreeList
import Derived.Test.YtameelaiigljjaaJTreeRoot
import Derived.Test.YtameelaiigljjaaJTreeDepth
import Derived.Test.YtameelaiigljjaaJTreeWithin
import Derived.Test.YtameelaiigljjaaJTreeHeight
import Derived.Test.YtameelaiigljjaaJTreeIn
import Derived.Test.YtameelaiigljjaaJTreeUnder
import Derived.Test.YtameelaiigljjaaJTreeRoom
import Derived.Deep.QuietTactic
import Derived.BigQuiet
import Derived.Deep.RegionHeld3
import Derived.WalkKit
import Derived.ProofKit
import Derived.OpenShut
import Derived.IntWalk
/- tree's awake: answers that the document fixes. -/
namespace Go.Proofs.Ytameelaiigljjaa
open Go.ChangeShapes Go.WideShapes Go.ChangeAt Go.RowKit
set_option linter.unusedVariables false
open Go.RowKit
def aD7 : Ds := ⟨[⟨0, 0, 0, 0⟩, ⟨0, 0, 0, 0⟩], [1], [5], [0, 0, 1], [true, true, true], 3, 4, 2⟩
def aX7 : Wd := ⟨aD7, [1], [5], [⟨1, 0⟩, ⟨2, 0⟩, ⟨0, 1⟩]⟩
def aP7 (n : Nat) : Dp := ⟨some ⟨n, 0, none⟩, 2, some ⟨n + 1, 0, none⟩, 1, some ⟨n + 1 + 1, 0, none⟩, 1, some ⟨n + 1 + 1 + 1, 0, none⟩, 3, some ⟨n + 1 + 1 + 1 + 1, 0, none⟩, 3⟩
theorem aX7_tr : Tr aX7.wher := ⟨by decide, by decide⟩
theorem exits_info : (Try.prog.info? 56).map (fun i => (i.zero, i.size, i.bytes)) = some (some (.agg #[.int .i64 0, .int .i64 0, .int .i64 0, .int .i64 0]), 4, 32) := by kernel_rfl
theorem make_exits (W : World) : (Instr.makeSlice 22 (.int .i64 2) (.int .i64 2)).run Try.prog W = .ok (.slice (some ⟨W.heap.size, 0, none⟩) 2 2) (W.alloc (.cells #[.int .i64 0, .int .i64 0, .int .i64 0, .int .i64 0, .int .i64 0, .int .i64 0, .int .i64 0, .int .i64 0] 56)) := by
  obtain ⟨i0, hi0, hz0, hz1, hz2⟩ := info_parts exits_info
  have hr := run_make (P := Try.prog) W 22 56 i0 (.agg #[.int .i64 0, .int .i64 0, .int .i64 0, .int .i64 0]) Try.underlying22 hi0 hz0 .i64 .i64 2 2 (by omega) (by omega) (by rw [hz2]; omega) (by omega)
  rw [hz1] at hr
  exact hr.trans (by kernel_rfl)
theorem row7 {α : Type} {k : Nat} {enc : α → List Value} {W : World} {g : Nat} {t : TypeId} {cs : Array Value} {xs : List α} (h : Blk W g t cs) (hl : xs.length ≤ maxLen) (hc : ∀ i (hi : i < xs.length) j, j < k → cs[i * k + j]? = (enc xs[i])[j]?) : RowAt k enc W (some ⟨g, 0, none⟩) xs :=
  ⟨hl, .inr ⟨g, 0, rfl, h.lt, fun i hi j hj => by rw [Nat.zero_add, h.cell]; exact hc i hi j hj⟩⟩
theorem aD7_at {W : World} {n : Nat} (h0 : Blk W n 56 #[.int .i64 0, .int .i64 0, .int .i64 0, .int .i64 0, .int .i64 0, .int .i64 0, .int .i64 0, .int .i64 0]) (h1 : Blk W (n + 1) 3 #[.int .i64 1]) (h2 : Blk W (n + 1 + 1) 3 #[.int .i64 5])
    (h3 : Blk W (n + 1 + 1 + 1) 3 #[.int .i64 0, .int .i64 0, .int .i64 1]) (h4 : Blk W (n + 1 + 1 + 1 + 1) 4 #[.bool true, .bool true, .bool true]) : DescAt W (aP7 n) aD7 := by
  refine ⟨row7 h0 (by simp [aD7, maxLen]) ?_, ints_row.2 (row7 h1 (by simp [aD7, maxLen]) ?_), ints_row.2 (row7 h2 (by simp [aD7, maxLen]) ?_), ints_row.2 (row7 h3 (by simp [aD7, maxLen]) ?_), row7 h4 (by simp [aD7, maxLen]) ?_⟩
  · intro i hi j hj
    obtain rfl | rfl : i = 0 ∨ i = 1 := by simp [aD7] at hi; omega
    all_goals obtain rfl | rfl | rfl | rfl : j = 0 ∨ j = 1 ∨ j = 2 ∨ j = 3 := by omega
    all_goals rfl
  · intro i hi j hj
    obtain rfl : i = 0 := by simp [aD7] at hi; omega
    obtain rfl : j = 0 := by omega
    rfl
  · intro i hi j hj
    obtain rfl : i = 0 := by simp [aD7] at hi; omega
    obtain rfl : j = 0 := by omega
    rfl
  · intro i hi j hj
    obtain rfl : j = 0 := by omega
    obtain rfl | rfl | rfl : i = 0 ∨ i = 1 ∨ i = 2 := by simp [aD7] at hi; omega
    all_goals rfl
  · intro i hi j hj
    obtain rfl : j = 0 := by omega
    obtain rfl | rfl | rfl : i = 0 ∨ i = 1 ∨ i = 2 := by simp [aD7] at hi; omega
    all_goals rfl
theorem aw7_start (w : World) : DescAt (((((w.alloc (.cells #[.int .i64 0, .int .i64 0, .int .i64 0, .int .i64 0, .int .i64 0, .int .i64 0, .int .i64 0, .int .i64 0] 56)).alloc (.cells #[.int .i64 1] 3)).alloc (.cells #[.int .i64 5] 3)).alloc (.cells #[.int .i64 0, .int .i64 0, .int .i64 1] 3)).alloc (.cells #[.bool true, .bool true, .bool true] 4)) (aP7 w.heap.size) aD7 ∧ Below w.heap.size w (((((w.alloc (.cells #[.int .i64 0, .int .i64 0, .int .i64 0, .int .i64 0, .int .i64 0, .int .i64 0, .int .i64 0, .int .i64 0] 56)).alloc (.cells #[.int .i64 1] 3)).alloc (.cells #[.int .i64 5] 3)).alloc (.cells #[.int .i64 0, .int .i64 0, .int .i64 1] 3)).alloc (.cells #[.bool true, .bool true, .bool true] 4)) := by
  have b0 := Blk.newn w 56 #[.int .i64 0, .int .i64 0, .int .i64 0, .int .i64 0, .int .i64 0, .int .i64 0, .int .i64 0, .int .i64 0] (n := w.heap.size) rfl
  have b1 := Blk.newn (w.alloc (.cells #[.int .i64 0, .int .i64 0, .int .i64 0, .int .i64 0, .int .i64 0, .int .i64 0, .int .i64 0, .int .i64 0] 56)) 3 #[.int .i64 1] (n := w.heap.size + 1) (by simp)
  have b2 := Blk.newn ((w.alloc (.cells #[.int .i64 0, .int .i64 0, .int .i64 0, .int .i64 0, .int .i64 0, .int .i64 0, .int .i64 0, .int .i64 0] 56)).alloc (.cells #[.int .i64 1] 3)) 3 #[.int .i64 5] (n := w.heap.size + 1 + 1) (by simp)
  have b3 := Blk.newn (((w.alloc (.cells #[.int .i64 0, .int .i64 0, .int .i64 0, .int .i64 0, .int .i64 0, .int .i64 0, .int .i64 0, .int .i64 0] 56)).alloc (.cells #[.int .i64 1] 3)).alloc (.cells #[.int .i64 5] 3)) 3 #[.int .i64 0, .int .i64 0, .int .i64 1] (n := w.heap.size + 1 + 1 + 1) (by simp)
  have b4 := Blk.newn ((((w.alloc (.cells #[.int .i64 0, .int .i64 0, .int .i64 0, .int .i64 0, .int .i64 0, .int .i64 0, .int .i64 0, .int .i64 0] 56)).alloc (.cells #[.int .i64 1] 3)).alloc (.cells #[.int .i64 5] 3)).alloc (.cells #[.int .i64 0, .int .i64 0, .int .i64 1] 3)) 4 #[.bool true, .bool true, .bool true] (n := w.heap.size + 1 + 1 + 1 + 1) (by simp)
  exact ⟨aD7_at ((((b0.alloc _).alloc _).alloc _).alloc _) (((b1.alloc _).alloc _).alloc _) ((b2.alloc _).alloc _) (b3.alloc _) b4, (((((Below.refl _ _).alloc (Nat.le_refl _) _).alloc (by simp) _).alloc (by simp; omega) _).alloc (by simp; omega) _).alloc (by simp; omega) _⟩
/-- awake's world, as New answers it. -/
theorem aw7_new (n : Nat) (W : World) (h : DescAt W (aP7 n) aD7) : Calls Try.prog 30 #[.agg #[.slice (some ⟨n, 0, none⟩) 2 2, .slice (some ⟨n + 1, 0, none⟩) 1 1, .slice (some ⟨n + 1 + 1, 0, none⟩) 1 1, .slice (some ⟨n + 1 + 1 + 1, 0, none⟩) 3 3, .slice (some ⟨n + 1 + 1 + 1 + 1, 0, none⟩) 3 3, .int .i64 3, .int .i64 4, .int .i64 2]] W fun e w' => ∃ (a k wh : Option Addr) (ac kc whc : Nat), e = .returned (.agg #[.slice (some ⟨n, 0, none⟩) 2 2, .slice (some ⟨n + 1, 0, none⟩) 1 1, .slice (some ⟨n + 1 + 1, 0, none⟩) 1 1, .slice (some ⟨n + 1 + 1 + 1, 0, none⟩) 3 3, .slice (some ⟨n + 1 + 1 + 1 + 1, 0, none⟩) 3 3, .int .i64 3, .int .i64 4, .int .i64 2, .slice a 1 ac, .slice k 1 kc, .slice wh 3 whc]) ∧ WhNew W.heap.size w' (aP7 n) ⟨aP7 n, a, ac, k, kc, wh, whc⟩ (newW aD7) ∧ Below W.heap.size W w' := by
  refine (refnew_own aD7 (aP7 n) W h (by decide)).mono ?_
  rintro e w' ⟨x, ⟨d, a, ac, k, kc, wh, whc⟩, rfl, rfl, _, hb, hn⟩
  obtain ⟨rfl, _⟩ := id hn
  exact ⟨a, k, wh, ac, kc, whc, rfl, hn, hb⟩
section
variable (n : Nat) (a k wh : Option Addr) (ac kc whc : Nat) (W : World) (h : PlsAt W wh aX7.wher)
include h
theorem aw7_under : Calls Try.prog 17 #[.agg #[.slice (some ⟨n, 0, none⟩) 2 2, .slice (some ⟨n + 1, 0, none⟩) 1 1, .slice (some ⟨n + 1 + 1, 0, none⟩) 1 1, .slice (some ⟨n + 1 + 1 + 1, 0, none⟩) 3 3, .slice (some ⟨n + 1 + 1 + 1 + 1, 0, none⟩) 3 3, .int .i64 3, .int .i64 4, .int .i64 2, .slice a 1 ac, .slice k 1 kc, .slice wh 3 whc], .agg #[.int .i64 1, .int .i64 0]] W fun e w' => ∃ g cap cs, e = .returned (.slice (some ⟨g, 0, none⟩) 2 cap) ∧ Blk w' g 46 cs ∧ (cs[3]? = some (.int .i64 1) ∧ cs[4]? = some (.int .i64 2) ∧ cs[5]? = some (.int .i64 0)) ∧ Below W.heap.size W w' := by
  refine (tunder_any aX7 ⟨aP7 n, a, ac, k, kc, wh, whc⟩ ⟨1, 0⟩ aX7_tr W h (by decide)).mono ?_
  rintro e w' ⟨q, cap, he, ho, hb⟩
  have hu : underN aX7.wher aX7.wher.length ⟨1, 0⟩ = [⟨0, 1, 0⟩, ⟨1, 2, 0⟩] := by decide
  rw [hu] at ho he
  rcases ho.2 with ⟨h0, _⟩ | ⟨g, cs, rfl, _, hB, hc⟩
  · cases h0
  · exact ⟨g, cap, cs, he, hB, ⟨hc 1 (by decide) 0 (by decide), hc 1 (by decide) 1 (by decide), hc 1 (by decide) 2 (by decide)⟩, hb⟩
theorem aw7_root : Calls Try.prog 19 #[.agg #[.slice (some ⟨n, 0, none⟩) 2 2, .slice (some ⟨n + 1, 0, none⟩) 1 1, .slice (some ⟨n + 1 + 1, 0, none⟩) 1 1, .slice (some ⟨n + 1 + 1 + 1, 0, none⟩) 3 3, .slice (some ⟨n + 1 + 1 + 1 + 1, 0, none⟩) 3 3, .int .i64 3, .int .i64 4, .int .i64 2, .slice a 1 ac, .slice k 1 kc, .slice wh 3 whc], .int .i64 1] W fun e w' => e = .returned (.agg #[.int .i64 1, .int .i64 0]) ∧ Below W.heap.size W w' :=
  root_any aX7 ⟨aP7 n, a, ac, k, kc, wh, whc⟩ aX7_tr 1 (by decide) W h
theorem aw7_dep1 : Calls Try.prog 21 #[.agg #[.slice (some ⟨n, 0, none⟩) 2 2, .slice (some ⟨n + 1, 0, none⟩) 1 1, .slice (some ⟨n + 1 + 1, 0, none⟩) 1 1, .slice (some ⟨n + 1 + 1 + 1, 0, none⟩) 3 3, .slice (some ⟨n + 1 + 1 + 1 + 1, 0, none⟩) 3 3, .int .i64 3, .int .i64 4, .int .i64 2, .slice a 1 ac, .slice k 1 kc, .slice wh 3 whc], .int .i64 1] W fun e w' => e = .returned (.int .i64 1) ∧ Below W.heap.size W w' :=
  tdepth_any aX7 ⟨aP7 n, a, ac, k, kc, wh, whc⟩ aX7_tr 1 (by decide) W h
theorem aw7_dep0 : Calls Try.prog 21 #[.agg #[.slice (some ⟨n, 0, none⟩) 2 2, .slice (some ⟨n + 1, 0, none⟩) 1 1, .slice (some ⟨n + 1 + 1, 0, none⟩) 1 1, .slice (some ⟨n + 1 + 1 + 1, 0, none⟩) 3 3, .slice (some ⟨n + 1 + 1 + 1 + 1, 0, none⟩) 3 3, .int .i64 3, .int .i64 4, .int .i64 2, .slice a 1 ac, .slice k 1 kc, .slice wh 3 whc], .int .i64 0] W fun e w' => e = .returned (.int .i64 0) ∧ Below W.heap.size W w' :=
  tdepth_any aX7 ⟨aP7 n, a, ac, k, kc, wh, whc⟩ aX7_tr 0 (by decide) W h
theorem aw7_hgt : Calls Try.prog 23 #[.agg #[.slice (some ⟨n, 0, none⟩) 2 2, .slice (some ⟨n + 1, 0, none⟩) 1 1, .slice (some ⟨n + 1 + 1, 0, none⟩) 1 1, .slice (some ⟨n + 1 + 1 + 1, 0, none⟩) 3 3, .slice (some ⟨n + 1 + 1 + 1 + 1, 0, none⟩) 3 3, .int .i64 3, .int .i64 4, .int .i64 2, .slice a 1 ac, .slice k 1 kc, .slice wh 3 whc], .int .i64 0] W fun e w' => e = .returned (.int .i64 1) ∧ Below W.heap.size W w' :=
  theight_any aX7 ⟨aP7 n, a, ac, k, kc, wh, whc⟩ aX7_tr 0 (by decide) W h
theorem aw7_w10 : Calls Try.prog 25 #[.agg #[.slice (some ⟨n, 0, none⟩) 2 2, .slice (some ⟨n + 1, 0, none⟩) 1 1, .slice (some ⟨n + 1 + 1, 0, none⟩) 1 1, .slice (some ⟨n + 1 + 1 + 1, 0, none⟩) 3 3, .slice (some ⟨n + 1 + 1 + 1 + 1, 0, none⟩) 3 3, .int .i64 3, .int .i64 4, .int .i64 2, .slice a 1 ac, .slice k 1 kc, .slice wh 3 whc], .int .i64 1, .int .i64 0] W fun e w' => e = .returned (.bool true) ∧ Below W.heap.size W w' :=
  twithin_any aX7 ⟨aP7 n, a, ac, k, kc, wh, whc⟩ aX7_tr 1 0 (by decide) W h
theorem aw7_w01 : Calls Try.prog 25 #[.agg #[.slice (some ⟨n, 0, none⟩) 2 2, .slice (some ⟨n + 1, 0, none⟩) 1 1, .slice (some ⟨n + 1 + 1, 0, none⟩) 1 1, .slice (some ⟨n + 1 + 1 + 1, 0, none⟩) 3 3, .slice (some ⟨n + 1 + 1 + 1 + 1, 0, none⟩) 3 3, .int .i64 3, .int .i64 4, .int .i64 2, .slice a 1 ac, .slice k 1 kc, .slice wh 3 whc], .int .i64 0, .int .i64 1] W fun e w' => e = .returned (.bool false) ∧ Below W.heap.size W w' :=
  twithin_any aX7 ⟨aP7 n, a, ac, k, kc, wh, whc⟩ aX7_tr 0 1 (by decide) W h
theorem aw7_w22 : Calls Try.prog 25 #[.agg #[.slice (some ⟨n, 0, none⟩) 2 2, .slice (some ⟨n + 1, 0, none⟩) 1 1, .slice (some ⟨n + 1 + 1, 0, none⟩) 1 1, .slice (some ⟨n + 1 + 1 + 1, 0, none⟩) 3 3, .slice (some ⟨n + 1 + 1 + 1 + 1, 0, none⟩) 3 3, .int .i64 3, .int .i64 4, .int .i64 2, .slice a 1 ac, .slice k 1 kc, .slice wh 3 whc], .int .i64 2, .int .i64 2] W fun e w' => e = .returned (.bool true) ∧ Below W.heap.size W w' :=
  twithin_any aX7 ⟨aP7 n, a, ac, k, kc, wh, whc⟩ aX7_tr 2 2 (by decide) W h
theorem aw7_in : Calls Try.prog 12 #[.agg #[.slice (some ⟨n, 0, none⟩) 2 2, .slice (some ⟨n + 1, 0, none⟩) 1 1, .slice (some ⟨n + 1 + 1, 0, none⟩) 1 1, .slice (some ⟨n + 1 + 1 + 1, 0, none⟩) 3 3, .slice (some ⟨n + 1 + 1 + 1 + 1, 0, none⟩) 3 3, .int .i64 3, .int .i64 4, .int .i64 2, .slice a 1 ac, .slice k 1 kc, .slice wh 3 whc], .agg #[.int .i64 1, .int .i64 0]] W fun e w' => ∃ q cap, e = .returned (.slice q 1 cap) ∧ IntsAt w' q [0] ∧ Below W.heap.size W w' := by
  refine (tin_any aX7 ⟨aP7 n, a, ac, k, kc, wh, whc⟩ ⟨1, 0⟩ W h (by decide)).mono ?_
  rintro e w' ⟨q, cap, he, ho, hb⟩
  have hu : inN aX7.wher aX7.wher.length ⟨1, 0⟩ = [0] := by decide
  rw [hu] at ho he
  exact ⟨q, cap, he, ints_row.2 ho.row, hb⟩
theorem aw7_room1 : Calls Try.prog 14 #[.agg #[.slice (some ⟨n, 0, none⟩) 2 2, .slice (some ⟨n + 1, 0, none⟩) 1 1, .slice (some ⟨n + 1 + 1, 0, none⟩) 1 1, .slice (some ⟨n + 1 + 1 + 1, 0, none⟩) 3 3, .slice (some ⟨n + 1 + 1 + 1 + 1, 0, none⟩) 3 3, .int .i64 3, .int .i64 4, .int .i64 2, .slice a 1 ac, .slice k 1 kc, .slice wh 3 whc], .agg #[.int .i64 1, .int .i64 0]] W fun e w' => e = .returned (.int .i64 3) ∧ Below W.heap.size W w' :=
  troom_any aX7 ⟨aP7 n, a, ac, k, kc, wh, whc⟩ 1 0 (by decide) (by decide) W h (by decide)
theorem aw7_room2 : Calls Try.prog 14 #[.agg #[.slice (some ⟨n, 0, none⟩) 2 2, .slice (some ⟨n + 1, 0, none⟩) 1 1, .slice (some ⟨n + 1 + 1, 0, none⟩) 1 1, .slice (some ⟨n + 1 + 1 + 1, 0, none⟩) 3 3, .slice (some ⟨n + 1 + 1 + 1 + 1, 0, none⟩) 3 3, .int .i64 3, .int .i64 4, .int .i64 2, .slice a 1 ac, .slice k 1 kc, .slice wh 3 whc], .agg #[.int .i64 2, .int .i64 0]] W fun e w' => e = .returned (.int .i64 1) ∧ Below W.heap.size W w' :=
  troom_any aX7 ⟨aP7 n, a, ac, k, kc, wh, whc⟩ 2 0 (by decide) (by decide) W h (by decide)
end
theorem run_seq7 (W : World) : (binOp .eql 46 (.agg #[.int .i64 1, .int .i64 2, .int .i64 0]) (.agg #[.int .i64 1, .int .i64 2, .int .i64 0])).run Try.prog W = .ok (.bool true) W := by kernel_rfl
theorem run_plq7 (W : World) : (binOp .eql 31 (.agg #[.int .i64 1, .int .i64 0]) (.agg #[.int .i64 1, .int .i64 0])).run Try.prog W = .ok (.bool true) W := by kernel_rfl
theorem one_ints (W : World) : IntsAt (W.alloc (.cells #[.int .i64 0] 3)) (some ⟨W.heap.size, 0, none⟩) [0] :=
  Blk.ints (Blk.new W 3 #[.int .i64 0]) (by simp [maxLen]) (fun i hi => by
    have : i = 0 := by simp at hi; exact hi
    subst this; rfl)
theorem aw7_ints (W : World) (q r : Option Addr) (c : Nat) (h1 : IntsAt W q [0]) (h2 : IntsAt W r [0]) : Calls Try.prog 11 #[.slice q 1 c, .slice r 1 1] W fun e w' => e = .returned (.bool true) ∧ Below W.heap.size W w' :=
  ints_any q r c 1 [0] [0] W h1 h2
set_option maxRecDepth 100000 in
set_option maxHeartbeats 4000000 in
theorem awake7_any (w : World) : Calls Try.prog 8 #[] w fun e w' => e = .returned (.bool true) ∧ Below w.heap.size w w' := by
  have MK := make_exits
  have A0 := Lib.hid (aw7_start w)
  go_enter Try.func8, Try.ntmps8
  go_wp2_with fail
  generalize (((((w.alloc (.cells #[.int .i64 0, .int .i64 0, .int .i64 0, .int .i64 0, .int .i64 0, .int .i64 0, .int .i64 0, .int .i64 0] 56)).alloc (.cells #[.int .i64 1] 3)).alloc (.cells #[.int .i64 5] 3)).alloc (.cells #[.int .i64 0, .int .i64 0, .int .i64 1] 3)).alloc (.cells #[.bool true, .bool true, .bool true] 4)) = V1 at *
  refine (aw7_new w.heap.size V1 A0.out.1).mono ?_
  rintro e w1 ⟨a, k, wh, ac, kc, whc, rfl, hn, b1⟩
  clear MK
  obtain ⟨b, hwh, hb1, hb2, ⟨c0, c1⟩, hf, hput⟩ := hn.putPlace (k := 0) (by decide)
  simp only at hwh
  subst hwh
  obtain ⟨b', hwh', _, _, ⟨c2, c3⟩, _, _⟩ := hn.putPlace (k := 1) (by decide)
  obtain rfl : b = b' := by simpa using hwh'
  obtain ⟨b', hwh2, _, _, _, _, hput2⟩ := (hput ⟨1, 0⟩).putPlace (k := 1) (by decide)
  obtain rfl : b = b' := by simpa using hwh2
  have HN := Lib.hid (hput2 ⟨2, 0⟩)
  have c0' : w1.cell? ⟨b, 0, none⟩ = some (.int .i64 0) := c0
  have c1' : w1.cell? ⟨b, 1, none⟩ = some (.int .i64 0) := c1
  have c2' : w1.cell? ⟨b, 2, none⟩ = some (.int .i64 0) := c2
  have c3' : w1.cell? ⟨b, 3, none⟩ = some (.int .i64 0) := c3
  clear hwh' hwh2 hput hput2 c0 c1 c2 c3
  have s1 := b1.size
  have s0 := A0.out.2.size
  have BS := Lib.hid ((((b1.setCell (p := ⟨b, 0, none⟩) (by show V1.heap.size ≤ b; omega) (.int .i64 1)).setCell (p := ⟨b, 1, none⟩) (by show V1.heap.size ≤ b; omega) (.int .i64 0)).setCell (p := ⟨b, 2, none⟩) (by show V1.heap.size ≤ b; omega) (.int .i64 2)).setCell (p := ⟨b, 3, none⟩) (by show V1.heap.size ≤ b; omega) (.int .i64 0))
  have z0 : ((((w1.setCell ⟨b, 0, none⟩ (.int .i64 1)).setCell ⟨b, 1, none⟩ (.int .i64 0)).setCell ⟨b, 2, none⟩ (.int .i64 2)).setCell ⟨b, 3, none⟩ (.int .i64 0)).heap.size = w1.heap.size := by simp [World.setCell]
  have ne1 : w1.heap.size ≠ b := by omega
  have ne2 : b ≠ w1.heap.size := by omega
  clear hn b1
  go_wp2_with fail
  clear c0' c1' c2' c3' hf
  have HN4 := Lib.hid (show WhNew V1.heap.size ((((w1.setCell ⟨b, 0, none⟩ (.int .i64 1)).setCell ⟨b, 1, none⟩ (.int .i64 0)).setCell ⟨b, 2, none⟩ (.int .i64 2)).setCell ⟨b, 3, none⟩ (.int .i64 0)) (aP7 w.heap.size) ⟨aP7 w.heap.size, a, ac, k, kc, some ⟨b, 0, none⟩, whc⟩ aX7 from HN.out)
  clear HN
  generalize ((((w1.setCell ⟨b, 0, none⟩ (.int .i64 1)).setCell ⟨b, 1, none⟩ (.int .i64 0)).setCell ⟨b, 2, none⟩ (.int .i64 2)).setCell ⟨b, 3, none⟩ (.int .i64 0)) = V4 at *
  have HX4 := Lib.hid ((HN4.out.world A0.out.1 BS.out).wh)
  have BW := Lib.hid (A0.out.2.trans (BS.out.mono s0))
  have K1 := Lib.hid ((Holds.newb (w := w) (A := #[.slice (some ⟨w.heap.size, 0, none⟩) 2 2, .slice (some ⟨w.heap.size + 1, 0, none⟩) 1 1, .slice (some ⟨w.heap.size + 1 + 1, 0, none⟩) 1 1, .slice (some ⟨w.heap.size + 1 + 1 + 1, 0, none⟩) 3 3, .slice (some ⟨w.heap.size + 1 + 1 + 1 + 1, 0, none⟩) 3 3, .int .i64 3, .int .i64 4, .int .i64 2, .slice a 1 ac, .slice k 1 kc, .slice (some ⟨b, 0, none⟩) 3 whc]) (t := 29) (n := w1.heap.size) BW.out z0).alloc (.cells #[.int .i64 1, .int .i64 0] 31))
  have K2 := Lib.hid (Holds.newb (w := w) (W := V4.alloc (.cells #[.slice (some ⟨w.heap.size, 0, none⟩) 2 2, .slice (some ⟨w.heap.size + 1, 0, none⟩) 1 1, .slice (some ⟨w.heap.size + 1 + 1, 0, none⟩) 1 1, .slice (some ⟨w.heap.size + 1 + 1 + 1, 0, none⟩) 3 3, .slice (some ⟨w.heap.size + 1 + 1 + 1 + 1, 0, none⟩) 3 3, .int .i64 3, .int .i64 4, .int .i64 2, .slice a 1 ac, .slice k 1 kc, .slice (some ⟨b, 0, none⟩) 3 whc] 29)) (A := #[.int .i64 1, .int .i64 0]) (t := 31) (n := w1.heap.size + 1) (BW.out.alloc BW.out.size _) (by simp [z0]))
  have XU := Lib.hid ((HX4.out.alloc (.cells #[.slice (some ⟨w.heap.size, 0, none⟩) 2 2, .slice (some ⟨w.heap.size + 1, 0, none⟩) 1 1, .slice (some ⟨w.heap.size + 1 + 1, 0, none⟩) 1 1, .slice (some ⟨w.heap.size + 1 + 1 + 1, 0, none⟩) 3 3, .slice (some ⟨w.heap.size + 1 + 1 + 1 + 1, 0, none⟩) 3 3, .int .i64 3, .int .i64 4, .int .i64 2, .slice a 1 ac, .slice k 1 kc, .slice (some ⟨b, 0, none⟩) 3 whc] 29)).alloc (.cells #[.int .i64 1, .int .i64 0] 31))
  generalize ((V4.alloc (.cells #[.slice (some ⟨w.heap.size, 0, none⟩) 2 2, .slice (some ⟨w.heap.size + 1, 0, none⟩) 1 1, .slice (some ⟨w.heap.size + 1 + 1, 0, none⟩) 1 1, .slice (some ⟨w.heap.size + 1 + 1 + 1, 0, none⟩) 3 3, .slice (some ⟨w.heap.size + 1 + 1 + 1 + 1, 0, none⟩) 3 3, .int .i64 3, .int .i64 4, .int .i64 2, .slice a 1 ac, .slice k 1 kc, .slice (some ⟨b, 0, none⟩) 3 whc] 29)).alloc (.cells #[.int .i64 1, .int .i64 0] 31)) = V7 at *
  refine (aw7_under w.heap.size a k _ ac kc whc V7 XU.out).mono ?_
  rintro e V8 ⟨g, cap, cs, rfl, hB, ⟨g3, g4, g5⟩, b8⟩
  have L1 := Lib.hid (K1.out.call b8)
  have L2 := Lib.hid (K2.out.call b8)
  have XV := Lib.hid (XU.out.below b8 (Nat.le_refl _))
  have LG := Lib.hid hB.lt
  have GC := Lib.hid (show V8.cell? ⟨g, 3, none⟩ = some (.int .i64 1) ∧ V8.cell? ⟨g, 3 + 1, none⟩ = some (.int .i64 2) ∧ V8.cell? ⟨g, 3 + 1 + 1, none⟩ = some (.int .i64 0) from ⟨(hB.cell 3).trans g3, (hB.cell 4).trans g4, (hB.cell 5).trans g5⟩)
  clear hB g3 g4 g5 b8
  have KS : Hid (∀ w', Below V8.heap.size V8 w' → Below V8.heap.size V8 w' ∧ (∀ i, w'.cell? ⟨w1.heap.size, i, none⟩ = (#[.slice (some ⟨w.heap.size, 0, none⟩) 2 2, .slice (some ⟨w.heap.size + 1, 0, none⟩) 1 1, .slice (some ⟨w.heap.size + 1 + 1, 0, none⟩) 1 1, .slice (some ⟨w.heap.size + 1 + 1 + 1, 0, none⟩) 3 3, .slice (some ⟨w.heap.size + 1 + 1 + 1 + 1, 0, none⟩) 3 3, .int .i64 3, .int .i64 4, .int .i64 2, .slice a 1 ac, .slice k 1 kc, .slice (some ⟨b, 0, none⟩) 3 whc][i]? : Option Value)) ∧ (∀ i, w'.cell? ⟨w1.heap.size + 1, i, none⟩ = (#[.int .i64 1, .int .i64 0][i]? : Option Value)) ∧ w'.cell? ⟨g, 3, none⟩ = some (.int .i64 1) ∧ w'.cell? ⟨g, 3 + 1, none⟩ = some (.int .i64 2) ∧ w'.cell? ⟨g, 3 + 1 + 1, none⟩ = some (.int .i64 0)) := Lib.hid (fun w' hb => ⟨hb, fun i => (hb.cell (p := ⟨w1.heap.size, i, none⟩) L1.out.2.1).trans (L1.out.2.2 i), fun i => (hb.cell (p := ⟨w1.heap.size + 1, i, none⟩) L2.out.2.1).trans (L2.out.2.2 i), (hb.cell (p := ⟨g, 3, none⟩) LG.out).trans GC.out.1, (hb.cell (p := ⟨g, 3 + 1, none⟩) LG.out).trans GC.out.2.1, (hb.cell (p := ⟨g, 3 + 1 + 1, none⟩) LG.out).trans GC.out.2.2⟩)
  have rq := run_seq7
  have rp := run_plq7
  go_wp2_with fail
  refine wp_region_noPanic ?_
  refine wp_region_held_drew (S := (fun w' => Below V8.heap.size V8 w' ∧ (∀ i, w'.cell? ⟨w1.heap.size, i, none⟩ = (#[.slice (some ⟨w.heap.size, 0, none⟩) 2 2, .slice (some ⟨w.heap.size + 1, 0, none⟩) 1 1, .slice (some ⟨w.heap.size + 1 + 1, 0, none⟩) 1 1, .slice (some ⟨w.heap.size + 1 + 1 + 1, 0, none⟩) 3 3, .slice (some ⟨w.heap.size + 1 + 1 + 1 + 1, 0, none⟩) 3 3, .int .i64 3, .int .i64 4, .int .i64 2, .slice a 1 ac, .slice k 1 kc, .slice (some ⟨b, 0, none⟩) 3 whc][i]? : Option Value)) ∧ (∀ i, w'.cell? ⟨w1.heap.size + 1, i, none⟩ = (#[.int .i64 1, .int .i64 0][i]? : Option Value)) ∧ w'.cell? ⟨g, 3, none⟩ = some (.int .i64 1) ∧ w'.cell? ⟨g, 3 + 1, none⟩ = some (.int .i64 2) ∧ w'.cell? ⟨g, 3 + 1 + 1, none⟩ = some (.int .i64 0))) (by kernel_rfl) (by (first | (with_reducible exact KS.out _ (bdrew1 (Below.refl _ _))) | (with_reducible exact KS.out _ (below_call hHeld.1 hHeld.1.size hb9)) | (with_reducible exact KS.out _ (hHeld.1.alloc hHeld.1.size _)))) (fun hHeld => ?_)
  refine wpAnyH_take (i := 0) (v := ?_) (by simp only [List.getElem?_toArray]; rfl) (by kernel_rfl) (by kernel_rfl) (by kernel_rfl) (fun _ _ _ h => h) (Or.inl ⟨by rfl, ?_⟩) (by assumption) ?_
  rotate_left
  · (intro ww hSw; (try dsimp only at hSw); go_simp; (try with_reducible rfl))
  try simp only [Act.put, List.setIfInBounds_toArray, List.set_cons_zero, List.set_cons_succ]
  refine wpAnyH_take (i := 2) (v := ?_) (by simp only [List.getElem?_toArray]; rfl) (by kernel_rfl) (by kernel_rfl) (by kernel_rfl) (fun _ _ _ h => h) (Or.inl ⟨by rfl, ?_⟩) (by assumption) ?_
  rotate_left
  · (intro ww hSw; (try dsimp only at hSw); go_simp; (try with_reducible rfl))
  try simp only [Act.put, List.setIfInBounds_toArray, List.set_cons_zero, List.set_cons_succ]
  refine wpAnyH_ready (rs := [1]) (by kernel_rfl) (by simp) (AllReadyH.cons (by simp only [List.getElem?_toArray]; rfl) (fun K hK => ?_) AllReadyH.nil)
  go_simp; refine (aw7_root w.heap.size a k _ ac kc whc _ (XV.out.below hHeld.1 (Nat.le_refl _))).mono ?_; rintro e w9 ⟨rfl, hb9⟩; try go_wp2_with fail
  refine hK.out _ _ (by (first | (with_reducible exact KS.out _ (bdrew1 (Below.refl _ _))) | (with_reducible exact KS.out _ (below_call hHeld.1 hHeld.1.size hb9)) | (with_reducible exact KS.out _ (hHeld.1.alloc hHeld.1.size _)))) (fun hHeld => ?_)
  clear hK K
  try simp only [Act.put, List.setIfInBounds_toArray, List.set_cons_zero, List.set_cons_succ]
  refine wpAnyH_take (i := 3) (v := ?_) (by simp only [List.getElem?_toArray]; rfl) (by kernel_rfl) (by kernel_rfl) (by kernel_rfl) (fun _ _ _ h => h) (Or.inl ⟨by rfl, ?_⟩) (by assumption) ?_
  rotate_left
  · (intro ww hSw; (try dsimp only at hSw); go_simp; (try with_reducible rfl))
  try simp only [Act.put, List.setIfInBounds_toArray, List.set_cons_zero, List.set_cons_succ]
  refine wpAnyH_take (i := 4) (v := ?_) (by simp only [List.getElem?_toArray]; rfl) (by kernel_rfl) (by kernel_rfl) (by kernel_rfl) (fun _ _ _ h => h) (Or.inl ⟨by rfl, ?_⟩) (by assumption) ?_
  rotate_left
  · (intro ww hSw; (try dsimp only at hSw); go_simp; (try with_reducible rfl))
  try simp only [Act.put, List.setIfInBounds_toArray, List.set_cons_zero, List.set_cons_succ]
  refine wpAnyH_take (i := 5) (v := ?_) (by simp only [List.getElem?_toArray]; rfl) (by kernel_rfl) (by kernel_rfl) (by kernel_rfl) (fun _ _ _ h => h) (Or.inl ⟨by rfl, ?_⟩) (by assumption) ?_
  rotate_left
  · (intro ww hSw; (try dsimp only at hSw); go_simp; (try with_reducible rfl))
  try simp only [Act.put, List.setIfInBounds_toArray, List.set_cons_zero, List.set_cons_succ]
  refine wpAnyH_ready (rs := [6]) (by kernel_rfl) (by simp) (AllReadyH.cons (by simp only [List.getElem?_toArray]; rfl) (fun K hK => ?_) AllReadyH.nil)
  go_simp; refine (aw7_dep1 w.heap.size a k _ ac kc whc _ (XV.out.below hHeld.1 (Nat.le_refl _))).mono ?_; rintro e w9 ⟨rfl, hb9⟩; try go_wp2_with fail
  refine hK.out _ _ (by (first | (with_reducible exact KS.out _ (bdrew1 (Below.refl _ _))) | (with_reducible exact KS.out _ (below_call hHeld.1 hHeld.1.size hb9)) | (with_reducible exact KS.out _ (hHeld.1.alloc hHeld.1.size _)))) (fun hHeld => ?_)
  clear hK K
  try simp only [Act.put, List.setIfInBounds_toArray, List.set_cons_zero, List.set_cons_succ]
  refine wpAnyH_take (i := 7) (v := ?_) (by simp only [List.getElem?_toArray]; rfl) (by kernel_rfl) (by kernel_rfl) (by kernel_rfl) (fun _ _ _ h => h) (Or.inl ⟨by rfl, ?_⟩) (by assumption) ?_
  rotate_left
  · (intro ww hSw; (try dsimp only at hSw); go_simp; (try with_reducible rfl))
  try simp only [Act.put, List.setIfInBounds_toArray, List.set_cons_zero, List.set_cons_succ]
  refine wpAnyH_take (i := 8) (v := ?_) (by simp only [List.getElem?_toArray]; rfl) (by kernel_rfl) (by kernel_rfl) (by kernel_rfl) (fun _ _ _ h => h) (Or.inl ⟨by rfl, ?_⟩) (by assumption) ?_
  rotate_left
  · (intro ww hSw; (try dsimp only at hSw); go_simp; (try with_reducible rfl))
  try simp only [Act.put, List.setIfInBounds_toArray, List.set_cons_zero, List.set_cons_succ]
  refine wpAnyH_take (i := 9) (v := ?_) (by simp only [List.getElem?_toArray]; rfl) (by kernel_rfl) (by kernel_rfl) (by kernel_rfl) (fun _ _ _ h => h) (Or.inl ⟨by rfl, ?_⟩) (by assumption) ?_
  rotate_left
  · (intro ww hSw; (try dsimp only at hSw); go_simp; (try with_reducible rfl))
  try simp only [Act.put, List.setIfInBounds_toArray, List.set_cons_zero, List.set_cons_succ]
  refine wpAnyH_take (i := 10) (v := ?_) (by simp only [List.getElem?_toArray]; rfl) (by kernel_rfl) (by kernel_rfl) (by kernel_rfl) (fun _ _ _ h => h) (Or.inl ⟨by rfl, ?_⟩) (by assumption) ?_
  rotate_left
  · (intro ww hSw; (try dsimp only at hSw); go_simp; (try with_reducible rfl))
  try simp only [Act.put, List.setIfInBounds_toArray, List.set_cons_zero, List.set_cons_succ]
  refine wpAnyH_ready (rs := [11]) (by kernel_rfl) (by simp) (AllReadyH.cons (by simp only [List.getElem?_toArray]; rfl) (fun K hK => ?_) AllReadyH.nil)
  go_simp; refine (aw7_dep0 w.heap.size a k _ ac kc whc _ (XV.out.below hHeld.1 (Nat.le_refl _))).mono ?_; rintro e w9 ⟨rfl, hb9⟩; try go_wp2_with fail
  refine hK.out _ _ (by (first | (with_reducible exact KS.out _ (bdrew1 (Below.refl _ _))) | (with_reducible exact KS.out _ (below_call hHeld.1 hHeld.1.size hb9)) | (with_reducible exact KS.out _ (hHeld.1.alloc hHeld.1.size _)))) (fun hHeld => ?_)
  clear hK K
  try simp only [Act.put, List.setIfInBounds_toArray, List.set_cons_zero, List.set_cons_succ]
  refine wpAnyH_take (i := 12) (v := ?_) (by simp only [List.getElem?_toArray]; rfl) (by kernel_rfl) (by kernel_rfl) (by kernel_rfl) (fun _ _ _ h => h) (Or.inl ⟨by rfl, ?_⟩) (by assumption) ?_
  rotate_left
  · (intro ww hSw; (try dsimp only at hSw); go_simp; (try with_reducible rfl))
  try simp only [Act.put, List.setIfInBounds_toArray, List.set_cons_zero, List.set_cons_succ]
  refine wpAnyH_take (i := 13) (v := ?_) (by simp only [List.getElem?_toArray]; rfl) (by kernel_rfl) (by kernel_rfl) (by kernel_rfl) (fun _ _ _ h => h) (Or.inl ⟨by rfl, ?_⟩) (by assumption) ?_
  rotate_left
  · (intro ww hSw; (try dsimp only at hSw); go_simp; (try with_reducible rfl))
  try simp only [Act.put, List.setIfInBounds_toArray, List.set_cons_zero, List.set_cons_succ]
  refine wpAnyH_take (i := 14) (v := ?_) (by simp only [List.getElem?_toArray]; rfl) (by kernel_rfl) (by kernel_rfl) (by kernel_rfl) (fun _ _ _ h => h) (Or.inl ⟨by rfl, ?_⟩) (by assumption) ?_
  rotate_left
  · (intro ww hSw; (try dsimp only at hSw); go_simp; (try with_reducible rfl))
  try simp only [Act.put, List.setIfInBounds_toArray, List.set_cons_zero, List.set_cons_succ]
  refine wpAnyH_take (i := 15) (v := ?_) (by simp only [List.getElem?_toArray]; rfl) (by kernel_rfl) (by kernel_rfl) (by kernel_rfl) (fun _ _ _ h => h) (Or.inl ⟨by rfl, ?_⟩) (by assumption) ?_
  rotate_left
  · (intro ww hSw; (try dsimp only at hSw); go_simp; (try with_reducible rfl))
  try simp only [Act.put, List.setIfInBounds_toArray, List.set_cons_zero, List.set_cons_succ]
  refine wpAnyH_ready (rs := [16]) (by kernel_rfl) (by simp) (AllReadyH.cons (by simp only [List.getElem?_toArray]; rfl) (fun K hK => ?_) AllReadyH.nil)
  go_simp; refine (aw7_hgt w.heap.size a k _ ac kc whc _ (XV.out.below hHeld.1 (Nat.le_refl _))).mono ?_; rintro e w9 ⟨rfl, hb9⟩; try go_wp2_with fail
  refine hK.out _ _ (by (first | (with_reducible exact KS.out _ (bdrew1 (Below.refl _ _))) | (with_reducible exact KS.out _ (below_call hHeld.1 hHeld.1.size hb9)) | (with_reducible exact KS.out _ (hHeld.1.alloc hHeld.1.size _)))) (fun hHeld => ?_)
  clear hK K
  try simp only [Act.put, List.setIfInBounds_toArray, List.set_cons_zero, List.set_cons_succ]
  refine wpAnyH_take (i := 17) (v := ?_) (by simp only [List.getElem?_toArray]; rfl) (by kernel_rfl) (by kernel_rfl) (by kernel_rfl) (fun _ _ _ h => h) (Or.inl ⟨by rfl, ?_⟩) (by assumption) ?_
  rotate_left
  · (intro ww hSw; (try dsimp only at hSw); go_simp; (try with_reducible rfl))
  try simp only [Act.put, List.setIfInBounds_toArray, List.set_cons_zero, List.set_cons_succ]
  refine wpAnyH_take (i := 18) (v := ?_) (by simp only [List.getElem?_toArray]; rfl) (by kernel_rfl) (by kernel_rfl) (by kernel_rfl) (fun _ _ _ h => h) (Or.inl ⟨by rfl, ?_⟩) (by assumption) ?_
  rotate_left
  · (intro ww hSw; (try dsimp only at hSw); go_simp; (try with_reducible rfl))
  try simp only [Act.put, List.setIfInBounds_toArray, List.set_cons_zero, List.set_cons_succ]
  refine wpAnyH_take (i := 19) (v := ?_) (by simp only [List.getElem?_toArray]; rfl) (by kernel_rfl) (by kernel_rfl) (by kernel_rfl) (fun _ _ _ h => h) (Or.inl ⟨by rfl, ?_⟩) (by assumption) ?_
  rotate_left
  · (intro ww hSw; (try dsimp only at hSw); go_simp; (try with_reducible rfl))
  try simp only [Act.put, List.setIfInBounds_toArray, List.set_cons_zero, List.set_cons_succ]
  refine wpAnyH_take (i := 20) (v := ?_) (by simp only [List.getElem?_toArray]; rfl) (by kernel_rfl) (by kernel_rfl) (by kernel_rfl) (fun _ _ _ h => h) (Or.inl ⟨by rfl, ?_⟩) (by assumption) ?_
  rotate_left
  · (intro ww hSw; (try dsimp only at hSw); go_simp; (try with_reducible rfl))
  try simp only [Act.put, List.setIfInBounds_toArray, List.set_cons_zero, List.set_cons_succ]
  refine wpAnyH_ready (rs := [21]) (by kernel_rfl) (by simp) (AllReadyH.cons (by simp only [List.getElem?_toArray]; rfl) (fun K hK => ?_) AllReadyH.nil)
  go_simp; refine (aw7_w10 w.heap.size a k _ ac kc whc _ (XV.out.below hHeld.1 (Nat.le_refl _))).mono ?_; rintro e w9 ⟨rfl, hb9⟩; try go_wp2_with fail
  refine hK.out _ _ (by (first | (with_reducible exact KS.out _ (bdrew1 (Below.refl _ _))) | (with_reducible exact KS.out _ (below_call hHeld.1 hHeld.1.size hb9)) | (with_reducible exact KS.out _ (hHeld.1.alloc hHeld.1.size _)))) (fun hHeld => ?_)
  clear hK K
  try simp only [Act.put, List.setIfInBounds_toArray, List.set_cons_zero, List.set_cons_succ]
  refine wpAnyH_take (i := 22) (v := ?_) (by simp only [List.getElem?_toArray]; rfl) (by kernel_rfl) (by kernel_rfl) (by kernel_rfl) (fun _ _ _ h => h) (Or.inl ⟨by rfl, ?_⟩) (by assumption) ?_
  rotate_left
  · (intro ww hSw; (try dsimp only at hSw); go_simp; (try with_reducible rfl))
  try simp only [Act.put, List.setIfInBounds_toArray, List.set_cons_zero, List.set_cons_succ]
  refine wpAnyH_take (i := 23) (v := ?_) (by simp only [List.getElem?_toArray]; rfl) (by kernel_rfl) (by kernel_rfl) (by kernel_rfl) (fun _ _ _ h => h) (Or.inl ⟨by rfl, ?_⟩) (by assumption) ?_
  rotate_left
  · (intro ww hSw; (try dsimp only at hSw); go_simp; (try with_reducible rfl))
  try simp only [Act.put, List.setIfInBounds_toArray, List.set_cons_zero, List.set_cons_succ]
  refine wpAnyH_take (i := 24) (v := ?_) (by simp only [List.getElem?_toArray]; rfl) (by kernel_rfl) (by kernel_rfl) (by kernel_rfl) (fun _ _ _ h => h) (Or.inl ⟨by rfl, ?_⟩) (by assumption) ?_
  rotate_left
  · (intro ww hSw; (try dsimp only at hSw); go_simp; (try with_reducible rfl))
  try simp only [Act.put, List.setIfInBounds_toArray, List.set_cons_zero, List.set_cons_succ]
  refine wpAnyH_ready (rs := [25]) (by kernel_rfl) (by simp) (AllReadyH.cons (by simp only [List.getElem?_toArray]; rfl) (fun K hK => ?_) AllReadyH.nil)
  go_simp; refine (aw7_w01 w.heap.size a k _ ac kc whc _ (XV.out.below hHeld.1 (Nat.le_refl _))).mono ?_; rintro e w9 ⟨rfl, hb9⟩; try go_wp2_with fail
  refine hK.out _ _ (by (first | (with_reducible exact KS.out _ (bdrew1 (Below.refl _ _))) | (with_reducible exact KS.out _ (below_call hHeld.1 hHeld.1.size hb9)) | (with_reducible exact KS.out _ (hHeld.1.alloc hHeld.1.size _)))) (fun hHeld => ?_)
  clear hK K
  try simp only [Act.put, List.setIfInBounds_toArray, List.set_cons_zero, List.set_cons_succ]
  refine wpAnyH_take (i := 26) (v := ?_) (by simp only [List.getElem?_toArray]; rfl) (by kernel_rfl) (by kernel_rfl) (by kernel_rfl) (fun _ _ _ h => h) (Or.inl ⟨by rfl, ?_⟩) (by assumption) ?_
  rotate_left
  · (intro ww hSw; (try dsimp only at hSw); go_simp; (try with_reducible rfl))
  try simp only [Act.put, List.setIfInBounds_toArray, List.set_cons_zero, List.set_cons_succ]
  refine wpAnyH_take (i := 27) (v := ?_) (by simp only [List.getElem?_toArray]; rfl) (by kernel_rfl) (by kernel_rfl) (by kernel_rfl) (fun _ _ _ h => h) (Or.inl ⟨by rfl, ?_⟩) (by assumption) ?_
  rotate_left
  · (intro ww hSw; (try dsimp only at hSw); go_simp; (try with_reducible rfl))
  try simp only [Act.put, List.setIfInBounds_toArray, List.set_cons_zero, List.set_cons_succ]
  refine wpAnyH_take (i := 28) (v := ?_) (by simp only [List.getElem?_toArray]; rfl) (by kernel_rfl) (by kernel_rfl) (by kernel_rfl) (fun _ _ _ h => h) (Or.inl ⟨by rfl, ?_⟩) (by assumption) ?_
  rotate_left
  · (intro ww hSw; (try dsimp only at hSw); go_simp; (try with_reducible rfl))
  try simp only [Act.put, List.setIfInBounds_toArray, List.set_cons_zero, List.set_cons_succ]
  refine wpAnyH_take (i := 29) (v := ?_) (by simp only [List.getElem?_toArray]; rfl) (by kernel_rfl) (by kernel_rfl) (by kernel_rfl) (fun _ _ _ h => h) (Or.inl ⟨by rfl, ?_⟩) (by assumption) ?_
  rotate_left
  · (intro ww hSw; (try dsimp only at hSw); go_simp; (try with_reducible rfl))
  try simp only [Act.put, List.setIfInBounds_toArray, List.set_cons_zero, List.set_cons_succ]
  refine wpAnyH_ready (rs := [30]) (by kernel_rfl) (by simp) (AllReadyH.cons (by simp only [List.getElem?_toArray]; rfl) (fun K hK => ?_) AllReadyH.nil)
  go_simp; refine (aw7_w22 w.heap.size a k _ ac kc whc _ (XV.out.below hHeld.1 (Nat.le_refl _))).mono ?_; rintro e w9 ⟨rfl, hb9⟩; try go_wp2_with fail
  refine hK.out _ _ (by (first | (with_reducible exact KS.out _ (bdrew1 (Below.refl _ _))) | (with_reducible exact KS.out _ (below_call hHeld.1 hHeld.1.size hb9)) | (with_reducible exact KS.out _ (hHeld.1.alloc hHeld.1.size _)))) (fun hHeld => ?_)
  clear hK K
  try simp only [Act.put, List.setIfInBounds_toArray, List.set_cons_zero, List.set_cons_succ]
  refine wpAnyH_take (i := 31) (v := ?_) (by simp only [List.getElem?_toArray]; rfl) (by kernel_rfl) (by kernel_rfl) (by kernel_rfl) (fun _ _ _ h => h) (Or.inl ⟨by rfl, ?_⟩) (by assumption) ?_
  rotate_left
  · (intro ww hSw; (try dsimp only at hSw); go_simp; (try with_reducible rfl))
  try simp only [Act.put, List.setIfInBounds_toArray, List.set_cons_zero, List.set_cons_succ]
  refine wpAnyH_take (i := 32) (v := ?_) (by simp only [List.getElem?_toArray]; rfl) (by kernel_rfl) (by kernel_rfl) (by kernel_rfl) (fun _ _ _ h => h) (Or.inl ⟨by rfl, ?_⟩) (by assumption) ?_
  rotate_left
  · (intro ww hSw; (try dsimp only at hSw); go_simp; (try with_reducible rfl))
  try simp only [Act.put, List.setIfInBounds_toArray, List.set_cons_zero, List.set_cons_succ]
  refine wpAnyH_take (i := 33) (v := ?_) (by simp only [List.getElem?_toArray]; rfl) (by kernel_rfl) (by kernel_rfl) (by kernel_rfl) (fun _ _ _ h => h) (Or.inl ⟨by rfl, ?_⟩) (by assumption) ?_
  rotate_left
  · (intro ww hSw; (try dsimp only at hSw); go_simp; (try with_reducible rfl))
  try simp only [Act.put, List.setIfInBounds_toArray, List.set_cons_zero, List.set_cons_succ]
  refine wpAnyH_take (i := 34) (v := ?_) (by simp only [List.getElem?_toArray]; rfl) (by kernel_rfl) (by kernel_rfl) (by kernel_rfl) (fun _ _ _ h => h) (Or.inl ⟨by rfl, ?_⟩) (by assumption) ?_
  rotate_left
  · (intro ww hSw; (try dsimp only at hSw); go_simp; (try with_reducible rfl))
  try simp only [Act.put, List.setIfInBounds_toArray, List.set_cons_zero, List.set_cons_succ]
  refine wpAnyH_take (i := 35) (v := ?_) (by simp only [List.getElem?_toArray]; rfl) (by kernel_rfl) (by kernel_rfl) (by kernel_rfl) (fun _ _ _ h => h) (Or.inl ⟨by rfl, ?_⟩) (by assumption) ?_
  rotate_left
  · (intro ww hSw; (try dsimp only at hSw); go_simp; (try with_reducible rfl))
  try simp only [Act.put, List.setIfInBounds_toArray, List.set_cons_zero, List.set_cons_succ]
  refine wpAnyH_take (i := 36) (v := ?_) (by simp only [List.getElem?_toArray]; rfl) (by kernel_rfl) (by kernel_rfl) (by kernel_rfl) (fun _ _ _ h => h) (Or.inl ⟨by rfl, ?_⟩) (by assumption) ?_
  rotate_left
  · (intro ww hSw; (try dsimp only at hSw); go_simp; (try with_reducible rfl))
  try simp only [Act.put, List.setIfInBounds_toArray, List.set_cons_zero, List.set_cons_succ]
  refine wpAnyH_take (i := 37) (v := ?_) (by simp only [List.getElem?_toArray]; rfl) (by kernel_rfl) (by kernel_rfl) (by kernel_rfl) (fun _ _ _ h => h) (Or.inl ⟨by rfl, ?_⟩) (by assumption) ?_
  rotate_left
  · (intro ww hSw; (try dsimp only at hSw); go_simp; (try with_reducible rfl))
  try simp only [Act.put, List.setIfInBounds_toArray, List.set_cons_zero, List.set_cons_succ]
  refine wpAnyH_take (i := 38) (v := ?_) (by simp only [List.getElem?_toArray]; rfl) (by kernel_rfl) (by kernel_rfl) (by kernel_rfl) (fun _ _ _ h => h) (Or.inl ⟨by rfl, ?_⟩) (by assumption) ?_
  rotate_left
  · (intro ww hSw; (try dsimp only at hSw); go_simp; (try with_reducible rfl))
  try simp only [Act.put, List.setIfInBounds_toArray, List.set_cons_zero, List.set_cons_succ]
  refine wpAnyH_take (i := 39) (v := ?_) (by simp only [List.getElem?_toArray]; rfl) (by kernel_rfl) (by kernel_rfl) (by kernel_rfl) (fun _ _ _ h => h) (Or.inl ⟨by rfl, ?_⟩) (by assumption) ?_
  rotate_left
  · (intro ww hSw; (try dsimp only at hSw); go_simp; (try with_reducible rfl))
  try simp only [Act.put, List.setIfInBounds_toArray, List.set_cons_zero, List.set_cons_succ]
  refine wpAnyH_take (i := 40) (v := ?_) (by simp only [List.getElem?_toArray]; rfl) (by kernel_rfl) (by kernel_rfl) (by kernel_rfl) (fun _ _ _ h => h) (Or.inl ⟨by rfl, ?_⟩) (by assumption) ?_
  rotate_left
  · (intro ww hSw; (try dsimp only at hSw); go_simp; (try with_reducible rfl))
  try simp only [Act.put, List.setIfInBounds_toArray, List.set_cons_zero, List.set_cons_succ]
  refine wpAnyH_take (i := 41) (v := ?_) (by simp only [List.getElem?_toArray]; rfl) (by kernel_rfl) (by kernel_rfl) (by kernel_rfl) (fun _ _ _ h => h) (Or.inl ⟨by rfl, ?_⟩) (by assumption) ?_
  rotate_left
  · (intro ww hSw; (try dsimp only at hSw); go_simp; (try with_reducible rfl))
  try simp only [Act.put, List.setIfInBounds_toArray, List.set_cons_zero, List.set_cons_succ]
  refine wpAnyH_take (i := 42) (v := ?_) (by simp only [List.getElem?_toArray]; rfl) (by kernel_rfl) (by kernel_rfl) (by kernel_rfl) (fun _ _ _ h => h) (Or.inl ⟨by rfl, ?_⟩) (by assumption) ?_
  rotate_left
  · (intro ww hSw; (try dsimp only at hSw); go_simp; (try with_reducible rfl))
  try simp only [Act.put, List.setIfInBounds_toArray, List.set_cons_zero, List.set_cons_succ]
  refine wpAnyH_take (i := 43) (v := ?_) (by simp only [List.getElem?_toArray]; rfl) (by kernel_rfl) (by kernel_rfl) (by kernel_rfl) (fun _ _ _ h => h) (Or.inl ⟨by rfl, ?_⟩) (by assumption) ?_
  rotate_left
  · (intro ww hSw; (try dsimp only at hSw); go_simp; (try with_reducible rfl))
  try simp only [Act.put, List.setIfInBounds_toArray, List.set_cons_zero, List.set_cons_succ]
  refine wpAnyH_take (i := 44) (v := ?_) (by simp only [List.getElem?_toArray]; rfl) (by kernel_rfl) (by kernel_rfl) (by kernel_rfl) (fun _ _ _ h => h) (Or.inl ⟨by rfl, ?_⟩) (by assumption) ?_
  rotate_left
  · (intro ww hSw; (try dsimp only at hSw); go_simp; (try with_reducible rfl))
  try simp only [Act.put, List.setIfInBounds_toArray, List.set_cons_zero, List.set_cons_succ]
  refine wpAnyH_take (i := 45) (v := ?_) (by simp only [List.getElem?_toArray]; rfl) (by kernel_rfl) (by kernel_rfl) (by kernel_rfl) (fun _ _ _ h => h) (Or.inl ⟨by rfl, ?_⟩) (by assumption) ?_
  rotate_left
  · (intro ww hSw; (try dsimp only at hSw); go_simp; (try with_reducible rfl))
  try simp only [Act.put, List.setIfInBounds_toArray, List.set_cons_zero, List.set_cons_succ]
  refine wpAnyH_take (i := 46) (v := ?_) (by simp only [List.getElem?_toArray]; rfl) (by kernel_rfl) (by kernel_rfl) (by kernel_rfl) (fun _ _ _ h => h) (Or.inl ⟨by rfl, ?_⟩) (by assumption) ?_
  rotate_left
  · (intro ww hSw; (try dsimp only at hSw); go_simp; (try with_reducible rfl))
  try simp only [Act.put, List.setIfInBounds_toArray, List.set_cons_zero, List.set_cons_succ]
  refine wpAnyH_take (i := 47) (v := ?_) (by simp only [List.getElem?_toArray]; rfl) (by kernel_rfl) (by kernel_rfl) (by kernel_rfl) (fun _ _ _ h => h) (Or.inl ⟨by rfl, ?_⟩) (by assumption) ?_
  rotate_left
  · (intro ww hSw; (try dsimp only at hSw); go_simp; (try with_reducible rfl))
  try simp only [Act.put, List.setIfInBounds_toArray, List.set_cons_zero, List.set_cons_succ]
  refine wpAnyH_ready (rs := [48, 49]) (by kernel_rfl) (by simp) (AllReadyH.cons (by simp only [List.getElem?_toArray]; rfl) (fun K hK => ?_) (AllReadyH.cons (by simp only [List.getElem?_toArray]; rfl) (fun K hK => ?_) AllReadyH.nil))
  ·
    go_simp; refine (aw7_in w.heap.size a k _ ac kc whc _ (XV.out.below hHeld.1 (Nat.le_refl _))).mono ?_; rintro e w9 ⟨q9, c9, rfl, hi9, hb9⟩; try go_wp2_with fail
    refine hK.out _ _ (by (first | (with_reducible exact KS.out _ (bdrew1 (Below.refl _ _))) | (with_reducible exact KS.out _ (below_call hHeld.1 hHeld.1.size hb9)) | (with_reducible exact KS.out _ (hHeld.1.alloc hHeld.1.size _)))) (fun hHeld => ?_)
    clear hK K
    try simp only [Act.put, List.setIfInBounds_toArray, List.set_cons_zero, List.set_cons_succ]
    refine wpAnyH_ready (rs := [49]) (by kernel_rfl) (by simp) (AllReadyH.cons (by simp only [List.getElem?_toArray]; rfl) (fun K hK => ?_) AllReadyH.nil)
    go_simp
    try go_wp2_with fail
    refine hK.out _ _ (by (first | (with_reducible exact KS.out _ (bdrew1 (Below.refl _ _))) | (with_reducible exact KS.out _ (below_call hHeld.1 hHeld.1.size hb9)) | (with_reducible exact KS.out _ (hHeld.1.alloc hHeld.1.size _)))) (fun hHeld => ?_)
    clear hK K
    try simp only [Act.put, List.setIfInBounds_toArray, List.set_cons_zero, List.set_cons_succ]
    refine wpAnyH_ready (rs := [50]) (by kernel_rfl) (by simp) (AllReadyH.cons (by simp only [List.getElem?_toArray]; rfl) (fun K hK => ?_) AllReadyH.nil)
    go_simp; refine (aw7_ints _ q9 _ c9 (hi9.alloc _) (one_ints _)).mono ?_; rintro e w9 ⟨rfl, hb9⟩; try go_wp2_with fail
    refine hK.out _ _ (by (first | (with_reducible exact KS.out _ (bdrew1 (Below.refl _ _))) | (with_reducible exact KS.out _ (below_call hHeld.1 hHeld.1.size hb9)) | (with_reducible exact KS.out _ (hHeld.1.alloc hHeld.1.size _)))) (fun hHeld => ?_)
    clear hK K
    try simp only [Act.put, List.setIfInBounds_toArray, List.set_cons_zero, List.set_cons_succ]
    refine wpAnyH_take (i := 51) (v := ?_) (by simp only [List.getElem?_toArray]; rfl) (by kernel_rfl) (by kernel_rfl) (by kernel_rfl) (fun _ _ _ h => h) (Or.inl ⟨by rfl, ?_⟩) (by assumption) ?_
    rotate_left
    · (intro ww hSw; (try dsimp only at hSw); go_simp; (try with_reducible rfl))
    try simp only [Act.put, List.setIfInBounds_toArray, List.set_cons_zero, List.set_cons_succ]
    refine wpAnyH_take (i := 52) (v := ?_) (by simp only [List.getElem?_toArray]; rfl) (by kernel_rfl) (by kernel_rfl) (by kernel_rfl) (fun _ _ _ h => h) (Or.inl ⟨by rfl, ?_⟩) (by assumption) ?_
    rotate_left
    · (intro ww hSw; (try dsimp only at hSw); go_simp; (try with_reducible rfl))
    try simp only [Act.put, List.setIfInBounds_toArray, List.set_cons_zero, List.set_cons_succ]
    refine wpAnyH_take (i := 53) (v := ?_) (by simp only [List.getElem?_toArray]; rfl) (by kernel_rfl) (by kernel_rfl) (by kernel_rfl) (fun _ _ _ h => h) (Or.inl ⟨by rfl, ?_⟩) (by assumption) ?_
    rotate_left
    · (intro ww hSw; (try dsimp only at hSw); go_simp; (try with_reducible rfl))
    try simp only [Act.put, List.setIfInBounds_toArray, List.set_cons_zero, List.set_cons_succ]
    refine wpAnyH_take (i := 54) (v := ?_) (by simp only [List.getElem?_toArray]; rfl) (by kernel_rfl) (by kernel_rfl) (by kernel_rfl) (fun _ _ _ h => h) (Or.inl ⟨by rfl, ?_⟩) (by assumption) ?_
    rotate_left
    · (intro ww hSw; (try dsimp only at hSw); go_simp; (try with_reducible rfl))
    try simp only [Act.put, List.setIfInBounds_toArray, List.set_cons_zero, List.set_cons_succ]
    refine wpAnyH_ready (rs := [55]) (by kernel_rfl) (by simp) (AllReadyH.cons (by simp only [List.getElem?_toArray]; rfl) (fun K hK => ?_) AllReadyH.nil)
    go_simp; refine (aw7_room1 w.heap.size a k _ ac kc whc _ (XV.out.below hHeld.1 (Nat.le_refl _))).mono ?_; rintro e w9 ⟨rfl, hb9⟩; try go_wp2_with fail
    refine hK.out _ _ (by (first | (with_reducible exact KS.out _ (bdrew1 (Below.refl _ _))) | (with_reducible exact KS.out _ (below_call hHeld.1 hHeld.1.size hb9)) | (with_reducible exact KS.out _ (hHeld.1.alloc hHeld.1.size _)))) (fun hHeld => ?_)
    clear hK K
    try simp only [Act.put, List.setIfInBounds_toArray, List.set_cons_zero, List.set_cons_succ]
    refine wpAnyH_take (i := 56) (v := ?_) (by simp only [List.getElem?_toArray]; rfl) (by kernel_rfl) (by kernel_rfl) (by kernel_rfl) (fun _ _ _ h => h) (Or.inl ⟨by rfl, ?_⟩) (by assumption) ?_
    rotate_left
    · (intro ww hSw; (try dsimp only at hSw); go_simp; (try with_reducible rfl))
    try simp only [Act.put, List.setIfInBounds_toArray, List.set_cons_zero, List.set_cons_succ]
    refine wpAnyH_take (i := 57) (v := ?_) (by simp only [List.getElem?_toArray]; rfl) (by kernel_rfl) (by kernel_rfl) (by kernel_rfl) (fun _ _ _ h => h) (Or.inl ⟨by rfl, ?_⟩) (by assumption) ?_
    rotate_left
    · (intro ww hSw; (try dsimp only at hSw); go_simp; (try with_reducible rfl))
    try simp only [Act.put, List.setIfInBounds_toArray, List.set_cons_zero, List.set_cons_succ]
    refine wpAnyH_take (i := 58) (v := ?_) (by simp only [List.getElem?_toArray]; rfl) (by kernel_rfl) (by kernel_rfl) (by kernel_rfl) (fun _ _ _ h => h) (Or.inl ⟨by rfl, ?_⟩) (by assumption) ?_
    rotate_left
    · (intro ww hSw; (try dsimp only at hSw); go_simp; (try with_reducible rfl))
    try simp only [Act.put, List.setIfInBounds_toArray, List.set_cons_zero, List.set_cons_succ]
    refine wpAnyH_take (i := 59) (v := ?_) (by simp only [List.getElem?_toArray]; rfl) (by kernel_rfl) (by kernel_rfl) (by kernel_rfl) (fun _ _ _ h => h) (Or.inl ⟨by rfl, ?_⟩) (by assumption) ?_
    rotate_left
    · (intro ww hSw; (try dsimp only at hSw); go_simp; (try with_reducible rfl))
    try simp only [Act.put, List.setIfInBounds_toArray, List.set_cons_zero, List.set_cons_succ]
    refine wpAnyH_take (i := 60) (v := ?_) (by simp only [List.getElem?_toArray]; rfl) (by kernel_rfl) (by kernel_rfl) (by kernel_rfl) (fun _ _ _ h => h) (Or.inl ⟨by rfl, ?_⟩) (by assumption) ?_
    rotate_left
    · (intro ww hSw; (try dsimp only at hSw); go_simp; (try with_reducible rfl))
    try simp only [Act.put, List.setIfInBounds_toArray, List.set_cons_zero, List.set_cons_succ]
    refine wpAnyH_ready (rs := [61]) (by kernel_rfl) (by simp) (AllReadyH.cons (by simp only [List.getElem?_toArray]; rfl) (fun K hK => ?_) AllReadyH.nil)
    go_simp; refine (aw7_room2 w.heap.size a k _ ac kc whc _ (XV.out.below hHeld.1 (Nat.le_refl _))).mono ?_; rintro e w9 ⟨rfl, hb9⟩; try go_wp2_with fail
    refine hK.out _ _ (by (first | (with_reducible exact KS.out _ (bdrew1 (Below.refl _ _))) | (with_reducible exact KS.out _ (below_call hHeld.1 hHeld.1.size hb9)) | (with_reducible exact KS.out _ (hHeld.1.alloc hHeld.1.size _)))) (fun hHeld => ?_)
    clear hK K
    try simp only [Act.put, List.setIfInBounds_toArray, List.set_cons_zero, List.set_cons_succ]
    refine wpAnyH_take (i := 62) (v := ?_) (by simp only [List.getElem?_toArray]; rfl) (by kernel_rfl) (by kernel_rfl) (by kernel_rfl) (fun _ _ _ h => h) (Or.inl ⟨by rfl, ?_⟩) (by assumption) ?_
    rotate_left
    · (intro ww hSw; (try dsimp only at hSw); go_simp; (try with_reducible rfl))
    try simp only [Act.put, List.setIfInBounds_toArray, List.set_cons_zero, List.set_cons_succ]
    refine wpAnyH_take (i := 63) (v := ?_) (by simp only [List.getElem?_toArray]; rfl) (by kernel_rfl) (by kernel_rfl) (by kernel_rfl) (fun _ _ _ h => h) (Or.inl ⟨by rfl, ?_⟩) (by assumption) ?_
    rotate_left
    · (intro ww hSw; (try dsimp only at hSw); go_simp; (try with_reducible rfl))
    try simp only [Act.put, List.setIfInBounds_toArray, List.set_cons_zero, List.set_cons_succ]
    refine wpAnyH_take (i := 64) (v := ?_) (by simp only [List.getElem?_toArray]; rfl) (by kernel_rfl) (by kernel_rfl) (by kernel_rfl) (fun _ _ _ h => h) (Or.inl ⟨by rfl, ?_⟩) (by assumption) ?_
    rotate_left
    · (intro ww hSw; (try dsimp only at hSw); go_simp; (try with_reducible rfl))
    try simp only [Act.put, List.setIfInBounds_toArray, List.set_cons_zero]
    refine wpAnyH_done (by kernel_rfl) ?_ _
    refine NoPanic.normal ?_
    have HE := Lib.hid hHeld.1
    clear hHeld
    go_wp2_with fail
    go_ret
    exact ⟨rfl, below_call L1.out.1 L1.out.1.size HE.out⟩
  ·
    go_simp
    try go_wp2_with fail
    refine hK.out _ _ (by (first | (with_reducible exact KS.out _ (bdrew1 (Below.refl _ _))) | (with_reducible exact KS.out _ (below_call hHeld.1 hHeld.1.size hb9)) | (with_reducible exact KS.out _ (hHeld.1.alloc hHeld.1.size _)))) (fun hHeld => ?_)
    clear hK K
    try simp only [Act.put, List.setIfInBounds_toArray, List.set_cons_zero, List.set_cons_succ]
    refine wpAnyH_ready (rs := [48]) (by kernel_rfl) (by simp) (AllReadyH.cons (by simp only [List.getElem?_toArray]; rfl) (fun K hK => ?_) AllReadyH.nil)
    go_simp; refine (aw7_in w.heap.size a k _ ac kc whc _ (XV.out.below hHeld.1 (Nat.le_refl _))).mono ?_; rintro e w9 ⟨q9, c9, rfl, hi9, hb9⟩; have ho9 := (one_ints _).call hb9; try go_wp2_with fail
    refine hK.out _ _ (by (first | (with_reducible exact KS.out _ (bdrew1 (Below.refl _ _))) | (with_reducible exact KS.out _ (below_call hHeld.1 hHeld.1.size hb9)) | (with_reducible exact KS.out _ (hHeld.1.alloc hHeld.1.size _)))) (fun hHeld => ?_)
    clear hK K
    try simp only [Act.put, List.setIfInBounds_toArray, List.set_cons_zero, List.set_cons_succ]
    refine wpAnyH_ready (rs := [50]) (by kernel_rfl) (by simp) (AllReadyH.cons (by simp only [List.getElem?_toArray]; rfl) (fun K hK => ?_) AllReadyH.nil)
    go_simp; refine (aw7_ints _ q9 _ c9 hi9 ho9).mono ?_; rintro e w9 ⟨rfl, hb9⟩; try go_wp2_with fail
    refine hK.out _ _ (by (first | (with_reducible exact KS.out _ (bdrew1 (Below.refl _ _))) | (with_reducible exact KS.out _ (below_call hHeld.1 hHeld.1.size hb9)) | (with_reducible exact KS.out _ (hHeld.1.alloc hHeld.1.size _)))) (fun hHeld => ?_)
    clear hK K
    try simp only [Act.put, List.setIfInBounds_toArray, List.set_cons_zero, List.set_cons_succ]
    refine wpAnyH_take (i := 51) (v := ?_) (by simp only [List.getElem?_toArray]; rfl) (by kernel_rfl) (by kernel_rfl) (by kernel_rfl) (fun _ _ _ h => h) (Or.inl ⟨by rfl, ?_⟩) (by assumption) ?_
    rotate_left
    · (intro ww hSw; (try dsimp only at hSw); go_simp; (try with_reducible rfl))
    try simp only [Act.put, List.setIfInBounds_toArray, List.set_cons_zero, List.set_cons_succ]
    refine wpAnyH_take (i := 52) (v := ?_) (by simp only [List.getElem?_toArray]; rfl) (by kernel_rfl) (by kernel_rfl) (by kernel_rfl) (fun _ _ _ h => h) (Or.inl ⟨by rfl, ?_⟩) (by assumption) ?_
    rotate_left
    · (intro ww hSw; (try dsimp only at hSw); go_simp; (try with_reducible rfl))
    try simp only [Act.put, List.setIfInBounds_toArray, List.set_cons_zero, List.set_cons_succ]
    refine wpAnyH_take (i := 53) (v := ?_) (by simp only [List.getElem?_toArray]; rfl) (by kernel_rfl) (by kernel_rfl) (by kernel_rfl) (fun _ _ _ h => h) (Or.inl ⟨by rfl, ?_⟩) (by assumption) ?_
    rotate_left
    · (intro ww hSw; (try dsimp only at hSw); go_simp; (try with_reducible rfl))
    try simp only [Act.put, List.setIfInBounds_toArray, List.set_cons_zero, List.set_cons_succ]
    refine wpAnyH_take (i := 54) (v := ?_) (by simp only [List.getElem?_toArray]; rfl) (by kernel_rfl) (by kernel_rfl) (by kernel_rfl) (fun _ _ _ h => h) (Or.inl ⟨by rfl, ?_⟩) (by assumption) ?_
    rotate_left
    · (intro ww hSw; (try dsimp only at hSw); go_simp; (try with_reducible rfl))
    try simp only [Act.put, List.setIfInBounds_toArray, List.set_cons_zero, List.set_cons_succ]
    refine wpAnyH_ready (rs := [55]) (by kernel_rfl) (by simp) (AllReadyH.cons (by simp only [List.getElem?_toArray]; rfl) (fun K hK => ?_) AllReadyH.nil)
    go_simp; refine (aw7_room1 w.heap.size a k _ ac kc whc _ (XV.out.below hHeld.1 (Nat.le_refl _))).mono ?_; rintro e w9 ⟨rfl, hb9⟩; try go_wp2_with fail
    refine hK.out _ _ (by (first | (with_reducible exact KS.out _ (bdrew1 (Below.refl _ _))) | (with_reducible exact KS.out _ (below_call hHeld.1 hHeld.1.size hb9)) | (with_reducible exact KS.out _ (hHeld.1.alloc hHeld.1.size _)))) (fun hHeld => ?_)
    clear hK K
    try simp only [Act.put, List.setIfInBounds_toArray, List.set_cons_zero, List.set_cons_succ]
    refine wpAnyH_take (i := 56) (v := ?_) (by simp only [List.getElem?_toArray]; rfl) (by kernel_rfl) (by kernel_rfl) (by kernel_rfl) (fun _ _ _ h => h) (Or.inl ⟨by rfl, ?_⟩) (by assumption) ?_
    rotate_left
    · (intro ww hSw; (try dsimp only at hSw); go_simp; (try with_reducible rfl))
    try simp only [Act.put, List.setIfInBounds_toArray, List.set_cons_zero, List.set_cons_succ]
    refine wpAnyH_take (i := 57) (v := ?_) (by simp only [List.getElem?_toArray]; rfl) (by kernel_rfl) (by kernel_rfl) (by kernel_rfl) (fun _ _ _ h => h) (Or.inl ⟨by rfl, ?_⟩) (by assumption) ?_
    rotate_left
    · (intro ww hSw; (try dsimp only at hSw); go_simp; (try with_reducible rfl))
    try simp only [Act.put, List.setIfInBounds_toArray, List.set_cons_zero, List.set_cons_succ]
    refine wpAnyH_take (i := 58) (v := ?_) (by simp only [List.getElem?_toArray]; rfl) (by kernel_rfl) (by kernel_rfl) (by kernel_rfl) (fun _ _ _ h => h) (Or.inl ⟨by rfl, ?_⟩) (by assumption) ?_
    rotate_left
    · (intro ww hSw; (try dsimp only at hSw); go_simp; (try with_reducible rfl))
    try simp only [Act.put, List.setIfInBounds_toArray, List.set_cons_zero, List.set_cons_succ]
    refine wpAnyH_take (i := 59) (v := ?_) (by simp only [List.getElem?_toArray]; rfl) (by kernel_rfl) (by kernel_rfl) (by kernel_rfl) (fun _ _ _ h => h) (Or.inl ⟨by rfl, ?_⟩) (by assumption) ?_
    rotate_left
    · (intro ww hSw; (try dsimp only at hSw); go_simp; (try with_reducible rfl))
    try simp only [Act.put, List.setIfInBounds_toArray, List.set_cons_zero, List.set_cons_succ]
    refine wpAnyH_take (i := 60) (v := ?_) (by simp only [List.getElem?_toArray]; rfl) (by kernel_rfl) (by kernel_rfl) (by kernel_rfl) (fun _ _ _ h => h) (Or.inl ⟨by rfl, ?_⟩) (by assumption) ?_
    rotate_left
    · (intro ww hSw; (try dsimp only at hSw); go_simp; (try with_reducible rfl))
    try simp only [Act.put, List.setIfInBounds_toArray, List.set_cons_zero, List.set_cons_succ]
    refine wpAnyH_ready (rs := [61]) (by kernel_rfl) (by simp) (AllReadyH.cons (by simp only [List.getElem?_toArray]; rfl) (fun K hK => ?_) AllReadyH.nil)
    go_simp; refine (aw7_room2 w.heap.size a k _ ac kc whc _ (XV.out.below hHeld.1 (Nat.le_refl _))).mono ?_; rintro e w9 ⟨rfl, hb9⟩; try go_wp2_with fail
    refine hK.out _ _ (by (first | (with_reducible exact KS.out _ (bdrew1 (Below.refl _ _))) | (with_reducible exact KS.out _ (below_call hHeld.1 hHeld.1.size hb9)) | (with_reducible exact KS.out _ (hHeld.1.alloc hHeld.1.size _)))) (fun hHeld => ?_)
    clear hK K
    try simp only [Act.put, List.setIfInBounds_toArray, List.set_cons_zero, List.set_cons_succ]
    refine wpAnyH_take (i := 62) (v := ?_) (by simp only [List.getElem?_toArray]; rfl) (by kernel_rfl) (by kernel_rfl) (by kernel_rfl) (fun _ _ _ h => h) (Or.inl ⟨by rfl, ?_⟩) (by assumption) ?_
    rotate_left
    · (intro ww hSw; (try dsimp only at hSw); go_simp; (try with_reducible rfl))
    try simp only [Act.put, List.setIfInBounds_toArray, List.set_cons_zero, List.set_cons_succ]
    refine wpAnyH_take (i := 63) (v := ?_) (by simp only [List.getElem?_toArray]; rfl) (by kernel_rfl) (by kernel_rfl) (by kernel_rfl) (fun _ _ _ h => h) (Or.inl ⟨by rfl, ?_⟩) (by assumption) ?_
    rotate_left
    · (intro ww hSw; (try dsimp only at hSw); go_simp; (try with_reducible rfl))
    try simp only [Act.put, List.setIfInBounds_toArray, List.set_cons_zero, List.set_cons_succ]
    refine wpAnyH_take (i := 64) (v := ?_) (by simp only [List.getElem?_toArray]; rfl) (by kernel_rfl) (by kernel_rfl) (by kernel_rfl) (fun _ _ _ h => h) (Or.inl ⟨by rfl, ?_⟩) (by assumption) ?_
    rotate_left
    · (intro ww hSw; (try dsimp only at hSw); go_simp; (try with_reducible rfl))
    try simp only [Act.put, List.setIfInBounds_toArray, List.set_cons_zero]
    refine wpAnyH_done (by kernel_rfl) ?_ _
    refine NoPanic.normal ?_
    have HE := Lib.hid hHeld.1
    clear hHeld
    go_wp2_with fail
    go_ret
    exact ⟨rfl, below_call L1.out.1 L1.out.1.size HE.out⟩
end Go.Proofs.Ytameelaiigljjaa
