import Derived.Test.YtcabeagmdfpdlaaDoorRows
import Derived.Test.YtcabeagmdfpdlaaDoorKit
import Derived.Test.YtcabeagmdfpdlaaDoorStrs
import Derived.Test.YtcabeagmdfpdlaaDoorJTab
import Derived.Test.YtcabeagmdfpdlaaDoorJBlk
import Derived.Test.YtcabeagmdfpdlaaDoorClone
import Derived.Test.YtcabeagmdfpdlaaDoorJMath
import Derived.Test.YtcabeagmdfpdlaaDoorJNum
import Derived.Test.YtcabeagmdfpdlaaDoorJTokWord
import Derived.Test.YtcabeagmdfpdlaaDoorJTokJoin
import Derived.Test.YtcabeagmdfpdlaaDoorJCut
import Derived.Test.YtcabeagmdfpdlaaDoorJAppend
import Derived.Test.YtcabeagmdfpdlaaDoorJGrown
import Derived.Test.YtcabeagmdfpdlaaDoorJCmdA
import Derived.Test.YtcabeagmdfpdlaaDoorJCmdNames1
import Derived.Test.YtcabeagmdfpdlaaDoorJRepMath
import Derived.Test.YtcabeagmdfpdlaaDoorJRepItems
import Derived.Test.YtcabeagmdfpdlaaDoorJRepWords
import Derived.Test.YtcabeagmdfpdlaaDoorJRepPut
import Derived.Test.YtcabeagmdfpdlaaDoorJRepRead1
import Derived.Test.YtcabeagmdfpdlaaDoorJRead
import Derived.OwnWalk
import Derived.Laws.OwnMore
import Derived.WalkKit
import Derived.ProofKit
import Derived.OpenShut
import Derived.IntWalk
/- reply: read: an answer read of words. -/
namespace Go.Proofs.YtcabeagmdfpdlaaDoor
open Go.ChangeShapes Go.WideShapes Go.ChangeAt Go.RowKit
set_option linter.unusedVariables false
open Go.RowKit Go
theorem Taken.from_ {W0 W W1 W' : World} {ws : List (List UInt8)} (h : Taken W0 W1 ws W') (hb : Below W.heap.size W W1) : Taken W0 W ws W' := ⟨h.1, grown_trans (grown_below hb _) h.2 (.inl rfl)⟩
theorem Taken.call {W0 W W1 W' : World} {ws : List (List UInt8)} (h : Taken W0 W ws W') (hb : Below W'.heap.size W' W1) : Taken W0 W ws W1 := ⟨h.1.call hb, grown_trans h.2 (grown_below hb _) (.inl rfl)⟩
theorem Taken.alloc {W0 W W' : World} {ws : List (List UInt8)} (h : Taken W0 W ws W') (o : Obj) : Taken W0 W ws (W'.alloc o) := h.call ((Below.refl _ _).alloc (Nat.le_refl _) _)
/-- A block of the reader's own, over a step of a reader. -/
theorem Blk.taken {W0 W W' : World} {ws : List (List UInt8)} {g : Nat} {t : TypeId} {cs : Array Value} (h : Blk W g t cs) (k : Taken W0 W ws W') (hg : W0.heap.size < g) : Blk W' g t cs := h.grow k.2 (by simp only [ne_eq, Option.some.injEq]; omega)
theorem NewI.nil (n : Nat) (W : World) : NewI n W none [] := ⟨IntsAt.nil _ _, fun p hp => by cases hp⟩
theorem NewS.nil (n : Nat) (W : World) : NewS n W none [] := ⟨SnsAt.nil _ _, fun p hp => by cases hp⟩
theorem NewI.less {n m : Nat} {W : World} {a : Option Addr} {xs : List Int} (hm : m ≤ n) (h : NewI n W a xs) : NewI m W a xs := ⟨h.1, fun p hp => Nat.le_trans hm (h.2 p hp)⟩
theorem NewS.less {n m : Nat} {W : World} {a : Option Addr} {xs : List Sn} (hm : m ≤ n) (h : NewS n W a xs) : NewS m W a xs := ⟨h.1, fun p hp => Nat.le_trans hm (h.2 p hp)⟩
/-- What read hands back. -/
def ReadsTo (W0 W : World) (r : Rp) (e : Ending) (W' : World) : Prop :=
  ∃ pa pc ia ic rest, e = .returned (.agg #[.int .i64 r.err, .int .i64 r.kind, .int .i64 r.room, .slice pa r.players.length pc, .slice ia r.items.length ic, .int .i64 r.coins]) ∧ NewI W.heap.size W' pa r.players ∧ NewS W.heap.size W' ia r.items ∧ Taken W0 W rest W'
section
variable (W0 W : World) (ws : List (List UInt8)) (h : Que W0 W ws) (hx : ∀ x ∈ ws, x.length ≤ 1000000) (ht : RTabs W0)
include h hx ht
set_option maxRecDepth 100000 in
set_option maxHeartbeats 400000 in
theorem read_err (hn : headW ws = [101, 114, 114, 111, 114]) :
    Calls Tryd.prog 30 #[takeV W0] W (ReadsTo W0 W ⟨(numN (headW ws.tail) : Int), 0, 0, [], [], 0⟩) := by
  have HT := Lib.hid ht
  have HLT := Lib.hid h.lt
  have HX := Lib.hid hx
  have X1 := Lib.hid (tail_fine hx)
  have T0 := Lib.hid (show Below W.heap.size W (W.alloc (.cells #[.int .i64 0, .int .i64 0, .int .i64 0, .slice none 0 0, .slice none 0 0, .int .i64 0] 26)) from (Below.refl _ _).alloc (Nat.le_refl _) _)
  have HB := Lib.hid (Blk.new W 26 #[.int .i64 0, .int .i64 0, .int .i64 0, .slice none 0 0, .slice none 0 0, .int .i64 0])
  have HQ := Lib.hid ((h.alloc (.cells #[.int .i64 0, .int .i64 0, .int .i64 0, .slice none 0 0, .slice none 0 0, .int .i64 0] 26)))
  clear h hx ht
  unfold takeV
  go_enter Tryd.func30, Tryd.ntmps30
  go_wp2_with fail
  refine (take_any W0 _ ws HQ.out).mono ?_
  rintro e w1 ⟨rfl, h1⟩
  have H1 := Lib.hid h1
  clear h1 HQ
  rw [hn]
  go_wp2_with fail
  refine (rdnum_any W0 _ ws.tail H1.out.1 X1.out).mono ?_
  rintro e w2 ⟨rfl, h2⟩
  have H2 := Lib.hid (taken_trans H1.out h2)
  clear h2
  have b2 := HB.out.taken H2.out HLT.out
  have hc := b2.cell
  have hf := b2.frozen
  have hl := b2.lt
  clear b2
  go_wp2_with fail
  refine bodyPost_ret (v := .agg #[.int .i64 (numN (headW ws.tail)), .int .i64 0, .int .i64 0, .slice none 0 0, .slice none 0 0, .int .i64 0]) (by simp [results, Tryd.results30, go_sem, hc]) rfl ⟨none, 0, none, 0, ws.tail.tail, rfl, NewI.nil _ _, NewS.nil _ _, ?_⟩
  have T := H2.out.from_ T0.out
  repeat (with_reducible refine Taken.set ?_ HLT.out (Nat.le_refl _) _ _)
  exact T
set_option maxRecDepth 100000 in
set_option maxHeartbeats 400000 in
theorem read_else (hn : (headW ws == [101, 114, 114, 111, 114]) = false) (h1 : (kindN (headW ws) == 1) = false) (h2 : (kindN (headW ws) == 2) = false) (h3 : (kindN (headW ws) == 9) = false) (h4 : (kindN (headW ws) == 10) = false) :
    Calls Tryd.prog 30 #[takeV W0] W (ReadsTo W0 W ⟨0, kindN (headW ws), 0, [], [], 0⟩) := by
  have HT := Lib.hid ht
  have HLT := Lib.hid h.lt
  have HX := Lib.hid hx
  have X1 := Lib.hid (tail_fine hx)
  have T0 := Lib.hid (show Below W.heap.size W (W.alloc (.cells #[.int .i64 0, .int .i64 0, .int .i64 0, .slice none 0 0, .slice none 0 0, .int .i64 0] 26)) from (Below.refl _ _).alloc (Nat.le_refl _) _)
  have HB := Lib.hid (Blk.new W 26 #[.int .i64 0, .int .i64 0, .int .i64 0, .slice none 0 0, .slice none 0 0, .int .i64 0])
  have HQ := Lib.hid ((h.alloc (.cells #[.int .i64 0, .int .i64 0, .int .i64 0, .slice none 0 0, .slice none 0 0, .int .i64 0] 26)))
  clear h hx ht
  unfold takeV
  go_enter Tryd.func30, Tryd.ntmps30
  go_wp2_with fail
  refine (take_any W0 _ ws HQ.out).mono ?_
  rintro e w1 ⟨rfl, hq⟩
  have H1 := Lib.hid hq
  clear hq HQ
  generalize headW ws = x at *
  go_wp2_with fail
  refine (kind_any x _ (H1.out.1.tabs HT.out).names).mono ?_
  rintro e w2 ⟨rfl, rfl⟩
  generalize kindN x = k at *
  have C1 := Lib.hid (H1.out.alloc (.cells #[.int .i64 0, .int .i64 k, .int .i64 0, .slice none 0 0, .slice none 0 0, .int .i64 0] 26))
  have B1 := Lib.hid (HB.out.taken H1.out HLT.out)
  have BB := Lib.hid (B1.out.alloc (.cells #[.int .i64 0, .int .i64 k, .int .i64 0, .slice none 0 0, .slice none 0 0, .int .i64 0] 26))
  have N1 := Lib.hid (show W.heap.size < w1.heap.size from B1.out.lt)
  have HR := Lib.hid (Blk.new w1 26 #[.int .i64 0, .int .i64 k, .int .i64 0, .slice none 0 0, .slice none 0 0, .int .i64 0])
  have hc2 := BB.out.cell
  have hf2 := BB.out.frozen
  have hl2 := BB.out.lt
  go_wp2_with fail
  refine bodyPost_ret (v := .agg #[.int .i64 0, .int .i64 k, .int .i64 0, .slice none 0 0, .slice none 0 0, .int .i64 0]) (by simp [results, Tryd.results30, go_sem, hc2]) rfl ⟨none, 0, none, 0, ws.tail, rfl, NewI.nil _ _, NewS.nil _ _, ?_⟩
  have T := (C1.out).from_ T0.out
  repeat (first | with_reducible refine Taken.set ?_ HLT.out (Nat.le_refl _) _ _ | with_reducible refine Taken.set ?_ (Nat.lt_trans HLT.out N1.out) (Nat.le_of_lt N1.out) _ _)
  exact T
set_option maxRecDepth 100000 in
set_option maxHeartbeats 1000000 in
theorem read_move (hn : (headW ws == [101, 114, 114, 111, 114]) = false) (hk : (kindN (headW ws) == 1) = true ∨ (kindN (headW ws) == 1) = false ∧ (kindN (headW ws) == 2) = true) :
    Calls Tryd.prog 30 #[takeV W0] W (ReadsTo W0 W ⟨0, kindN (headW ws), (numN (headW ws.tail) : Int), [], [], 0⟩) := by
  have HT := Lib.hid ht
  have HLT := Lib.hid h.lt
  have HX := Lib.hid hx
  have X1 := Lib.hid (tail_fine hx)
  have T0 := Lib.hid (show Below W.heap.size W (W.alloc (.cells #[.int .i64 0, .int .i64 0, .int .i64 0, .slice none 0 0, .slice none 0 0, .int .i64 0] 26)) from (Below.refl _ _).alloc (Nat.le_refl _) _)
  have HB := Lib.hid (Blk.new W 26 #[.int .i64 0, .int .i64 0, .int .i64 0, .slice none 0 0, .slice none 0 0, .int .i64 0])
  have HQ := Lib.hid ((h.alloc (.cells #[.int .i64 0, .int .i64 0, .int .i64 0, .slice none 0 0, .slice none 0 0, .int .i64 0] 26)))
  clear h hx ht
  unfold takeV
  go_enter Tryd.func30, Tryd.ntmps30
  go_wp2_with fail
  refine (take_any W0 _ ws HQ.out).mono ?_
  rintro e w1 ⟨rfl, hq⟩
  have H1 := Lib.hid hq
  clear hq HQ
  generalize headW ws = x at *
  go_wp2_with fail
  refine (kind_any x _ (H1.out.1.tabs HT.out).names).mono ?_
  rintro e w2 ⟨rfl, rfl⟩
  generalize kindN x = k at *
  have C1 := Lib.hid (H1.out.alloc (.cells #[.int .i64 0, .int .i64 k, .int .i64 0, .slice none 0 0, .slice none 0 0, .int .i64 0] 26))
  have B1 := Lib.hid (HB.out.taken H1.out HLT.out)
  have BB := Lib.hid (B1.out.alloc (.cells #[.int .i64 0, .int .i64 k, .int .i64 0, .slice none 0 0, .slice none 0 0, .int .i64 0] 26))
  have N1 := Lib.hid (show W.heap.size < w1.heap.size from B1.out.lt)
  have HR := Lib.hid (Blk.new w1 26 #[.int .i64 0, .int .i64 k, .int .i64 0, .slice none 0 0, .slice none 0 0, .int .i64 0])
  have hc2 := BB.out.cell
  have hf2 := BB.out.frozen
  have hl2 := BB.out.lt
  have R0 := Lib.hid (Nat.lt_trans HLT.out N1.out)
  have R1 := Lib.hid (show (W.alloc (.cells #[.int .i64 0, .int .i64 0, .int .i64 0, .slice none 0 0, .slice none 0 0, .int .i64 0] 26)).heap.size ≤ w1.heap.size from H1.out.2.size)
  rcases hk with hk | ⟨hk, hk2⟩
  all_goals
    go_wp2_with fail
    refine (rdnum_any W0 _ ws.tail C1.out.1 X1.out).mono ?_
    rintro e w2 ⟨rfl, hq⟩
    have H2 := Lib.hid (taken_trans C1.out hq)
    have b2 := BB.out.taken hq HLT.out
    have b3 := HR.out.taken hq R0.out
    clear hq hc2 hf2 hl2
    have hc := b3.cell
    have hf := b3.frozen
    have hl := b3.lt
    have hc2 := b2.cell
    have hf2 := b2.frozen
    have hl2 := b2.lt
    clear b2 b3
    have n1 : W.heap.size ≠ w1.heap.size := Nat.ne_of_lt N1.out
    have n2 : w1.heap.size ≠ W.heap.size := Nat.ne_of_gt N1.out
    go_wp2_with fail
    refine bodyPost_ret (v := .agg #[.int .i64 0, .int .i64 k, .int .i64 (numN (headW ws.tail)), .slice none 0 0, .slice none 0 0, .int .i64 0]) (by simp [results, Tryd.results30, go_sem, hc2]) rfl ⟨none, 0, none, 0, ws.tail.tail, rfl, NewI.nil _ _, NewS.nil _ _, ?_⟩
    have T := H2.out.from_ T0.out
    repeat (first | with_reducible refine Taken.set ?_ HLT.out (Nat.le_refl _) _ _ | with_reducible refine Taken.set ?_ R0.out (Nat.le_of_lt N1.out) _ _)
    exact T
end
end Go.Proofs.YtcabeagmdfpdlaaDoor
