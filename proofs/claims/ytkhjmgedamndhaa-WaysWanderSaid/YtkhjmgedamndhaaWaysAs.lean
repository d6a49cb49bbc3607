/- ways: the contracts that the laws use: with the answer named, over a value of one shape. -/
import Derived.Test.YtkhjmgedamndhaaRows
import Derived.Test.YtkhjmgedamndhaaKit
import Derived.Test.YtkhjmgedamndhaaSlices
import Derived.Test.YtkhjmgedamndhaaStrs
import Derived.Test.YtkhjmgedamndhaaCoin
import Derived.Test.YtkhjmgedamndhaaBlk
import Derived.Test.YtkhjmgedamndhaaHolds
import Derived.Test.YtkhjmgedamndhaaWorldMath
import Derived.Test.YtkhjmgedamndhaaWorldAt
import Derived.Test.YtkhjmgedamndhaaDescNest
import Derived.Test.YtkhjmgedamndhaaDescRight
import Derived.Test.YtkhjmgedamndhaaDescCopy
import Derived.Test.YtkhjmgedamndhaaDescCopy2
import Derived.Test.YtkhjmgedamndhaaDescStore
import Derived.Test.YtkhjmgedamndhaaDescAs
import Derived.Test.YtkhjmgedamndhaaRefCopied
import Derived.Test.YtkhjmgedamndhaaTreeMath
import Derived.Test.YtkhjmgedamndhaaTreeIs
import Derived.Test.YtkhjmgedamndhaaTreeArg
import Derived.Test.YtkhjmgedamndhaaWaysMath
import Derived.Test.YtkhjmgedamndhaaWaysA
import Derived.Test.YtkhjmgedamndhaaWaysB
import Derived.Test.YtkhjmgedamndhaaWaysC
import Derived.Test.YtkhjmgedamndhaaWaysD
import Derived.Test.YtkhjmgedamndhaaWaysE
import Derived.Test.YtkhjmgedamndhaaWaysAwake
import Derived.WalkKit
import Derived.ProofKit
import Derived.OpenShut
import Derived.IntWalk
namespace Go.Proofs.Ytkhjmgedamndhaa
open Go.ChangeShapes Go.WideShapes Go.ChangeAt Go.RowKit
set_option linter.unusedVariables false
open Go.RowKit
section
variable {x u : Wd} (hs : Shape x u) (p : Wp) (i d : Nat) (hd : d < 4) (w : World) (hu : rightW u = true) (h : WorldAt w p u) (hi : i < u.at_.length) (y : Wd) (r e : Int)
include hs hd hu h hi
theorem move_as (hR : moveW u i d = (y, r, e)) : Calls Try.prog 9 #[.agg #[.slice p.d.ex x.d.exits.length p.d.exc, .slice p.d.pl x.d.players.length p.d.plc, .slice p.d.co x.d.coins.length p.d.coc, .slice p.d.it x.d.items.length p.d.itc, .slice p.d.bo x.d.boxes.length p.d.boc, .int .i64 x.d.room, .int .i64 x.d.player, .int .i64 x.d.box, .slice p.at_ x.at_.length p.atc, .slice p.co x.coins.length p.coc, .slice p.wh x.wher.length p.whc], .int .i64 (i : Int), .int .i64 (d : Int)] w fun e' w' => ∃ q : Wp, e' = .returned (.tuple #[.agg #[.slice q.d.ex x.d.exits.length q.d.exc, .slice q.d.pl x.d.players.length q.d.plc, .slice q.d.co x.d.coins.length q.d.coc, .slice q.d.it x.d.items.length q.d.itc, .slice q.d.bo x.d.boxes.length q.d.boc, .int .i64 x.d.room, .int .i64 x.d.player, .int .i64 x.d.box, .slice q.at_ x.at_.length q.atc, .slice q.co x.coins.length q.coc, .slice q.wh x.wher.length q.whc], .int .i64 r, .int .i64 e]) ∧ WorldAt w' q y ∧ Below w.heap.size w w' := by
  have := move_any u p i d hd w hu h hi
  rw [hR, hs.val p] at this
  refine this.mono ?_
  rintro e' w' ⟨q, h1, h2, h3⟩
  rw [hs.val q] at h1
  exact ⟨q, h1, h2.world (h.call h3), h3⟩
theorem refmove_as (hR : moveW u i d = (y, r, e)) : Calls Try.prog 10 #[.agg #[.slice p.d.ex x.d.exits.length p.d.exc, .slice p.d.pl x.d.players.length p.d.plc, .slice p.d.co x.d.coins.length p.d.coc, .slice p.d.it x.d.items.length p.d.itc, .slice p.d.bo x.d.boxes.length p.d.boc, .int .i64 x.d.room, .int .i64 x.d.player, .int .i64 x.d.box, .slice p.at_ x.at_.length p.atc, .slice p.co x.coins.length p.coc, .slice p.wh x.wher.length p.whc], .int .i64 (i : Int), .int .i64 (d : Int)] w fun e' w' => ∃ q : Wp, e' = .returned (.tuple #[.agg #[.slice q.d.ex x.d.exits.length q.d.exc, .slice q.d.pl x.d.players.length q.d.plc, .slice q.d.co x.d.coins.length q.d.coc, .slice q.d.it x.d.items.length q.d.itc, .slice q.d.bo x.d.boxes.length q.d.boc, .int .i64 x.d.room, .int .i64 x.d.player, .int .i64 x.d.box, .slice q.at_ x.at_.length q.atc, .slice q.co x.coins.length q.coc, .slice q.wh x.wher.length q.whc], .int .i64 r, .int .i64 e]) ∧ WorldAt w' q y ∧ Below w.heap.size w w' := by
  have := refmove_any u p i d hd w hu h hi
  rw [hR, hs.val p] at this
  refine this.mono ?_
  rintro e' w' ⟨q, h1, h2, h3⟩
  rw [hs.val q] at h1
  exact ⟨q, h1, h2.world h h3, h3⟩
variable (q0 : Int)
theorem push_as (hR : pushW u i q0 d = (y, r, e)) : Calls Try.prog 11 #[.agg #[.slice p.d.ex x.d.exits.length p.d.exc, .slice p.d.pl x.d.players.length p.d.plc, .slice p.d.co x.d.coins.length p.d.coc, .slice p.d.it x.d.items.length p.d.itc, .slice p.d.bo x.d.boxes.length p.d.boc, .int .i64 x.d.room, .int .i64 x.d.player, .int .i64 x.d.box, .slice p.at_ x.at_.length p.atc, .slice p.co x.coins.length p.coc, .slice p.wh x.wher.length p.whc], .int .i64 (i : Int), .int .i64 q0, .int .i64 (d : Int)] w fun e' w' => ∃ q : Wp, e' = .returned (.tuple #[.agg #[.slice q.d.ex x.d.exits.length q.d.exc, .slice q.d.pl x.d.players.length q.d.plc, .slice q.d.co x.d.coins.length q.d.coc, .slice q.d.it x.d.items.length q.d.itc, .slice q.d.bo x.d.boxes.length q.d.boc, .int .i64 x.d.room, .int .i64 x.d.player, .int .i64 x.d.box, .slice q.at_ x.at_.length q.atc, .slice q.co x.coins.length q.coc, .slice q.wh x.wher.length q.whc], .int .i64 r, .int .i64 e]) ∧ WorldAt w' q y ∧ Below w.heap.size w w' := by
  have := push_any u p i q0 d hd w hu h hi
  rw [hR, hs.val p] at this
  refine this.mono ?_
  rintro e' w' ⟨q, h1, h2, h3⟩
  rw [hs.val q] at h1
  exact ⟨q, h1, h2.world (h.call h3), h3⟩
theorem refpush_as (hR : pushW u i q0 d = (y, r, e)) : Calls Try.prog 12 #[.agg #[.slice p.d.ex x.d.exits.length p.d.exc, .slice p.d.pl x.d.players.length p.d.plc, .slice p.d.co x.d.coins.length p.d.coc, .slice p.d.it x.d.items.length p.d.itc, .slice p.d.bo x.d.boxes.length p.d.boc, .int .i64 x.d.room, .int .i64 x.d.player, .int .i64 x.d.box, .slice p.at_ x.at_.length p.atc, .slice p.co x.coins.length p.coc, .slice p.wh x.wher.length p.whc], .int .i64 (i : Int), .int .i64 q0, .int .i64 (d : Int)] w fun e' w' => ∃ q : Wp, e' = .returned (.tuple #[.agg #[.slice q.d.ex x.d.exits.length q.d.exc, .slice q.d.pl x.d.players.length q.d.plc, .slice q.d.co x.d.coins.length q.d.coc, .slice q.d.it x.d.items.length q.d.itc, .slice q.d.bo x.d.boxes.length q.d.boc, .int .i64 x.d.room, .int .i64 x.d.player, .int .i64 x.d.box, .slice q.at_ x.at_.length q.atc, .slice q.co x.coins.length q.coc, .slice q.wh x.wher.length q.whc], .int .i64 r, .int .i64 e]) ∧ WorldAt w' q y ∧ Below w.heap.size w w' := by
  have := refpush_any u p i q0 d hd w hu h hi
  rw [hR, hs.val p] at this
  refine this.mono ?_
  rintro e' w' ⟨q, h1, h2, h3⟩
  rw [hs.val q] at h1
  exact ⟨q, h1, h2.world h h3, h3⟩
end
theorem run_four (b : Nat) : ((b : Int).tmod 4 = ((b % 4 : Nat) : Int)) ∧ ((b : Int) % 4 = ((b % 4 : Nat) : Int)) := ⟨by rfl, by omega⟩
theorem ints_cell {W : World} {b o : Nat} {xs : List Int} (h : IntsAt W (some ⟨b, o, none⟩) xs) {k : Nat} (hk : k < xs.length) : W.cell? ⟨b, o + k, none⟩ = some (.int .i64 xs[k]) := by
  obtain ⟨b', o', e, _, hc⟩ := h.at_ hk
  simp only [Option.some.injEq, Addr.mk.injEq, and_true] at e
  obtain ⟨rfl, rfl⟩ := e
  exact hc k hk
theorem gow_cell {W : World} {b o : Nat} {x : Wd} {i : Nat} {t : Int} (h : IntsAt W (some ⟨b, o, none⟩) (goW x i t).at_) (hi : i < x.at_.length) : W.cell? ⟨b, o + i, none⟩ = some (.int .i64 t) := by
  have := ints_cell h (k := i) (by simp [goW]; exact hi)
  rwa [show (goW x i t).at_[i]'(by simp [goW]; exact hi) = t by simp [goW]] at this
theorem room_goW {x : Wd} {i t : Nat} (hi : i < x.at_.length) : roomOf (goW x i t) i = t := by
  simp [roomOf, goW, List.getD, hi]
theorem goW_goW (x : Wd) (i : Nat) (t u : Int) : goW (goW x i t) i u = goW x i u := by simp [goW]
theorem move_back {x : Wd} {i t d : Nat} (hi : i < x.at_.length) : moveW (goW x i t) i d = if toW x t d = -1 then (goW x i t, 0, 4) else (goW x i (toW x t d), toW x t d, 0) := by
  unfold moveW
  rw [room_goW hi, goW_goW]
  rfl
theorem goW_same {x : Wd} (hx : rightW x = true) {i : Nat} (hi : i < x.at_.length) (u : Int) : decide (goW x i u = x) = (u == ((roomOf x i : Nat) : Int)) := by
  have hr := (room_at hx hi).1
  have e : (goW x i u = x) ↔ u = ((roomOf x i : Nat) : Int) := by
    constructor
    · intro h
      have h2 : x.at_.set i u = x.at_ := congrArg Wd.at_ h
      have h3 : (x.at_.set i u)[i]? = x.at_[i]? := by rw [h2]
      rw [List.getElem?_set_self hi, List.getElem?_eq_getElem hi, hr] at h3
      exact Option.some.inj h3
    · intro h
      subst h
      unfold goW
      rw [← hr, List.set_getElem_self]
  rw [decide_eq_decide.2 e]
  rfl
end Go.Proofs.Ytkhjmgedamndhaa
