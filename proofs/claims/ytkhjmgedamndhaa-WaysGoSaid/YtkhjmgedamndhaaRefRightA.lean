/- The document's own Right. -/
import Derived.Test.YtkhjmgedamndhaaRows
import Derived.Test.YtkhjmgedamndhaaKit
import Derived.Test.YtkhjmgedamndhaaStrs
import Derived.Test.YtkhjmgedamndhaaCoin
import Derived.Test.YtkhjmgedamndhaaBlk
import Derived.Test.YtkhjmgedamndhaaHolds
import Derived.Test.YtkhjmgedamndhaaWorldMath
import Derived.Test.YtkhjmgedamndhaaWorldAt
import Derived.Test.YtkhjmgedamndhaaDescA
import Derived.Test.YtkhjmgedamndhaaDescRooms
import Derived.Test.YtkhjmgedamndhaaDescMay
import Derived.Test.YtkhjmgedamndhaaDescRight
import Derived.Test.YtkhjmgedamndhaaDescNest
import Derived.Test.YtkhjmgedamndhaaDescNest2
import Derived.Test.YtkhjmgedamndhaaDescCopy
import Derived.Test.YtkhjmgedamndhaaRefDescA
import Derived.Test.YtkhjmgedamndhaaRefDepth
import Derived.Test.YtkhjmgedamndhaaRefMayA
import Derived.Test.YtkhjmgedamndhaaRefMay
import Derived.Deep.QuietTactic
import Derived.BigQuiet
import Derived.Deep.RegionHeld3
import Derived.WalkKit
import Derived.ProofKit
import Derived.OpenShut
import Derived.IntWalk
namespace Go.Proofs.Ytkhjmgedamndhaa
open Go.ChangeShapes Go.WideShapes Go.ChangeAt Go.RowKit
set_option linter.unusedVariables false
open Go.RowKit
/-- The lengths that a world may have. -/
def WLens (x : Wd) : Prop := x.at_.length = x.d.players.length ∧ x.coins.length = x.d.players.length ∧ x.wher.length = x.d.items.length
theorem right_no {x : Wd} (h : ¬ (mayD x.d = true ∧ WLens x)) : rightW x = false := by
  rw [Bool.eq_false_iff]; intro hr
  simp only [rightW, playersB, placesB, Bool.and_eq_true, decide_eq_true_eq] at hr
  exact h ⟨hr.1, by omega, by omega, by omega⟩
theorem right_split {x : Wd} (hm : mayD x.d = true) (h : WLens x) : rightW x = ((ofB x.at_ x.d.exits.length && pursesB x.coins) && (x.wher.all (placeB x.d) && (nestB x.wher && fitB x.d x.wher))) := by
  obtain ⟨h1, h2, h3⟩ := h
  simp [rightW, playersB, placesB, hm, h1, h2, h3]
set_option maxRecDepth 100000 in
theorem refright_lens (x : Wd) (p : Wp) (w : World) (h : WorldAt w p x) (hn : ¬ (mayD x.d = true ∧ WLens x)) : Calls Try.prog 15 #[.agg #[.slice p.d.ex x.d.exits.length p.d.exc, .slice p.d.pl x.d.players.length p.d.plc, .slice p.d.co x.d.coins.length p.d.coc, .slice p.d.it x.d.items.length p.d.itc, .slice p.d.bo x.d.boxes.length p.d.boc, .int .i64 x.d.room, .int .i64 x.d.player, .int .i64 x.d.box, .slice p.at_ x.at_.length p.atc, .slice p.co x.coins.length p.coc, .slice p.wh x.wher.length p.whc]] w fun e w' => e = .returned (.bool (rightW x)) ∧ Below w.heap.size w w' := by
  have HR := Lib.hid (right_no hn)
  have H := Lib.hid h
  have HP := Lib.hid (Holds.pair w #[.slice p.d.ex x.d.exits.length p.d.exc, .slice p.d.pl x.d.players.length p.d.plc, .slice p.d.co x.d.coins.length p.d.coc, .slice p.d.it x.d.items.length p.d.itc, .slice p.d.bo x.d.boxes.length p.d.boc, .int .i64 x.d.room, .int .i64 x.d.player, .int .i64 x.d.box, .slice p.at_ x.at_.length p.atc, .slice p.co x.coins.length p.coc, .slice p.wh x.wher.length p.whc] #[.slice p.d.ex x.d.exits.length p.d.exc, .slice p.d.pl x.d.players.length p.d.plc, .slice p.d.co x.d.coins.length p.d.coc, .slice p.d.it x.d.items.length p.d.itc, .slice p.d.bo x.d.boxes.length p.d.boc, .int .i64 x.d.room, .int .i64 x.d.player, .int .i64 x.d.box] 29 26)
  clear h
  cases hx : mayD x.d
  · have HX := Lib.hid hx
    clear hx hn
    go_enter Try.func15, Try.ntmps15
    go_wp2_with fail
    refine (refmay_any x.d p.d _ (H.out.below HP.out.1.1 (Nat.le_refl _)).d).mono ?_
    rintro e w1 ⟨rfl, b1⟩
    rw [HX.out]
    have HQ := Lib.hid (Holds.call2 HP.out b1)
    clear b1
    go_wp2_with fail
    go_ret
    exact ⟨ret_bool HR.out.symm, HQ.out.1.1⟩
  have HX := Lib.hid hx
  by_cases e1 : x.at_.length = x.d.players.length
  rotate_left
  · have q1 : ((x.at_.length : Int) != (x.d.players.length : Int)) = true := by simp; omega
    clear hx hn e1
    go_enter Try.func15, Try.ntmps15
    go_wp2_with fail
    refine (refmay_any x.d p.d _ (H.out.below HP.out.1.1 (Nat.le_refl _)).d).mono ?_
    rintro e w1 ⟨rfl, b1⟩
    rw [HX.out]
    have HQ := Lib.hid (Holds.call2 HP.out b1)
    clear b1
    have hcA := HQ.out.1.2.2
    have hcB := HQ.out.2.2.2
    go_wp2_with fail
    go_ret
    exact ⟨ret_bool HR.out.symm, HQ.out.1.1⟩
  by_cases e2 : x.coins.length = x.d.players.length
  rotate_left
  · have q1 : ((x.at_.length : Int) != (x.d.players.length : Int)) = false := by simp; omega
    have q2 : ((x.coins.length : Int) != (x.d.players.length : Int)) = true := by simp; omega
    clear hx hn e1 e2
    go_enter Try.func15, Try.ntmps15
    go_wp2_with fail
    refine (refmay_any x.d p.d _ (H.out.below HP.out.1.1 (Nat.le_refl _)).d).mono ?_
    rintro e w1 ⟨rfl, b1⟩
    rw [HX.out]
    have HQ := Lib.hid (Holds.call2 HP.out b1)
    clear b1
    have hcA := HQ.out.1.2.2
    have hcB := HQ.out.2.2.2
    go_wp2_with fail
    go_ret
    exact ⟨ret_bool HR.out.symm, HQ.out.1.1⟩
  by_cases e3 : x.wher.length = x.d.items.length
  · exact absurd ⟨hx, e1, e2, e3⟩ hn
  · have q1 : ((x.at_.length : Int) != (x.d.players.length : Int)) = false := by simp; omega
    have q2 : ((x.coins.length : Int) != (x.d.players.length : Int)) = false := by simp; omega
    have q3 : ((x.wher.length : Int) != (x.d.items.length : Int)) = true := by simp; omega
    clear hx hn e1 e2 e3
    go_enter Try.func15, Try.ntmps15
    go_wp2_with fail
    refine (refmay_any x.d p.d _ (H.out.below HP.out.1.1 (Nat.le_refl _)).d).mono ?_
    rintro e w1 ⟨rfl, b1⟩
    rw [HX.out]
    have HQ := Lib.hid (Holds.call2 HP.out b1)
    clear b1
    have hcA := HQ.out.1.2.2
    have hcB := HQ.out.2.2.2
    go_wp2_with fail
    go_ret
    exact ⟨ret_bool HR.out.symm, HQ.out.1.1⟩
end Go.Proofs.Ytkhjmgedamndhaa
