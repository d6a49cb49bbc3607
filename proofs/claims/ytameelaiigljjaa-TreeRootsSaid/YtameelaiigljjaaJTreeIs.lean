import Derived.Test.YtameelaiigljjaaRows
import Derived.Test.YtameelaiigljjaaKit
import Derived.Test.YtameelaiigljjaaJMem
import Derived.Test.YtameelaiigljjaaCoin
import Derived.Test.YtameelaiigljjaaJWorld
import Derived.Test.YtameelaiigljjaaJDesc
import Derived.Test.YtameelaiigljjaaJRefA
import Derived.Test.YtameelaiigljjaaJRefRight
import Derived.WalkKit
import Derived.ProofKit
import Derived.OpenShut
import Derived.IntWalk
/- Is there a place? What the laws of tree begin with: whether a world fits. -/
namespace Go.Proofs.Ytameelaiigljjaa
open Go.ChangeShapes Go.WideShapes Go.ChangeAt Go.RowKit
set_option linter.unusedVariables false
open Go.RowKit
def isPl (x : Wd) (y : Pl) : Bool := decide (0 ≤ y.id) && ((decide (y.kind = 0) && decide (y.id < x.d.exits.length)) || ((decide (y.kind = 1) && decide (y.id < x.at_.length)) || (decide (y.kind = 2) && decide (y.id < x.wher.length))))
set_option maxRecDepth 100000 in
set_option maxHeartbeats 1000000 in
theorem is_any (x : Wd) (p : Wp) (y : Pl) (w : World) : Calls Try.prog 10 #[.agg #[.slice p.d.ex x.d.exits.length p.d.exc, .slice p.d.pl x.d.players.length p.d.plc, .slice p.d.co x.d.coins.length p.d.coc, .slice p.d.it x.d.items.length p.d.itc, .slice p.d.bo x.d.boxes.length p.d.boc, .int .i64 x.d.room, .int .i64 x.d.player, .int .i64 x.d.box, .slice p.at_ x.at_.length p.atc, .slice p.co x.coins.length p.coc, .slice p.wh x.wher.length p.whc], .agg #[.int .i64 y.kind, .int .i64 y.id]] w fun e w' => e = .returned (.bool (isPl x y)) ∧ Below w.heap.size w w' := by
  obtain ⟨yk, yi⟩ := y
  have HB := Lib.hid (((Below.refl w.heap.size w).alloc (Nat.le_refl _) (.cells #[.slice p.d.ex x.d.exits.length p.d.exc, .slice p.d.pl x.d.players.length p.d.plc, .slice p.d.co x.d.coins.length p.d.coc, .slice p.d.it x.d.items.length p.d.itc, .slice p.d.bo x.d.boxes.length p.d.boc, .int .i64 x.d.room, .int .i64 x.d.player, .int .i64 x.d.box, .slice p.at_ x.at_.length p.atc, .slice p.co x.coins.length p.coc, .slice p.wh x.wher.length p.whc] 29)).alloc (by simp) (.cells #[.int .i64 yk, .int .i64 yi] 31))
  by_cases e0 : 0 ≤ yi
  rotate_left
  · have HR := Lib.hid (show isPl x ⟨yk, yi⟩ = false by simp [isPl, e0])
    have q0 : ¬ 0 ≤ yi := e0
    clear e0
    go_enter Try.func10, Try.ntmps10
    go_wp2_with fail
    go_ret
    exact ⟨ret_bool HR.out.symm, HB.out⟩
  by_cases k0 : yk = 0
  · subst k0
    by_cases e1 : yi < (x.d.exits.length : Int)
    · have HR := Lib.hid (show isPl x ⟨0, yi⟩ = true by simp [isPl, e0, e1])
      go_enter Try.func10, Try.ntmps10
      go_wp2_with fail
      go_ret
      exact ⟨ret_bool HR.out.symm, HB.out⟩
    · have HR := Lib.hid (show isPl x ⟨0, yi⟩ = false by simp [isPl, e0, e1])
      go_enter Try.func10, Try.ntmps10
      go_wp2_with fail
      go_ret
      exact ⟨ret_bool HR.out.symm, HB.out⟩
  by_cases k1 : yk = 1
  · subst k1
    by_cases e1 : yi < (x.at_.length : Int)
    · have HR := Lib.hid (show isPl x ⟨1, yi⟩ = true by simp [isPl, e0, e1])
      clear k0
      go_enter Try.func10, Try.ntmps10
      go_wp2_with fail
      go_ret
      exact ⟨ret_bool HR.out.symm, HB.out⟩
    · have HR := Lib.hid (show isPl x ⟨1, yi⟩ = false by simp [isPl, e0, e1])
      clear k0
      go_enter Try.func10, Try.ntmps10
      go_wp2_with fail
      go_ret
      exact ⟨ret_bool HR.out.symm, HB.out⟩
  by_cases k2 : yk = 2
  · subst k2
    by_cases e1 : yi < (x.wher.length : Int)
    · have HR := Lib.hid (show isPl x ⟨2, yi⟩ = true by simp [isPl, e0, e1])
      clear k0 k1
      go_enter Try.func10, Try.ntmps10
      go_wp2_with fail
      go_ret
      exact ⟨ret_bool HR.out.symm, HB.out⟩
    · have HR := Lib.hid (show isPl x ⟨2, yi⟩ = false by simp [isPl, e0, e1])
      clear k0 k1
      go_enter Try.func10, Try.ntmps10
      go_wp2_with fail
      go_ret
      exact ⟨ret_bool HR.out.symm, HB.out⟩
  · have HR := Lib.hid (show isPl x ⟨yk, yi⟩ = false by simp [isPl, k0, k1, k2])
    have q0 : (yk == 0) = false := by simpa using k0
    have q1 : (yk == 1) = false := by simpa using k1
    have q2 : (yk == 2) = false := by simpa using k2
    clear k0 k1 k2
    go_enter Try.func10, Try.ntmps10
    go_wp2_with fail
    go_ret
    exact ⟨ret_bool HR.out.symm, HB.out⟩
def fitsB (x : Wd) : Bool := fewB x && rightW x
set_option maxRecDepth 100000 in
theorem fits_any (x : Wd) (p : Wp) (w : World) (h : WorldAt w p x) : Calls Try.prog 9 #[.agg #[.slice p.d.ex x.d.exits.length p.d.exc, .slice p.d.pl x.d.players.length p.d.plc, .slice p.d.co x.d.coins.length p.d.coc, .slice p.d.it x.d.items.length p.d.itc, .slice p.d.bo x.d.boxes.length p.d.boc, .int .i64 x.d.room, .int .i64 x.d.player, .int .i64 x.d.box, .slice p.at_ x.at_.length p.atc, .slice p.co x.coins.length p.coc, .slice p.wh x.wher.length p.whc]] w fun e w' => e = .returned (.bool (fitsB x)) ∧ Below w.heap.size w w' := by
  have HN := Lib.hid (Holds.new w #[.slice p.d.ex x.d.exits.length p.d.exc, .slice p.d.pl x.d.players.length p.d.plc, .slice p.d.co x.d.coins.length p.d.coc, .slice p.d.it x.d.items.length p.d.itc, .slice p.d.bo x.d.boxes.length p.d.boc, .int .i64 x.d.room, .int .i64 x.d.player, .int .i64 x.d.box, .slice p.at_ x.at_.length p.atc, .slice p.co x.coins.length p.coc, .slice p.wh x.wher.length p.whc] 29)
  have H := Lib.hid h
  clear h
  cases hf : fewB x
  · have HF := Lib.hid hf
    have HR := Lib.hid (show fitsB x = false by simp [fitsB, hf])
    clear hf
    go_enter Try.func9, Try.ntmps9
    go_wp2_with fail
    refine (few_any x p _).mono ?_
    rintro e w1 ⟨rfl, b1⟩
    rw [HF.out]
    have K1 := Lib.hid (HN.out.call b1)
    clear b1
    go_wp2_with fail
    go_ret
    exact ⟨ret_bool HR.out.symm, K1.out.1⟩
  · have HF := Lib.hid hf
    have HR := Lib.hid (show fitsB x = rightW x by simp [fitsB, hf])
    obtain ⟨r, hr⟩ : ∃ r, rightW x = r := ⟨_, rfl⟩
    have HRR := Lib.hid hr
    clear hf hr
    go_enter Try.func9, Try.ntmps9
    go_wp2_with fail
    refine (few_any x p _).mono ?_
    rintro e w1 ⟨rfl, b1⟩
    rw [HF.out]
    have K1 := Lib.hid (HN.out.call b1)
    have hc := K1.out.2.2
    have hl := K1.out.2.1
    clear b1
    go_wp2_with fail
    refine (refright_any x p _ (H.out.below K1.out.1 (Nat.le_refl _))).mono ?_
    rintro e w2 ⟨rfl, b2⟩
    rw [HRR.out]
    have K2 := Lib.hid (K1.out.call b2)
    clear b2 hc hl
    go_wp2_with fail
    go_ret
    exact ⟨ret_bool (by rw [HR.out, HRR.out]), K2.out.1⟩
end Go.Proofs.Ytameelaiigljjaa
