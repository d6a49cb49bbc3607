/- A new world is right; worlds that aren't. -/
import Derived.Test.YtniblphklgbpnaaRows
import Derived.Test.YtniblphklgbpnaaKit
import Derived.Test.YtniblphklgbpnaaStrs
import Derived.Test.YtniblphklgbpnaaCoin
import Derived.Test.YtniblphklgbpnaaWorldMath
import Derived.Test.YtniblphklgbpnaaWorldAt
import Derived.Test.YtniblphklgbpnaaDescNest
import Derived.Test.YtniblphklgbpnaaDescMay
import Derived.Test.YtniblphklgbpnaaDescRight
import Derived.Test.YtniblphklgbpnaaDescAs
import Derived.WalkKit
import Derived.ProofKit
import Derived.OpenShut
import Derived.IntWalk
namespace Go.Proofs.Ytniblphklgbpnaa
open Go.ChangeShapes Go.WideShapes Go.ChangeAt Go.RowKit
set_option linter.unusedVariables false
open Go.RowKit
theorem floors_kind (xs : List Int) : ∀ y ∈ floorsL xs, y.kind = 0 := by
  intro y hy
  obtain ⟨r, _, rfl⟩ := List.mem_map.1 hy
  rfl
theorem new_right {d : Ds} (h : mayD d = true) : rightW (newW d) = true := by
  have h0 := h
  simp only [mayD, mayPlB, mayItB, Bool.and_eq_true, decide_eq_true_eq] at h
  obtain ⟨g1, ⟨g2, g3, g4⟩, g5, g6, g7, g8, g9⟩ := h
  simp only [rightW, newW, Bool.and_eq_true]
  refine ⟨h0, g4, ?_, ?_, g9⟩
  · simp only [placesB, floorsL, List.length_map, decide_true, Bool.true_and, List.all_eq_true]
    intro y hy
    obtain ⟨r, hr, rfl⟩ := List.mem_map.1 hy
    have := (ofB_iff _ _).1 g8 r hr
    simp [placeB, inB, this]
  · simp only [nestB, List.all_eq_true]
    intro y hy
    have := floors_kind _ y hy
    simp [endsB, this]
theorem right_at_no {x : Wd} {k : Nat} (hk : k < x.at_.length) : rightW ⟨x.d, x.at_.set k (x.d.exits.length : Int), x.coins, x.wher⟩ = false := by
  have hof : ofB (x.at_.set k (x.d.exits.length : Int)) x.d.exits.length = false := by
    rw [Bool.eq_false_iff]; intro h
    have := (ofB_iff _ _).1 h (x.d.exits.length : Int) (List.mem_set hk _)
    omega
  simp [rightW, playersB, hof]
theorem right_co_no {x : Wd} {k : Nat} (hk : k < x.coins.length) : rightW ⟨x.d, x.at_, x.coins.set k (-1), x.wher⟩ = false := by
  have hof : pursesB (x.coins.set k (-1)) = false := by
    rw [Bool.eq_false_iff]; intro h
    have := (pursesB_iff _).1 h (-1) (List.mem_set hk _)
    omega
  simp [rightW, playersB, hof]
theorem right_self_no {x : Wd} {k : Nat} (hk : k < x.wher.length) : rightW ⟨x.d, x.at_, x.coins, x.wher.set k ⟨2, k⟩⟩ = false := by
  have hp : ∀ j, endsB (x.wher.set k ⟨2, k⟩) j ⟨2, k⟩ = false := by
    intro j
    induction j with
    | zero => simp [endsB]
    | succ j ih =>
      have e : par (x.wher.set k ⟨2, k⟩) ⟨2, k⟩ = ⟨2, k⟩ := by
        rw [par_mem (by simp) (by simpa using hk)]
        simp
      simp [endsB, e, ih]
  have hn : nestB (x.wher.set k ⟨2, k⟩) = false := by
    rw [Bool.eq_false_iff]; intro h
    have := List.all_eq_true.1 h ⟨2, k⟩ (List.mem_set hk _)
    rw [hp] at this; cases this
  simp [rightW, hn]
theorem right_cap_no {x : Wd} {k : Nat} (hk : k < x.wher.length) {d' : Ds} (hc : capOf d' x.wher[k].kind = (x.wher.count x.wher[k] : Nat) - 1) : rightW ⟨d', x.at_, x.coins, x.wher⟩ = false := by
  have hf : fitB d' x.wher = false := by
    rw [Bool.eq_false_iff]; intro h
    have := List.all_eq_true.1 h x.wher[k] (List.getElem_mem hk)
    simp only [decide_eq_true_eq] at this
    omega
  simp [rightW, hf]
end Go.Proofs.Ytniblphklgbpnaa
