/- Caps: more room anywhere; no items at all. -/
import Derived.Test.YtniblphklgbpnaaRows
import Derived.Test.YtniblphklgbpnaaKit
import Derived.Test.YtniblphklgbpnaaStrs
import Derived.Test.YtniblphklgbpnaaCoin
import Derived.Test.YtniblphklgbpnaaWorldMath
import Derived.Test.YtniblphklgbpnaaWorldAt
import Derived.Test.YtniblphklgbpnaaDescMay
import Derived.Test.YtniblphklgbpnaaDescRight
import Derived.Test.YtniblphklgbpnaaDescAs
import Derived.WalkKit
import Derived.ProofKit
import Derived.OpenShut
import Derived.IntWalk
namespace Go.Proofs.Ytniblphklgbpnaa
open Go.ChangeShapes Go.WideShapes Go.ChangeAt Go.RowKit
set_option linter.unusedVariables false
open Go.RowKit
theorem caps_in {d : Ds} (h : mayD d = true) : 0 ≤ d.room ∧ d.room ≤ 64 ∧ 0 ≤ d.player ∧ d.player ≤ 64 ∧ 0 ≤ d.box ∧ d.box ≤ 64 := by
  simp only [mayD, capsB, capB, List.all_cons, List.all_nil, Bool.and_eq_true, decide_eq_true_eq] at h
  omega
/-- More room anywhere: still right. -/
theorem caps_more {x : Wd} (h : rightW x = true) {r q b : Int} (h1 : x.d.room ≤ r) (h2 : r ≤ 64) (h3 : x.d.player ≤ q) (h4 : q ≤ 64) (h5 : x.d.box ≤ b) (h6 : b ≤ 64) :
    rightW ⟨⟨x.d.exits, x.d.players, x.d.coins, x.d.items, x.d.boxes, r, q, b⟩, x.at_, x.coins, x.wher⟩ = true := by
  have hc := caps_in (right_lens h).2.2.2.2.2
  have hcap : ∀ k, capOf x.d k ≤ capOf ⟨x.d.exits, x.d.players, x.d.coins, x.d.items, x.d.boxes, r, q, b⟩ k := fun k => by
    unfold capOf
    by_cases e0 : k = 0
    · simp [e0, h1]
    · by_cases e1 : k = 1
      · simp [e1, h3]
      · simp [e0, e1, h5]
  have hfit : ∀ ps, fitB x.d ps = true → fitB ⟨x.d.exits, x.d.players, x.d.coins, x.d.items, x.d.boxes, r, q, b⟩ ps = true := fun ps hp => by
    simp only [fitB, List.all_eq_true, decide_eq_true_eq] at hp ⊢
    intro p hpm
    exact Int.le_trans (hp p hpm) (hcap _)
  simp only [rightW, mayD, mayPlB, playersB, mayItB, placesB, Bool.and_eq_true] at h ⊢
  obtain ⟨⟨g1, g2, g3, g4, g5, g6, g7⟩, g8, ⟨g9, g10⟩, g11, g12⟩ := h
  refine ⟨⟨g1, g2, ?_, g4, g5, g6, hfit _ g7⟩, g8, ⟨g9, g10⟩, g11, hfit _ g12⟩
  simp [capsB, capB]
  omega
/-- Without any items: right, whatever the room. -/
theorem caps_none {x : Wd} (h : rightW x = true) {r q b : Int} (h1 : 0 ≤ r) (h2 : r ≤ 64) (h3 : 0 ≤ q) (h4 : q ≤ 64) (h5 : 0 ≤ b) (h6 : b ≤ 64) :
    rightW ⟨⟨x.d.exits, x.d.players, x.d.coins, [], [], r, q, b⟩, x.at_, x.coins, []⟩ = true := by
  simp only [rightW, mayD, mayPlB, playersB, mayItB, placesB, Bool.and_eq_true] at h ⊢
  obtain ⟨⟨g1, g2, g3, g4, g5, g6, g7⟩, g8, ⟨g9, g10⟩, g11, g12⟩ := h
  refine ⟨⟨g1, g2, ?_, by simp, by simp, by simp [ofB], by simp [fitB, floorsL]⟩, g8, ⟨by simp, by simp⟩, by simp [nestB], by simp [fitB]⟩
  simp [capsB, capB]
  omega
theorem worldAt_dr {W : World} {q : Wp} {x : Wd} (h : WorldAt W q x) : WorldAt W.drew q x := ⟨⟨h.d.ex, h.d.pl, h.d.co, h.d.it, h.d.bo⟩, h.at_, h.co, h.wh⟩
end Go.Proofs.Ytniblphklgbpnaa
