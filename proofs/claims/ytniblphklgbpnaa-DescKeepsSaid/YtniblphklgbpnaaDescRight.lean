/- desc.Right. -/
import Derived.Test.YtniblphklgbpnaaRows
import Derived.Test.YtniblphklgbpnaaKit
import Derived.Test.YtniblphklgbpnaaStrs
import Derived.Test.YtniblphklgbpnaaCoin
import Derived.Test.YtniblphklgbpnaaBlk
import Derived.Test.YtniblphklgbpnaaHolds
import Derived.Test.YtniblphklgbpnaaWorldMath
import Derived.Test.YtniblphklgbpnaaWorldAt
import Derived.Test.YtniblphklgbpnaaDescA
import Derived.Test.YtniblphklgbpnaaDescB
import Derived.Test.YtniblphklgbpnaaDescFit
import Derived.Test.YtniblphklgbpnaaDescFit2
import Derived.Test.YtniblphklgbpnaaDescNest
import Derived.Test.YtniblphklgbpnaaDescNest2
import Derived.Test.YtniblphklgbpnaaDescMay
import Derived.Test.YtniblphklgbpnaaDescMay2
import Derived.Deep.QuietTactic
import Derived.BigQuiet
import Derived.WalkKit
import Derived.ProofKit
import Derived.OpenShut
import Derived.IntWalk
namespace Go.Proofs.Ytniblphklgbpnaa
open Go.ChangeShapes Go.WideShapes Go.ChangeAt Go.RowKit
set_option linter.unusedVariables false
open Go.RowKit
theorem places_boxes {d : Ds} {ps : List Pl} (hm : mayD d = true) (h : placesB d ps = true) : BoxesIn ps := by
  intro p hp hk
  simp only [placesB, Bool.and_eq_true, decide_eq_true_eq, List.all_eq_true] at h
  have h2 := h.2 p hp
  simp only [mayD, mayItB, Bool.and_eq_true, decide_eq_true_eq] at hm
  simp only [placeB, hk] at h2
  have h3 : inB p.id d.boxes.length = true := by
    cases e : inB p.id d.boxes.length
    · rw [e] at h2; simp at h2
    · rfl
  have := (inB_iff _ _).1 h3
  omega
theorem places_few {d : Ds} {ps : List Pl} (hm : mayD d = true) (h : placesB d ps = true) : ps.length ≤ 16 := by
  simp only [placesB, Bool.and_eq_true, decide_eq_true_eq] at h
  simp only [mayD, mayItB, Bool.and_eq_true, decide_eq_true_eq] at hm
  omega
theorem may_few {d : Ds} (hm : mayD d = true) : 1 ≤ d.exits.length ∧ d.exits.length ≤ 8 ∧ 1 ≤ d.players.length ∧ d.players.length ≤ 6 ∧ d.items.length ≤ 16 ∧ d.boxes.length = d.items.length ∧ d.coins.length = d.players.length := by
  simp only [mayD, roomsB, mayPlB, playersB, mayItB, Bool.and_eq_true, decide_eq_true_eq] at hm
  omega
theorem place_kinds {d : Ds} {p : Pl} (h : placeB d p = true) : (p.kind = 0 ∧ 0 ≤ p.id ∧ p.id < d.exits.length) ∨ (p.kind = 1 ∧ 0 ≤ p.id ∧ p.id < d.players.length) ∨ (p.kind = 2 ∧ 0 ≤ p.id ∧ p.id < d.boxes.length ∧ d.boxes.getD p.id.toNat false = true) := by
  unfold placeB at h
  by_cases h0 : p.kind = 0
  · rw [if_pos h0] at h; exact .inl ⟨h0, (inB_iff _ _).1 h⟩
  rw [if_neg h0] at h
  by_cases h1 : p.kind = 1
  · rw [if_pos h1] at h; exact .inr (.inl ⟨h1, (inB_iff _ _).1 h⟩)
  rw [if_neg h1] at h
  by_cases h2 : p.kind = 2
  · rw [if_pos h2, Bool.and_eq_true] at h
    have := (inB_iff _ _).1 h.1
    exact .inr (.inr ⟨h2, this.1, this.2, h.2⟩)
  · rw [if_neg h2] at h; cases h
theorem places_fit {d : Ds} {ps : List Pl} (hm : mayD d = true) (h : placesB d ps = true) : ∀ p ∈ ps, 0 ≤ p.kind ∧ p.kind < 3 ∧ PlWf p := by
  intro p hp
  simp only [placesB, Bool.and_eq_true, decide_eq_true_eq, List.all_eq_true] at h
  have hf := may_few hm
  rcases place_kinds (h.2 p hp) with h | h | h
  all_goals exact ⟨by omega, by omega, wf_small (by omega) (by omega), wf_small (by omega) (by omega)⟩
set_option maxRecDepth 100000 in
theorem right_any (x : Wd) (p : Wp) (w : World) (h : WorldAt w p x) :
    Calls Try.prog 13 #[.agg #[.slice p.d.ex x.d.exits.length p.d.exc, .slice p.d.pl x.d.players.length p.d.plc, .slice p.d.co x.d.coins.length p.d.coc, .slice p.d.it x.d.items.length p.d.itc, .slice p.d.bo x.d.boxes.length p.d.boc, .int .i64 x.d.room, .int .i64 x.d.player, .int .i64 x.d.box, .slice p.at_ x.at_.length p.atc, .slice p.co x.coins.length p.coc, .slice p.wh x.wher.length p.whc]] w fun e w' => e = .returned (.bool (rightW x)) ∧ Below w.heap.size w w' := by
  have H := Lib.hid h
  clear h
  have HN := Lib.hid (Holds.new w #[.slice p.d.ex x.d.exits.length p.d.exc, .slice p.d.pl x.d.players.length p.d.plc, .slice p.d.co x.d.coins.length p.d.coc, .slice p.d.it x.d.items.length p.d.itc, .slice p.d.bo x.d.boxes.length p.d.boc, .int .i64 x.d.room, .int .i64 x.d.player, .int .i64 x.d.box, .slice p.at_ x.at_.length p.atc, .slice p.co x.coins.length p.coc, .slice p.wh x.wher.length p.whc] 29)
  cases hA : mayD x.d
  · have HA := Lib.hid hA
    have HR := Lib.hid (show rightW x = false by simp [rightW, hA])
    clear hA
    go_enter Try.func13, Try.ntmps13
    go_wp2_with fail
    refine (may_any x.d p.d _ ((H.out.below HN.out.1 (Nat.le_refl _)).d)).mono ?_
    rintro e w1 ⟨rfl, b1⟩
    rw [HA.out]
    have HQ1 := Lib.hid (HN.out.call b1)
    clear b1
    go_wp2_with fail
    go_ret
    exact ⟨ret_bool HR.out.symm, HQ1.out.1⟩
  cases hB : playersB x.d x.at_ x.coins
  · have HB := Lib.hid hB
    have HA := Lib.hid hA
    have HR := Lib.hid (show rightW x = false by simp [rightW, hB])
    clear hA hB
    go_enter Try.func13, Try.ntmps13
    go_wp2_with fail
    refine (may_any x.d p.d _ ((H.out.below HN.out.1 (Nat.le_refl _)).d)).mono ?_
    rintro e w1 ⟨rfl, b1⟩
    rw [HA.out]
    have HQ1 := Lib.hid (HN.out.call b1)
    clear b1
    have hc := HQ1.out.2.2
    go_wp2_with fail
    clear hc
    refine (areplayers_any x.d p.d _ _ _ _ _ _ w1 ((H.out.below HQ1.out.1 (Nat.le_refl _)).at_) ((H.out.below HQ1.out.1 (Nat.le_refl _)).co)).mono ?_
    rintro e w2 ⟨rfl, b2⟩
    rw [HB.out]
    have HQ2 := Lib.hid (HQ1.out.call b2)
    clear b2
    go_wp2_with fail
    go_ret
    exact ⟨ret_bool HR.out.symm, HQ2.out.1⟩
  cases hC : placesB x.d x.wher
  · have HC := Lib.hid hC
    have HA := Lib.hid hA
    have HB := Lib.hid hB
    have HR := Lib.hid (show rightW x = false by simp [rightW, hC])
    clear hA hB hC
    go_enter Try.func13, Try.ntmps13
    go_wp2_with fail
    refine (may_any x.d p.d _ ((H.out.below HN.out.1 (Nat.le_refl _)).d)).mono ?_
    rintro e w1 ⟨rfl, b1⟩
    rw [HA.out]
    have HQ1 := Lib.hid (HN.out.call b1)
    clear b1
    have hc := HQ1.out.2.2
    go_wp2_with fail
    clear hc
    refine (areplayers_any x.d p.d _ _ _ _ _ _ w1 ((H.out.below HQ1.out.1 (Nat.le_refl _)).at_) ((H.out.below HQ1.out.1 (Nat.le_refl _)).co)).mono ?_
    rintro e w2 ⟨rfl, b2⟩
    rw [HB.out]
    have HQ2 := Lib.hid (HQ1.out.call b2)
    clear b2
    have hc := HQ2.out.2.2
    go_wp2_with fail
    clear hc
    refine (areplaces_any x.d p.d _ _ _ w2 ((H.out.below HQ2.out.1 (Nat.le_refl _)).wh) ((H.out.below HQ2.out.1 (Nat.le_refl _)).d.bo)).mono ?_
    rintro e w3 ⟨rfl, b3⟩
    rw [HC.out]
    have HQ3 := Lib.hid (HQ2.out.call b3)
    clear b3
    go_wp2_with fail
    go_ret
    exact ⟨ret_bool HR.out.symm, HQ3.out.1⟩
  cases hD : nestB x.wher
  · have HD := Lib.hid hD
    have HA := Lib.hid hA
    have HB := Lib.hid hB
    have HC := Lib.hid hC
    have HR := Lib.hid (show rightW x = false by simp [rightW, hD])
    have HBI := Lib.hid (places_boxes hA hC)
    clear hA hB hC hD
    go_enter Try.func13, Try.ntmps13
    go_wp2_with fail
    refine (may_any x.d p.d _ ((H.out.below HN.out.1 (Nat.le_refl _)).d)).mono ?_
    rintro e w1 ⟨rfl, b1⟩
    rw [HA.out]
    have HQ1 := Lib.hid (HN.out.call b1)
    clear b1
    have hc := HQ1.out.2.2
    go_wp2_with fail
    clear hc
    refine (areplayers_any x.d p.d _ _ _ _ _ _ w1 ((H.out.below HQ1.out.1 (Nat.le_refl _)).at_) ((H.out.below HQ1.out.1 (Nat.le_refl _)).co)).mono ?_
    rintro e w2 ⟨rfl, b2⟩
    rw [HB.out]
    have HQ2 := Lib.hid (HQ1.out.call b2)
    clear b2
    have hc := HQ2.out.2.2
    go_wp2_with fail
    clear hc
    refine (areplaces_any x.d p.d _ _ _ w2 ((H.out.below HQ2.out.1 (Nat.le_refl _)).wh) ((H.out.below HQ2.out.1 (Nat.le_refl _)).d.bo)).mono ?_
    rintro e w3 ⟨rfl, b3⟩
    rw [HC.out]
    have HQ3 := Lib.hid (HQ2.out.call b3)
    clear b3
    have hc := HQ3.out.2.2
    go_wp2_with fail
    clear hc
    refine (arenested_any _ _ _ w3 ((H.out.below HQ3.out.1 (Nat.le_refl _)).wh) HBI.out).mono ?_
    rintro e w4 ⟨rfl, b4⟩
    rw [HD.out]
    have HQ4 := Lib.hid (HQ3.out.call b4)
    clear b4
    go_wp2_with fail
    go_ret
    exact ⟨ret_bool HR.out.symm, HQ4.out.1⟩
  have HA := Lib.hid hA
  have HB := Lib.hid hB
  have HC := Lib.hid hC
  have HD := Lib.hid hD
  have HR := Lib.hid (show rightW x = fitB x.d x.wher by simp [rightW, hA, hB, hC, hD])
  have HBI := Lib.hid (places_boxes hA hC)
  have HPF := Lib.hid (places_fit hA hC)
  have HPL := Lib.hid (show x.wher.length ≤ 1000000 by have := places_few hA hC; omega)
  clear hA hB hC hD
  go_enter Try.func13, Try.ntmps13
  go_wp2_with fail
  refine (may_any x.d p.d _ ((H.out.below HN.out.1 (Nat.le_refl _)).d)).mono ?_
  rintro e w1 ⟨rfl, b1⟩
  rw [HA.out]
  have HQ1 := Lib.hid (HN.out.call b1)
  clear b1
  have hc := HQ1.out.2.2
  go_wp2_with fail
  clear hc
  refine (areplayers_any x.d p.d _ _ _ _ _ _ w1 ((H.out.below HQ1.out.1 (Nat.le_refl _)).at_) ((H.out.below HQ1.out.1 (Nat.le_refl _)).co)).mono ?_
  rintro e w2 ⟨rfl, b2⟩
  rw [HB.out]
  have HQ2 := Lib.hid (HQ1.out.call b2)
  clear b2
  have hc := HQ2.out.2.2
  go_wp2_with fail
  clear hc
  refine (areplaces_any x.d p.d _ _ _ w2 ((H.out.below HQ2.out.1 (Nat.le_refl _)).wh) ((H.out.below HQ2.out.1 (Nat.le_refl _)).d.bo)).mono ?_
  rintro e w3 ⟨rfl, b3⟩
  rw [HC.out]
  have HQ3 := Lib.hid (HQ2.out.call b3)
  clear b3
  have hc := HQ3.out.2.2
  go_wp2_with fail
  clear hc
  refine (arenested_any _ _ _ w3 ((H.out.below HQ3.out.1 (Nat.le_refl _)).wh) HBI.out).mono ?_
  rintro e w4 ⟨rfl, b4⟩
  rw [HD.out]
  have HQ4 := Lib.hid (HQ3.out.call b4)
  clear b4
  have hc := HQ4.out.2.2
  go_wp2_with fail
  clear hc
  refine (fit_any x.d p.d _ _ _ w4 ((H.out.below HQ4.out.1 (Nat.le_refl _)).wh) HPF.out HPL.out).mono ?_
  rintro e w5 ⟨rfl, b5⟩
  have HQ5 := Lib.hid (HQ4.out.call b5)
  clear b5
  go_wp2_with fail
  go_ret
  exact ⟨ret_bool HR.out.symm, HQ5.out.1⟩
end Go.Proofs.Ytniblphklgbpnaa
