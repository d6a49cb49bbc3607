/- desc.May. -/
import Derived.Test.YtgmkcddgkgcbbaaGreatDescMay
namespace Go.Proofs.YtgmkcddgkgcbbaaGreat
open Go.ChangeShapes Go.WideShapes Go.ChangeAt Go.RowKit
set_option linter.unusedVariables false
section
theorem ints3 {w : World} {n : Nat} {t : TypeId} {a b c : Int} (h : Blk w n t #[.int .i64 a, .int .i64 b, .int .i64 c]) : IntsAt w (some ⟨n, 0, none⟩) [a, b, c] :=
 h.ints (by simp [maxLen]) (fun i hi => by
  obtain rfl | rfl | rfl : i = 0 ∨ i = 1 ∨ i = 2 := by simp at hi; omega
  ·rfl
  ·rfl
  ·rfl)
end
section
theorem places_boxes {d : Ds} {ps : List Pl} (hm : mayD d = true) (h : placesB d ps = true) : BoxesIn ps := by
 intro p hp hk
 simp only [placesB, Bool.and_eq_true, decide_eq_true_eq, List.all_eq_true] at h
 have h2 := h.2 p hp
 simp only [mayD, mayItB, Bool.and_eq_true, decide_eq_true_eq] at hm
 simp only [placeB, hk] at h2
 have h3 : inB p.id d.boxes.length = true := by
  cases e : inB p.id d.boxes.length
  ·rw [e] at h2; simp at h2
  ·rfl
 have := (inB_iff _ _).1 h3
 omega
theorem places_few {d : Ds} {ps : List Pl} (hm : mayD d = true) (h : placesB d ps = true) : ps.length ≤ 16 := by
 simp only [placesB, Bool.and_eq_true, decide_eq_true_eq] at h
 simp only [mayD, mayItB, Bool.and_eq_true, decide_eq_true_eq] at hm
 omega
theorem may_few {d : Ds} (hm : mayD d = true) : 1 ≤ d.exits.length ∧ d.exits.length ≤ 8 ∧ 1 ≤ d.players.length ∧ d.players.length ≤ 6 ∧ d.items.length ≤ 16 ∧ d.boxes.length = d.items.length ∧ d.coins.length = d.players.length := by
 simp only [mayD, roomsB, mayPlB, playersB, mayItB, Bool.and_eq_true, decide_eq_true_eq] at hm
 omega
theorem place_kinds {d : Ds} {p : Pl} (h : placeB d p = true) : (p.kind = 0 ∧ 0 ≤ p.id ∧ p.id < d.exits.length) ∨ (p.kind = 1 ∧ 0 ≤ p.id ∧ p.id < d.players.length) ∨ (p.kind = 2 ∧ 0 ≤ p.id ∧ p.id < d.boxes.length ∧ d.boxes.getD p.id.toNat false = true) := by
 unfold placeB at h
 by_cases h0 : p.kind = 0
 ·rw [if_pos h0] at h; exact .inl ⟨h0, (inB_iff _ _).1 h⟩
 rw [if_neg h0] at h
 by_cases h1 : p.kind = 1
 ·rw [if_pos h1] at h; exact .inr (.inl ⟨h1, (inB_iff _ _).1 h⟩)
 rw [if_neg h1] at h
 by_cases h2 : p.kind = 2
 ·rw [if_pos h2, Bool.and_eq_true] at h
  have := (inB_iff _ _).1 h.1
  exact .inr (.inr ⟨h2, this.1, this.2, h.2⟩)
 ·rw [if_neg h2] at h; cases h
theorem places_fit {d : Ds} {ps : List Pl} (hm : mayD d = true) (h : placesB d ps = true) : ∀ p ∈ ps, 0 ≤ p.kind ∧ p.kind < 3 ∧ PlWf p := by
 intro p hp
 simp only [placesB, Bool.and_eq_true, decide_eq_true_eq, List.all_eq_true] at h
 have hf := may_few hm
 rcases place_kinds (h.2 p hp) with h | h | h
 all_goals exact ⟨by omega, by omega, wf_small (by omega) (by omega), wf_small (by omega) (by omega)⟩
end
end Go.Proofs.YtgmkcddgkgcbbaaGreat
