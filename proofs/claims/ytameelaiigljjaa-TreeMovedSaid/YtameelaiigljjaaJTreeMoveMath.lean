import Derived.Test.YtameelaiigljjaaRows
import Derived.Test.YtameelaiigljjaaKit
import Derived.Test.YtameelaiigljjaaJMem
import Derived.Test.YtameelaiigljjaaCoin
import Derived.Test.YtameelaiigljjaaJWorld
import Derived.WalkKit
import Derived.ProofKit
import Derived.OpenShut
import Derived.IntWalk
/- An item laid elsewhere: what is within it goes with it, all else stays: plain mathematics. -/
namespace Go.Proofs.Ytameelaiigljjaa
open Go.ChangeShapes Go.WideShapes Go.ChangeAt Go.RowKit
set_option linter.unusedVariables false
open Go.RowKit
theorem plOf_set {ps : List Pl} {i k : Nat} {f : Pl} (hk : k < ps.length) : plOf (ps.set i f) k = if k = i then f else plOf ps k := by
  unfold plOf
  rw [List.getD_eq_getElem?_getD, List.getD_eq_getElem?_getD, List.getElem?_set]
  by_cases e : i = k
  · subst e; simp [hk]
  · rw [if_neg e, if_neg (fun h => e h.symm)]
/-- What comes of an item laid on a floor. -/
structure Mv (ps qs : List Pl) (i k : Nat) (f : Pl) : Prop where
  w : wB qs k i = wB ps k i
  y : wB ps k i = true → rootI qs k = f ∧ dep qs k + dep ps i = dep ps k
  n : wB ps k i = false → rootI qs k = rootI ps k ∧ dep qs k = dep ps k
theorem mv_all {ps : List Pl} {i : Nat} {f : Pl} (hT : Tr ps) (hf : ¬ f.kind = 2) (hT2 : Tr (ps.set i f)) (hi : i < ps.length) : ∀ k, k < ps.length → Mv ps (ps.set i f) i k f := by
  have key : ∀ k, k < ps.length → k = i → Mv ps (ps.set i f) i k f := by
    intro k hk hki
    subst hki
    have e : plOf (ps.set k f) k = f := by rw [plOf_set hk, if_pos rfl]
    have hl : ¬ (plOf (ps.set k f) k).kind = 2 := by rw [e]; exact hf
    refine ⟨by rw [wB_self, wB_self], fun _ => ⟨by rw [rootI_leaf hl, e], by rw [dep_leaf hl]; omega⟩, fun h => by rw [wB_self] at h; cases h⟩
  refine hT.ind (fun k hk hkd => ?_) (fun k j hk hj he hu ih => ?_)
  · by_cases hki : k = i
    · exact key k hk hki
    · have e : plOf (ps.set i f) k = plOf ps k := by rw [plOf_set hk, if_neg hki]
      have hl : ¬ (plOf (ps.set i f) k).kind = 2 := by rw [e]; exact hkd
      have hw : wB ps k i = false := by rw [wB_leaf i hkd]; simpa using hki
      refine ⟨by rw [wB_leaf i hl, wB_leaf i hkd], fun h => (by rw [hw] at h; cases h), fun _ => ⟨by rw [rootI_leaf hl, rootI_leaf hkd, e], by rw [dep_leaf hl, dep_leaf hkd]⟩⟩
  · by_cases hki : k = i
    · exact key k hk hki
    · have e : plOf (ps.set i f) k = box j := by rw [plOf_set hk, if_neg hki, he]
      obtain ⟨hu2, _⟩ := hT2.kid (by simpa using hk) e
      have w1 : wB ps k i = wB ps j i := by rw [wB_box i hu]; simp [hki]
      have w2 : wB (ps.set i f) k i = wB (ps.set i f) j i := by rw [wB_box i hu2]; simp [hki]
      refine ⟨by rw [w1, w2, ih.w], fun h => ?_, fun h => ?_⟩
      · rw [w1] at h
        obtain ⟨h1, h2⟩ := ih.y h
        rw [rootI_box hu2, dep_box hu2, dep_box hu]
        exact ⟨h1, by omega⟩
      · rw [w1] at h
        obtain ⟨h1, h2⟩ := ih.n h
        rw [rootI_box hu2, dep_box hu2, dep_box hu, rootI_box hu]
        exact ⟨h1, by omega⟩
theorem mv_hgt {ps : List Pl} {i : Nat} {f : Pl} (hT : Tr ps) (hf : ¬ f.kind = 2) (hT2 : Tr (ps.set i f)) (hi : i < ps.length) : hgt (ps.set i f) i = hgt ps i := by
  have hm := mv_all hT hf hT2 hi
  have hlen : (ps.set i f).length = ps.length := by simp
  have d0 := (hm i hi).y (wB_self ps i)
  obtain ⟨a, ha, hwa, ea⟩ := hT.hgt_at hi
  obtain ⟨b, hb, hwb, eb⟩ := hT2.hgt_at (j := i) (by omega)
  have m1 := hm a ha
  have m2 := hm b (by omega)
  have l1 := hT2.hgt_le (i := a) (j := i) (by omega) (by rw [m1.w]; exact hwa)
  have l2 := hT.hgt_le (i := b) (j := i) (by omega) (by rw [← m2.w]; exact hwb)
  have y1 := (m1.y hwa).2
  have y2 := (m2.y (by rw [← m2.w]; exact hwb)).2
  omega
end Go.Proofs.Ytameelaiigljjaa
