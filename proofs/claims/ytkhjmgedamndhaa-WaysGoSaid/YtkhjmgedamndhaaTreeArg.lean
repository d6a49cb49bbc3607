/- A place that was handed in; what a world that fits is: for the laws of tree. -/
import Derived.Test.YtkhjmgedamndhaaRows
import Derived.Test.YtkhjmgedamndhaaKit
import Derived.Test.YtkhjmgedamndhaaStrs
import Derived.Test.YtkhjmgedamndhaaWorldMath
import Derived.Test.YtkhjmgedamndhaaWorldAt
import Derived.Test.YtkhjmgedamndhaaWorldArg
import Derived.Test.YtkhjmgedamndhaaDescMay
import Derived.Test.YtkhjmgedamndhaaDescRight
import Derived.Test.YtkhjmgedamndhaaDescAs
import Derived.Test.YtkhjmgedamndhaaTreeMath
import Derived.Test.YtkhjmgedamndhaaTreeIs
import Derived.Test.YtkhjmgedamndhaaRefDescA
import Derived.ChangeSame
import Derived.ChangeArms
import Derived.Lib.SmallJoins
import Derived.WalkKit
import Derived.ProofKit
import Derived.OpenShut
import Derived.IntWalk
namespace Go.Proofs.Ytkhjmgedamndhaa
open Go.ChangeShapes Go.WideShapes Go.ChangeAt Go.RowKit
set_option linter.unusedVariables false
open Go.RowKit Go.Deep Go.Joins
theorem read_place {H : Type} {enc : TypeId × Value → H} {W : World} {base : Nat} {v : Value} {d : DataW H} {ps : List MemPlace}
    (hv : Value.okWide Try.prog W .any base 57 v) (h : DataW.Trod enc Try.prog W 0 (fun _ => true) true 57 v d ps) : ∃ y : Pl, v = .agg #[.int .i64 y.kind, .int .i64 y.id] := by
  obtain ⟨cs, rfl, _⟩ := okWide_struct Try.underlying57 hv
  obtain ⟨fuel, hf⟩ := h
  obtain ⟨y, he⟩ := trod_pl Try.underlying57 Try.underlying3 (by kernel_rfl) ⟨rfl, rfl⟩ ⟨rfl, rfl⟩ (by kernel_rfl) (show DataW.trod enc Try.prog W 0 (fun _ => true) true fuel 57 cs.toList = some _ from hf)
  exact ⟨y, by rw [← Array.toArray_toList (xs := cs), he]; rfl⟩
theorem right_tr {x : Wd} (h2 : rightW x = true) : Tr x.wher := by
  have hl := right_lens h2
  have hin := right_in h2
  have hp := h2
  simp only [rightW, placesB, nestB, mayD, mayItB, capsB, Bool.and_eq_true, decide_eq_true_eq, List.all_eq_true] at hp
  refine ⟨fun p hpm hk => ?_, fun p hpm => ?_⟩
  · have h3 := hin.2.2 p hpm
    simp only [placeB, hk] at h3
    simp [inB] at h3
    omega
  · exact hp.2.2.2.1 p hpm
/-- What a world that fits is. -/
structure Fit (x : Wd) : Prop where
  few : fewB x = true
  right : rightW x = true
  tr : Tr x.wher
  len : x.wher.length ≤ 16
  caps : ∀ q : Nat, q < 3 → 0 ≤ capOf x.d q ∧ capOf x.d q ≤ 64
theorem fits_fit {x : Wd} (h : fitsB x = true) : Fit x := by
  simp only [fitsB, Bool.and_eq_true] at h
  obtain ⟨h1, h2⟩ := h
  have hl := right_lens h2
  have hp := h2
  simp only [rightW, placesB, nestB, mayD, mayItB, capsB, Bool.and_eq_true, decide_eq_true_eq, List.all_eq_true] at hp
  refine ⟨h1, h2, right_tr h2, hl.2.2.2.1, fun q hq => ?_⟩
  · have hc := hp.1.2.2.1
    have c0 := hc x.d.room (by simp)
    have c1 := hc x.d.player (by simp)
    have c2 := hc x.d.box (by simp)
    simp only [capB, Bool.and_eq_true, decide_eq_true_eq] at c0 c1 c2
    obtain rfl | rfl | rfl : q = 0 ∨ q = 1 ∨ q = 2 := by omega
    · simpa [capOf] using c0
    · simpa [capOf] using c1
    · simpa [capOf] using c2
theorem run_mod7 (m : Nat) (n : Nat) : (m : Int) % (n : Int) = ((m % n : Nat) : Int) := by omega
theorem run_tmod7 (m : Nat) (n : Nat) : (m : Int).tmod (n : Int) = ((m % n : Nat) : Int) := by rfl
theorem run_pls7 (k i : Int) (W : World) : (binOp .eql 57 (.agg #[.int .i64 k, .int .i64 i]) (.agg #[.int .i64 k, .int .i64 i])).run Try.prog W = .ok (.bool true) W := by
  have := run_pleq k i k i W
  simpa using this
end Go.Proofs.Ytkhjmgedamndhaa
