/- token's laws: what every one of them needs: the table of Itoa out of the row, the texts' sizes. -/
import Derived.Test.YtmilcjjofchpeaaDoorRows
import Derived.Test.YtmilcjjofchpeaaDoorKit
import Derived.Test.YtmilcjjofchpeaaDoorTokMath
import Derived.Test.YtmilcjjofchpeaaDoorTokNum
import Derived.Test.YtmilcjjofchpeaaDoorTokRef
import Derived.Test.YtmilcjjofchpeaaDoorTokWord
import Derived.Test.YtmilcjjofchpeaaDoorTokRefWord
import Derived.Test.YtmilcjjofchpeaaDoorTokSame
import Derived.Test.YtmilcjjofchpeaaDoorTokJoin
import Derived.Test.YtmilcjjofchpeaaDoorTokRefCut
import Derived.Test.YtmilcjjofchpeaaDoorTokCut
import Derived.Test.YtmilcjjofchpeaaDoorTokAwake
import Derived.Test.YtmilcjjofchpeaaDoorTie
import Derived.Test.YtmilcjjofchpeaaDoorCards
import Derived.Lay
import Derived.SevenTiedAt
import Derived.MakeChecks
import Derived.Stop.LaidErr
import Derived.Lib.LaidTab
import Derived.SliceStrings
import Derived.WalkKit
import Derived.ProofKit
import Derived.OpenShut
import Derived.IntWalk
namespace Go.Proofs.YtmilcjjofchpeaaDoor
open Go.ChangeShapes Go.WideShapes Go.ChangeAt Go.RowKit
set_option linter.unusedVariables false
open Go.RowKit
theorem Tab_laid (W : World) {rest : List (String × DataW Unit)} (h : laidMet Tryd.prog (("internal/strconv.uint64pow10", Rows.laid_internal_strconv_uint64pow10) :: rest) W) : Tab W := by
  unfold Tab
  exact Lib.tabIs_of_head (g := 3) (k := .u64) (zs := Lib.pow10Tab) (by kernel_rfl) (by kernel_rfl) Tryd.underlying74 Tryd.underlying61 (by kernel_rfl) (by kernel_rfl) h

/-- A list of texts that was handed in. -/
theorem read_strings {H : Type} {enc : TypeId × Value → H} {P : Program} {W : World} {t e : TypeId} {base : Nat} {v : Value} {d : DataW H} {ps : List MemPlace} (ht : P.underlying t = some (.slice e)) (he : P.underlying e = some .string) (hc : P.cellsOf e = 1)
    (hv : Value.okWide P W .any base t v) (h : DataW.Trod enc P W 0 (fun _ => true) true t v d ps) :
    ∃ xs : List (List UInt8), Strs W v xs ∧ (∀ x ∈ xs, x.length ≤ maxLen) ∧ (xs = [] ∨ ∃ spare, d = .slice (xs.map fun x => .lit (.string x)) spare) := by
  obtain ⟨a0, len, cap, rfl⟩ := okWide_slice ht hv
  obtain ⟨fuel, hf⟩ := h
  rcases open_strings ht he hc hf with ⟨hcs, hx⟩ | ⟨a, len', cap', ss, hcs, _, hl, hm, hz, hx, hcell, hwz⟩
  · simp [Value.cells] at hcs
    obtain ⟨rfl, rfl, rfl⟩ := hcs
    exact ⟨[], ⟨none, 0, rfl, by simp [maxLen], .inl rfl⟩, by simp, .inl rfl⟩
  · simp [Value.cells] at hcs
    obtain ⟨rfl, rfl, rfl⟩ := hcs
    simp only [if_true] at hz
    have hlen : ((ss.take len).map fun s => s.data.toList).length = len := by simp; omega
    refine ⟨(ss.take len).map fun s => s.data.toList, ⟨some a, cap, by rw [hlen], by omega, ?_⟩, ?_, .inr ?_⟩
    · by_cases h0 : len = 0
      · left; subst h0; simp
      · right
        obtain ⟨b, off, spot⟩ := a
        have h1 := hcell 0 (by omega)
        have hspot : spot = none := by simpa [Addr.add] using World.cell?_spot h1
        subst hspot
        refine ⟨b, off, rfl, ?_, fun i hi => ?_⟩
        · apply Decidable.byContradiction; intro hb
          have e2 : W.heap[b]? = none := by simp; omega
          simp [World.cell?, Addr.add, e2] at h1
        · rw [hlen] at hi
          have := hcell i (by omega)
          have ea : ((⟨b, off, none⟩ : Addr).add i) = ⟨b, off + i, none⟩ := by
            by_cases hi0 : i = 0 <;> simp [Addr.add, hi0]
          rw [ea] at this
          have e3 : ss.getD i ByteArray.empty = ss[i]'(by omega) := by simp [List.getD, List.getElem?_eq_getElem (show i < ss.length by omega)]
          rw [e3] at this
          simp only [List.getElem_map, List.getElem_take]
          rw [this, str_of]
    · intro x hx
      simp only [List.mem_map] at hx
      obtain ⟨s, hs, rfl⟩ := hx
      have := hwz s (List.mem_of_mem_take hs)
      simpa using this
    · obtain ⟨rfl, -⟩ := Prod.mk.inj hx
      exact ⟨_, by rw [List.map_map]; rfl⟩
end Go.Proofs.YtmilcjjofchpeaaDoor
