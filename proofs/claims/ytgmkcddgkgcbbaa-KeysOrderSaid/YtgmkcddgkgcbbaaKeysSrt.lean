/- keys: a row of keys of one's own, sorted by the library's sort. -/
import Derived.Test.YtgmkcddgkgcbbaaGCopy
import Derived.Test.YtgmkcddgkgcbbaaKeysB
import Derived.Test.YtgmkcddgkgcbbaaKeysLay
namespace Go.Proofs.Ytgmkcddgkgcbbaa
open Go.ChangeShapes Go.WideShapes Go.ChangeAt Go.RowKit
set_option linter.unusedVariables false
open Go.RowKit Go Go.Shelf Go.Sort
instance pl_inh : Inhabited Pl := ⟨⟨0, 0⟩⟩
theorem lt_less : ltOf cmpK = lessK := by funext a b; exact cmpK_less a b
theorem swoK : Go.Sort.SWO (ltOf cmpK) where
 irrefl x := by rw [lt_less]; exact lessK_self x
 trans x y z h1 h2 := by rw [lt_less] at *; exact lessK_trans h1 h2
 ntrans x y z h1 h2 := by
  rw [lt_less] at *
  rw [Bool.eq_false_iff] at *
  rw [ne_eq, lessK_iff] at *
  omega
theorem totK (x y : Pl) (h1 : ltOf cmpK x y = false) (h2 : ltOf cmpK y x = false) : x = y := by
 rw [lt_less] at *
 apply Decidable.byContradiction
 intro h
 rcases lessK_all h with h3 | h3
 ·rw [h3] at h1; cases h1
 ·rw [h3] at h2; cases h2
/-- The keys, sorted. -/
def srtK (ks : List Pl) : List Pl := ks.mergeSort fun x y => !lessK y x
theorem srtK_len (ks : List Pl) : (srtK ks).length = ks.length := List.length_mergeSort ks
theorem srtK_is {ks : List Pl} (h : ks.Nodup) : IsSort ks (srtK ks) := by
 have hp : (srtK ks).Pairwise fun a b => (!lessK b a) = true := List.pairwise_mergeSort (le := fun x y => !lessK y x)
  (fun a b c h1 h2 => by
    simp only [Bool.not_eq_true', Bool.eq_false_iff, ne_eq, lessK_iff] at *
    omega)
  (fun a b => by
    simp only [Bool.or_eq_true, Bool.not_eq_true', Bool.eq_false_iff, ne_eq, lessK_iff]
    omega) ks
 have hm := List.mergeSort_perm ks (fun x y => !lessK y x)
 have hn : (srtK ks).Nodup := hm.nodup_iff.2 h
 refine ⟨?_, fun k => hm.mem_iff⟩
 refine (hp.and hn).imp ?_
 rintro a b ⟨h1, h2⟩
 rcases lessK_all h2 with h3 | h3
 ·exact h3
 ·rw [h3] at h1; cases h1
theorem key_cmp (blk off size : Nat) (w : World) : CmpLays Try.prog 19 #[] plC 2 cmpK blk off size w := fun _ _ _ _ x y => compare_any x y _
theorem flat_pl {ks : List Pl} {j : Nat} (hj : j < ks.length * 2) : (flatK plC 2 ks.toArray)[j]! = ((plC (ks[j / 2]'(by omega)))[j % 2]?).getD default := by
 have h2 : j / 2 < ks.length := by omega
 rw [get_flatK _ _ _ _ (by simpa using hj)]
 have e : ks.toArray[j / 2]! = ks[j / 2]'h2 := by simp [h2]
 rw [e]
 rw [List.getElem!_eq_getElem?_getD]
set_option maxRecDepth 100000 in
theorem sort_own (n : Nat) (a : Option Addr) (cap : Nat) (ks : List Pl) (w : World) (h : OwnR 2 24 plC n w a ks) (hl : ks.length ≤ 1000000) :
 Calls Try.prog 20 #[.slice a ks.length cap, .func (.func 19) #[] #[]] w fun e w' =>
  e = .returned (.tuple #[]) ∧ OwnR 2 24 plC n w' a (srtK ks) ∧ ∀ B w0, Below B w0 w → B ≤ n → Below B w0 w' := by
 rcases h.2 with ⟨rfl, rfl⟩ | ⟨g, cs, rfl, hg, hb, hc⟩
 ·refine (AnyF.slices_SortFunc_none Try.sortLaid none cap _ w).mono ?_
  rintro e w' ⟨rfl, rfl⟩
  exact ⟨rfl, by simpa [srtK] using h, fun B w0 hb _ => hb⟩
 ·have eg : ∀ args w, (callFunc 19 args).run Try.prog w = .ok (.enter 19 args) w := enters_of Try.func19 (by kernel_rfl) rfl
  have hH : HoldsK plC 2 w g 0 ks.toArray := fun j hj => by
   have hj2 : j < ks.length * 2 := by simpa using hj
   have h2 : j / 2 < ks.length := by omega
   refine ⟨?_, by rw [Nat.zero_add]; exact hb.frozen j⟩
   rw [Nat.zero_add, hb.cell, flat_pl hj2]
   have := hc (j / 2) h2 (j % 2) (by omega)
   rw [show j / 2 * 2 + j % 2 = j by omega] at this
   rw [this]
   have hm : j % 2 < (plC ks[j / 2]).length := by simp [plC]; omega
   rw [List.getElem?_eq_getElem hm]
   rfl
  have hcon := AnyQ.slices_SortFunc_total Try.sortLaid 2 Try.isAgg24 Try.sizeOf24 plC (fun _ => rfl) (fun x v hv => by simp [plC] at hv; rcases hv with rfl | rfl <;> rfl) cmpK swoK 19 #[] g 0 cap ks.toArray w eg (key_cmp g 0 _ w) hH hb.lt (by simp; omega) totK
  have hcon2 := hcon
  rw [List.size_toArray] at hcon2
  refine hcon2.mono ?_
  rintro e w' ⟨rfl, m, os, rfl⟩
  rw [lt_less]
  have hs : (srtK ks).length = ks.length := srtK_len ks
  have hS : ((ks.toArray.toList.mergeSort fun x y => !lessK y x).toArray) = (srtK ks).toArray := by simp [srtK]
  rw [hS]
  have hH2 := holdsK_putRowK (enc := plC) (k := 2) w g 0 ks.toArray (srtK ks).toArray hH (by simp [hs])
  have hblk : ∃ cs', (sortWorldK plC 2 w g 0 m (srtK ks).toArray os).heap[g]? = some (.cells cs' 24 (0, 0)) := by
   unfold sortWorldK
   rw [Go.Sort.heap_grow_old _ _ (by simpa [putRowK, Go.Sort.ahead] using hb.lt)]
   have hb2 : w.heap[g]? = some (.cells cs 24 (0, 0)) := hb
   simp [putRowK, Go.Sort.putRow, Go.Sort.mapBlock, Go.Sort.ahead, Array.getElem?_modify, hb2, Go.Sort.onCells]
  obtain ⟨cs', hblk⟩ := hblk
  have hB : Blk (sortWorldK plC 2 w g 0 m (srtK ks).toArray os) g 24 cs' := hblk
  refine ⟨rfl, ⟨by rw [hs]; exact h.1, .inr ⟨g, cs', rfl, hg, hB, fun i hi j hj => ?_⟩⟩, fun B w0 hb0 hBn => ?_⟩
  ·rw [← hB.cell]
   have hk : i * 2 + j < (srtK ks).length * 2 := by omega
   have h3 := (hH2 (i * 2 + j) (by simpa using hk)).1
   rw [Nat.zero_add] at h3
   have h4 : (sortWorldK plC 2 w g 0 m (srtK ks).toArray os).cell? ⟨g, i * 2 + j, none⟩ = (putRowK plC 2 w g 0 (srtK ks).toArray).cell? ⟨g, i * 2 + j, none⟩ := by
    unfold sortWorldK
    rw [Go.Sort.cell?_grow _ _ _ (by simpa [putRowK, Go.Sort.ahead] using hb.lt)]
    rfl
   rw [h4, h3, flat_pl hk]
   simp only [id, show (i * 2 + j) / 2 = i by omega, show (i * 2 + j) % 2 = j by omega]
   have hm : j < (plC (srtK ks)[i]).length := by simp [plC]; omega
   rw [List.getElem?_eq_getElem hm]
   rfl
  ·have hsz : w.heap.size ≤ (sortWorldK plC 2 w g 0 m (srtK ks).toArray os).heap.size := by simp [sortWorldK, putRowK, Go.Sort.ahead]
   refine ⟨hb0.os, hb0.tape, hb0.output, Nat.le_trans hb0.size hsz, fun k hk => ?_⟩
   rw [← hb0.block k hk]
   by_cases hkw : k < w.heap.size
   ·unfold sortWorldK
    rw [Go.Sort.heap_grow_old _ _ (by simpa [putRowK, Go.Sort.ahead] using hkw)]
    have : g ≠ k := by omega
    simp [putRowK, Go.Sort.putRow, Go.Sort.mapBlock, Go.Sort.ahead, Array.getElem?_modify, this]
   ·exact absurd (Nat.lt_of_lt_of_le hk (Nat.le_trans hBn (Nat.le_trans hg (Nat.le_of_lt hb.lt)))) hkw
end Go.Proofs.Ytgmkcddgkgcbbaa
