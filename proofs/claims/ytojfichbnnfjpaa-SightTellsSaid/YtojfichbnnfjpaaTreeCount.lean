/- How often each item was counted, place by place: plain mathematics. -/
import Derived.Test.YtojfichbnnfjpaaRows
import Derived.Test.YtojfichbnnfjpaaKit
import Derived.Test.YtojfichbnnfjpaaGMem
import Derived.Test.YtojfichbnnfjpaaCoin
import Derived.Test.YtojfichbnnfjpaaGWorld
import Derived.Test.YtojfichbnnfjpaaGAs
import Derived.WalkKit
import Derived.ProofKit
import Derived.OpenShut
import Derived.IntWalk
namespace Go.Proofs.Ytojfichbnnfjpaa
open Go.ChangeShapes Go.WideShapes Go.ChangeAt Go.RowKit
set_option linter.unusedVariables false
open Go.RowKit
def uI (ps : List Pl) (p : Pl) : List Nat := (List.range ps.length).filter fun i => decide (rootI ps i = p)
theorem under_uI (ps : List Pl) (p : Pl) : underN ps ps.length p = (uI ps p).map (seenOf ps) := rfl
theorem uI_len (ps : List Pl) (p : Pl) : (underN ps ps.length p).length = (uI ps p).length := by rw [under_uI, List.length_map]
theorem uI_get {ps : List Pl} {p : Pl} {j : Nat} (h : j < (uI ps p).length) : (uI ps p)[j] < ps.length ∧ rootI ps (uI ps p)[j] = p := by
  have hm := List.getElem_mem h
  generalize (uI ps p)[j] = z at hm
  unfold uI at hm
  rw [List.mem_filter, List.mem_range, decide_eq_true_eq] at hm
  exact hm
theorem uI_rise (ps : List Pl) (p : Pl) : (uI ps p).Pairwise (· < ·) := List.Pairwise.filter _ List.pairwise_lt_range
theorem uI_lt {ps : List Pl} {p : Pl} {i j : Nat} (hij : i < j) (h : j < (uI ps p).length) : (uI ps p)[i]'(by omega) < (uI ps p)[j] := List.pairwise_iff_getElem.1 (uI_rise ps p) i j (by omega) h hij
theorem uI_mem {ps : List Pl} {p : Pl} {i : Nat} (hi : i < ps.length) : i ∈ uI ps p ↔ rootI ps i = p := by simp [uI, hi]
def bef (k n : Nat) (p : Pl) : Bool := decide (p.kind < (k : Int)) || (decide (p.kind = (k : Int)) && decide (p.id < (n : Int)))
def dn (ps : List Pl) (k n j i : Nat) : Bool := bef k n (rootI ps i) || ((uI ps ⟨(k : Int), (n : Int)⟩).take j).contains i
def tA (ps : List Pl) (k n j : Nat) : Array Value := ((List.range ps.length).map fun i => Value.int .i64 (if dn ps k n j i then 1 else 0)).toArray
theorem tA_get {ps : List Pl} {k n j i : Nat} (hi : i < ps.length) : (tA ps k n j)[i]? = some (.int .i64 (if dn ps k n j i then 1 else 0)) := by simp [tA, hi]
theorem tA_ext {ps : List Pl} {k n j k' n' j' : Nat} (h : ∀ i, i < ps.length → dn ps k n j i = dn ps k' n' j' i) : tA ps k n j = tA ps k' n' j' := by
  unfold tA
  congr 1
  apply List.map_congr_left
  intro i hi
  rw [h i (List.mem_range.1 hi)]
theorem dn_not {ps : List Pl} {k n j : Nat} (h : j < (uI ps ⟨(k : Int), (n : Int)⟩).length) : dn ps k n j (uI ps ⟨(k : Int), (n : Int)⟩)[j] = false := by
  have hr := (uI_get h).2
  simp only [dn, hr, bef, Bool.or_eq_false_iff, Bool.and_eq_false_iff, decide_eq_false_iff_not]
  refine ⟨⟨by simp, .inr (by simp)⟩, ?_⟩
  rw [Bool.eq_false_iff]
  intro hc
  have hm := List.contains_iff_mem.1 hc
  obtain ⟨i, hi, e⟩ := List.getElem_of_mem hm
  rw [List.length_take] at hi
  rw [List.getElem_take] at e
  have := uI_lt (ps := ps) (p := ⟨(k : Int), (n : Int)⟩) (i := i) (j := j) (by omega) h
  omega
theorem dn_step {ps : List Pl} {k n j : Nat} (h : j < (uI ps ⟨(k : Int), (n : Int)⟩).length) (i : Nat) : dn ps k n (j + 1) i = (dn ps k n j i || decide (i = (uI ps ⟨(k : Int), (n : Int)⟩)[j])) := by
  simp only [dn, Bool.or_assoc]
  congr 1
  rw [List.take_succ_eq_append_getElem h, Bool.eq_iff_iff, Bool.or_eq_true, List.contains_iff_mem, List.contains_iff_mem, List.mem_append, List.mem_singleton, decide_eq_true_eq]
theorem tA_step {ps : List Pl} {k n j : Nat} (h : j < (uI ps ⟨(k : Int), (n : Int)⟩).length) : (tA ps k n j).setIfInBounds (uI ps ⟨(k : Int), (n : Int)⟩)[j] (.int .i64 1) = tA ps k n (j + 1) := by
  apply Array.ext
  · simp [tA]
  · intro i h1 h2
    have hi : i < ps.length := by simpa [tA] using h2
    have h3 : i < (tA ps k n j).size := by simpa [tA] using hi
    have g1 := tA_get (ps := ps) (k := k) (n := n) (j := j) hi
    have g2 := tA_get (ps := ps) (k := k) (n := n) (j := j + 1) hi
    rw [Array.getElem?_eq_getElem h2] at g2
    rw [Array.getElem?_eq_getElem h3] at g1
    rw [Option.some.inj g2, dn_step h i]
    by_cases he : (uI ps ⟨(k : Int), (n : Int)⟩)[j] = i
    · rw [Array.getElem_setIfInBounds h3, if_pos he]
      simp [he]
    · rw [Array.getElem_setIfInBounds h3, if_neg he, Option.some.inj g1]
      have : ¬ i = (uI ps ⟨(k : Int), (n : Int)⟩)[j] := fun h => he h.symm
      simp [this]
theorem tA_end (ps : List Pl) (k n : Nat) : tA ps k n (uI ps ⟨(k : Int), (n : Int)⟩).length = tA ps k (n + 1) 0 := by
  refine tA_ext fun i hi => ?_
  simp only [dn, List.take_length, List.take_zero]
  rw [Bool.eq_iff_iff]
  simp only [Bool.or_eq_true, List.contains_iff_mem, uI_mem hi, bef, Bool.and_eq_true, decide_eq_true_eq, List.not_mem_nil, or_false]
  generalize rootI ps i = r
  obtain ⟨rk, ri⟩ := r
  simp only [Pl.mk.injEq]
  omega
/-- What items hang from: rooms, players. -/
def Rooted (x : Wd) : Prop := ∀ i, i < x.wher.length → ∃ m : Nat, (rootI x.wher i = ⟨0, (m : Int)⟩ ∧ m < x.d.exits.length) ∨ (rootI x.wher i = ⟨1, (m : Int)⟩ ∧ m < x.at_.length)
theorem rooted {x : Wd} (h : Fit x) : Rooted x := by
  have hin := right_in h.right
  have hl := right_lens h.right
  have hp := h.right
  simp only [rightW, playersB, Bool.and_eq_true, decide_eq_true_eq] at hp
  refine h.tr.ind (fun i hi hk => ?_) (fun i j hi hj he hu ih => ?_)
  · rw [rootI_leaf hk]
    have h3 := hin.2.2 _ (plOf_mem hi)
    generalize plOf x.wher i = z at *
    obtain ⟨zk, zi⟩ := z
    simp only [placeB] at h3
    by_cases e0 : zk = 0
    · subst e0
      simp [inB] at h3
      exact ⟨zi.toNat, .inl ⟨by simp; omega, by omega⟩⟩
    · by_cases e1 : zk = 1
      · subst e1
        simp [inB] at h3
        exact ⟨zi.toNat, .inr ⟨by simp; omega, by omega⟩⟩
      · rw [if_neg e0, if_neg e1, if_neg hk] at h3
        cases h3
  · rw [rootI_box hu]; exact ih
theorem tA_start {x : Wd} (h : Rooted x) : zc x.wher.length = tA x.wher 0 0 0 := by
  apply Array.ext
  · simp [tA, zc]
  · intro i h1 h2
    have hi : i < x.wher.length := by simpa [tA] using h2
    have g2 := tA_get (ps := x.wher) (k := 0) (n := 0) (j := 0) hi
    rw [Array.getElem?_eq_getElem h2] at g2
    rw [Option.some.inj g2]
    have : dn x.wher 0 0 0 i = false := by
      obtain ⟨m, h | h⟩ := h i hi <;> simp [dn, bef, h.1]
    rw [this]
    simp [zc]
theorem tA_next0 {x : Wd} (h : Rooted x) : tA x.wher 0 x.d.exits.length 0 = tA x.wher 1 0 0 := by
  refine tA_ext fun i hi => ?_
  obtain ⟨m, h | h⟩ := h i hi <;> simp [dn, bef, h.1]
  exact h.2
theorem tA_next1 {x : Wd} (h : Rooted x) : tA x.wher 1 x.at_.length 0 = tA x.wher 2 0 0 := by
  refine tA_ext fun i hi => ?_
  obtain ⟨m, h | h⟩ := h i hi <;> simp [dn, bef, h.1]
  exact h.2
theorem tA_all {x : Wd} (h : Rooted x) {i : Nat} (hi : i < x.wher.length) : (tA x.wher 2 0 0)[i]? = some (.int .i64 1) := by
  rw [tA_get hi]
  obtain ⟨m, h | h⟩ := h i hi <;> simp [dn, bef, h.1]
theorem room_not {x : Wd} (h : Fit x) {q : Nat} (hq : q < 3) (i : Int) : ¬ capOf x.d q - ((x.wher.count ⟨(q : Int), i⟩ : Nat) : Int) < 0 := by
  have hc := h.caps q hq
  have hp := h.right
  simp only [rightW, fitB, Bool.and_eq_true, List.all_eq_true, decide_eq_true_eq] at hp
  by_cases hm : (⟨(q : Int), i⟩ : Pl) ∈ x.wher
  · have := hp.2.2.2.2 _ hm
    simp only at this
    omega
  · rw [List.count_eq_zero.2 hm]
    simp; omega
end Go.Proofs.Ytojfichbnnfjpaa
