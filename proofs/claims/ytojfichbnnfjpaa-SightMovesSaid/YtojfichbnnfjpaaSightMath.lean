/- Who is present, what is seen and had: plain mathematics. -/
import Derived.Test.YtojfichbnnfjpaaRows
import Derived.Test.YtojfichbnnfjpaaKit
import Derived.Test.YtojfichbnnfjpaaGMem
import Derived.Test.YtojfichbnnfjpaaCoin
import Derived.Test.YtojfichbnnfjpaaGWorld
import Derived.Test.YtojfichbnnfjpaaDescMay
import Derived.Test.YtojfichbnnfjpaaGRight
import Derived.Test.YtojfichbnnfjpaaGAs
import Derived.Test.YtojfichbnnfjpaaTreeCount
import Derived.WalkKit
import Derived.ProofKit
import Derived.OpenShut
import Derived.IntWalk
namespace Go.Proofs.Ytojfichbnnfjpaa
open Go.ChangeShapes Go.WideShapes Go.ChangeAt Go.RowKit
set_option linter.unusedVariables false
open Go.RowKit
/-- The first m players of these who are in a room. -/
def presN (x : Wd) (m r : Nat) : List Int := ((List.range m).filter fun i => decide (roomOf x i = r)).map fun (i : Nat) => (i : Int)
theorem presN_yes {x : Wd} {m r : Nat} (h : roomOf x m = r) : presN x (m + 1) r = presN x m r ++ [(m : Int)] := by simp [presN, List.range_succ, h]
theorem presN_no {x : Wd} {m r : Nat} (h : ¬ roomOf x m = r) : presN x (m + 1) r = presN x m r := by simp [presN, List.range_succ, h]
theorem presN_len (x : Wd) (m r : Nat) : (presN x m r).length ≤ m := by
  have := List.length_filter_le (fun i => decide (roomOf x i = r)) (List.range m)
  simpa [presN] using this
theorem pres_mem {x : Wd} {m r i : Nat} : (i : Int) ∈ presN x m r ↔ i < m ∧ roomOf x i = r := by
  simp only [presN, List.mem_map, List.mem_filter, List.mem_range, decide_eq_true_eq]
  constructor
  · rintro ⟨j, ⟨h1, h2⟩, e⟩
    obtain rfl : j = i := by omega
    exact ⟨h1, h2⟩
  · rintro ⟨h1, h2⟩
    exact ⟨i, ⟨h1, h2⟩, rfl⟩
theorem pres_get {x : Wd} {m r j : Nat} (h : j < (presN x m r).length) : ∃ i : Nat, (presN x m r)[j] = i ∧ i < m ∧ roomOf x i = r := by
  have hm := List.getElem_mem h
  generalize (presN x m r)[j] = z at hm
  simp only [presN, List.mem_map, List.mem_filter, List.mem_range, decide_eq_true_eq] at hm
  obtain ⟨i, ⟨h1, h2⟩, e⟩ := hm
  exact ⟨i, e.symm, h1, h2⟩
/-- How many are in the first n rooms. -/
def thereN (x : Wd) (m n : Nat) : Nat := ((List.range m).filter fun i => decide (roomOf x i < n)).length
theorem thereN_zero (x : Wd) (m : Nat) : thereN x m 0 = 0 := by simp [thereN]
theorem thereN_more (x : Wd) (n : Nat) : ∀ m, thereN x m (n + 1) = thereN x m n + (presN x m n).length
  | 0 => by simp [thereN, presN]
  | m + 1 => by
    have ih := thereN_more x n m
    have e : ∀ k, thereN x (m + 1) k = thereN x m k + if roomOf x m < k then 1 else 0 := fun k => by
      unfold thereN
      rw [List.range_succ, List.filter_append, List.length_append]
      by_cases h : roomOf x m < k <;> simp [h]
    rw [e, e, ih]
    by_cases h : roomOf x m = n
    · rw [presN_yes h, List.length_append, if_pos (by omega), if_neg (by omega)]
      simp only [List.length_cons, List.length_nil]
      omega
    · rw [presN_no h]
      by_cases h2 : roomOf x m < n
      · rw [if_pos (by omega), if_pos h2]; omega
      · rw [if_neg (by omega), if_neg h2]; omega
theorem there_all {x : Wd} (h : rightW x = true) : ∀ m, m ≤ x.at_.length → thereN x m x.d.exits.length = m
  | 0, _ => by simp [thereN]
  | m + 1, hm => by
    have ih := there_all h m (by omega)
    have h1 := (room_at h (i := m) (by omega)).2
    unfold thereN at ih ⊢
    rw [List.range_succ, List.filter_append, List.length_append, ih]
    simp [h1]
/-- How often an item was counted, where some places alone are looked at: the first n of kind k, and j of what hangs from the next. -/
def dnS (ps : List Pl) (S : Pl → Bool) (k n j i : Nat) : Bool := S (rootI ps i) && dn ps k n j i
def tS (ps : List Pl) (S : Pl → Bool) (k n j : Nat) : Array Value := ((List.range ps.length).map fun i => Value.int .i64 (if dnS ps S k n j i then 1 else 0)).toArray
theorem tS_get {ps : List Pl} {S : Pl → Bool} {k n j i : Nat} (hi : i < ps.length) : (tS ps S k n j)[i]? = some (.int .i64 (if dnS ps S k n j i then 1 else 0)) := by simp [tS, hi]
theorem tS_ext {ps : List Pl} {S : Pl → Bool} {k n j k' n' j' : Nat} (h : ∀ i, i < ps.length → dnS ps S k n j i = dnS ps S k' n' j' i) : tS ps S k n j = tS ps S k' n' j' := by
  unfold tS
  congr 1
  apply List.map_congr_left
  intro i hi
  rw [h i (List.mem_range.1 hi)]
theorem tS_not {ps : List Pl} {S : Pl → Bool} {k n j : Nat} (h : j < (uI ps ⟨(k : Int), (n : Int)⟩).length) : (tS ps S k n j)[(uI ps ⟨(k : Int), (n : Int)⟩)[j]]? = some (.int .i64 0) := by
  rw [tS_get (uI_get h).1, dnS, dn_not h, Bool.and_false]
  rfl
theorem tS_step {ps : List Pl} {S : Pl → Bool} {k n j : Nat} (hS : S ⟨(k : Int), (n : Int)⟩ = true) (h : j < (uI ps ⟨(k : Int), (n : Int)⟩).length) : (tS ps S k n j).setIfInBounds (uI ps ⟨(k : Int), (n : Int)⟩)[j] (.int .i64 1) = tS ps S k n (j + 1) := by
  apply Array.ext
  · simp [tS]
  · intro i h1 h2
    have hi : i < ps.length := by simpa [tS] using h2
    have h3 : i < (tS ps S k n j).size := by simpa [tS] using hi
    have g1 := tS_get (ps := ps) (S := S) (k := k) (n := n) (j := j) hi
    have g2 := tS_get (ps := ps) (S := S) (k := k) (n := n) (j := j + 1) hi
    rw [Array.getElem?_eq_getElem h2] at g2
    rw [Array.getElem?_eq_getElem h3] at g1
    rw [Option.some.inj g2, dnS, dn_step h i]
    by_cases he : (uI ps ⟨(k : Int), (n : Int)⟩)[j] = i
    · rw [Array.getElem_setIfInBounds h3, if_pos he]
      have hr : rootI ps i = ⟨(k : Int), (n : Int)⟩ := by rw [← he]; exact (uI_get h).2
      simp [he, hr, hS]
    · rw [Array.getElem_setIfInBounds h3, if_neg he, Option.some.inj g1, dnS]
      have : ¬ i = (uI ps ⟨(k : Int), (n : Int)⟩)[j] := fun h => he h.symm
      simp [this]
theorem tS_end (ps : List Pl) (S : Pl → Bool) (k n : Nat) : tS ps S k n (uI ps ⟨(k : Int), (n : Int)⟩).length = tS ps S k (n + 1) 0 := by
  refine tS_ext fun i hi => ?_
  have h := congrArg (fun (A : Array Value) => A[i]?) (tA_end ps k n)
  simp only [tA_get hi] at h
  have h2 : dn ps k n (uI ps ⟨(k : Int), (n : Int)⟩).length i = dn ps k (n + 1) 0 i := by
    cases h3 : dn ps k n (uI ps ⟨(k : Int), (n : Int)⟩).length i <;> cases h4 : dn ps k (n + 1) 0 i <;> simp [h3, h4] at h ⊢
  rw [dnS, dnS, h2]
/-- A place that isn't looked at counts for nothing. -/
theorem tS_skip {ps : List Pl} {S : Pl → Bool} {k n : Nat} (hS : S ⟨(k : Int), (n : Int)⟩ = false) : tS ps S k n 0 = tS ps S k (n + 1) 0 := by
  refine tS_ext fun i hi => ?_
  simp only [dnS, dn, List.take_zero, bef]
  generalize rootI ps i = r
  obtain ⟨rk, ri⟩ := r
  by_cases e : (⟨rk, ri⟩ : Pl) = ⟨(k : Int), (n : Int)⟩
  · rw [e, hS]; simp
  · have : decide (ri < (n : Int)) = decide (ri < ((n + 1 : Nat) : Int)) ∨ ¬ rk = (k : Int) := by
      by_cases h1 : rk = (k : Int)
      · left
        rw [decide_eq_decide]
        simp only [h1, Pl.mk.injEq, true_and] at e
        omega
      · exact .inr h1
    rcases this with h | h
    · rw [h]
    · simp [h]
theorem tS_start {x : Wd} (S : Pl → Bool) (h : Rooted x) : zc x.wher.length = tS x.wher S 0 0 0 := by
  apply Array.ext
  · simp [tS, zc]
  · intro i h1 h2
    have hi : i < x.wher.length := by simpa [tS] using h2
    have g2 := tS_get (ps := x.wher) (S := S) (k := 0) (n := 0) (j := 0) hi
    rw [Array.getElem?_eq_getElem h2] at g2
    rw [Option.some.inj g2]
    have : dnS x.wher S 0 0 0 i = false := by
      obtain ⟨m, h | h⟩ := h i hi <;> simp [dnS, dn, bef, h.1]
    rw [this]
    simp [zc]
theorem tS_next {x : Wd} (S : Pl → Bool) (h : Rooted x) : tS x.wher S 0 x.d.exits.length 0 = tS x.wher S 1 0 0 := by
  refine tS_ext fun i hi => ?_
  obtain ⟨m, h | h⟩ := h i hi <;> simp [dnS, dn, bef, h.1]
  intro _; exact h.2
theorem tS_one {ps : List Pl} {S : Pl → Bool} {k n j i : Nat} (hi : i < ps.length) : ∃ v : Nat, (tS ps S k n j)[i]? = some (.int .i64 v) ∧ v ≤ 1 := by
  rw [tS_get hi]
  cases dnS ps S k n j i
  · exact ⟨0, rfl, by omega⟩
  · exact ⟨1, rfl, by omega⟩
/-- What is seen, and had. -/
def lookN (x : Wd) (i : Nat) : List Sn := underN x.wher x.wher.length ⟨0, (roomOf x i : Int)⟩
def ownN (x : Wd) (i : Nat) : List Sn := underN x.wher x.wher.length ⟨1, (i : Int)⟩
/-- A box's things are seen with the box. -/
theorem under_box {ps : List Pl} (hT : Tr ps) {p : Pl} {s : Sn} (hs : s ∈ underN ps ps.length p) (hb : s.kind = 2) : ∃ t ∈ underN ps ps.length p, t.item = s.id := by
  simp only [underN, List.mem_map, List.mem_filter, List.mem_range, decide_eq_true_eq] at hs ⊢
  obtain ⟨n, ⟨hn, hr⟩, rfl⟩ := hs
  have hk : (plOf ps n).kind = 2 := hb
  have hid := hT.ids _ (plOf_mem hn) hk
  obtain ⟨j, hj⟩ : ∃ j : Nat, (plOf ps n).id = j := ⟨(plOf ps n).id.toNat, by omega⟩
  have he : plOf ps n = box j := by
    rcases hp : plOf ps n with ⟨a, b⟩
    rw [hp] at hk hj
    simp only at hk hj
    rw [hk, hj]; rfl
  obtain ⟨hu, _⟩ := hT.kid hn he
  have hjl : j < ps.length := by have := hid.2; rw [hj] at this; omega
  exact ⟨seenOf ps j, ⟨j, ⟨hjl, by rw [← rootI_box hu]; exact hr⟩, rfl⟩, by show (j : Int) = (plOf ps n).id; rw [hj]⟩
/-- Got from the floor: as many more as less. -/
theorem got_counts {x : Wd} (h : rightW x = true) {k : Nat} (hk : k < x.wher.length) {f g : Pl} (hg : ¬ g.kind = 2) (hfg : ¬ f = g) (hp : plOf x.wher k = f) (hf : ¬ f.kind = 2) (h2 : rightW (putW x k g) = true) :
    (underN x.wher x.wher.length f).length + (underN x.wher x.wher.length g).length = (underN (putW x k g).wher x.wher.length f).length + (underN (putW x k g).wher x.wher.length g).length ∧
    (underN (putW x k g).wher x.wher.length f).length < (underN x.wher x.wher.length f).length := by
  have hT := right_tr h
  have hr : rootI x.wher k = f := by rw [rootI_leaf (by rw [hp]; exact hf), hp]
  have key : ∀ m, m ≤ x.wher.length →
      (underN x.wher m f).length + (underN x.wher m g).length = (underN (putW x k g).wher m f).length + (underN (putW x k g).wher m g).length ∧
      (underN (putW x k g).wher m f).length + (if k < m then 1 else 0) ≤ (underN x.wher m f).length := by
    intro m
    induction m with
    | zero => intro _; simp [underN]
    | succ m ih =>
      intro hm
      obtain ⟨i1, i2⟩ := ih (by omega)
      have e := put_roots h hk hg h2 (n := m) (by omega)
      have st : ∀ (ps : List Pl) (p : Pl), (underN ps (m + 1) p).length = (underN ps m p).length + if rootI ps m = p then 1 else 0 := fun ps p => by
        by_cases h : rootI ps m = p
        · rw [underN_yes h, if_pos h]; simp
        · rw [underN_no h, if_neg h]; simp
      rw [st, st, st, st]
      cases hw : wB x.wher m k
      · rw [e.2 hw]
        have hmk : ¬ m = k := fun e => by rw [e, wB_self] at hw; cases hw
        refine ⟨by omega, ?_⟩
        have c1 : (if k < m + 1 then 1 else 0) = if k < m then 1 else 0 := by
          by_cases hkm : k < m
          · rw [if_pos hkm, if_pos (by omega)]
          · rw [if_neg hkm, if_neg (by omega)]
        rw [c1]
        omega
      · rw [e.1 hw]
        have hrm : rootI x.wher m = f := by rw [(hT.within k m (by omega) hw).1, hr]
        rw [hrm, if_pos rfl, if_neg hfg, if_neg (fun e => hfg e.symm), if_pos rfl]
        refine ⟨by omega, ?_⟩
        have c1 : (if k < m + 1 then 1 else 0) ≤ (if k < m then 1 else 0) + 1 := by
          by_cases hkm : k < m
          · rw [if_pos hkm, if_pos (by omega)]; omega
          · rw [if_neg hkm]; split <;> omega
        omega
  have := key x.wher.length (Nat.le_refl _)
  refine ⟨this.1, ?_⟩
  have h3 := this.2
  rw [if_pos hk] at h3
  omega
end Go.Proofs.Ytojfichbnnfjpaa
