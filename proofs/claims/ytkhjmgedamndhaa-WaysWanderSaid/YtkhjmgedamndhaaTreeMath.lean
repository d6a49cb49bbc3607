/- Items within items: what hangs from what, how deep, how high: plain mathematics. -/
import Derived.Test.YtkhjmgedamndhaaRows
import Derived.Test.YtkhjmgedamndhaaKit
import Derived.Test.YtkhjmgedamndhaaStrs
import Derived.Test.YtkhjmgedamndhaaCoin
import Derived.Test.YtkhjmgedamndhaaWorldMath
import Derived.Test.YtkhjmgedamndhaaSnMath
import Derived.WalkKit
import Derived.ProofKit
import Derived.OpenShut
import Derived.IntWalk
namespace Go.Proofs.Ytkhjmgedamndhaa
open Go.ChangeShapes Go.WideShapes Go.ChangeAt Go.RowKit
set_option linter.unusedVariables false
open Go.RowKit
/-- Where an item is. -/
def plOf (ps : List Pl) (i : Nat) : Pl := ps.getD i ⟨0, 0⟩
/-- The places above a place, itself first. -/
def upL (ps : List Pl) : Nat → Pl → List Pl
  | 0, p => [p]
  | k + 1, p => if p.kind = 2 then p :: upL ps k (par ps p) else [p]
/-- The places above an item, its own first. -/
def upI (ps : List Pl) (i : Nat) : List Pl := upL ps 4 (plOf ps i)
/-- Boxes are items, and no deeper than they may be. -/
structure Tr (ps : List Pl) : Prop where
  ids : ∀ p ∈ ps, p.kind = 2 → 0 ≤ p.id ∧ p.id < ps.length
  ends : ∀ p ∈ ps, endsB ps 4 p = true
def dep (ps : List Pl) (i : Nat) : Nat := (upI ps i).length - 1
def rootL (l : List Pl) : Pl := l.getLast?.getD ⟨0, 0⟩
def rootI (ps : List Pl) (i : Nat) : Pl := rootL (upI ps i)
def box (j : Nat) : Pl := ⟨2, (j : Int)⟩
/-- Is an item within another one? -/
def wB (ps : List Pl) (i j : Nat) : Bool := decide (i = j) || (upI ps i).any fun q => decide (q = box j)
def cnt2 (l : List Pl) : Nat := l.countP fun p => decide (p.kind = 2)
/-- The greatest depth of what is within an item, less its own, of the first so many. -/
def hgtN (ps : List Pl) : Nat → Nat → Nat
  | 0, _ => 0
  | n + 1, i => max (hgtN ps n i) (if wB ps n i then dep ps n - dep ps i else 0)
def hgt (ps : List Pl) (i : Nat) : Nat := hgtN ps ps.length i
/-- The document's: one more than theirs. -/
def hgtR (ps : List Pl) : Nat → Nat → Nat
  | 0, _ => 0
  | n + 1, i => max (hgtR ps n i) (if plOf ps n = box i then 1 + hgt ps n else 0)
def inN (ps : List Pl) (n : Nat) (p : Pl) : List Int := ((List.range n).filter fun i => decide (plOf ps i = p)).map fun (i : Nat) => (i : Int)
def seenOf (ps : List Pl) (i : Nat) : Sn := ⟨i, (plOf ps i).kind, (plOf ps i).id⟩
def underN (ps : List Pl) (n : Nat) (p : Pl) : List Sn := ((List.range n).filter fun i => decide (rootI ps i = p)).map (seenOf ps)

theorem plOf_get {ps : List Pl} {i : Nat} (h : i < ps.length) : plOf ps i = ps[i] := by simp [plOf, h]
theorem plOf_mem {ps : List Pl} {i : Nat} (h : i < ps.length) : plOf ps i ∈ ps := by rw [plOf_get h]; exact List.getElem_mem h
theorem upL_leaf (ps : List Pl) (k : Nat) {p : Pl} (h : ¬ p.kind = 2) : upL ps k p = [p] := by cases k <;> simp [upL, h]
theorem upL_more (ps : List Pl) : ∀ (k : Nat) (p : Pl) (m j : Nat), dpt ps k p = some m → k ≤ j → upL ps j p = upL ps k p
  | 0, p, m, j, h, _ => by
    simp only [dpt] at h
    split at h
    · cases h
    · rename_i hn; rw [upL_leaf ps j hn, upL_leaf ps 0 hn]
  | k + 1, p, m, j, h, hj => by
    cases j with
    | zero => omega
    | succ j =>
      simp only [dpt] at h
      split at h
      · rename_i hp
        obtain ⟨i, hi, rfl⟩ := Option.map_eq_some_iff.1 h
        simp only [upL, if_pos hp]
        rw [upL_more ps k _ i j hi (by omega)]
      · rename_i hp; rw [upL_leaf ps _ hp, upL_leaf ps _ hp]
theorem upL_len (ps : List Pl) : ∀ (k : Nat) (p : Pl) (m : Nat), dpt ps k p = some m → (upL ps k p).length = m + 1
  | 0, p, m, h => by
    simp only [dpt] at h
    split at h
    · cases h
    · simp [upL, ← Option.some.inj h]
  | k + 1, p, m, h => by
    simp only [dpt] at h
    split at h
    · rename_i hp
      obtain ⟨i, hi, rfl⟩ := Option.map_eq_some_iff.1 h
      simp only [upL, if_pos hp, List.length_cons, upL_len ps k _ i hi]
    · rename_i hp
      simp [upL, hp, ← Option.some.inj h]
theorem upL_ne (ps : List Pl) (k : Nat) (p : Pl) : upL ps k p ≠ [] := by
  cases k with
  | zero => simp [upL]
  | succ k => simp only [upL]; split <;> simp
theorem upI_ne (ps : List Pl) (i : Nat) : upI ps i ≠ [] := upL_ne _ _ _
theorem Tr.dpt {ps : List Pl} (h : Tr ps) {i : Nat} (hi : i < ps.length) : ∃ m, dpt ps 4 (plOf ps i) = some m := by
  have := h.ends _ (plOf_mem hi)
  rw [ends_dpt] at this
  exact Option.isSome_iff_exists.1 this
theorem upI_leaf {ps : List Pl} {i : Nat} (h : ¬ (plOf ps i).kind = 2) : upI ps i = [plOf ps i] := upL_leaf _ _ h
/-- A box's number. -/
theorem Tr.box {ps : List Pl} (h : Tr ps) {i : Nat} (hi : i < ps.length) (hk : (plOf ps i).kind = 2) : ∃ j, j < ps.length ∧ plOf ps i = box j ∧ upI ps i = box j :: upI ps j := by
  obtain ⟨h0, h1⟩ := h.ids _ (plOf_mem hi) hk
  have hj : (plOf ps i).id.toNat < ps.length := by omega
  have e : plOf ps i = Proofs.Ytkhjmgedamndhaa.box (plOf ps i).id.toNat := by
    generalize plOf ps i = z at *
    cases z; simp only [Proofs.Ytkhjmgedamndhaa.box] at *; subst hk; simp; omega
  refine ⟨(plOf ps i).id.toNat, hj, e, ?_⟩
  obtain ⟨m, hm⟩ := h.dpt hi
  obtain ⟨m2, hm2⟩ := h.dpt hj
  have hp : par ps (plOf ps i) = plOf ps (plOf ps i).id.toNat := rfl
  rw [← e]
  unfold upI
  have h2 := hm
  simp only [Proofs.Ytkhjmgedamndhaa.dpt, if_pos hk] at hm
  obtain ⟨q, hq, rfl⟩ := Option.map_eq_some_iff.1 hm
  rw [hp] at hq
  rw [upL_more ps 3 _ q 4 hq (by omega)]
  show upL ps (3 + 1) _ = _
  simp only [upL, if_pos hk, hp]
theorem upI_len_pos (ps : List Pl) (i : Nat) : 0 < (upI ps i).length := List.length_pos_iff.2 (upI_ne ps i)
theorem dep_leaf {ps : List Pl} {i : Nat} (h : ¬ (plOf ps i).kind = 2) : dep ps i = 0 := by simp [dep, upI_leaf h]
theorem dep_box {ps : List Pl} {i j : Nat} (h : upI ps i = box j :: upI ps j) : dep ps i = dep ps j + 1 := by
  have := upI_len_pos ps j
  simp only [dep, h, List.length_cons]; omega
theorem upI_len {ps : List Pl} (i : Nat) : (upI ps i).length = dep ps i + 1 := by
  have := upI_len_pos ps i
  simp only [dep]; omega
theorem Tr.dep4 {ps : List Pl} (h : Tr ps) {i : Nat} (hi : i < ps.length) : dep ps i ≤ 4 := by
  obtain ⟨m, hm⟩ := h.dpt hi
  have := upL_len ps 4 _ m hm
  have := dpt_le ps 4 _ m hm
  simp only [dep, upI]; omega
theorem Tr.depth {ps : List Pl} (h : Tr ps) {i : Nat} (hi : i < ps.length) : depthR ps (plOf ps i) = dep ps i := by
  obtain ⟨m, hm⟩ := h.dpt hi
  have h1 := upL_len ps 4 _ m hm
  have h2 := dpt_more ps 4 _ m 50 hm (by omega)
  simp only [depthR, h2, dep, upI, h1, Option.getD_some]; omega
/-- Item by item, boxes first. -/
theorem Tr.ind {ps : List Pl} (h : Tr ps) {P : Nat → Prop} (leaf : ∀ i, i < ps.length → ¬ (plOf ps i).kind = 2 → P i)
    (step : ∀ i j, i < ps.length → j < ps.length → plOf ps i = Proofs.Ytkhjmgedamndhaa.box j → upI ps i = Proofs.Ytkhjmgedamndhaa.box j :: upI ps j → P j → P i) : ∀ i, i < ps.length → P i := by
  have key : ∀ n i, i < ps.length → dep ps i = n → P i := by
    intro n
    induction n with
    | zero =>
      intro i hi hd
      refine leaf i hi fun hk => ?_
      obtain ⟨j, _, _, hu⟩ := h.box hi hk
      rw [dep_box hu] at hd; omega
    | succ n ih =>
      intro i hi hd
      by_cases hk : (plOf ps i).kind = 2
      · obtain ⟨j, hj, e, hu⟩ := h.box hi hk
        rw [dep_box hu] at hd
        exact step i j hi hj e hu (ih j hj (by omega))
      · exact leaf i hi hk
  exact fun i hi => key _ i hi rfl
theorem rootI_leaf {ps : List Pl} {i : Nat} (h : ¬ (plOf ps i).kind = 2) : rootI ps i = plOf ps i := by simp [rootI, rootL, upI_leaf h]
theorem rootI_box {ps : List Pl} {i j : Nat} (h : upI ps i = box j :: upI ps j) : rootI ps i = rootI ps j := by
  simp only [rootI, rootL, h]
  cases hu : upI ps j with
  | nil => exact absurd hu (upI_ne ps j)
  | cons a l => simp [List.getLast?_cons_cons]
theorem rootL_snoc (l : List Pl) (p : Pl) : rootL (l ++ [p]) = p := by simp [rootL]
theorem box_inj {i j : Nat} : box i = box j ↔ i = j := by simp only [box, Pl.mk.injEq, true_and]; omega
theorem wB_leaf {ps : List Pl} {i : Nat} (j : Nat) (h : ¬ (plOf ps i).kind = 2) : wB ps i j = decide (i = j) := by
  have : ¬ plOf ps i = box j := fun e => h (by rw [e]; rfl)
  simp [wB, upI_leaf h, this]
theorem wB_self (ps : List Pl) (i : Nat) : wB ps i i = true := by simp [wB]
theorem wB_box {ps : List Pl} {i k : Nat} (j : Nat) (h : upI ps i = box k :: upI ps k) : wB ps i j = (decide (i = j) || wB ps k j) := by
  simp only [wB, h, List.any_cons, box_inj]
theorem cnt2_snoc (l : List Pl) (p : Pl) : cnt2 (l ++ [p]) = cnt2 l + if p.kind = 2 then 1 else 0 := by
  simp only [cnt2, List.countP_append]; split <;> simp [*]
theorem Tr.cnt {ps : List Pl} (h : Tr ps) : ∀ i, i < ps.length → cnt2 (upI ps i) = dep ps i := by
  refine h.ind (fun i hi hk => ?_) (fun i j hi hj e hu ih => ?_)
  · simp [upI_leaf hk, dep_leaf hk, cnt2, hk]
  · rw [dep_box hu, ← ih, hu]; simp [cnt2, Proofs.Ytkhjmgedamndhaa.box]
/-- So many numbers want a list as long. -/
theorem pigeon : ∀ (n : Nat) (l : List Nat), (∀ j, j < n → j ∈ l) → n ≤ l.length
  | 0, _, _ => Nat.zero_le _
  | n + 1, l, h => by
    have h1 : n ∈ l := h n (by omega)
    have h2 := pigeon n (l.erase n) (fun j hj => (List.mem_erase_of_ne (by omega)).2 (h j (by omega)))
    rw [List.length_erase_of_mem h1] at h2
    have := List.length_pos_of_mem h1
    omega
theorem Tr.deps {ps : List Pl} (h : Tr ps) : ∀ i, i < ps.length → ∀ j, j ≤ dep ps i → ∃ k, k < ps.length ∧ dep ps k = j := by
  refine h.ind (fun i hi hk j hj => ?_) (fun i j hi hj e hu ih k hk => ?_)
  · exact ⟨i, hi, by rw [dep_leaf hk] at hj ⊢; omega⟩
  · by_cases he : k = dep ps i
    · exact ⟨i, hi, he.symm⟩
    · rw [dep_box hu] at hk he
      exact ih k (by omega)
/-- No more places are above an item than there are items. -/
theorem Tr.len {ps : List Pl} (h : Tr ps) {i : Nat} (hi : i < ps.length) : (upI ps i).length ≤ ps.length := by
  have := pigeon (dep ps i + 1) ((List.range ps.length).map (dep ps)) (fun j hj => by
    obtain ⟨k, hk, e⟩ := h.deps i hi j (by omega)
    exact List.mem_map.2 ⟨k, List.mem_range.2 hk, e⟩)
  simp only [List.length_map, List.length_range] at this
  rw [upI_len]; exact this
/-- What is within another one is no less deep, and hangs from where that does. -/
theorem Tr.within {ps : List Pl} (h : Tr ps) (j : Nat) : ∀ i, i < ps.length → wB ps i j = true → rootI ps i = rootI ps j ∧ dep ps j ≤ dep ps i ∧ (dep ps i = dep ps j → i = j) := by
  refine h.ind (fun i hi hk hw => ?_) (fun i k hi hk e hu ih hw => ?_)
  · rw [wB_leaf j hk] at hw
    have := of_decide_eq_true hw; subst this
    exact ⟨rfl, Nat.le_refl _, fun _ => rfl⟩
  · rw [wB_box j hu, Bool.or_eq_true] at hw
    rcases hw with hw | hw
    · have := of_decide_eq_true hw; subst this
      exact ⟨rfl, Nat.le_refl _, fun _ => rfl⟩
    · obtain ⟨h1, h2, _⟩ := ih hw
      rw [rootI_box hu, dep_box hu]
      exact ⟨h1, by omega, fun he => by omega⟩
theorem Tr.trans {ps : List Pl} (h : Tr ps) (j k : Nat) (hjk : wB ps j k = true) : ∀ i, i < ps.length → wB ps i j = true → wB ps i k = true := by
  refine h.ind (fun i hi hk hw => ?_) (fun i m hi hm e hu ih hw => ?_)
  · rw [wB_leaf j hk] at hw
    have := of_decide_eq_true hw; subst this; exact hjk
  · rw [wB_box j hu, Bool.or_eq_true] at hw
    rcases hw with hw | hw
    · have := of_decide_eq_true hw; subst this; exact hjk
    · rw [wB_box k hu, ih hw, Bool.or_true]
theorem hgtN_le (ps : List Pl) (i : Nat) : ∀ n low, low < n → wB ps low i = true → dep ps low - dep ps i ≤ hgtN ps n i
  | n + 1, low, hl, hw => by
    simp only [hgtN]
    by_cases e : low = n
    · subst e; rw [if_pos hw]; omega
    · have := hgtN_le ps i n low (by omega) hw; omega
theorem hgtN_at (ps : List Pl) (i : Nat) : ∀ n, hgtN ps n i = 0 ∨ ∃ low, low < n ∧ wB ps low i = true ∧ hgtN ps n i = dep ps low - dep ps i
  | 0 => .inl rfl
  | n + 1 => by
    simp only [hgtN]
    rcases hgtN_at ps i n with h | ⟨low, h1, h2, h3⟩
    · rw [h]
      split
      · rename_i hw
        exact .inr ⟨n, by omega, hw, by omega⟩
      · exact .inl rfl
    · split
      · rename_i hw
        by_cases hle : hgtN ps n i ≤ dep ps n - dep ps i
        · exact .inr ⟨n, by omega, hw, by omega⟩
        · exact .inr ⟨low, by omega, h2, by omega⟩
      · exact .inr ⟨low, by omega, h2, by omega⟩
/-- What is within an item is no deeper than its height says. -/
theorem Tr.hgt_le {ps : List Pl} (h : Tr ps) {i j : Nat} (hi : i < ps.length) (hw : wB ps i j = true) : dep ps i ≤ dep ps j + hgt ps j := by
  have := hgtN_le ps j ps.length i hi hw
  have := (h.within j i hi hw).2.1
  unfold hgt; omega
/-- .. and something is just as deep. -/
theorem Tr.hgt_at {ps : List Pl} (h : Tr ps) {j : Nat} (hj : j < ps.length) : ∃ i, i < ps.length ∧ wB ps i j = true ∧ dep ps i = dep ps j + hgt ps j := by
  rcases hgtN_at ps j ps.length with h0 | ⟨low, h1, h2, h3⟩
  · exact ⟨j, hj, wB_self ps j, by unfold hgt; omega⟩
  · have := (h.within j low h1 h2).2.1
    exact ⟨low, h1, h2, by unfold hgt; omega⟩
theorem Tr.sum4 {ps : List Pl} (h : Tr ps) {j : Nat} (hj : j < ps.length) : dep ps j + hgt ps j ≤ 4 := by
  obtain ⟨i, hi, _, e⟩ := h.hgt_at hj
  have := h.dep4 hi
  omega
/-- What is within an item, and isn't that, is within something that lies in it. -/
theorem Tr.child {ps : List Pl} (h : Tr ps) (j : Nat) : ∀ i, i < ps.length → wB ps i j = true → i = j ∨ ∃ k, k < ps.length ∧ plOf ps k = Proofs.Ytkhjmgedamndhaa.box j ∧ wB ps i k = true := by
  refine h.ind (fun i hi hk hw => ?_) (fun i m hi hm e hu ih hw => ?_)
  · rw [wB_leaf j hk] at hw
    exact .inl (of_decide_eq_true hw)
  · rw [wB_box j hu, Bool.or_eq_true] at hw
    rcases hw with hw | hw
    · exact .inl (of_decide_eq_true hw)
    · rcases ih hw with rfl | ⟨k, hk, ek, hwk⟩
      · exact .inr ⟨i, hi, e, wB_self ps i⟩
      · exact .inr ⟨k, hk, ek, by rw [wB_box k hu, hwk, Bool.or_true]⟩
theorem Tr.kid {ps : List Pl} (h : Tr ps) {i j : Nat} (hi : i < ps.length) (e : plOf ps i = Proofs.Ytkhjmgedamndhaa.box j) : upI ps i = Proofs.Ytkhjmgedamndhaa.box j :: upI ps j ∧ j < ps.length := by
  obtain ⟨k, hk, e2, hu⟩ := h.box hi (by rw [e]; rfl)
  rw [e] at e2
  have := box_inj.1 e2
  subst this
  exact ⟨hu, hk⟩
theorem hgtR_le (ps : List Pl) (i : Nat) : ∀ n k, k < n → plOf ps k = box i → 1 + hgt ps k ≤ hgtR ps n i
  | n + 1, k, hl, hw => by
    simp only [hgtR]
    by_cases e : k = n
    · subst e; rw [if_pos hw]; omega
    · have := hgtR_le ps i n k (by omega) hw; omega
theorem hgtR_at (ps : List Pl) (i : Nat) : ∀ n, hgtR ps n i = 0 ∨ ∃ k, k < n ∧ plOf ps k = box i ∧ hgtR ps n i = 1 + hgt ps k
  | 0 => .inl rfl
  | n + 1 => by
    simp only [hgtR]
    rcases hgtR_at ps i n with h | ⟨k, h1, h2, h3⟩
    · rw [h]
      split
      · rename_i hw
        exact .inr ⟨n, by omega, hw, by omega⟩
      · exact .inl rfl
    · split
      · rename_i hw
        by_cases hle : hgtR ps n i ≤ 1 + hgt ps n
        · exact .inr ⟨n, by omega, hw, by omega⟩
        · exact .inr ⟨k, by omega, h2, by omega⟩
      · exact .inr ⟨k, by omega, h2, by omega⟩
theorem Tr.hgtR {ps : List Pl} (h : Tr ps) {j : Nat} (hj : j < ps.length) : hgtR ps ps.length j = hgt ps j := by
  obtain ⟨i, hi, hw, e⟩ := h.hgt_at hj
  apply Nat.le_antisymm
  · rcases hgtR_at ps j ps.length with h0 | ⟨k, hk, ek, e2⟩
    · omega
    · obtain ⟨hu, _⟩ := h.kid hk ek
      obtain ⟨i2, hi2, hw2, e3⟩ := h.hgt_at hk
      have := h.hgt_le hi2 (h.trans k j (by rw [wB_box j hu, wB_self, Bool.or_true]) i2 hi2 hw2)
      have := dep_box hu
      omega
  · rcases h.child j i hi hw with rfl | ⟨k, hk, ek, hwk⟩
    · omega
    · obtain ⟨hu, _⟩ := h.kid hk ek
      have := hgtR_le ps j ps.length k hk ek
      have := h.hgt_le hi hwk
      have := dep_box hu
      omega
theorem inN_yes {ps : List Pl} {n : Nat} {p : Pl} (h : plOf ps n = p) : inN ps (n + 1) p = inN ps n p ++ [(n : Int)] := by
  simp [inN, List.range_succ, h]
theorem inN_no {ps : List Pl} {n : Nat} {p : Pl} (h : ¬ plOf ps n = p) : inN ps (n + 1) p = inN ps n p := by
  simp [inN, List.range_succ, h]
theorem underN_yes {ps : List Pl} {n : Nat} {p : Pl} (h : rootI ps n = p) : underN ps (n + 1) p = underN ps n p ++ [seenOf ps n] := by
  simp [underN, List.range_succ, h]
theorem underN_no {ps : List Pl} {n : Nat} {p : Pl} (h : ¬ rootI ps n = p) : underN ps (n + 1) p = underN ps n p := by
  simp [underN, List.range_succ, h]
theorem inN_len (ps : List Pl) (n : Nat) (p : Pl) : (inN ps n p).length ≤ n := by
  have := List.length_filter_le (fun i => decide (plOf ps i = p)) (List.range n)
  simpa [inN] using this
theorem underN_len (ps : List Pl) (n : Nat) (p : Pl) : (underN ps n p).length ≤ n := by
  have := List.length_filter_le (fun i => decide (rootI ps i = p)) (List.range n)
  simpa [underN] using this
theorem inN_count (ps : List Pl) (p : Pl) : ∀ n, n ≤ ps.length → (inN ps n p).length = (ps.take n).count p
  | 0, _ => by simp [inN]
  | n + 1, hn => by
    have ih := inN_count ps p n (by omega)
    have hg := plOf_get (ps := ps) (i := n) (by omega)
    rw [List.take_succ_eq_append_getElem (by omega), List.count_append, ← ih]
    by_cases e : plOf ps n = p
    · rw [inN_yes e, ← hg, e]; simp
    · rw [inN_no e, ← hg, show [plOf ps n].count p = 0 from List.count_eq_zero.2 (by simpa using fun q => e q.symm)]; rfl
theorem in_count (ps : List Pl) (p : Pl) : (inN ps ps.length p).length = ps.count p := by
  have := inN_count ps p ps.length (Nat.le_refl _)
  simpa using this
end Go.Proofs.Ytkhjmgedamndhaa
