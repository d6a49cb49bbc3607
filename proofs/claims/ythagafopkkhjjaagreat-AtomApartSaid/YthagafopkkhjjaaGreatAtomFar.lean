/- Two players in unlike rooms: what one does with things leaves what is near the other one as it was: plain mathematics. -/
import Derived.Test.YthagafopkkhjjaaGreatRows
import Derived.Test.YthagafopkkhjjaaGreatKit
import Derived.Test.YthagafopkkhjjaaGreatGMem
import Derived.Test.YthagafopkkhjjaaGreatGWorld
import Derived.Test.YthagafopkkhjjaaGreatDescMay
import Derived.Test.YthagafopkkhjjaaGreatGRight
import Derived.Test.YthagafopkkhjjaaGreatGAs
import Derived.Test.YthagafopkkhjjaaGreatGBoxM
import Derived.WalkKit
import Derived.ProofKit
import Derived.OpenShut
import Derived.IntWalk
namespace Go.Proofs.YthagafopkkhjjaaGreat
open Go.ChangeShapes Go.WideShapes Go.ChangeAt Go.RowKit
set_option linter.unusedVariables false
open Go.RowKit
/-- An item laid elsewhere leaves what is above the things that aren't within it. -/
theorem up_far {ps : List Pl} {m : Nat} {g : Pl} (hT : Tr ps) (hT2 : Tr (ps.set m g)) : ∀ n, n < ps.length → wB ps n m = false → upI (ps.set m g) n = upI ps n := by
  refine hT.ind (fun n hn hd hw => ?_) (fun n u hn hu he hup ih hw => ?_)
  · have hnm : ¬ n = m := fun e => by rw [e, wB_self] at hw; cases hw
    have e : plOf (ps.set m g) n = plOf ps n := by rw [plOf_set hn, if_neg hnm]
    rw [upI_leaf hd, upI_leaf (by rw [e]; exact hd), e]
  · have hnm : ¬ n = m := fun e => by rw [e, wB_self] at hw; cases hw
    have e : plOf (ps.set m g) n = Proofs.YthagafopkkhjjaaGreat.box u := by rw [plOf_set hn, if_neg hnm, he]
    rw [wB_box m hup] at hw
    simp only [Bool.or_eq_false_iff] at hw
    rw [(hT2.kid (by simpa using hn) e).1, hup, ih hw.2]
/-- A world in which all that is near a player is as in the other one. -/
structure FarW (x y : Wd) (i : Nat) : Prop where
  d : y.d = x.d
  at_ : y.at_ = x.at_
  co : y.coins = x.coins
  len : y.wher.length = x.wher.length
  near : ∀ n, n < x.wher.length → nearB y i n = nearB x i n
  pl : ∀ n, n < x.wher.length → nearB x i n = true → plOf y.wher n = plOf x.wher n
  up : ∀ n, n < x.wher.length → nearB x i n = true → upI y.wher n = upI x.wher n
  flo : y.wher.count ⟨0, (roomOf x i : Int)⟩ = x.wher.count ⟨0, (roomOf x i : Int)⟩
  han : y.wher.count ⟨1, (i : Int)⟩ = x.wher.count ⟨1, (i : Int)⟩
  ins : ∀ b, b < x.wher.length → nearB x i b = true → y.wher.count (box b) = x.wher.count (box b)
/-- What is near one isn't near another one in another room. -/
theorem near_one {x : Wd} {i k n : Nat} (hr : ¬ roomOf x i = roomOf x k) (h : nearB x k n = true) : nearB x i n = false := by
  simp only [nearB, Bool.or_eq_true, decide_eq_true_eq] at h
  have hik : ¬ i = k := fun e => hr (by rw [e])
  simp only [nearB, Bool.or_eq_false_iff, decide_eq_false_iff_not]
  rcases h with h | h
  all_goals
    rw [h]
    simp
    omega
/-- A place near a player: the floor, its hands, a box that is near. -/
def placeNear (x : Wd) (k : Nat) (g : Pl) : Prop := g = ⟨0, (roomOf x k : Int)⟩ ∨ g = ⟨1, (k : Int)⟩ ∨ ∃ b, b < x.wher.length ∧ g = box b ∧ nearB x k b = true
theorem near_at {x : Wd} (hT : Tr x.wher) {k n : Nat} (hn : n < x.wher.length) {g : Pl} (hg : placeNear x k g) (h : plOf x.wher n = g) : nearB x k n = true := by
  rcases hg with rfl | rfl | ⟨b, hb, rfl, hnb⟩
  · simp [nearB, rootI_leaf (ps := x.wher) (i := n) (by rw [h]; simp), h]
  · simp [nearB, rootI_leaf (ps := x.wher) (i := n) (by rw [h]; simp), h]
  · have := rootI_box (hT.kid hn h).1
    simp only [nearB, this] at hnb ⊢
    exact hnb
/-- Where a thing near one player was laid elsewhere near it, nothing near another one changes. -/
theorem far_put {x : Wd} (hx : rightW x = true) {i k m : Nat} (hr : ¬ roomOf x i = roomOf x k) (hm : m < x.wher.length) (hmn : nearB x k m = true) {g : Pl} (hg : placeNear x k g) (hy : rightW (putW x m g) = true) : FarW x (putW x m g) i := by
  have hT := right_tr hx
  have hT2 : Tr (x.wher.set m g) := right_tr hy
  have hik : ¬ i = k := fun e => hr (by rw [e])
  have hin : ∀ n, n < x.wher.length → wB x.wher n m = true → nearB x i n = false := by
    intro n hn hw
    have h1 := (hT.within m n hn hw).1
    apply near_one hr
    simp only [nearB, h1] at hmn ⊢
    exact hmn
  have hout : ∀ n, n < x.wher.length → wB x.wher n m = false → upI (x.wher.set m g) n = upI x.wher n := up_far hT hT2
  have hroot : ∀ n, n < x.wher.length → wB x.wher n m = false → rootI (x.wher.set m g) n = rootI x.wher n := fun n hn hw => by unfold rootI; rw [hout n hn hw]
  have hgr : rootI (x.wher.set m g) m = ⟨0, (roomOf x k : Int)⟩ ∨ rootI (x.wher.set m g) m = ⟨1, (k : Int)⟩ := by
    have e : plOf (x.wher.set m g) m = g := by rw [plOf_set hm, if_pos rfl]
    rcases hg with rfl | rfl | ⟨b, hb, rfl, hnb⟩
    · left; rw [rootI_leaf (by rw [e]; simp), e]
    · right; rw [rootI_leaf (by rw [e]; simp), e]
    · have hu := (hT2.kid (by simpa using hm) e)
      rw [rootI_box hu.1]
      have hwb : wB x.wher b m = false := by
        rw [Bool.eq_false_iff]
        intro hw
        have h2 : ∀ n, n < x.wher.length → wB x.wher n m = true → n = m ∨ wB (x.wher.set m (box b)) n m = true := by
          refine hT.ind (fun n hn hd hw => ?_) (fun n u hn hu he hup ih hw => ?_)
          · rw [wB_leaf m hd, decide_eq_true_eq] at hw; exact .inl hw
          · by_cases hnm : n = m
            · exact .inl hnm
            · right
              have e2 : plOf (x.wher.set m (box b)) n = Proofs.YthagafopkkhjjaaGreat.box u := by rw [plOf_set hn, if_neg hnm, he]
              rw [wB_box m (hT2.kid (by simpa using hn) e2).1]
              rw [wB_box m hup] at hw
              simp only [Bool.or_eq_true, decide_eq_true_eq, hnm, false_or] at hw
              rcases ih hw with h3 | h3
              · rw [h3, wB_self]; simp
              · rw [h3]; simp
        rcases h2 b hb hw with h3 | h3
        · rw [h3] at hu
          have := upI_len_pos (x.wher.set m (box b)) m
          have h5 := congrArg List.length hu.1
          simp at h5
        · have h4 := (hT2.within m b (by simpa using hb) h3).2.1
          have h5 := dep_box hu.1
          omega
      rw [hroot b hb hwb]
      simp only [nearB, Bool.or_eq_true, decide_eq_true_eq] at hnb
      exact hnb
  have hin2 : ∀ n, n < x.wher.length → wB x.wher n m = true → rootI (x.wher.set m g) n = rootI (x.wher.set m g) m := by
    refine hT.ind (fun n hn hd hw => ?_) (fun n u hn hu he hup ih hw => ?_)
    · rw [wB_leaf m hd, decide_eq_true_eq] at hw; rw [hw]
    · by_cases hnm : n = m
      · rw [hnm]
      · have e2 : plOf (x.wher.set m g) n = Proofs.YthagafopkkhjjaaGreat.box u := by rw [plOf_set hn, if_neg hnm, he]
        rw [wB_box m hup] at hw
        simp only [Bool.or_eq_true, decide_eq_true_eq, hnm, false_or] at hw
        rw [rootI_box (hT2.kid (by simpa using hn) e2).1]
        exact ih hw
  have hro : ∀ q, roomOf (putW x m g) q = roomOf x q := fun _ => rfl
  have hnot : ∀ n, n < x.wher.length → nearB x i n = true → wB x.wher n m = false := fun n hn h => by
    rw [Bool.eq_false_iff]
    intro hw
    rw [hin n hn hw] at h
    cases h
  have hcnt : ∀ p, ¬ plOf x.wher m = p → ¬ g = p → (x.wher.set m g).count p = x.wher.count p := fun p h1 h2 => by
    rw [count_put hm, if_neg (by rw [← plOf_get hm]; exact h1), if_neg h2]
    omega
  have hfar : ∀ p, placeNear x i p → ¬ placeNear x k p := by
    intro p h1 h2
    rcases h1 with rfl | rfl | ⟨b, hb, rfl, hnb⟩
    · rcases h2 with h | h | ⟨c, _, h, _⟩
      · simp at h; omega
      · simp at h
      · simp [box] at h
    · rcases h2 with h | h | ⟨c, _, h, _⟩
      · simp at h
      · simp at h; omega
      · simp [box] at h
    · rcases h2 with h | h | ⟨c, _, h, hnc⟩
      · simp [box] at h
      · simp [box] at h
      · simp only [box, Pl.mk.injEq, true_and] at h
        have : b = c := by omega
        subst this
        rw [near_one hr hnc] at hnb
        cases hnb
  have hpm : ∀ p, placeNear x i p → ¬ plOf x.wher m = p := fun p h1 h2 => by
    have := near_at hT hm h1 h2
    rw [near_one hr hmn] at this
    cases this
  refine ⟨rfl, rfl, rfl, by simp [putW], fun n hn => ?_, fun n hn h => ?_, fun n hn h => hout n hn (hnot n hn h), ?_, ?_, fun b hb h => ?_⟩
  · cases hw : wB x.wher n m
    · show (decide (rootI (x.wher.set m g) n = _) || decide (rootI (x.wher.set m g) n = _)) = _
      rw [hroot n hn hw]
      rfl
    · rw [hin n hn hw]
      show (decide (rootI (x.wher.set m g) n = _) || decide (rootI (x.wher.set m g) n = _)) = _
      rw [hin2 n hn hw]
      rcases hgr with h | h
      all_goals
        rw [h]
        simp [hro]
        omega
  · have hnm : ¬ n = m := fun e => by have := hnot n hn h; rw [e, wB_self] at this; cases this
    show plOf (x.wher.set m g) n = _
    rw [plOf_set hn, if_neg hnm]
  · exact hcnt _ (hpm _ (.inl rfl)) (fun e => hfar _ (.inl rfl) (e ▸ hg))
  · exact hcnt _ (hpm _ (.inr (.inl rfl))) (fun e => hfar _ (.inr (.inl rfl)) (e ▸ hg))
  · exact hcnt _ (hpm _ (.inr (.inr ⟨b, hb, rfl, h⟩))) (fun e => hfar _ (.inr (.inr ⟨b, hb, rfl, h⟩)) (e ▸ hg))
section
variable {x y : Wd} {i : Nat} (F : FarW x y i) (hx : rightW x = true) (hy : rightW y = true)
include F
theorem FarW.room (k : Nat) : roomOf y k = roomOf x k := by unfold roomOf; rw [F.at_]
theorem FarW.dep {n : Nat} (hn : n < x.wher.length) (h : nearB x i n = true) : dep y.wher n = dep x.wher n := by unfold Proofs.YthagafopkkhjjaaGreat.dep; rw [F.up n hn h]
theorem FarW.wB {n : Nat} (hn : n < x.wher.length) (h : nearB x i n = true) (j : Nat) : wB y.wher n j = wB x.wher n j := by unfold Proofs.YthagafopkkhjjaaGreat.wB; rw [F.up n hn h]
theorem FarW.roomF : roomI y ⟨0, (roomOf x i : Int)⟩ = roomI x ⟨0, (roomOf x i : Int)⟩ := by unfold roomI; rw [F.d, F.flo]
theorem FarW.roomH : roomI y ⟨1, (i : Int)⟩ = roomI x ⟨1, (i : Int)⟩ := by unfold roomI; rw [F.d, F.han]
theorem FarW.roomB {b : Nat} (hb : b < x.wher.length) (h : nearB x i b = true) : roomI y (box b) = roomI x (box b) := by unfold roomI; rw [F.d, F.ins b hb h]
include hx hy
theorem FarW.hgt {n : Nat} (hn : n < x.wher.length) (h : nearB x i n = true) : hgt y.wher n = hgt x.wher n := by
  have hT := right_tr hx
  have hT2 := right_tr hy
  have hnear : ∀ a, a < x.wher.length → Proofs.YthagafopkkhjjaaGreat.wB x.wher a n = true → nearB x i a = true := fun a ha hw => by
    have := (hT.within n a ha hw).1
    simp only [nearB, this] at h ⊢
    exact h
  have hyn : nearB y i n = true := by rw [F.near n hn]; exact h
  have hnear2 : ∀ a, a < x.wher.length → Proofs.YthagafopkkhjjaaGreat.wB y.wher a n = true → nearB x i a = true := fun a ha hw => by
    have := (hT2.within n a (by rw [F.len]; exact ha) hw).1
    rw [← F.near a ha]
    simp only [nearB, this] at hyn ⊢
    exact hyn
  obtain ⟨a, ha, hwa, ea⟩ := hT.hgt_at hn
  obtain ⟨b, hb, hwb, eb⟩ := hT2.hgt_at (j := n) (by rw [F.len]; exact hn)
  rw [F.len] at hb
  have na := hnear a ha hwa
  have nb := hnear2 b hb hwb
  have l1 := hT2.hgt_le (i := a) (j := n) (by rw [F.len]; exact ha) (by rw [F.wB ha na]; exact hwa)
  have l2 := hT.hgt_le (i := b) (j := n) hb (by rw [← F.wB hb nb]; exact hwb)
  rw [F.dep ha na, F.dep hn h] at l1
  rw [F.dep hb nb, F.dep hn h] at eb
  omega
end
end Go.Proofs.YthagafopkkhjjaaGreat
