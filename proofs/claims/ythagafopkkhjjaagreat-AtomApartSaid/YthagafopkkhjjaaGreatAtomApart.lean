/- Two commands with things, of players in unlike rooms, come to the same in either order: plain mathematics. -/
import Derived.Test.YthagafopkkhjjaaGreatRows
import Derived.Test.YthagafopkkhjjaaGreatKit
import Derived.Test.YthagafopkkhjjaaGreatGMem
import Derived.Test.YthagafopkkhjjaaGreatCoin
import Derived.Test.YthagafopkkhjjaaGreatGCmdN
import Derived.Test.YthagafopkkhjjaaGreatGCmdR
import Derived.Test.YthagafopkkhjjaaGreatGWorld
import Derived.Test.YthagafopkkhjjaaGreatDescMay
import Derived.Test.YthagafopkkhjjaaGreatGRight
import Derived.Test.YthagafopkkhjjaaGreatGAs
import Derived.Test.YthagafopkkhjjaaGreatGBoxM
import Derived.Test.YthagafopkkhjjaaGreatGGiftM
import Derived.Test.YthagafopkkhjjaaGreatGSightC
import Derived.Test.YthagafopkkhjjaaGreatAtomMath
import Derived.Test.YthagafopkkhjjaaGreatAtomFar
import Derived.WalkKit
import Derived.ProofKit
import Derived.OpenShut
import Derived.IntWalk
namespace Go.Proofs.YthagafopkkhjjaaGreat
open Go.ChangeShapes Go.WideShapes Go.ChangeAt Go.RowKit
set_option linter.unusedVariables false
open Go.RowKit
theorem FarW.refl (x : Wd) (i : Nat) : FarW x x i := ⟨rfl, rfl, rfl, rfl, fun _ _ => rfl, fun _ _ _ => rfl, fun _ _ _ => rfl, rfl, rfl, fun _ _ _ => rfl⟩
theorem placeNear_far {x y : Wd} {i : Nat} (F : FarW x y i) {g : Pl} (h : placeNear x i g) : placeNear y i g := by
  rcases h with h | h | ⟨b, hb, rfl, hn⟩
  · exact .inl (by rw [F.room]; exact h)
  · exact .inr (.inl h)
  · exact .inr (.inr ⟨b, by rw [F.len]; exact hb, rfl, by rw [F.near b hb]; exact hn⟩)
/-- A thing lies at a place near the player here just if it does there. -/
theorem far_at {x y : Wd} {i : Nat} (F : FarW x y i) (hx : rightW x = true) (hy : rightW y = true) {n : Nat} (hn : n < x.wher.length) {g : Pl} (hg : placeNear x i g) : plOf y.wher n = g ↔ plOf x.wher n = g := by
  cases h : nearB x i n
  · constructor
    · intro e
      have := near_at (right_tr hy) (by rw [F.len]; exact hn) (placeNear_far F hg) e
      rw [F.near n hn, h] at this
      cases this
    · intro e
      have := near_at (right_tr hx) hn hg e
      rw [h] at this
      cases this
  · rw [F.pl n hn h]
/-- The thing, and where it comes to lie. -/
def itN (c : Cm) : Nat := c.item.toNat
def itG (x : Wd) (i : Nat) (c : Cm) : Pl := if c.kind = 3 ∨ c.kind = 6 then ⟨1, (i : Int)⟩ else if c.kind = 4 then ⟨0, (roomOf x i : Int)⟩ else box c.box.toNat
theorem act_item {x : Wd} {i : Nat} {c : Cm} (hk : 3 ≤ c.kind ∧ c.kind ≤ 6) : actW x i c = if (actW x i c).2.2 = 0 then (putW x (itN c) (itG x i c), 0, 0) else (x, 0, (actW x i c).2.2) := by
  have hs : ¬ (actW x i c).2.2 = 0 → (actW x i c).1 = x := act_stays
  have h0 : (actW x i c).2.1 = 0 := by
    unfold actW
    rw [if_neg (by omega), if_neg (by omega)]
    split
    · rfl
    split
    · rfl
    split
    · rfl
    split
    · rfl
    · omega
  by_cases he : (actW x i c).2.2 = 0
  · rw [if_pos he]
    have h1 : (actW x i c).1 = putW x (itN c) (itG x i c) := by
      unfold actW at he ⊢
      rw [if_neg (by omega), if_neg (by omega)] at he ⊢
      unfold itG itN
      by_cases k3 : c.kind = 3
      · rw [if_pos k3] at he ⊢
        rw [if_pos (.inl k3)]
        rcases take_cases x c.item ⟨0, (roomOf x i : Int)⟩ ⟨1, (i : Int)⟩ with ⟨_, e⟩ | ⟨k, hk2, _, ⟨_, e⟩ | ⟨_, _, e⟩ | ⟨_, _, e⟩⟩
        · exact absurd ((congrArg Prod.snd e).symm.trans he) (by simp)
        · exact absurd ((congrArg Prod.snd e).symm.trans he) (by simp)
        · exact absurd ((congrArg Prod.snd e).symm.trans he) (by simp)
        · rw [hk2, Int.toNat_natCast, ← hk2]; exact congrArg Prod.fst e
      · rw [if_neg k3] at he ⊢
        by_cases k4 : c.kind = 4
        · rw [if_pos k4] at he ⊢
          rw [if_neg (by omega), if_pos k4]
          rcases take_cases x c.item ⟨1, (i : Int)⟩ ⟨0, (roomOf x i : Int)⟩ with ⟨_, e⟩ | ⟨k, hk2, _, ⟨_, e⟩ | ⟨_, _, e⟩ | ⟨_, _, e⟩⟩
          · exact absurd ((congrArg Prod.snd e).symm.trans he) (by simp)
          · exact absurd ((congrArg Prod.snd e).symm.trans he) (by simp)
          · exact absurd ((congrArg Prod.snd e).symm.trans he) (by simp)
          · rw [hk2, Int.toNat_natCast, ← hk2]; exact congrArg Prod.fst e
        · rw [if_neg k4] at he ⊢
          by_cases k5 : c.kind = 5
          · rw [if_pos k5] at he ⊢
            rw [if_neg (by omega), if_neg k4]
            rcases box_cases x i c.item c.box with ⟨_, e⟩ | ⟨k, b, hk2, hb2, _, _, hr⟩
            · exact absurd ((congrArg Prod.snd e).symm.trans he) (by simp)
            · rw [hk2, hb2] at he ⊢
              exact congrArg Prod.fst (show boxW x i k b = (putW x (k : Int).toNat (box (b : Int).toNat), 0) from (by
                rcases hr with ⟨_, e⟩ | ⟨_, ⟨_, e⟩ | ⟨_, ⟨_, e⟩ | ⟨_, ⟨_, e⟩ | ⟨_, ⟨_, e⟩ | ⟨_, e⟩⟩⟩⟩⟩
                all_goals rw [hk2, hb2] at e
                all_goals first | exact e | exact absurd ((congrArg Prod.snd e).symm.trans he) (by simp)))
          · rw [if_neg k5] at he ⊢
            have k6 : c.kind = 6 := by omega
            rw [if_pos k6] at he ⊢
            rw [if_pos (.inr k6)]
            rcases out_cases x i c.item c.box with ⟨_, e⟩ | ⟨k, b, hk2, hb2, _, _, hr⟩
            · exact absurd ((congrArg Prod.snd e).symm.trans he) (by simp)
            · rw [hk2, hb2] at he ⊢
              exact congrArg Prod.fst (show outW x i k b = (putW x (k : Int).toNat ⟨1, (i : Int)⟩, 0) from (by
                rcases hr with ⟨_, e⟩ | ⟨_, ⟨_, e⟩ | ⟨_, ⟨_, e⟩ | ⟨_, ⟨_, e⟩ | ⟨_, e⟩⟩⟩⟩
                all_goals rw [hk2, hb2] at e
                all_goals first | exact e | exact absurd ((congrArg Prod.snd e).symm.trans he) (by simp)))
    exact Prod.ext h1 (Prod.ext h0 he)
  · rw [if_neg he]
    exact Prod.ext (hs he) (Prod.ext h0 rfl)
theorem inB_nat {n : Nat} {t : Int} (h : inB t n = true) : ∃ k : Nat, t = k ∧ k < n := by
  rw [inB_iff] at h
  exact ⟨t.toNat, by omega, by omega⟩
/-- What was done, was done with a thing that was near, and is. -/
theorem act_near {x : Wd} (hx : rightW x = true) {i : Nat} {c : Cm} (hk : 3 ≤ c.kind ∧ c.kind ≤ 6) (he : (actW x i c).2.2 = 0) : itN c < x.wher.length ∧ nearB x i (itN c) = true ∧ placeNear x i (itG x i c) := by
  have hT := right_tr hx
  unfold actW at he
  rw [if_neg (by omega), if_neg (by omega)] at he
  unfold itG itN
  by_cases k3 : c.kind = 3
  · rw [if_pos k3] at he
    rw [if_pos (.inl k3)]
    rcases take_cases x c.item ⟨0, (roomOf x i : Int)⟩ ⟨1, (i : Int)⟩ with ⟨_, e⟩ | ⟨k, hk2, hl, ⟨_, e⟩ | ⟨_, _, e⟩ | ⟨hp, _, e⟩⟩
    · exact absurd ((congrArg Prod.snd e).symm.trans he) (by simp)
    · exact absurd ((congrArg Prod.snd e).symm.trans he) (by simp)
    · exact absurd ((congrArg Prod.snd e).symm.trans he) (by simp)
    · rw [hk2, Int.toNat_natCast]; exact ⟨hl, near_at hT hl (.inl rfl) hp, .inr (.inl rfl)⟩
  rw [if_neg k3] at he
  by_cases k4 : c.kind = 4
  · rw [if_pos k4] at he
    rw [if_neg (by omega), if_pos k4]
    rcases take_cases x c.item ⟨1, (i : Int)⟩ ⟨0, (roomOf x i : Int)⟩ with ⟨_, e⟩ | ⟨k, hk2, hl, ⟨_, e⟩ | ⟨_, _, e⟩ | ⟨hp, _, e⟩⟩
    · exact absurd ((congrArg Prod.snd e).symm.trans he) (by simp)
    · exact absurd ((congrArg Prod.snd e).symm.trans he) (by simp)
    · exact absurd ((congrArg Prod.snd e).symm.trans he) (by simp)
    · rw [hk2, Int.toNat_natCast]; exact ⟨hl, near_at hT hl (.inr (.inl rfl)) hp, .inl rfl⟩
  rw [if_neg k4] at he
  by_cases k5 : c.kind = 5
  · rw [if_pos k5] at he
    rw [if_neg (by omega), if_neg k4]
    rcases box_cases x i c.item c.box with ⟨_, e⟩ | ⟨k, b, hk2, hb2, hl, hb, hr⟩
    · exact absurd ((congrArg Prod.snd e).symm.trans he) (by simp)
    · rcases hr with ⟨_, e⟩ | ⟨⟨hp, hn⟩, _⟩
      · exact absurd ((congrArg Prod.snd e).symm.trans he) (by simp)
      · rw [hk2, hb2, Int.toNat_natCast, Int.toNat_natCast]
        exact ⟨hl, near_at hT hl (.inr (.inl rfl)) hp, .inr (.inr ⟨b, hb, rfl, hn⟩)⟩
  rw [if_neg k5] at he
  have k6 : c.kind = 6 := by omega
  rw [if_pos k6] at he
  rw [if_pos (.inr k6)]
  rcases out_cases x i c.item c.box with ⟨_, e⟩ | ⟨k, b, hk2, hb2, hl, hb, hr⟩
  · exact absurd ((congrArg Prod.snd e).symm.trans he) (by simp)
  · rcases hr with ⟨_, e⟩ | ⟨hn, ⟨_, e⟩ | ⟨_, ⟨_, e⟩ | ⟨hp, _⟩⟩⟩
    · exact absurd ((congrArg Prod.snd e).symm.trans he) (by simp)
    · exact absurd ((congrArg Prod.snd e).symm.trans he) (by simp)
    · exact absurd ((congrArg Prod.snd e).symm.trans he) (by simp)
    · rw [hk2, Int.toNat_natCast]
      exact ⟨hl, near_at hT hl (.inr (.inr ⟨b, hb, rfl, hn⟩)) hp, .inr (.inl rfl)⟩
/-- Where all that is near is as it was, a command is answered the same. -/
theorem act_far {x y : Wd} {i : Nat} (F : FarW x y i) (hx : rightW x = true) (hy : rightW y = true) {c : Cm} (hk : 3 ≤ c.kind ∧ c.kind ≤ 6) : (actW y i c).2.2 = (actW x i c).2.2 ∧ itG y i c = itG x i c := by
  refine ⟨?_, by unfold itG; rw [F.room]⟩
  have n1 : ¬ c.kind = 1 := by omega
  have n2 : ¬ c.kind = 2 := by omega
  unfold actW
  simp only [if_neg n1, if_neg n2]
  have htake : ∀ f g, placeNear x i f → roomI y g = roomI x g → (takeW y c.item f g).2 = (takeW x c.item f g).2 := by
    intro f g hf hg
    unfold takeW
    rw [F.len]
    by_cases h1 : inB c.item x.wher.length = false
    · rw [if_pos h1, if_pos h1]
    · rw [if_neg h1, if_neg h1]
      obtain ⟨k, hk2, hl⟩ := inB_nat (by simpa using h1)
      have := far_at F hx hy hl hf
      rw [hk2, Int.toNat_natCast]
      simp only [this, hg]
      split
      · rfl
      · split <;> rfl
  by_cases k3 : c.kind = 3
  · rw [if_pos k3, if_pos k3]
    show (takeW y c.item ⟨0, (roomOf y i : Int)⟩ ⟨1, (i : Int)⟩).2 = _
    rw [F.room]
    exact htake _ _ (.inl rfl) F.roomH
  rw [if_neg k3, if_neg k3]
  by_cases k4 : c.kind = 4
  · rw [if_pos k4, if_pos k4]
    show (takeW y c.item ⟨1, (i : Int)⟩ ⟨0, (roomOf y i : Int)⟩).2 = _
    rw [F.room]
    exact htake _ _ (.inr (.inl rfl)) F.roomF
  rw [if_neg k4, if_neg k4]
  by_cases k5 : c.kind = 5
  · rw [if_pos k5, if_pos k5]
    show (boxW y i c.item c.box).2 = (boxW x i c.item c.box).2
    unfold boxW
    rw [F.len, F.d]
    by_cases h1 : inB c.item x.wher.length = false ∨ inB c.box x.wher.length = false
    · rw [if_pos h1, if_pos h1]
    rw [if_neg h1, if_neg h1]
    obtain ⟨h2, h3⟩ := not_or.1 h1
    obtain ⟨k, hk2, hl⟩ := inB_nat (by simpa using h2)
    obtain ⟨b, hb2, hb⟩ := inB_nat (by simpa using h3)
    rw [hk2, hb2, Int.toNat_natCast, Int.toNat_natCast, F.near b hb]
    have e1 := far_at F hx hy hl (g := ⟨1, (i : Int)⟩) (.inr (.inl rfl))
    simp only [e1]
    by_cases h4 : ¬ plOf x.wher k = ⟨1, (i : Int)⟩ ∨ nearB x i b = false
    · rw [if_pos h4, if_pos h4]
    rw [if_neg h4, if_neg h4]
    obtain ⟨h5, h6⟩ := not_or.1 h4
    have h5 := Decidable.not_not.1 h5
    have hnk := near_at (right_tr hx) hl (g := ⟨1, (i : Int)⟩) (.inr (.inl rfl)) h5
    have hnb : nearB x i b = true := by simpa using h6
    rw [F.wB hb hnb, F.dep hb hnb, F.hgt hx hy hl hnk, F.roomB hb hnb]
    split
    · rfl
    split
    · rfl
    split
    · rfl
    split <;> rfl
  rw [if_neg k5, if_neg k5]
  have k6 : c.kind = 6 := by omega
  rw [if_pos k6, if_pos k6]
  show (outW y i c.item c.box).2 = (outW x i c.item c.box).2
  unfold outW
  rw [F.len, F.d, F.roomH]
  by_cases h1 : inB c.item x.wher.length = false ∨ inB c.box x.wher.length = false
  · rw [if_pos h1, if_pos h1]
  rw [if_neg h1, if_neg h1]
  obtain ⟨h2, h3⟩ := not_or.1 h1
  obtain ⟨k, hk2, hl⟩ := inB_nat (by simpa using h2)
  obtain ⟨b, hb2, hb⟩ := inB_nat (by simpa using h3)
  rw [hk2, hb2, Int.toNat_natCast, Int.toNat_natCast, F.near b hb]
  by_cases h4 : nearB x i b = false
  · rw [if_pos h4, if_pos h4]
  rw [if_neg h4, if_neg h4]
  have e1 := far_at F hx hy hl (g := box b) (.inr (.inr ⟨b, hb, rfl, by simpa using h4⟩))
  simp only [e1]
  split
  · rfl
  split
  · rfl
  split <;> rfl
/-- The world behind a command is far from another player's, in another room. -/
theorem act_is_far {x : Wd} (hx : rightW x = true) {i k : Nat} (hi : i < x.at_.length) (hr : ¬ roomOf x k = roomOf x i) {c : Cm} (hc : 3 ≤ c.kind ∧ c.kind ≤ 6) (hd : c.dir < 4) : FarW x (actW x i c).1 k := by
  by_cases he : (actW x i c).2.2 = 0
  · obtain ⟨h1, h2, h3⟩ := act_near hx hc he
    have e : (actW x i c).1 = putW x (itN c) (itG x i c) := by rw [act_item hc, if_pos he]
    have hy := act_right hx hi hd (c := c)
    rw [e] at hy ⊢
    exact far_put hx hr h1 h2 h3 hy
  · rw [act_stays he]
    exact FarW.refl x k
/-- Two commands with things, of players in unlike rooms: in either order. -/
theorem act_apart {x : Wd} (hx : rightW x = true) {i k : Nat} (hi : i < x.at_.length) (hk : k < x.at_.length) (hr : ¬ roomOf x i = roomOf x k) {c d : Cm} (hc : 3 ≤ c.kind ∧ c.kind ≤ 6) (hd : 3 ≤ d.kind ∧ d.kind ≤ 6) (hc4 : c.dir < 4) (hd4 : d.dir < 4) :
    (actW (actW x i c).1 k d).2.2 = (actW x k d).2.2 ∧ (actW (actW x k d).1 i c).2.2 = (actW x i c).2.2 ∧ (actW (actW x i c).1 k d).1 = (actW (actW x k d).1 i c).1 := by
  have hy := act_right hx hi hc4 (c := c)
  have hz := act_right hx hk hd4 (c := d)
  obtain ⟨e1, g1⟩ := act_far (act_is_far hx hi (fun h => hr h.symm) hc hc4) hx hy hd
  obtain ⟨e2, g2⟩ := act_far (act_is_far hx hk hr hd hd4) hx hz hc
  refine ⟨e1, e2, ?_⟩
  by_cases hec : (actW x i c).2.2 = 0
  · by_cases hed : (actW x k d).2.2 = 0
    · obtain ⟨n1, n2, _⟩ := act_near hx hc hec
      obtain ⟨m1, m2, _⟩ := act_near hx hd hed
      have hnm : ¬ itN c = itN d := fun e => by
        rw [← e] at m2
        rw [near_one hr m2] at n2
        cases n2
      have q1 : (actW (actW x i c).1 k d).1 = putW (actW x i c).1 (itN d) (itG x k d) := by rw [act_item hd, if_pos (e1.trans hed), g1]
      have q2 : (actW (actW x k d).1 i c).1 = putW (actW x k d).1 (itN c) (itG x i c) := by rw [act_item hc, if_pos (e2.trans hec), g2]
      have q3 : (actW x i c).1 = putW x (itN c) (itG x i c) := by rw [act_item hc, if_pos hec]
      have q4 : (actW x k d).1 = putW x (itN d) (itG x k d) := by rw [act_item hd, if_pos hed]
      rw [q1, q2, q3, q4]
      simp only [putW]
      rw [List.set_comm _ _ hnm]
    · rw [act_stays (fun h => hed (e1.symm.trans h)), act_stays hed]
  · rw [act_stays hec, act_stays (fun h => hec (e2.symm.trans h))]
end Go.Proofs.YthagafopkkhjjaaGreat
