/- Commands, done at once: plain mathematics. -/
import Derived.Test.YtgmkcddgkgcbbaaGreatGCmdR
import Derived.Test.YtgmkcddgkgcbbaaGreatGBoxM
import Derived.Test.YtgmkcddgkgcbbaaGreatGiftMath5
import Derived.Test.YtgmkcddgkgcbbaaGreatGSightC
namespace Go.Proofs.YtgmkcddgkgcbbaaGreat
open Go.ChangeShapes Go.WideShapes Go.ChangeAt Go.RowKit
set_option linter.unusedVariables false
open Go.RowKit
/-- What a command does that changes something: the world, the room, the error. -/
def actW (x : Wd) (i : Nat) (c : Cm) : Wd × Int × Int :=
 if c.kind = 1 then moveW x i c.dir.toNat
 else if c.kind = 2 then pushW x i c.who c.dir.toNat
 else if c.kind = 3 then ((getW x i c.item).1, 0, (getW x i c.item).2)
 else if c.kind = 4 then ((dropW x i c.item).1, 0, (dropW x i c.item).2)
 else if c.kind = 5 then ((boxW x i c.item c.box).1, 0, (boxW x i c.item c.box).2)
 else if c.kind = 6 then ((outW x i c.item c.box).1, 0, (outW x i c.item c.box).2)
 else if c.kind = 7 then ((giveW x i c.item c.who).1, 0, (giveW x i c.item c.who).2)
 else ((tradeW x i c.who c.gives c.wants c.pay c.fee).1, 0, (tradeW x i c.who c.gives c.wants c.pay c.fee).2)
def errR (e : Int) : Rp := ⟨e, 0, 0, [], [], 0⟩
def okR (k r : Int) : Rp := ⟨0, k, r, [], [], 0⟩
/-- A command, done: the world, the answer. -/
def doW (x : Wd) (i : Nat) (c : Cm) : Wd × Rp :=
 if refMayB c = false then (x, errR 2)
 else if c.kind = 9 then (x, lookR x i)
 else if c.kind = 10 then (x, haveR x i)
 else if (actW x i c).2.2 = 0 then ((actW x i c).1, okR c.kind (actW x i c).2.1) else (x, errR (actW x i c).2.2)
theorem act_stays {x : Wd} {i : Nat} {c : Cm} (h : ¬ (actW x i c).2.2 = 0) : (actW x i c).1 = x := by
 unfold actW at h ⊢
 split at h
 ·rename_i h1
  rw [if_pos h1]
  unfold moveW at h ⊢
  split
  ·rfl
  ·rename_i h2
   rw [if_neg h2] at h
   simp at h
 ·rename_i h1
  rw [if_neg h1]
  split at h
  ·rename_i h2
   rw [if_pos h2]
   unfold pushW moveW at h ⊢
   split
   ·rfl
   ·rename_i h3
    rw [if_neg h3] at h
    split
    ·rfl
    ·rename_i h4
     rw [if_neg h4] at h
     split
     ·rfl
     ·rename_i h5
      rw [if_neg h5] at h
      split
      ·rfl
      ·rename_i h6
       rw [if_neg h6] at h
       simp at h
  ·rename_i h2
   rw [if_neg h2]
   split at h
   ·rename_i h3
    rw [if_pos h3]
    rcases take_cases x c.item ⟨0, (roomOf x i : Int)⟩ ⟨1, (i : Int)⟩ with ⟨_, e⟩ | ⟨k, _, _, ⟨_, e⟩ | ⟨_, _, e⟩ | ⟨_, _, e⟩⟩
    ·show (takeW _ _ _ _).1 = x
     rw [e]
    ·show (takeW _ _ _ _).1 = x
     rw [e]
    ·show (takeW _ _ _ _).1 = x
     rw [e]
    ·exact absurd (congrArg Prod.snd e) h
   ·rename_i h3
    rw [if_neg h3]
    split at h
    ·rename_i h4
     rw [if_pos h4]
     rcases take_cases x c.item ⟨1, (i : Int)⟩ ⟨0, (roomOf x i : Int)⟩ with ⟨_, e⟩ | ⟨k, _, _, ⟨_, e⟩ | ⟨_, _, e⟩ | ⟨_, _, e⟩⟩
     ·show (takeW _ _ _ _).1 = x
      rw [e]
     ·show (takeW _ _ _ _).1 = x
      rw [e]
     ·show (takeW _ _ _ _).1 = x
      rw [e]
     ·exact absurd (congrArg Prod.snd e) h
    ·rename_i h4
     rw [if_neg h4]
     split at h
     ·rename_i h5
      rw [if_pos h5]
      rcases box_cases x i c.item c.box with ⟨_, e⟩ | ⟨k, b, _, _, _, _, ⟨_, e⟩ | ⟨_, ⟨_, e⟩ | ⟨_, ⟨_, e⟩ | ⟨_, ⟨_, e⟩ | ⟨_, ⟨_, e⟩ | ⟨_, e⟩⟩⟩⟩⟩⟩
      all_goals first | (show (boxW _ _ _ _).1 = x; rw [e]; done) | exact absurd (congrArg Prod.snd e) h
     ·rename_i h5
      rw [if_neg h5]
      split at h
      ·rename_i h6
       rw [if_pos h6]
       rcases out_cases x i c.item c.box with ⟨_, e⟩ | ⟨k, b, _, _, _, _, ⟨_, e⟩ | ⟨_, ⟨_, e⟩ | ⟨_, ⟨_, e⟩ | ⟨_, ⟨_, e⟩ | ⟨_, e⟩⟩⟩⟩⟩
       all_goals first | (show (outW _ _ _ _).1 = x; rw [e]; done) | exact absurd (congrArg Prod.snd e) h
      ·rename_i h6
       rw [if_neg h6]
       split at h
       ·rename_i h7
        rw [if_pos h7]
        exact give_stays (e := (giveW x i c.item c.who).2) rfl h
       ·rename_i h7
        rw [if_neg h7]
        exact trade_stays h
theorem act_shape (x : Wd) (i : Nat) (c : Cm) : Shape x (actW x i c).1 := by
 unfold actW
 split
 ·exact move_shape _ _ _
 split
 ·exact push_shape _ _ _ _
 split
 ·exact take_shape _ _ _ _
 split
 ·exact take_shape _ _ _ _
 split
 ·exact box_shape _ _ _ _
 split
 ·exact out_shape _ _ _ _
 split
 ·exact give_shape _ _ _ _
 ·exact trade_shape _ _ _ _ _ _ _
theorem push_right12 {x : Wd} (h : rightW x = true) {i : Nat} {q : Int} {d : Nat} (hd : d < 4) : rightW (pushW x i q d).1 = true := by
 unfold pushW
 split
 ·exact h
 ·rename_i h1
  split
  ·exact h
  ·split
   ·exact h
   ·have h2 : inB q x.at_.length = true := by simpa using h1
    rw [inB_iff] at h2
    exact move_right h (by omega) hd
theorem box_right12 {x : Wd} (h : rightW x = true) {i : Nat} {item b : Int} : rightW (boxW x i item b).1 = true := by
 rcases box_cases x i item b with ⟨_, e⟩ | ⟨k, c, rfl, rfl, hk, hc, hr⟩
 ·rw [e]; exact h
 by_cases he : (boxW x i k c).2 = 0
 ·obtain ⟨hb, e⟩ := boxed_of h he
  rw [e]
  exact hb.right h
 ·have : (boxW x i k c).1 = x := by
   rcases hr with ⟨_, e⟩ | ⟨_, ⟨_, e⟩ | ⟨_, ⟨_, e⟩ | ⟨_, ⟨_, e⟩ | ⟨_, ⟨_, e⟩ | ⟨_, e⟩⟩⟩⟩⟩
   all_goals first | (rw [e]; done) | exact absurd (congrArg Prod.snd e) he
  rw [this]; exact h
theorem out_right12 {x : Wd} (h : rightW x = true) {i : Nat} (hi : i < x.at_.length) {item b : Int} : rightW (outW x i item b).1 = true := by
 rcases out_cases x i item b with ⟨_, e⟩ | ⟨k, c, rfl, rfl, hk, hc, hr⟩
 ·rw [e]; exact h
 by_cases he : (outW x i k c).2 = 0
 ·obtain ⟨hb, e⟩ := outed_of h he
  rw [e]
  exact hb.right h hi
 ·have : (outW x i k c).1 = x := by
   rcases hr with ⟨_, e⟩ | ⟨_, ⟨_, e⟩ | ⟨_, ⟨_, e⟩ | ⟨_, ⟨_, e⟩ | ⟨_, e⟩⟩⟩⟩
   all_goals first | (rw [e]; done) | exact absurd (congrArg Prod.snd e) he
  rw [this]; exact h
/-- The world stays right. -/
theorem act_right {x : Wd} (h : rightW x = true) {i : Nat} (hi : i < x.at_.length) {c : Cm} (hd : c.dir < 4) : rightW (actW x i c).1 = true := by
 unfold actW
 split
 ·exact move_right h hi (by omega)
 split
 ·exact push_right12 h (by omega)
 split
 ·exact take_right h (place_player h hi) (by simp) (by simp)
 split
 ·exact take_right h (place_room h hi) (by simp) (by simp)
 split
 ·exact box_right12 h
 split
 ·exact out_right12 h hi
 split
 ·obtain ⟨⟨y, e⟩, hR⟩ : ∃ R, giveW x i c.item c.who = R := ⟨_, rfl⟩
  rw [hR]
  by_cases he : e = 0
  ·subst he
   obtain ⟨_, _, _, _, _, _, _, hy, _⟩ := give_got h hi hR
   exact hy
  ·rw [give_stays hR he]; exact h
 ·obtain ⟨⟨y, e⟩, hR⟩ : ∃ R, tradeW x i c.who c.gives c.wants c.pay c.fee = R := ⟨_, rfl⟩
  rw [hR]
  by_cases he : e = 0
  ·subst he
   obtain ⟨_, _, _, _, _, _, _, _, hy, _⟩ := trade_got h hi hR
   exact hy
  ·rw [trade_stays2 hR he]; exact h
theorem take_rest (x : Wd) (item : Int) (f g : Pl) : (takeW x item f g).1.d = x.d ∧ (takeW x item f g).1.coins = x.coins ∧ (takeW x item f g).1.at_ = x.at_ := by
 unfold takeW
 split
 ·exact ⟨rfl, rfl, rfl⟩
 split
 ·exact ⟨rfl, rfl, rfl⟩
 split
 ·exact ⟨rfl, rfl, rfl⟩
 ·exact ⟨rfl, rfl, rfl⟩
theorem move_rest (x : Wd) (i d : Nat) : (moveW x i d).1.d = x.d ∧ (moveW x i d).1.coins = x.coins ∧ (moveW x i d).1.wher = x.wher := by
 unfold moveW
 split <;> exact ⟨rfl, rfl, rfl⟩
theorem push_rest (x : Wd) (i : Nat) (q : Int) (d : Nat) : (pushW x i q d).1.d = x.d ∧ (pushW x i q d).1.coins = x.coins ∧ (pushW x i q d).1.wher = x.wher := by
 unfold pushW
 split
 ·exact ⟨rfl, rfl, rfl⟩
 split
 ·exact ⟨rfl, rfl, rfl⟩
 split
 ·exact ⟨rfl, rfl, rfl⟩
 ·exact move_rest _ _ _
theorem box_rest (x : Wd) (i : Nat) (item b : Int) : (boxW x i item b).1.d = x.d ∧ (boxW x i item b).1.coins = x.coins ∧ (boxW x i item b).1.at_ = x.at_ := by
 unfold boxW
 repeat (first | (split; (exact ⟨rfl, rfl, rfl⟩)) | exact ⟨rfl, rfl, rfl⟩)
theorem out_rest (x : Wd) (i : Nat) (item b : Int) : (outW x i item b).1.d = x.d ∧ (outW x i item b).1.coins = x.coins ∧ (outW x i item b).1.at_ = x.at_ := by
 unfold outW
 repeat (first | (split; (exact ⟨rfl, rfl, rfl⟩)) | exact ⟨rfl, rfl, rfl⟩)
/-- The description stays, and the sum of coins. -/
theorem act_sum {x : Wd} (h : rightW x = true) {i : Nat} (hi : i < x.at_.length) (c : Cm) : (actW x i c).1.d = x.d ∧ (actW x i c).1.coins.sum = x.coins.sum := by
 have tr : ∀ q gl wl pay fee, (tradeW x i q gl wl pay fee).1.d = x.d ∧ (tradeW x i q gl wl pay fee).1.coins.sum = x.coins.sum := by
  intro q gl wl pay fee
  obtain ⟨⟨y, e⟩, hR⟩ : ∃ R, tradeW x i q gl wl pay fee = R := ⟨_, rfl⟩
  rw [hR]
  by_cases he : e = 0
  ·subst he
   obtain ⟨_, _, _, _, _, _, _, hy, _, hs, _⟩ := trade_got h hi hR
   exact ⟨by rw [hy]; rfl, hs⟩
  ·rw [trade_stays2 hR he]; exact ⟨rfl, rfl⟩
 unfold actW
 split
 ·exact ⟨(move_rest _ _ _).1, by rw [(move_rest _ _ _).2.1]⟩
 split
 ·exact ⟨(push_rest _ _ _ _).1, by rw [(push_rest _ _ _ _).2.1]⟩
 split
 ·exact ⟨(take_rest _ _ _ _).1, by show (takeW _ _ _ _).1.coins.sum = _; rw [(take_rest _ _ _ _).2.1]⟩
 split
 ·exact ⟨(take_rest _ _ _ _).1, by show (takeW _ _ _ _).1.coins.sum = _; rw [(take_rest _ _ _ _).2.1]⟩
 split
 ·exact ⟨(box_rest _ _ _ _).1, by show (boxW _ _ _ _).1.coins.sum = _; rw [(box_rest _ _ _ _).2.1]⟩
 split
 ·exact ⟨(out_rest _ _ _ _).1, by show (outW _ _ _ _).1.coins.sum = _; rw [(out_rest _ _ _ _).2.1]⟩
 split
 ·rw [give_trade h hi]; exact tr _ _ _ _ _
 ·exact tr _ _ _ _ _
end Go.Proofs.YtgmkcddgkgcbbaaGreat
