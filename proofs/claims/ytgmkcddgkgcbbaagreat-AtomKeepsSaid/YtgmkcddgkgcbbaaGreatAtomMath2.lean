/- What is answered may be; who looks behind a command sees what it did: plain mathematics. -/
import Derived.Test.YtgmkcddgkgcbbaaGreatAtomMath
namespace Go.Proofs.YtgmkcddgkgcbbaaGreat
open Go.ChangeShapes Go.WideShapes Go.ChangeAt Go.RowKit
set_option linter.unusedVariables false
open Go.RowKit
theorem may_err {e : Int} (h : 0 < e ∧ e ≤ 13) : rmayB (errR e) = true := by
 have h0 : ¬ e = 0 := by omega
 rw [rmay_eq]
 unfold rrefB
 rw [if_neg (by show ¬ (e < 0 ∨ 13 < e); omega), if_pos (show (errR e).err ≠ 0 from h0)]
 exact rsameB_refl _
theorem may_ok {k r : Int} (hk : 1 ≤ k ∧ k ≤ 8) (hr : (k = 1 ∨ k = 2) ∧ 0 ≤ r ∧ r ≤ 1073741824 ∨ r = 0) : rmayB (okR k r) = true := by
 have ho : okN r = true := by simp only [okN, Bool.and_eq_true, decide_eq_true_eq]; omega
 rw [rmay_eq]
 unfold rrefB
 rw [if_neg (show ¬ ((okR k r).err < 0 ∨ 13 < (okR k r).err) by simp [okR]), if_neg (show ¬ (okR k r).err ≠ 0 by simp [okR]),
  if_neg (show ¬ ((okR k r).kind < 1 ∨ 10 < (okR k r).kind ∨ okN (okR k r).room = false ∨ okN (okR k r).coins = false ∨ 16 < (okR k r).players.length ∨ 16 < (okR k r).items.length) by show ¬ (k < 1 ∨ 10 < k ∨ okN r = false ∨ okN 0 = false ∨ 16 < 0 ∨ 16 < 0); rw [ho, show okN 0 = true from rfl]; simp; omega),
  if_neg (show ¬ areB (okR k r).players = false by simp [okR, areB]), if_neg (show ¬ (okR k r).items.all snB = false by simp [okR])]
 show ((roomB k || decide (r = 0)) && (decide (k = 9) || decide ((0 : Nat) = 0)) && (decide (9 ≤ k) || decide ((0 : Nat) = 0)) && (decide (k = 10) || decide ((0 : Int) = 0))) = true
 simp [roomB]
 omega
theorem take_err (x : Wd) (item : Int) (f g : Pl) : 0 ≤ (takeW x item f g).2 ∧ (takeW x item f g).2 ≤ 13 := by
 unfold takeW
 split
 ·simp
 split
 ·simp
 split
 ·simp
 ·simp
theorem move_told {x : Wd} (h : rightW x = true) {i d : Nat} (hi : i < x.at_.length) (hd : d < 4) : 0 ≤ (moveW x i d).2.2 ∧ (moveW x i d).2.2 ≤ 13 ∧ 0 ≤ (moveW x i d).2.1 ∧ (moveW x i d).2.1 ≤ 1073741824 := by
 have h1 := toW_in h (room_at h hi).2 hd
 have h2 := (few_all h).1
 unfold moveW
 split
 ·simp
 ·simp only
  omega
theorem push_told {x : Wd} (h : rightW x = true) {i : Nat} {q : Int} {d : Nat} (hd : d < 4) : 0 ≤ (pushW x i q d).2.2 ∧ (pushW x i q d).2.2 ≤ 13 ∧ 0 ≤ (pushW x i q d).2.1 ∧ (pushW x i q d).2.1 ≤ 1073741824 := by
 unfold pushW
 split
 ·simp
 ·rename_i h1
  split
  ·simp
  split
  ·simp
  have h2 : inB q x.at_.length = true := by simpa using h1
  rw [inB_iff] at h2
  exact move_told h (by omega) hd
theorem box_err (x : Wd) (i : Nat) (item b : Int) : 0 ≤ (boxW x i item b).2 ∧ (boxW x i item b).2 ≤ 13 := by
 rcases box_cases x i item b with ⟨_, e⟩ | ⟨k, c, _, _, _, _, ⟨_, e⟩ | ⟨_, ⟨_, e⟩ | ⟨_, ⟨_, e⟩ | ⟨_, ⟨_, e⟩ | ⟨_, ⟨_, e⟩ | ⟨_, e⟩⟩⟩⟩⟩⟩
 all_goals
  rw [e]
  simp
theorem out_err (x : Wd) (i : Nat) (item b : Int) : 0 ≤ (outW x i item b).2 ∧ (outW x i item b).2 ≤ 13 := by
 rcases out_cases x i item b with ⟨_, e⟩ | ⟨k, c, _, _, _, _, ⟨_, e⟩ | ⟨_, ⟨_, e⟩ | ⟨_, ⟨_, e⟩ | ⟨_, ⟨_, e⟩ | ⟨_, e⟩⟩⟩⟩⟩
 all_goals
  rw [e]
  simp
theorem swap_err (a b p f : Int) : 0 ≤ swapE a b p f ∧ swapE a b p f ≤ 13 := by
 unfold swapE
 split
 ·exact ⟨by omega, by omega⟩
 split
 ·exact ⟨by omega, by omega⟩
 split
 ·exact ⟨by omega, by omega⟩
 ·exact ⟨by omega, by omega⟩
theorem trade_err (x : Wd) (i : Nat) (q : Int) (gl wl : List Int) (pay fee : Int) : 0 ≤ (tradeW x i q gl wl pay fee).2 ∧ (tradeW x i q gl wl pay fee).2 ≤ 13 := by
 unfold tradeW
 split
 ·simp
 split
 ·simp
 split
 ·simp
 split
 ·simp
 split
 ·simp
 split
 ·simp
 split
 ·simp
 split
 ·exact swap_err _ _ _ _
 ·simp
/-- What is told of a command that changes something. -/
theorem act_told {x : Wd} (h : rightW x = true) {i : Nat} (hi : i < x.at_.length) {c : Cm} (hd : c.dir < 4) : (0 ≤ (actW x i c).2.2 ∧ (actW x i c).2.2 ≤ 13) ∧ ((c.kind = 1 ∨ c.kind = 2) ∧ 0 ≤ (actW x i c).2.1 ∧ (actW x i c).2.1 ≤ 1073741824 ∨ (actW x i c).2.1 = 0) := by
 unfold actW
 split
 ·rename_i k1
  obtain ⟨h1, h2, h3, h4⟩ := move_told h hi (d := c.dir.toNat) (by omega)
  exact ⟨⟨h1, h2⟩, .inl ⟨.inl k1, h3, h4⟩⟩
 split
 ·rename_i k2
  obtain ⟨h1, h2, h3, h4⟩ := push_told h (i := i) (q := c.who) (d := c.dir.toNat) (by omega)
  exact ⟨⟨h1, h2⟩, .inl ⟨.inr k2, h3, h4⟩⟩
 split
 ·exact ⟨take_err _ _ _ _, .inr rfl⟩
 split
 ·exact ⟨take_err _ _ _ _, .inr rfl⟩
 split
 ·exact ⟨box_err _ _ _ _, .inr rfl⟩
 split
 ·exact ⟨out_err _ _ _ _, .inr rfl⟩
 split
 ·refine ⟨?_, .inr rfl⟩
  show 0 ≤ (giveW x i c.item c.who).2 ∧ (giveW x i c.item c.who).2 ≤ 13
  rw [give_trade h hi]; exact trade_err _ _ _ _ _ _ _
 ·exact ⟨trade_err _ _ _ _ _ _ _, .inr rfl⟩
theorem may_kind {c : Cm} (h : refMayB c = true) : 1 ≤ c.kind ∧ c.kind ≤ 10 ∧ 0 ≤ c.dir ∧ c.dir < 4 := by
 have h2 : mayB c = true := by rw [may_eq]; exact h
 simp only [mayB, withinB, isKindB, isDirB, Bool.and_eq_true, decide_eq_true_eq] at h2
 omega
/-- The answer of a command may be. -/
theorem do_may {x : Wd} (h : rightW x = true) {i : Nat} (hi : i < x.at_.length) (c : Cm) : rmayB (doW x i c).2 = true := by
 unfold doW
 split
 ·exact may_err (by omega)
 rename_i hm
 have hk := may_kind (show refMayB c = true by simpa using hm)
 split
 ·exact may_look h hi
 split
 ·exact may_have h hi
 obtain ⟨h1, h2⟩ := act_told h hi hk.2.2.2
 split
 ·exact may_ok (by omega) h2
 ·exact may_err (by omega)
theorem do_right {x : Wd} (h : rightW x = true) {i : Nat} (hi : i < x.at_.length) (c : Cm) : rightW (doW x i c).1 = true := by
 unfold doW
 split
 ·exact h
 rename_i hm
 have hk := may_kind (show refMayB c = true by simpa using hm)
 split
 ·exact h
 split
 ·exact h
 split
 ·exact act_right h hi hk.2.2.2
 ·exact h
theorem do_shape (x : Wd) (i : Nat) (c : Cm) : Shape x (doW x i c).1 := by
 unfold doW
 split
 ·exact Shape.refl x
 split
 ·exact Shape.refl x
 split
 ·exact Shape.refl x
 split
 ·exact act_shape _ _ _
 ·exact Shape.refl x
theorem do_sum {x : Wd} (h : rightW x = true) {i : Nat} (hi : i < x.at_.length) (c : Cm) : (doW x i c).1.d = x.d ∧ (doW x i c).1.coins.sum = x.coins.sum := by
 unfold doW
 split
 ·exact ⟨rfl, rfl⟩
 split
 ·exact ⟨rfl, rfl⟩
 split
 ·exact ⟨rfl, rfl⟩
 split
 ·exact act_sum h hi c
 ·exact ⟨rfl, rfl⟩
/-- An error, and who looks, changes nothing. -/
theorem do_stays {x : Wd} {i : Nat} {c : Cm} (h : ¬ (doW x i c).2.err = 0 ∨ c.kind = 9 ∨ c.kind = 10) : (doW x i c).1 = x := by
 unfold doW at h ⊢
 split
 ·rfl
 rename_i hm
 rw [if_neg hm] at h
 split
 ·rfl
 rename_i h9
 rw [if_neg h9] at h
 split
 ·rfl
 rename_i h10
 rw [if_neg h10] at h
 split
 ·rename_i he
  rw [if_pos he] at h
  rcases h with h | h | h
  ·exact absurd rfl h
  ·exact absurd h h9
  ·exact absurd h h10
 ·rfl
theorem do_kind {x : Wd} {i : Nat} {c : Cm} (h : (doW x i c).2.err = 0) : (doW x i c).2.kind = c.kind := by
 unfold doW at h ⊢
 split
 ·rename_i hm
  rw [if_pos hm] at h
  simp [errR] at h
 rename_i hm
 rw [if_neg hm] at h
 split
 ·rename_i h9; rw [h9]; rfl
 rename_i h9
 rw [if_neg h9] at h
 split
 ·rename_i h10; rw [h10]; rfl
 rename_i h10
 rw [if_neg h10] at h
 split
 ·rfl
 ·rename_i he
  rw [if_neg he] at h
  exact absurd h he
/-- How often a thing is told. -/
theorem under_count (ps : List Pl) (p : Pl) (m : Nat) : ∀ n, (underN ps n p).count (seenOf ps m) = if m < n ∧ rootI ps m = p then 1 else 0
 | 0 => by simp [underN]
 | n + 1 => by
   have ih := under_count ps p m n
   have hne : ∀ k, ¬ k = m → ¬ seenOf ps k = seenOf ps m := fun k hk h => by
    have : (k : Int) = (m : Int) := congrArg Sn.item h
    omega
   by_cases h : rootI ps n = p
   ·rw [underN_yes h, List.count_append, ih]
    by_cases hm : n = m
    ·subst hm
     rw [if_neg (by omega), if_pos ⟨by omega, h⟩]
     simp
    ·rw [List.count_eq_zero.2 (by rw [List.mem_singleton]; exact fun e => hne n hm e.symm)]
     by_cases h2 : m < n ∧ rootI ps m = p
     ·rw [if_pos h2, if_pos ⟨by omega, h2.2⟩]
     ·rw [if_neg h2, if_neg (fun h3 => h2 ⟨by omega, h3.2⟩)]
   ·rw [underN_no h, ih]
    by_cases h2 : m < n ∧ rootI ps m = p
    ·rw [if_pos h2, if_pos ⟨by omega, h2.2⟩]
    ·rw [if_neg h2, if_neg (fun h3 => h2 ⟨by
      apply Decidable.byContradiction
      intro h4
      have : m = n := by omega
      rw [this] at h3
      exact h h3.2, h3.2⟩)]
theorem put_at {x : Wd} {k : Nat} (hk : k < x.wher.length) (g : Pl) : plOf (putW x k g).wher k = g := by
 show plOf (x.wher.set k g) k = g
 rw [plOf_set hk, if_pos rfl]
/-- Where a thing was laid, it is told once. -/
theorem put_told {x : Wd} {k : Nat} (hk : k < x.wher.length) {g : Pl} (hg : ¬ g.kind = 2) : (underN (putW x k g).wher (putW x k g).wher.length g).count ⟨(k : Int), g.kind, g.id⟩ = 1 := by
 have e := put_at hk g
 have h := under_count (putW x k g).wher g k (putW x k g).wher.length
 have e2 : seenOf (putW x k g).wher k = ⟨(k : Int), g.kind, g.id⟩ := by unfold seenOf; rw [e]
 rw [e2] at h
 rw [h, if_pos ⟨by rw [(putW_shape x k g).w]; exact hk, by rw [rootI_leaf (by rw [e]; exact hg), e]⟩]
theorem sees_get {x y : Wd} {i : Nat} {item : Int} (h : getW x i item = (y, 0)) : (ownN y i).count ⟨item, 1, (i : Int)⟩ = 1 := by
 rcases take_cases x item ⟨0, (roomOf x i : Int)⟩ ⟨1, (i : Int)⟩ with ⟨_, e⟩ | ⟨k, rfl, hk, ⟨_, e⟩ | ⟨_, _, e⟩ | ⟨_, _, e⟩⟩
 ·exact absurd ((congrArg Prod.snd e).symm.trans (congrArg Prod.snd h)) (by simp)
 ·exact absurd ((congrArg Prod.snd e).symm.trans (congrArg Prod.snd h)) (by simp)
 ·exact absurd ((congrArg Prod.snd e).symm.trans (congrArg Prod.snd h)) (by simp)
 ·have : putW x k ⟨1, (i : Int)⟩ = y := (congrArg Prod.fst e).symm.trans (congrArg Prod.fst h)
  subst this
  exact put_told hk (g := ⟨1, (i : Int)⟩) (by simp)
theorem sees_drop {x y : Wd} {i : Nat} {item : Int} (h : dropW x i item = (y, 0)) : (lookN y i).count ⟨item, 0, (roomOf y i : Int)⟩ = 1 := by
 rcases take_cases x item ⟨1, (i : Int)⟩ ⟨0, (roomOf x i : Int)⟩ with ⟨_, e⟩ | ⟨k, rfl, hk, ⟨_, e⟩ | ⟨_, _, e⟩ | ⟨_, _, e⟩⟩
 ·exact absurd ((congrArg Prod.snd e).symm.trans (congrArg Prod.snd h)) (by simp)
 ·exact absurd ((congrArg Prod.snd e).symm.trans (congrArg Prod.snd h)) (by simp)
 ·exact absurd ((congrArg Prod.snd e).symm.trans (congrArg Prod.snd h)) (by simp)
 ·have : putW x k ⟨0, (roomOf x i : Int)⟩ = y := (congrArg Prod.fst e).symm.trans (congrArg Prod.fst h)
  subst this
  exact put_told hk (g := ⟨0, (roomOf x i : Int)⟩) (by simp)
theorem sees_take {x y : Wd} (hx : rightW x = true) {i : Nat} {item b : Int} (h : outW x i item b = (y, 0)) : (ownN y i).count ⟨item, 1, (i : Int)⟩ = 1 := by
 rcases out_cases x i item b with ⟨_, e⟩ | ⟨k, c, rfl, rfl, hk, hc, _⟩
 ·exact absurd ((congrArg Prod.snd e).symm.trans (congrArg Prod.snd h)) (by simp)
 ·obtain ⟨_, e⟩ := outed_of hx (i := i) (k := k) (c := c) (by rw [h])
  have : putW x k ⟨1, (i : Int)⟩ = y := (congrArg Prod.fst e).symm.trans (congrArg Prod.fst h)
  subst this
  exact put_told hk (g := ⟨1, (i : Int)⟩) (by simp)
theorem sees_put {x y : Wd} (hx : rightW x = true) {i : Nat} {item b : Int} (h : boxW x i item b = (y, 0)) : (ownN y i ++ lookN y i).count ⟨item, 2, b⟩ = 1 := by
 rcases box_cases x i item b with ⟨_, e⟩ | ⟨k, c, rfl, rfl, hk, hc, hr⟩
 ·exact absurd ((congrArg Prod.snd e).symm.trans (congrArg Prod.snd h)) (by simp)
 ·have hn : nearB x i c = true := by
   rcases hr with ⟨_, e⟩ | ⟨h2, _⟩
   ·exact absurd ((congrArg Prod.snd e).symm.trans (congrArg Prod.snd h)) (by simp)
   ·exact h2.2
  obtain ⟨hB, e⟩ := boxed_of hx (i := i) (k := k) (c := c) (by rw [h])
  have : putW x k (box c) = y := (congrArg Prod.fst e).symm.trans (congrArg Prod.fst h)
  subst this
  obtain ⟨hr1, _, _⟩ := hB.root hx
  have ek : seenOf (putW x k (box c)).wher k = ⟨(k : Int), 2, (c : Int)⟩ := by unfold seenOf; rw [put_at hk]; rfl
  have hl : k < (putW x k (box c)).wher.length := by rw [(putW_shape x k (box c)).w]; exact hk
  rw [List.count_append, ← ek]
  unfold ownN lookN
  rw [under_count, under_count, hr1, show roomOf (putW x k (box c)) i = roomOf x i from rfl]
  simp only [nearB, Bool.or_eq_true, decide_eq_true_eq] at hn
  rcases hn with hn | hn
  ·rw [hn, if_neg (by simp), if_pos ⟨hl, rfl⟩]
  ·rw [hn, if_pos ⟨hl, rfl⟩, if_neg (by simp)]
/-- Who went is where the answer tells. -/
theorem sees_move {x y : Wd} {i d : Nat} (hi : i < x.at_.length) {r : Int} (hx : rightW x = true) (hd : d < 4) (h : moveW x i d = (y, r, 0)) : (roomOf y i : Int) = r := by
 unfold moveW at h
 have h1 := toW_in hx (room_at hx hi).2 hd
 split at h
 ·exact absurd (congrArg (fun q => q.2.2) h) (by simp)
 ·rename_i h2
  have e1 := congrArg (fun q => q.1) h
  have e2 := congrArg (fun q => q.2.1) h
  simp only at e1 e2
  rw [← e1, ← e2]
  have : roomOf (goW x i (toW x (roomOf x i) d)) i = (toW x (roomOf x i) d).toNat := by simp [roomOf, goW, List.getD, hi]
  rw [this]
  omega
end Go.Proofs.YtgmkcddgkgcbbaaGreat
