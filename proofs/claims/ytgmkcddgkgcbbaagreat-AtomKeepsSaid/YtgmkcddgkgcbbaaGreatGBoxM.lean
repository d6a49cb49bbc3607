/- What is put in, and taken out: plain mathematics. -/
import Derived.Test.YtgmkcddgkgcbbaaGreatGAs
namespace Go.Proofs.YtgmkcddgkgcbbaaGreat
open Go.ChangeShapes Go.WideShapes Go.ChangeAt Go.RowKit
set_option linter.unusedVariables false
section
/-- How deep an item is when k was laid into the box b. -/
def depN (ps : List Pl) (k b n : Nat) : Nat := if wB ps n k = true then dep ps n - dep ps k + dep ps b + 1 else dep ps n
section
variable {ps : List Pl} (hT : Tr ps) {k b : Nat} (hk : k < ps.length) (hb : b < ps.length) (hw : wB ps b k = false)
include hT hk hb hw
omit hk hb hw in
theorem dpt_out : ∀ n, n < ps.length → wB ps n k = false → ∀ j, dep ps n ≤ j → dpt (ps.set k (box b)) j (plOf (ps.set k (box b)) n) = some (dep ps n) := by
 refine hT.ind (fun n hn hd hwn j hj => ?_) (fun n m hn hm he hu ih hwn j hj => ?_)
 ·have hnk : ¬ n = k := fun e => by rw [e, wB_self] at hwn; cases hwn
  rw [plOf_set hn, if_neg hnk, dep_leaf hd]
  cases j <;> simp [dpt, hd]
 ·have hnk : ¬ n = k := fun e => by rw [e, wB_self] at hwn; cases hwn
  rw [wB_box k hu] at hwn
  simp only [Bool.or_eq_false_iff] at hwn
  rw [dep_box hu] at hj ⊢
  obtain ⟨j', rfl⟩ : ∃ j', j = j' + 1 := ⟨j - 1, by omega⟩
  rw [plOf_set hn, if_neg hnk, he]
  have e : par (ps.set k (box b)) (box m) = plOf (ps.set k (box b)) m := rfl
  simp only [dpt, e]
  rw [ih hwn.2 j' (by omega)]
  simp [box]
theorem dpt_in : ∀ n, n < ps.length → wB ps n k = true → ∀ j, dep ps n - dep ps k + dep ps b + 1 ≤ j → dpt (ps.set k (box b)) j (plOf (ps.set k (box b)) n) = some (dep ps n - dep ps k + dep ps b + 1) := by
 have key : ∀ j, dep ps k - dep ps k + dep ps b + 1 ≤ j → dpt (ps.set k (box b)) j (plOf (ps.set k (box b)) k) = some (dep ps k - dep ps k + dep ps b + 1) := by
  intro j hj
  obtain ⟨j', rfl⟩ : ∃ j', j = j' + 1 := ⟨j - 1, by omega⟩
  rw [plOf_set hk, if_pos rfl]
  have e : par (ps.set k (box b)) (box b) = plOf (ps.set k (box b)) b := rfl
  simp only [dpt, e]
  rw [dpt_out hT b hb hw j' (by omega)]
  simp [box]
 refine hT.ind (fun n hn hd hwn => ?_) (fun n m hn hm he hu ih hwn j hj => ?_)
 ·rw [wB_leaf k hd, decide_eq_true_eq] at hwn
  subst hwn
  exact key
 ·by_cases hnk : n = k
  ·subst hnk; exact key j hj
  ·rw [wB_box k hu] at hwn
   simp only [Bool.or_eq_true, decide_eq_true_eq, hnk, false_or] at hwn
   have h1 := (hT.within k m hm hwn).2.1
   rw [dep_box hu] at hj ⊢
   obtain ⟨j', rfl⟩ : ∃ j', j = j' + 1 := ⟨j - 1, by omega⟩
   rw [plOf_set hn, if_neg hnk, he]
   have e : par (ps.set k (box b)) (box m) = plOf (ps.set k (box b)) m := rfl
   simp only [dpt, e]
   rw [ih hwn j' (by omega)]
   simp [box]; omega
theorem dpt_put {n : Nat} (hn : n < ps.length) {j : Nat} (hj : depN ps k b n ≤ j) : dpt (ps.set k (box b)) j (plOf (ps.set k (box b)) n) = some (depN ps k b n) := by
 unfold depN at hj ⊢
 by_cases h : wB ps n k = true
 ·rw [if_pos h] at hj ⊢; exact dpt_in hT hk hb hw n hn h j hj
 ·rw [if_neg h] at hj ⊢; exact dpt_out hT n hn (by simpa using h) j hj
omit hk hw in
theorem depN_le {n : Nat} (hn : n < ps.length) : depN ps k b n ≤ 9 := by
 have h1 := hT.dep4 hn
 have h2 := hT.dep4 hb
 unfold depN
 split <;> omega
/-- How deep things are, by the document. -/
theorem depth_put {n : Nat} (hn : n < ps.length) : depthR (ps.set k (box b)) (plOf (ps.set k (box b)) n) = depN ps k b n := by
 have := depN_le hT hb hn (k := k)
 unfold depthR
 rw [dpt_put hT hk hb hw hn (by omega)]
 rfl
omit hb hw in
/-- Something would be too deep just if this is. -/
theorem deep_iff : (∃ n, n < ps.length ∧ 4 < depN ps k b n) ↔ 4 < dep ps b + 1 + hgt ps k := by
 constructor
 ·rintro ⟨n, hn, h⟩
  unfold depN at h
  by_cases hwn : wB ps n k = true
  ·rw [if_pos hwn] at h
   have := hT.hgt_le hn hwn
   omega
  ·rw [if_neg hwn] at h
   have := hT.dep4 hn
   omega
 ·intro h
  obtain ⟨n, hn, hwn, e⟩ := hT.hgt_at hk
  refine ⟨n, hn, ?_⟩
  unfold depN
  rw [if_pos hwn, e]
  omega
theorem put_tr (hd : dep ps b + 1 + hgt ps k ≤ 4) : Tr (ps.set k (box b)) := by
 refine ⟨fun p hp h2 => ?_, fun p hp => ?_⟩
 ·rw [List.length_set]
  rcases List.mem_or_eq_of_mem_set hp with hp | rfl
  ·exact hT.ids p hp h2
  ·simp only [box]; omega
 ·obtain ⟨n, hn, rfl⟩ := List.getElem_of_mem hp
  have hn2 : n < ps.length := by simpa using hn
  rw [← plOf_get hn, ends_dpt]
  have h4 : depN ps k b n ≤ 4 := by
   apply Decidable.byContradiction
   intro h
   have := (deep_iff (b := b) hT hk).1 ⟨n, hn2, by omega⟩
   omega
  rw [dpt_put hT hk hb hw hn2 h4]
  rfl
/-- What hangs where, and what is within what. -/
theorem put_hangs (hd : dep ps b + 1 + hgt ps k ≤ 4) : ∀ n, n < ps.length → wB (ps.set k (box b)) n k = wB ps n k ∧ rootI (ps.set k (box b)) n = if wB ps n k = true then rootI ps b else rootI ps n := by
 have hT2 := put_tr hT hk hb hw hd
 have out : ∀ n, n < ps.length → wB ps n k = false → wB (ps.set k (box b)) n k = false ∧ rootI (ps.set k (box b)) n = rootI ps n := by
  refine hT.ind (fun n hn hdl hwn => ?_) (fun n m hn hm he hu ih hwn => ?_)
  ·have hnk : ¬ n = k := fun e => by rw [e, wB_self] at hwn; cases hwn
   have e : plOf (ps.set k (box b)) n = plOf ps n := by rw [plOf_set hn, if_neg hnk]
   have hl : ¬ (plOf (ps.set k (box b)) n).kind = 2 := by rw [e]; exact hdl
   exact ⟨by rw [wB_leaf k hl]; simpa using hnk, by rw [rootI_leaf hl, rootI_leaf hdl, e]⟩
  ·have hnk : ¬ n = k := fun e => by rw [e, wB_self] at hwn; cases hwn
   have e : plOf (ps.set k (box b)) n = box m := by rw [plOf_set hn, if_neg hnk, he]
   obtain ⟨hu2, _⟩ := hT2.kid (by simpa using hn) e
   rw [wB_box k hu] at hwn
   simp only [Bool.or_eq_false_iff] at hwn
   obtain ⟨h1, h2⟩ := ih hwn.2
   exact ⟨by rw [wB_box k hu2, h1]; simpa using hnk, by rw [rootI_box hu2, rootI_box hu, h2]⟩
 have key : rootI (ps.set k (box b)) k = rootI ps b := by
  have e : plOf (ps.set k (box b)) k = box b := by rw [plOf_set hk, if_pos rfl]
  obtain ⟨hu2, _⟩ := hT2.kid (by simpa using hk) e
  rw [rootI_box hu2, (out b hb hw).2]
 have inn : ∀ n, n < ps.length → wB ps n k = true → wB (ps.set k (box b)) n k = true ∧ rootI (ps.set k (box b)) n = rootI ps b := by
  refine hT.ind (fun n hn hdl hwn => ?_) (fun n m hn hm he hu ih hwn => ?_)
  ·rw [wB_leaf k hdl, decide_eq_true_eq] at hwn
   subst hwn
   exact ⟨wB_self _ _, key⟩
  ·by_cases hnk : n = k
   ·subst hnk; exact ⟨wB_self _ _, key⟩
   ·have e : plOf (ps.set k (box b)) n = box m := by rw [plOf_set hn, if_neg hnk, he]
    obtain ⟨hu2, _⟩ := hT2.kid (by simpa using hn) e
    rw [wB_box k hu] at hwn
    simp only [Bool.or_eq_true, decide_eq_true_eq, hnk, false_or] at hwn
    obtain ⟨h1, h2⟩ := ih hwn
    exact ⟨by rw [wB_box k hu2, h1]; simp, by rw [rootI_box hu2, h2]⟩
 intro n hn
 by_cases h : wB ps n k = true
 ·rw [if_pos h, h]; exact inn n hn h
 ·rw [if_neg h]
  have h' : wB ps n k = false := by simpa using h
  rw [h']; exact out n hn h'
end
/-- Is an item near a player? -/
def nearB (x : Wd) (i k : Nat) : Bool := decide (rootI x.wher k = ⟨0, (roomOf x i : Int)⟩) || decide (rootI x.wher k = ⟨1, (i : Int)⟩)
/-- What is put into a box. -/
def boxW (x : Wd) (i : Nat) (item b : Int) : Wd × Int :=
 if inB item x.wher.length = false ∨ inB b x.wher.length = false then (x, 3)
 else if ¬ plOf x.wher item.toNat = ⟨1, (i : Int)⟩ ∨ nearB x i b.toNat = false then (x, 5)
 else if x.d.boxes.getD b.toNat false = false then (x, 6)
 else if wB x.wher b.toNat item.toNat = true then (x, 7)
 else if 4 < dep x.wher b.toNat + 1 + hgt x.wher item.toNat then (x, 8)
 else if roomI x (box b.toNat) = 0 then (x, 9)
 else (putW x item.toNat (box b.toNat), 0)
/-- What is taken out of one. -/
def outW (x : Wd) (i : Nat) (item b : Int) : Wd × Int :=
 if inB item x.wher.length = false ∨ inB b x.wher.length = false then (x, 3)
 else if nearB x i b.toNat = false then (x, 5)
 else if x.d.boxes.getD b.toNat false = false then (x, 6)
 else if ¬ plOf x.wher item.toNat = box b.toNat then (x, 5)
 else if roomI x ⟨1, (i : Int)⟩ = 0 then (x, 9)
 else (putW x item.toNat ⟨1, (i : Int)⟩, 0)
/-- An item laid into a box in which there is room, not too deep: the world stays right. -/
theorem box_right {x : Wd} (h : rightW x = true) {k b : Nat} (hk : k < x.wher.length) (hb : b < x.wher.length) (hx : x.d.boxes.getD b false = true) (hw : wB x.wher b k = false) (hd : dep x.wher b + 1 + hgt x.wher k ≤ 4) (hr : 0 < roomI x (box b)) : rightW (putW x k (box b)) = true := by
 have hT := right_tr h
 have hT2 := put_tr hT hk hb hw hd
 have hbl : x.d.boxes.length = x.wher.length := by
  have hm := (right_lens h).2.2.2.2
  have h2 := hm.2
  simp only [mayD, mayItB, Bool.and_eq_true, decide_eq_true_eq] at h2
  have := h2.2.2.2.2.1
  omega
 have h1 := h
 simp only [rightW, Bool.and_eq_true] at h1 ⊢
 obtain ⟨h2, h3, h4, h5, h6⟩ := h1
 refine ⟨h2, h3, ?_, ?_, ?_⟩
 ·simp only [placesB, putW, Bool.and_eq_true, decide_eq_true_eq, List.all_eq_true, List.length_set] at h4 ⊢
  refine ⟨h4.1, fun p hpm => ?_⟩
  rcases List.mem_or_eq_of_mem_set hpm with hpm | rfl
  ·exact h4.2 p hpm
  ·simp only [placeB, box, Int.toNat_natCast, hx, inB]
   simp; omega
 ·simp only [nestB, putW, List.all_eq_true]
  exact hT2.ends
 ·simp only [fitB, List.all_eq_true, decide_eq_true_eq] at h6
  unfold fitB
  rw [List.all_eq_true]
  intro p hpm
  refine decide_eq_true ?_
  show ((List.count p (x.wher.set k (box b)) : Nat) : Int) ≤ capOf x.d p.kind
  rw [count_put hk]
  by_cases e : box b = p
  ·subst e
   unfold roomI at hr
   rw [if_pos rfl]
   split <;> omega
  ·rw [if_neg e]
   have h7 := h6 p ((List.mem_or_eq_of_mem_set hpm).resolve_right (fun h => e h.symm))
   split <;> omega
end
section
theorem box_ne_pl {b i : Nat} : ¬ box b = ⟨1, (i : Int)⟩ := fun h => by simp [box] at h
/-- What comes of putting an item into a box. -/
theorem box_cases (x : Wd) (i : Nat) (item b : Int) :
 ((inB item x.wher.length = false ∨ inB b x.wher.length = false) ∧ boxW x i item b = (x, 3)) ∨
 ∃ k c : Nat, item = k ∧ b = c ∧ k < x.wher.length ∧ c < x.wher.length ∧
   (((¬ plOf x.wher k = ⟨1, (i : Int)⟩ ∨ nearB x i c = false) ∧ boxW x i item b = (x, 5)) ∨
    ((plOf x.wher k = ⟨1, (i : Int)⟩ ∧ nearB x i c = true) ∧
     ((x.d.boxes.getD c false = false ∧ boxW x i item b = (x, 6)) ∨
      (x.d.boxes.getD c false = true ∧
       ((wB x.wher c k = true ∧ boxW x i item b = (x, 7)) ∨
        (wB x.wher c k = false ∧
         ((4 < dep x.wher c + 1 + hgt x.wher k ∧ boxW x i item b = (x, 8)) ∨
          (dep x.wher c + 1 + hgt x.wher k ≤ 4 ∧
           ((roomI x (box c) = 0 ∧ boxW x i item b = (x, 9)) ∨ (¬ roomI x (box c) = 0 ∧ boxW x i item b = (putW x k (box c), 0)))))))))))  := by
 unfold boxW
 by_cases h1 : inB item x.wher.length = false ∨ inB b x.wher.length = false
 ·exact .inl ⟨h1, by rw [if_pos h1]⟩
 right
 rw [if_neg h1]
 simp only [not_or, Bool.not_eq_false, inB_iff] at h1
 refine ⟨item.toNat, b.toNat, by omega, by omega, by omega, by omega, ?_⟩
 by_cases h2 : ¬ plOf x.wher item.toNat = ⟨1, (i : Int)⟩ ∨ nearB x i b.toNat = false
 ·exact .inl ⟨h2, by rw [if_pos h2]⟩
 refine .inr ⟨by simpa [not_or] using h2, ?_⟩
 rw [if_neg h2]
 by_cases h3 : x.d.boxes.getD b.toNat false = false
 ·exact .inl ⟨h3, by rw [if_pos h3]⟩
 refine .inr ⟨by simpa using h3, ?_⟩
 rw [if_neg h3]
 by_cases h4 : wB x.wher b.toNat item.toNat = true
 ·exact .inl ⟨h4, by rw [if_pos h4]⟩
 refine .inr ⟨by simpa using h4, ?_⟩
 rw [if_neg h4]
 by_cases h5 : 4 < dep x.wher b.toNat + 1 + hgt x.wher item.toNat
 ·exact .inl ⟨h5, by rw [if_pos h5]⟩
 refine .inr ⟨by omega, ?_⟩
 rw [if_neg h5]
 by_cases h6 : roomI x (box b.toNat) = 0
 ·exact .inl ⟨h6, by rw [if_pos h6]⟩
 ·exact .inr ⟨h6, by rw [if_neg h6]⟩
/-- What comes of taking one out. -/
theorem out_cases (x : Wd) (i : Nat) (item b : Int) :
 ((inB item x.wher.length = false ∨ inB b x.wher.length = false) ∧ outW x i item b = (x, 3)) ∨
 ∃ k c : Nat, item = k ∧ b = c ∧ k < x.wher.length ∧ c < x.wher.length ∧
   ((nearB x i c = false ∧ outW x i item b = (x, 5)) ∨
    (nearB x i c = true ∧
     ((x.d.boxes.getD c false = false ∧ outW x i item b = (x, 6)) ∨
      (x.d.boxes.getD c false = true ∧
       ((¬ plOf x.wher k = box c ∧ outW x i item b = (x, 5)) ∨
        (plOf x.wher k = box c ∧
         ((roomI x ⟨1, (i : Int)⟩ = 0 ∧ outW x i item b = (x, 9)) ∨ (¬ roomI x ⟨1, (i : Int)⟩ = 0 ∧ outW x i item b = (putW x k ⟨1, (i : Int)⟩, 0))))))))) := by
 unfold outW
 by_cases h1 : inB item x.wher.length = false ∨ inB b x.wher.length = false
 ·exact .inl ⟨h1, by rw [if_pos h1]⟩
 right
 rw [if_neg h1]
 simp only [not_or, Bool.not_eq_false, inB_iff] at h1
 refine ⟨item.toNat, b.toNat, by omega, by omega, by omega, by omega, ?_⟩
 by_cases h2 : nearB x i b.toNat = false
 ·exact .inl ⟨h2, by rw [if_pos h2]⟩
 refine .inr ⟨by simpa using h2, ?_⟩
 rw [if_neg h2]
 by_cases h3 : x.d.boxes.getD b.toNat false = false
 ·exact .inl ⟨h3, by rw [if_pos h3]⟩
 refine .inr ⟨by simpa using h3, ?_⟩
 rw [if_neg h3]
 by_cases h4 : plOf x.wher item.toNat = box b.toNat
 ·refine .inr ⟨h4, ?_⟩
  rw [if_neg (by simpa using h4)]
  by_cases h5 : roomI x ⟨1, (i : Int)⟩ = 0
  ·exact .inl ⟨h5, by rw [if_pos h5]⟩
  ·exact .inr ⟨h5, by rw [if_neg h5]⟩
 ·exact .inl ⟨h4, by rw [if_pos h4]⟩
theorem box_shape (x : Wd) (i : Nat) (item b : Int) : Shape x (boxW x i item b).1 := by
 unfold boxW
 repeat' split
 all_goals first | exact Shape.refl x | exact putW_shape _ _ _
theorem out_shape (x : Wd) (i : Nat) (item b : Int) : Shape x (outW x i item b).1 := by
 unfold outW
 repeat' split
 all_goals first | exact Shape.refl x | exact putW_shape _ _ _
theorem room_nn_box {x : Wd} (h : rightW x = true) (b : Nat) : 0 ≤ roomI x (box b) := room_nn h (by simp [box])
/-- What was put in. -/
structure Boxed (x : Wd) (i k c : Nat) : Prop where
 ltk : k < x.wher.length
 ltc : c < x.wher.length
 at_ : plOf x.wher k = ⟨1, (i : Int)⟩
 near : nearB x i c = true
 bx : x.d.boxes.getD c false = true
 w : wB x.wher c k = false
 d : dep x.wher c + 1 + hgt x.wher k ≤ 4
 r : 0 < roomI x (box c)
theorem boxed_of {x : Wd} (h : rightW x = true) {i k c : Nat} (he : (boxW x i k c).2 = 0) : Boxed x i k c ∧ boxW x i k c = (putW x k (box c), 0) := by
 rcases box_cases x i k c with ⟨_, e⟩ | ⟨k', c', hk', hc', hk, hc, ⟨_, e⟩ | ⟨⟨h1, h2⟩, ⟨_, e⟩ | ⟨h3, ⟨_, e⟩ | ⟨h4, ⟨_, e⟩ | ⟨h5, ⟨_, e⟩ | ⟨h6, e⟩⟩⟩⟩⟩⟩
 all_goals try (rw [e] at he; simp at he; done)
 obtain rfl : k = k' := by omega
 obtain rfl : c = c' := by omega
 have := room_nn_box h c
 exact ⟨⟨hk, hc, h1, h2, h3, h4, h5, by omega⟩, e⟩
theorem Boxed.right {x : Wd} {i k c : Nat} (h : Boxed x i k c) (hx : rightW x = true) : rightW (putW x k (box c)) = true := box_right hx h.ltk h.ltc h.bx h.w h.d h.r
theorem Boxed.root {x : Wd} {i k c : Nat} (h : Boxed x i k c) (hx : rightW x = true) : rootI (putW x k (box c)).wher k = rootI x.wher c ∧ wB (putW x k (box c)).wher k c = true ∧ rootI (putW x k (box c)).wher c = rootI x.wher c := by
 have hT := right_tr hx
 have h1 := put_hangs hT h.ltk h.ltc h.w h.d k h.ltk
 have h2 := put_hangs hT h.ltk h.ltc h.w h.d c h.ltc
 rw [if_pos (wB_self _ _)] at h1
 rw [if_neg (by rw [h.w]; simp)] at h2
 refine ⟨h1.2, ?_, h2.2⟩
 have e : plOf (putW x k (box c)).wher k = box c := by show plOf (x.wher.set k (box c)) k = _; rw [plOf_set h.ltk, if_pos rfl]
 obtain ⟨hu, _⟩ := (right_tr (h.right hx)).kid (show k < (putW x k (box c)).wher.length by show k < (x.wher.set k _).length; simpa using h.ltk) e
 rw [wB_box c hu, wB_self]
 simp
/-- There and back. -/
theorem Boxed.back {x : Wd} {i k c : Nat} (h : Boxed x i k c) (hx : rightW x = true) : outW (putW x k (box c)) i k c = (x, 0) := by
 have hr := h.root hx
 have hl : (putW x k (box c)).wher.length = x.wher.length := by show (x.wher.set k _).length = _; simp
 have e : plOf (putW x k (box c)).wher k = box c := by show plOf (x.wher.set k (box c)) k = _; rw [plOf_set h.ltk, if_pos rfl]
 have hn : nearB (putW x k (box c)) i c = true := by
  have := h.near
  unfold nearB at this ⊢
  rw [hr.2.2]
  exact this
 have h2 := room_put h.ltk h.at_ (fun e => box_ne_pl e : ¬ box c = ⟨1, (i : Int)⟩)
 have h3 := room_nn hx (f := ⟨1, (i : Int)⟩) (by simp)
 have hbx : (putW x k (box c)).d.boxes.getD c false = true := h.bx
 unfold outW
 rw [if_neg (by rw [hl]; simp [inB, h.ltk, h.ltc])]
 simp only [Int.toNat_natCast]
 rw [if_neg (by rw [hn]; simp), if_neg (by rw [hbx]; simp), if_neg (by simpa using e), if_neg (by omega), putW_putW, putW_self h.ltk h.at_]
theorem room_less {x : Wd} {k : Nat} (hk : k < x.wher.length) {f : Pl} (hf : ¬ plOf x.wher k = f) : roomI (putW x k f) f = roomI x f - 1 := by
 rw [plOf_get hk] at hf
 have h2 := count_put hk f f
 rw [if_neg hf, if_pos rfl] at h2
 show capOf x.d f.kind - (((x.wher.set k f).count f : Nat) : Int) = _
 unfold roomI
 omega
/-- The room in the hands, and in the box, behind it. -/
theorem Boxed.rooms {x : Wd} {i k c : Nat} (h : Boxed x i k c) : roomI (putW x k (box c)) ⟨1, (i : Int)⟩ = roomI x ⟨1, (i : Int)⟩ + 1 ∧ roomI (putW x k (box c)) (box c) = roomI x (box c) - 1 :=
 ⟨room_put h.ltk h.at_ (fun e => box_ne_pl e), room_less h.ltk (by rw [h.at_]; exact fun e => box_ne_pl e.symm)⟩
/-- What was taken out. -/
structure Outed (x : Wd) (i k c : Nat) : Prop where
 ltk : k < x.wher.length
 ltc : c < x.wher.length
 at_ : plOf x.wher k = box c
 near : nearB x i c = true
 bx : x.d.boxes.getD c false = true
 r : 0 < roomI x ⟨1, (i : Int)⟩
theorem outed_of {x : Wd} (h : rightW x = true) {i k c : Nat} (he : (outW x i k c).2 = 0) : Outed x i k c ∧ outW x i k c = (putW x k ⟨1, (i : Int)⟩, 0) := by
 rcases out_cases x i k c with ⟨_, e⟩ | ⟨k', c', hk', hc', hk, hc, ⟨_, e⟩ | ⟨h1, ⟨_, e⟩ | ⟨h2, ⟨_, e⟩ | ⟨h3, ⟨_, e⟩ | ⟨h4, e⟩⟩⟩⟩⟩
 all_goals try (rw [e] at he; simp at he; done)
 obtain rfl : k = k' := by omega
 obtain rfl : c = c' := by omega
 have := room_nn h (f := ⟨1, (i : Int)⟩) (by simp)
 exact ⟨⟨hk, hc, h3, h1, h2, by omega⟩, e⟩
theorem Outed.right {x : Wd} {i k c : Nat} (h : Outed x i k c) (hx : rightW x = true) (hi : i < x.at_.length) : rightW (putW x k ⟨1, (i : Int)⟩) = true := putW_right hx h.ltk (by simp) (place_player hx hi) h.r
theorem Outed.within {x : Wd} {i k c : Nat} (h : Outed x i k c) (hx : rightW x = true) : wB x.wher k c = true ∧ rootI x.wher k = rootI x.wher c := by
 obtain ⟨hu, _⟩ := (right_tr hx).kid h.ltk h.at_
 exact ⟨by rw [wB_box c hu, wB_self]; simp, rootI_box hu⟩
/-- Not both. -/
theorem boxed_outed {x : Wd} {i k c : Nat} (h : Boxed x i k c) (h2 : Outed x i k c) : False := box_ne_pl (h2.at_.symm.trans h.at_)
/-- What lies in a box is near just if that is. -/
theorem near_box {x : Wd} (hx : rightW x = true) (i : Nat) {k j : Nat} (hk : k < x.wher.length) (e : plOf x.wher k = box j) : nearB x i k = nearB x i j := by
 obtain ⟨hu, _⟩ := (right_tr hx).kid hk e
 unfold nearB
 rw [rootI_box hu]
theorem near_leaf {x : Wd} (i : Nat) {k : Nat} (e : ¬ (plOf x.wher k).kind = 2) : nearB x i k = (decide (plOf x.wher k = ⟨0, (roomOf x i : Int)⟩) || decide (plOf x.wher k = ⟨1, (i : Int)⟩)) := by
 unfold nearB
 rw [rootI_leaf e]
end
end Go.Proofs.YtgmkcddgkgcbbaaGreat
