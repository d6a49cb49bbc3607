/- Worlds: descriptions that may be, worlds that are right, and the same: plain mathematics. -/
import Derived.Test.YtkhjmgedamndhaaRows
import Derived.Test.YtkhjmgedamndhaaKit
import Derived.Test.YtkhjmgedamndhaaStrs
import Derived.Test.YtkhjmgedamndhaaCoin
import Derived.WalkKit
import Derived.ProofKit
import Derived.OpenShut
import Derived.IntWalk
namespace Go.Proofs.Ytkhjmgedamndhaa
open Go.ChangeShapes Go.WideShapes Go.ChangeAt Go.RowKit
set_option linter.unusedVariables false
open Go.RowKit

/-- A room's exits. -/
structure Ex where
  n : Int
  e : Int
  s : Int
  w : Int
deriving DecidableEq
/-- A place. -/
structure Pl where
  kind : Int
  id : Int
deriving DecidableEq
/-- A description. -/
structure Ds where
  exits : List Ex
  players : List Int
  coins : List Int
  items : List Int
  boxes : List Bool
  room : Int
  player : Int
  box : Int
deriving DecidableEq
/-- A world. -/
structure Wd where
  d : Ds
  at_ : List Int
  coins : List Int
  wher : List Pl
deriving DecidableEq
def zeroD : Ds := ⟨[], [], [], [], [], 0, 0, 0⟩
def zeroW : Wd := ⟨zeroD, [], [], []⟩

/-- Is a number one of so many? -/
def inB (t r : Int) : Bool := decide (0 ≤ t) && decide (t < r)
def toB (r t : Int) : Bool := decide (t = -1) || inB t r
def exB (r : Int) (e : Ex) : Bool := toB r e.n && (toB r e.e && (toB r e.s && toB r e.w))
def ofB (xs : List Int) (r : Int) : Bool := xs.all fun n => inB n r
def pursesB (xs : List Int) : Bool := xs.all isB
def roomsB (es : List Ex) : Bool := decide (1 ≤ es.length) && (decide (es.length ≤ 8) && es.all (exB es.length))
def playersB (d : Ds) (rooms coins : List Int) : Bool := decide (rooms.length = d.players.length) && (decide (coins.length = d.players.length) && (ofB rooms d.exits.length && pursesB coins))
def mayPlB (d : Ds) : Bool := decide (1 ≤ d.players.length) && (decide (d.players.length ≤ 6) && playersB d d.players d.coins)
def capB (n : Int) : Bool := decide (0 ≤ n) && decide (n ≤ 64)
def capsB (xs : List Int) : Bool := xs.all capB
def floorsL (xs : List Int) : List Pl := xs.map fun r => ⟨0, r⟩
/-- How many a place may hold. -/
def capOf (d : Ds) (k : Int) : Int := if k = 0 then d.room else if k = 1 then d.player else d.box
def fitB (d : Ds) (ps : List Pl) : Bool := ps.all fun p => decide (((ps.count p : Nat) : Int) ≤ capOf d p.kind)
def mayItB (d : Ds) : Bool := decide (d.items.length ≤ 16) && (decide (d.boxes.length = d.items.length) && (ofB d.items d.exits.length && fitB d (floorsL d.items)))
/-- May a description be? -/
def mayD (d : Ds) : Bool := roomsB d.exits && (mayPlB d && (capsB [d.room, d.player, d.box] && mayItB d))
def placeB (d : Ds) (p : Pl) : Bool :=
  if p.kind = 0 then inB p.id d.exits.length
  else if p.kind = 1 then inB p.id d.players.length
  else if p.kind = 2 then inB p.id d.boxes.length && d.boxes.getD p.id.toNat false
  else false
def placesB (d : Ds) (ps : List Pl) : Bool := decide (ps.length = d.items.length) && ps.all (placeB d)
/-- Where the box is that a place is. -/
def par (ps : List Pl) (p : Pl) : Pl := ps.getD p.id.toNat ⟨0, 0⟩
/-- Have the boxes above a place an end, so many at most? -/
def endsB (ps : List Pl) : Nat → Pl → Bool
  | 0, p => decide (p.kind ≠ 2)
  | k + 1, p => decide (p.kind ≠ 2) || endsB ps k (par ps p)
def nestB (ps : List Pl) : Bool := ps.all (endsB ps 4)
/-- Is a world right? -/
def rightW (w : Wd) : Bool := mayD w.d && (playersB w.d w.at_ w.coins && (placesB w.d w.wher && (nestB w.wher && fitB w.d w.wher)))
/-- The world of a description. -/
def newW (d : Ds) : Wd := ⟨d, d.players, d.coins, floorsL d.items⟩

theorem inB_iff (t r : Int) : inB t r = true ↔ (0 ≤ t ∧ t < r) := by simp [inB]
theorem toB_iff (r t : Int) : toB r t = true ↔ (t = -1 ∨ (0 ≤ t ∧ t < r)) := by simp [toB, inB]
theorem ofB_iff (xs : List Int) (r : Int) : ofB xs r = true ↔ ∀ n ∈ xs, 0 ≤ n ∧ n < r := by simp [ofB, inB]
theorem isB_iff2 (n : Int) : isB n = true ↔ (0 ≤ n ∧ n ≤ 1073741824) := by unfold isB; simp
theorem pursesB_iff (xs : List Int) : pursesB xs = true ↔ ∀ n ∈ xs, 0 ≤ n ∧ n ≤ 1073741824 := by simp [pursesB, isB_iff2]
/-- All of a list, one by one. -/
theorem all_take_succ {α : Type} (f : α → Bool) {xs : List α} {k : Nat} (hk : k < xs.length) (h : (xs.take k).all f = true) (hf : f xs[k] = true) : (xs.take (k + 1)).all f = true := by
  rw [List.take_succ_eq_append_getElem hk, List.all_append, h]; simp [hf]
theorem all_not {α : Type} (f : α → Bool) {xs : List α} {k : Nat} (hk : k < xs.length) (hf : f xs[k] = false) : xs.all f = false := by
  rw [Bool.eq_false_iff]; intro h
  have := List.all_eq_true.1 h _ (List.getElem_mem hk)
  rw [hf] at this; cases this
theorem all_whole {α : Type} (f : α → Bool) {xs : List α} (h : (xs.take xs.length).all f = true) : xs.all f = true := by simpa using h

/-- How many boxes are above a place; none, if there are more than so many. -/
def dpt (ps : List Pl) : Nat → Pl → Option Nat
  | 0, p => if p.kind = 2 then none else some 0
  | k + 1, p => if p.kind = 2 then (dpt ps k (par ps p)).map (· + 1) else some 0
/-- By the document. -/
def depthR (ps : List Pl) (p : Pl) : Nat := (dpt ps 50 p).getD 99
theorem dpt_le (ps : List Pl) : ∀ (k : Nat) (p : Pl) (m : Nat), dpt ps k p = some m → m ≤ k
  | 0, p, m, h => by simp only [dpt] at h; split at h <;> simp at h; omega
  | k + 1, p, m, h => by
    simp only [dpt] at h
    split at h
    · obtain ⟨j, hj, rfl⟩ := Option.map_eq_some_iff.1 h
      have := dpt_le ps k _ j hj
      omega
    · simp at h; omega
theorem dpt_more (ps : List Pl) : ∀ (k : Nat) (p : Pl) (m j : Nat), dpt ps k p = some m → k ≤ j → dpt ps j p = some m
  | 0, p, m, j, h, _ => by
    simp only [dpt] at h
    split at h
    · cases h
    · rename_i hn
      cases j <;> simp [dpt, hn, ← Option.some.inj h]
  | k + 1, p, m, j, h, hj => by
    cases j with
    | zero => omega
    | succ j =>
      simp only [dpt] at h ⊢
      split at h
      · rename_i hp
        obtain ⟨i, hi, rfl⟩ := Option.map_eq_some_iff.1 h
        rw [if_pos hp, dpt_more ps k _ i j hi (by omega)]; rfl
      · rename_i hp; rw [if_neg hp]; exact h
theorem dpt_less (ps : List Pl) : ∀ (k : Nat) (p : Pl) (m : Nat), dpt ps k p = some m → dpt ps m p = some m
  | 0, p, m, h => by
    have := dpt_le ps 0 p m h
    obtain rfl : m = 0 := by omega
    exact h
  | k + 1, p, m, h => by
    simp only [dpt] at h
    split at h
    · rename_i hp
      obtain ⟨j, hj, rfl⟩ := Option.map_eq_some_iff.1 h
      simp only [dpt]
      rw [if_pos hp, dpt_less ps k _ j hj]; rfl
    · rename_i hp
      have := Option.some.inj h
      subst this
      simp [dpt, hp]
theorem ends_dpt (ps : List Pl) : ∀ (k : Nat) (p : Pl), endsB ps k p = (dpt ps k p).isSome
  | 0, p => by by_cases h : p.kind = 2 <;> simp [endsB, dpt, h]
  | k + 1, p => by by_cases h : p.kind = 2 <;> simp [endsB, dpt, h, ends_dpt ps k]
theorem ends_depth (ps : List Pl) (p : Pl) : endsB ps 4 p = decide (depthR ps p ≤ 4) := by
  rw [ends_dpt]
  cases h : dpt ps 4 p with
  | some m =>
    have h2 := dpt_more ps 4 p m 50 h (by omega)
    have := dpt_le ps 4 p m h
    simp [depthR, h2, this]
  | none =>
    cases h3 : dpt ps 50 p with
    | none => simp [depthR, h3]
    | some m =>
      have h4 := dpt_less ps 50 p m h3
      have h5 : ¬ m ≤ 4 := fun hm => by rw [dpt_more ps m p m 4 h4 hm] at h; cases h
      simp [depthR, h3, h5]
end Go.Proofs.Ytkhjmgedamndhaa
