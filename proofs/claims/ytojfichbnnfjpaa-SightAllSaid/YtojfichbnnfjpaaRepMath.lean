/- Answers: whether they may be, and are the same; their words: plain mathematics. -/
import Derived.Test.YtojfichbnnfjpaaRows
import Derived.Test.YtojfichbnnfjpaaKit
import Derived.Test.YtojfichbnnfjpaaGMem
import Derived.Test.YtojfichbnnfjpaaCmdMath
import Derived.Test.YtojfichbnnfjpaaNameMath
import Derived.Test.YtojfichbnnfjpaaTokMath
import Derived.Test.YtojfichbnnfjpaaGWorld
import Derived.WalkKit
import Derived.ProofKit
import Derived.OpenShut
import Derived.IntWalk
namespace Go.Proofs.Ytojfichbnnfjpaa
open Go.ChangeShapes Go.WideShapes Go.ChangeAt Go.RowKit
set_option linter.unusedVariables false
open Go.RowKit

/-- An answer's fields. -/
structure Rp where
  err : Int
  kind : Int
  room : Int
  players : List Int
  items : List Sn
  coins : Int
deriving DecidableEq
def pkB (n : Int) : Bool := decide (0 ≤ n) && decide (n < 3)
def snB (s : Sn) : Bool := pkB s.kind && (okN s.item && okN s.id)
def plB (xs : List Int) : Bool := decide (xs.length ≤ 16) && areB xs
def itB (xs : List Sn) : Bool := decide (xs.length ≤ 16) && xs.all snB
def rwithinB (r : Rp) : Bool := decide (0 ≤ r.err) && decide (r.err ≤ 13) && decide (0 ≤ r.kind) && decide (r.kind ≤ 10) && areB [r.room, r.coins] && plB r.players && itB r.items
def zeroR : Rp := ⟨0, 0, 0, [], [], 0⟩
/-- An answer with the fields alone that its error, or kind, has. -/
def ownR (r : Rp) : Rp :=
  if r.err ≠ 0 then ⟨r.err, 0, 0, [], [], 0⟩
  else if r.kind = 1 ∨ r.kind = 2 then ⟨0, r.kind, r.room, [], [], 0⟩
  else if r.kind = 9 then ⟨0, r.kind, r.room, r.players, r.items, 0⟩
  else if r.kind = 10 then ⟨0, r.kind, 0, [], r.items, r.coins⟩
  else ⟨0, r.kind, 0, [], [], 0⟩
def rsameB (a b : Rp) : Bool := decide (a.err = b.err) && decide (a.kind = b.kind) && decide (a.room = b.room) && decide (a.coins = b.coins) && decide (a.players = b.players) && decide (a.items = b.items)
def someB (r : Rp) : Bool := decide (r.err ≠ 0) || decide (r.kind ≠ 0)
/-- By the code: may it be? -/
def rmayB (r : Rp) : Bool := someB r && (rwithinB r && rsameB r (ownR r))
theorem rsameB_iff (a b : Rp) : rsameB a b = true ↔ a = b := by
  obtain ⟨a1, a2, a3, a4, a5, a6⟩ := a
  obtain ⟨b1, b2, b3, b4, b5, b6⟩ := b
  simp [rsameB]
  constructor
  · rintro ⟨⟨⟨⟨⟨rfl, rfl⟩, rfl⟩, rfl⟩, rfl⟩, rfl⟩; simp
  · rintro ⟨rfl, rfl, rfl, rfl, rfl, rfl⟩; simp
theorem rsameB_refl (a : Rp) : rsameB a a = true := (rsameB_iff a a).2 rfl
/-- By the document's definition: may it be? -/
def roomB (k : Int) : Bool := decide (k = 1) || decide (k = 2) || decide (k = 9)
def rrefB (r : Rp) : Bool :=
  if r.err < 0 ∨ 13 < r.err then false
  else if r.err ≠ 0 then rsameB r ⟨r.err, 0, 0, [], [], 0⟩
  else if r.kind < 1 ∨ 10 < r.kind ∨ okN r.room = false ∨ okN r.coins = false ∨ 16 < r.players.length ∨ 16 < r.items.length then false
  else if areB r.players = false then false
  else if r.items.all snB = false then false
  else (roomB r.kind || decide (r.room = 0)) && (decide (r.kind = 9) || decide (r.players.length = 0)) && (decide (9 ≤ r.kind) || decide (r.items.length = 0)) && (decide (r.kind = 10) || decide (r.coins = 0))
theorem rmay_eq (r : Rp) : rmayB r = rrefB r := by
  obtain ⟨e, k, m, ps, is, c⟩ := r
  rw [Bool.eq_iff_iff]
  unfold rmayB rrefB someB
  by_cases h0 : e < 0 ∨ 13 < e
  · simp only [if_pos h0]
    simp [rwithinB]; omega
  · by_cases he : e = 0
    · subst he
      simp only [rsameB_iff, ownR, rwithinB, roomB, Bool.and_eq_true, Bool.or_eq_true, decide_eq_true_eq]
      by_cases k1 : k = 1
      · subst k1; simp [okN, areB, plB, itB, List.length_eq_zero_iff]; grind
      · by_cases k2 : k = 2
        · subst k2; simp [okN, areB, plB, itB, List.length_eq_zero_iff]; grind
        · by_cases k9 : k = 9
          · subst k9; simp [okN, areB, plB, itB, List.length_eq_zero_iff]; grind
          · by_cases k10 : k = 10
            · subst k10; simp [okN, areB, plB, itB, List.length_eq_zero_iff]; grind
            · simp [okN, areB, plB, itB, List.length_eq_zero_iff, k1, k2, k9, k10]; grind
    · rw [if_neg h0, if_pos he]
      constructor
      · intro h
        simp only [Bool.and_eq_true] at h
        have := h.2.2
        simpa [ownR, he] using this
      · intro h
        obtain ⟨-, rfl, rfl, rfl, rfl, rfl⟩ := Rp.mk.inj ((rsameB_iff _ _).1 h)
        simp [ownR, he, rwithinB, okN, areB, plB, itB, rsameB]
        omega
end Go.Proofs.Ytojfichbnnfjpaa
