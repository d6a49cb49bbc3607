/- What is told may be told; which places are looked at: plain mathematics. -/
import Derived.Test.YtojfichbnnfjpaaRows
import Derived.Test.YtojfichbnnfjpaaKit
import Derived.Test.YtojfichbnnfjpaaGMem
import Derived.Test.YtojfichbnnfjpaaCoin
import Derived.Test.YtojfichbnnfjpaaCmdMath
import Derived.Test.YtojfichbnnfjpaaGWorld
import Derived.Test.YtojfichbnnfjpaaDescMay
import Derived.Test.YtojfichbnnfjpaaGRight
import Derived.Test.YtojfichbnnfjpaaGAs
import Derived.Test.YtojfichbnnfjpaaRepMath
import Derived.Test.YtojfichbnnfjpaaTreeCount
import Derived.Test.YtojfichbnnfjpaaSightMath
import Derived.Test.YtojfichbnnfjpaaSightB
import Derived.WalkKit
import Derived.ProofKit
import Derived.OpenShut
import Derived.IntWalk
namespace Go.Proofs.Ytojfichbnnfjpaa
open Go.ChangeShapes Go.WideShapes Go.ChangeAt Go.RowKit
set_option linter.unusedVariables false
open Go.RowKit
/-- A right world's numbers are small. -/
theorem few_all {x : Wd} (h : rightW x = true) : x.d.exits.length ≤ 8 ∧ x.d.players.length ≤ 6 ∧ x.d.boxes.length ≤ 16 := by
  have := (right_lens h).2.2.2.2.2
  simp only [mayD, mayPlB, mayItB, roomsB, Bool.and_eq_true, decide_eq_true_eq] at this
  omega
theorem may_sn {x : Wd} (h : rightW x = true) {i : Nat} (hi : i < x.wher.length) : snB (seenOf x.wher i) = true := by
  have h1 := (right_in h).2.2 _ (plOf_mem hi)
  have h2 := few_all h
  have h3 := (right_lens h).2.2.2.1
  obtain ⟨k, d, hp⟩ : ∃ k d, plOf x.wher i = ⟨k, d⟩ := ⟨_, _, rfl⟩
  rw [hp] at h1
  simp only [placeB] at h1
  simp only [seenOf, hp, snB, pkB, okN, Bool.and_eq_true, decide_eq_true_eq]
  by_cases k0 : k = 0
  · rw [if_pos k0, inB_iff] at h1
    omega
  · rw [if_neg k0] at h1
    by_cases k1 : k = 1
    · rw [if_pos k1, inB_iff] at h1
      omega
    · rw [if_neg k1] at h1
      by_cases k2 : k = 2
      · rw [if_pos k2, Bool.and_eq_true, inB_iff] at h1
        omega
      · rw [if_neg k2] at h1
        cases h1
theorem may_under {x : Wd} (h : rightW x = true) (p : Pl) : itB (underN x.wher x.wher.length p) = true := by
  simp only [itB, Bool.and_eq_true, decide_eq_true_eq, List.all_eq_true]
  refine ⟨Nat.le_trans (underN_len _ _ _) (right_lens h).2.2.2.1, fun s hs => ?_⟩
  simp only [underN, List.mem_map, List.mem_filter, List.mem_range] at hs
  obtain ⟨n, ⟨hn, _⟩, rfl⟩ := hs
  exact may_sn h hn
theorem may_pres {x : Wd} (h : rightW x = true) (r : Nat) : plB (presN x x.at_.length r) = true := by
  have h6 := (right_lens h).2.1
  simp only [plB, areB, Bool.and_eq_true, decide_eq_true_eq, List.all_eq_true]
  refine ⟨Nat.le_trans (presN_len _ _ _) (by omega), fun n hn => ?_⟩
  simp only [presN, List.mem_map, List.mem_filter, List.mem_range] at hn
  obtain ⟨m, ⟨hm, _⟩, rfl⟩ := hn
  simp only [okN, Bool.and_eq_true, decide_eq_true_eq]
  omega
theorem may_look {x : Wd} (h : rightW x = true) {i : Nat} (hi : i < x.at_.length) : rmayB (lookR x i) = true := by
  have h1 := (room_at h hi).2
  have h2 := (few_all h).1
  have h3 := may_under h ⟨0, (roomOf x i : Int)⟩
  have h4 := may_pres h (roomOf x i)
  have e : ownR (lookR x i) = lookR x i := by simp [ownR, lookR]
  simp only [rmayB, e, rsameB_refl, someB, rwithinB]
  simp only [lookR, lookN, areB, okN, List.all_cons, List.all_nil, h3, h4]
  simp
  omega
theorem may_have {x : Wd} (h : rightW x = true) {i : Nat} (hi : i < x.at_.length) : rmayB (haveR x i) = true := by
  obtain ⟨hk, ek⟩ := purse_at h hi
  have h1 := (right_in h).2.1 _ (List.getElem_mem hk)
  rw [ek] at h1
  have h3 := may_under h ⟨1, (i : Int)⟩
  have e : ownR (haveR x i) = haveR x i := by simp [ownR, haveR]
  simp only [rmayB, e, rsameB_refl, someB, rwithinB]
  simp only [haveR, ownN, areB, okN, plB, List.all_cons, List.all_nil, h3]
  simp
  omega
/-- Which places are looked at: a room where somebody is, each player. -/
def sS (x : Wd) (p : Pl) : Bool := decide (p.kind = 1) || decide (0 < (presN x x.at_.length p.id.toNat).length)
theorem sS_room {x : Wd} {n : Nat} (h : 0 < (presN x x.at_.length n).length) : sS x ⟨((0 : Nat) : Int), (n : Int)⟩ = true := by
  simp only [sS, Int.toNat_natCast, Bool.or_eq_true, decide_eq_true_eq]
  exact .inr h
theorem sS_none {x : Wd} {n : Nat} (h : ¬ 0 < (presN x x.at_.length n).length) : sS x ⟨((0 : Nat) : Int), (n : Int)⟩ = false := by
  simp only [sS, Int.toNat_natCast, Bool.or_eq_false_iff, decide_eq_false_iff_not]
  exact ⟨by simp, h⟩
theorem sS_player (x : Wd) (n : Nat) : sS x ⟨((1 : Nat) : Int), (n : Int)⟩ = true := by simp [sS]
/-- What was counted when k players of a room have looked: what the first one saw. -/
def tK (x : Wd) (n k : Nat) : Array Value := if k = 0 then tS x.wher (sS x) 0 n 0 else tS x.wher (sS x) 0 (n + 1) 0
theorem tK_zero (x : Wd) (n : Nat) : tK x n 0 = tS x.wher (sS x) 0 n 0 := rfl
theorem tK_end (x : Wd) (n : Nat) : tK x n (presN x x.at_.length n).length = tS x.wher (sS x) 0 (n + 1) 0 := by
  unfold tK
  by_cases h : 0 < (presN x x.at_.length n).length
  · rw [if_neg (by omega)]
  · rw [if_pos (by omega)]
    exact tS_skip (sS_none h)
theorem tK_more (x : Wd) {n k : Nat} (h : ¬ k = 0) : tK x n k = tK x n (k + 1) := by
  unfold tK
  rw [if_neg h, if_neg (by omega)]
theorem tK_first (x : Wd) (n : Nat) : tS x.wher (sS x) 0 n (uI x.wher ⟨((0 : Nat) : Int), (n : Int)⟩).length = tK x n (0 + 1) := by
  unfold tK
  rw [if_neg (by omega)]
  exact tS_end _ _ _ _
/-- Who looks in one room sees the same. -/
theorem look_room {x : Wd} {i k : Nat} (h : roomOf x i = roomOf x k) : lookR x i = lookR x k := by simp only [lookR, lookN, h]
end Go.Proofs.Ytojfichbnnfjpaa
