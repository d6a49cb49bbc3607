/- The document's own May, of descriptions: the mathematics; lengths and caps that may not be. -/
import Derived.Test.YtgmkcddgkgcbbaaGRight
import Derived.Test.YtgmkcddgkgcbbaaGRefD
namespace Go.Proofs.Ytgmkcddgkgcbbaa
open Go.ChangeShapes Go.WideShapes Go.ChangeAt Go.RowKit
set_option linter.unusedVariables false
section
theorem count_floors (xs : List Int) (k : Int) : (floorsL xs).count ⟨0, k⟩ = xs.count k := by
 induction xs with
 | nil => rfl
 | cons x r ih =>
   simp only [floorsL, List.map_cons, List.count_cons] at ih ⊢
   rw [ih]
   congr 1
   simp
/-- The lengths that a description may have. -/
def LensOk (d : Ds) : Prop := 1 ≤ d.exits.length ∧ d.exits.length ≤ 8 ∧ 1 ≤ d.players.length ∧ d.players.length ≤ 6 ∧ d.coins.length = d.players.length ∧ d.items.length ≤ 16 ∧ d.boxes.length = d.items.length
theorem lens_no {d : Ds} (h : ¬ LensOk d) : mayD d = false := by
 rw [Bool.eq_false_iff]; intro hm
 have := may_few hm
 exact h ⟨by omega, by omega, by omega, by omega, by omega, by omega, by omega⟩
theorem in_cap (n : Int) : inB n 65 = capB n := by
 unfold inB capB
 congr 1
 simp; omega
theorem may_split {d : Ds} (h : LensOk d) (hc : capsB [d.room, d.player, d.box] = true) : mayD d = (d.exits.all (exB d.exits.length) && ((ofB d.players d.exits.length && pursesB d.coins) && (ofB d.items d.exits.length && fitB d (floorsL d.items)))) := by
 obtain ⟨h1, h2, h3, h4, h5, h6, h7⟩ := h
 simp only [mayD, roomsB, mayPlB, playersB, mayItB, hc, h5, h7, decide_eq_true h1, decide_eq_true h2, decide_eq_true h3, decide_eq_true h4, decide_eq_true h6, Bool.true_and, decide_true]
theorem caps_no {d : Ds} (hc : capsB [d.room, d.player, d.box] = false) : mayD d = false := by simp [mayD, hc]
/-- No room has more items than it may. -/
def RoomK (d : Ds) (k : Nat) : Prop := ∀ i : Nat, i < k → ((d.items.count (i : Int) : Nat) : Int) ≤ d.room
theorem room_no {d : Ds} {k : Nat} (hr : 0 ≤ d.room) (h : ¬ ((d.items.count (k : Int) : Nat) : Int) ≤ d.room) : fitB d (floorsL d.items) = false := by
 have hm : (⟨0, (k : Int)⟩ : Pl) ∈ floorsL d.items := by
  have : 0 < (floorsL d.items).count ⟨0, k⟩ := by rw [count_floors]; omega
  exact List.count_pos_iff.1 this
 rw [Bool.eq_false_iff]; intro hf
 have := List.all_eq_true.1 hf _ hm
 rw [count_floors] at this
 simp [capOf] at this
 omega
theorem room_yes {d : Ds} (h : RoomK d d.exits.length) (ho : ofB d.items d.exits.length = true) : fitB d (floorsL d.items) = true := by
 simp only [fitB, List.all_eq_true, decide_eq_true_eq]
 intro p hp
 obtain ⟨n, hn, rfl⟩ := List.mem_map.1 hp
 obtain ⟨n0, n1⟩ := (ofB_iff _ _).1 ho n hn
 obtain ⟨m, rfl⟩ : ∃ m : Nat, n = m := ⟨n.toNat, by omega⟩
 rw [count_floors]
 have := h m (by omega)
 simpa [capOf] using this
theorem icnt_yes {xs : List Int} {k : Nat} {p : Int} (hk : k < xs.length) (h : xs[k] = p) : (xs.take (k + 1)).count p = (xs.take k).count p + 1 := by
 rw [List.take_succ_eq_append_getElem hk, List.count_append, h]; simp
theorem icnt_no {xs : List Int} {k : Nat} {p : Int} (hk : k < xs.length) (h : ¬ xs[k] = p) : (xs.take (k + 1)).count p = (xs.take k).count p := by
 rw [List.take_succ_eq_append_getElem hk, List.count_append, show [xs[k]].count p = 0 from List.count_eq_zero.2 (by simpa using fun e => h e.symm)]; rfl
theorem ex_cell (e : Ex) {j : Nat} (hj : j < 4) : (exC e)[j]? = some (.int .i64 (e.get j)) := by
 match j, hj with
 | 0, _ => rfl
 | 1, _ => rfl
 | 2, _ => rfl
 | 3, _ => rfl
end
section
end
section
/-- The lengths that a world may have. -/
def WLens (x : Wd) : Prop := x.at_.length = x.d.players.length ∧ x.coins.length = x.d.players.length ∧ x.wher.length = x.d.items.length
theorem right_no {x : Wd} (h : ¬ (mayD x.d = true ∧ WLens x)) : rightW x = false := by
 rw [Bool.eq_false_iff]; intro hr
 simp only [rightW, playersB, placesB, Bool.and_eq_true, decide_eq_true_eq] at hr
 exact h ⟨hr.1, by omega, by omega, by omega⟩
theorem right_split {x : Wd} (hm : mayD x.d = true) (h : WLens x) : rightW x = ((ofB x.at_ x.d.exits.length && pursesB x.coins) && (x.wher.all (placeB x.d) && (nestB x.wher && fitB x.d x.wher))) := by
 obtain ⟨h1, h2, h3⟩ := h
 simp [rightW, playersB, placesB, hm, h1, h2, h3]
end
end Go.Proofs.Ytgmkcddgkgcbbaa
