/- The document's own May, of descriptions: the mathematics; lengths and caps that may not be. -/
import Derived.Test.YtkhjmgedamndhaaRows
import Derived.Test.YtkhjmgedamndhaaKit
import Derived.Test.YtkhjmgedamndhaaStrs
import Derived.Test.YtkhjmgedamndhaaCoin
import Derived.Test.YtkhjmgedamndhaaBlk
import Derived.Test.YtkhjmgedamndhaaHolds
import Derived.Test.YtkhjmgedamndhaaWorldMath
import Derived.Test.YtkhjmgedamndhaaWorldAt
import Derived.Test.YtkhjmgedamndhaaDescA
import Derived.Test.YtkhjmgedamndhaaDescRooms
import Derived.Test.YtkhjmgedamndhaaDescMay
import Derived.Test.YtkhjmgedamndhaaDescRight
import Derived.Deep.QuietTactic
import Derived.BigQuiet
import Derived.WalkKit
import Derived.ProofKit
import Derived.OpenShut
import Derived.IntWalk
namespace Go.Proofs.Ytkhjmgedamndhaa
open Go.ChangeShapes Go.WideShapes Go.ChangeAt Go.RowKit
set_option linter.unusedVariables false
open Go.RowKit
theorem count_floors (xs : List Int) (k : Int) : (floorsL xs).count ⟨0, k⟩ = xs.count k := by
  induction xs with
  | nil => rfl
  | cons x r ih =>
    simp only [floorsL, List.map_cons, List.count_cons] at ih ⊢
    rw [ih]
    congr 1
    simp
/-- The lengths that a description may have. -/
def LensOk (d : Ds) : Prop := 1 ≤ d.exits.length ∧ d.exits.length ≤ 8 ∧ 1 ≤ d.players.length ∧ d.players.length ≤ 6 ∧ d.coins.length = d.players.length ∧ d.items.length ≤ 16 ∧ d.boxes.length = d.items.length
theorem lens_no {d : Ds} (h : ¬ LensOk d) : mayD d = false := by
  rw [Bool.eq_false_iff]; intro hm
  have := may_few hm
  exact h ⟨by omega, by omega, by omega, by omega, by omega, by omega, by omega⟩
theorem in_cap (n : Int) : inB n 65 = capB n := by
  unfold inB capB
  congr 1
  simp; omega
theorem may_split {d : Ds} (h : LensOk d) (hc : capsB [d.room, d.player, d.box] = true) : mayD d = (d.exits.all (exB d.exits.length) && ((ofB d.players d.exits.length && pursesB d.coins) && (ofB d.items d.exits.length && fitB d (floorsL d.items)))) := by
  obtain ⟨h1, h2, h3, h4, h5, h6, h7⟩ := h
  simp only [mayD, roomsB, mayPlB, playersB, mayItB, hc, h5, h7, decide_eq_true h1, decide_eq_true h2, decide_eq_true h3, decide_eq_true h4, decide_eq_true h6, Bool.true_and, decide_true]
theorem caps_no {d : Ds} (hc : capsB [d.room, d.player, d.box] = false) : mayD d = false := by simp [mayD, hc]
/-- No room has more items than it may. -/
def RoomK (d : Ds) (k : Nat) : Prop := ∀ i : Nat, i < k → ((d.items.count (i : Int) : Nat) : Int) ≤ d.room
theorem room_no {d : Ds} {k : Nat} (hr : 0 ≤ d.room) (h : ¬ ((d.items.count (k : Int) : Nat) : Int) ≤ d.room) : fitB d (floorsL d.items) = false := by
  have hm : (⟨0, (k : Int)⟩ : Pl) ∈ floorsL d.items := by
    have : 0 < (floorsL d.items).count ⟨0, k⟩ := by rw [count_floors]; omega
    exact List.count_pos_iff.1 this
  rw [Bool.eq_false_iff]; intro hf
  have := List.all_eq_true.1 hf _ hm
  rw [count_floors] at this
  simp [capOf] at this
  omega
theorem room_yes {d : Ds} (h : RoomK d d.exits.length) (ho : ofB d.items d.exits.length = true) : fitB d (floorsL d.items) = true := by
  simp only [fitB, List.all_eq_true, decide_eq_true_eq]
  intro p hp
  obtain ⟨n, hn, rfl⟩ := List.mem_map.1 hp
  obtain ⟨n0, n1⟩ := (ofB_iff _ _).1 ho n hn
  obtain ⟨m, rfl⟩ : ∃ m : Nat, n = m := ⟨n.toNat, by omega⟩
  rw [count_floors]
  have := h m (by omega)
  simpa [capOf] using this
theorem icnt_yes {xs : List Int} {k : Nat} {p : Int} (hk : k < xs.length) (h : xs[k] = p) : (xs.take (k + 1)).count p = (xs.take k).count p + 1 := by
  rw [List.take_succ_eq_append_getElem hk, List.count_append, h]; simp
theorem icnt_no {xs : List Int} {k : Nat} {p : Int} (hk : k < xs.length) (h : ¬ xs[k] = p) : (xs.take (k + 1)).count p = (xs.take k).count p := by
  rw [List.take_succ_eq_append_getElem hk, List.count_append, show [xs[k]].count p = 0 from List.count_eq_zero.2 (by simpa using fun e => h e.symm)]; rfl
theorem ex_cell (e : Ex) {j : Nat} (hj : j < 4) : (exC e)[j]? = some (.int .i64 (e.get j)) := by
  match j, hj with
  | 0, _ => rfl
  | 1, _ => rfl
  | 2, _ => rfl
  | 3, _ => rfl
set_option maxRecDepth 100000 in
theorem refmay_lens (d : Ds) (p : Dp) (w : World) (hn : ¬ LensOk d) : Calls Try.prog 24 #[.agg #[.slice p.ex d.exits.length p.exc, .slice p.pl d.players.length p.plc, .slice p.co d.coins.length p.coc, .slice p.it d.items.length p.itc, .slice p.bo d.boxes.length p.boc, .int .i64 d.room, .int .i64 d.player, .int .i64 d.box]] w fun e w' => e = .returned (.bool (mayD d)) ∧ Below w.heap.size w w' := by
  have HR := Lib.hid (lens_no hn)
  have HB := Lib.hid ((Below.refl w.heap.size w).alloc (Nat.le_refl _) (.cells #[.slice p.ex d.exits.length p.exc, .slice p.pl d.players.length p.plc, .slice p.co d.coins.length p.coc, .slice p.it d.items.length p.itc, .slice p.bo d.boxes.length p.boc, .int .i64 d.room, .int .i64 d.player, .int .i64 d.box] 26))
  by_cases e0 : d.exits.length < 1
  · have q0 : ((d.exits.length : Int) < 1) := by omega
    clear hn e0
    go_enter Try.func24, Try.ntmps24
    go_wp2_with fail
    go_ret
    exact ⟨ret_bool HR.out.symm, HB.out⟩
  by_cases e1 : 8 < d.exits.length
  · have q1 : ((8 : Int) < d.exits.length) := by omega
    have q0 : ¬ ((d.exits.length : Int) < 1) := by omega
    clear hn e0 e1
    go_enter Try.func24, Try.ntmps24
    go_wp2_with fail
    go_ret
    exact ⟨ret_bool HR.out.symm, HB.out⟩
  by_cases e2 : d.players.length < 1
  · have q2 : ((d.players.length : Int) < 1) := by omega
    have q0 : ¬ ((d.exits.length : Int) < 1) := by omega
    have q1 : ¬ ((8 : Int) < d.exits.length) := by omega
    clear hn e0 e1 e2
    go_enter Try.func24, Try.ntmps24
    go_wp2_with fail
    go_ret
    exact ⟨ret_bool HR.out.symm, HB.out⟩
  by_cases e3 : 6 < d.players.length
  · have q3 : ((6 : Int) < d.players.length) := by omega
    have q0 : ¬ ((d.exits.length : Int) < 1) := by omega
    have q1 : ¬ ((8 : Int) < d.exits.length) := by omega
    have q2 : ¬ ((d.players.length : Int) < 1) := by omega
    clear hn e0 e1 e2 e3
    go_enter Try.func24, Try.ntmps24
    go_wp2_with fail
    go_ret
    exact ⟨ret_bool HR.out.symm, HB.out⟩
  by_cases e4 : ¬ d.coins.length = d.players.length
  · have q4 : ((d.coins.length : Int) != (d.players.length : Int)) = true := by simp; omega
    have q0 : ¬ ((d.exits.length : Int) < 1) := by omega
    have q1 : ¬ ((8 : Int) < d.exits.length) := by omega
    have q2 : ¬ ((d.players.length : Int) < 1) := by omega
    have q3 : ¬ ((6 : Int) < d.players.length) := by omega
    clear hn e0 e1 e2 e3 e4
    go_enter Try.func24, Try.ntmps24
    go_wp2_with fail
    go_ret
    exact ⟨ret_bool HR.out.symm, HB.out⟩
  by_cases e5 : 16 < d.items.length
  · have q5 : ((16 : Int) < d.items.length) := by omega
    have q0 : ¬ ((d.exits.length : Int) < 1) := by omega
    have q1 : ¬ ((8 : Int) < d.exits.length) := by omega
    have q2 : ¬ ((d.players.length : Int) < 1) := by omega
    have q3 : ¬ ((6 : Int) < d.players.length) := by omega
    have q4 : ((d.coins.length : Int) != (d.players.length : Int)) = false := by simp; omega
    clear hn e0 e1 e2 e3 e4 e5
    go_enter Try.func24, Try.ntmps24
    go_wp2_with fail
    go_ret
    exact ⟨ret_bool HR.out.symm, HB.out⟩
  by_cases e6 : ¬ d.boxes.length = d.items.length
  · have q6 : ((d.boxes.length : Int) != (d.items.length : Int)) = true := by simp; omega
    have q0 : ¬ ((d.exits.length : Int) < 1) := by omega
    have q1 : ¬ ((8 : Int) < d.exits.length) := by omega
    have q2 : ¬ ((d.players.length : Int) < 1) := by omega
    have q3 : ¬ ((6 : Int) < d.players.length) := by omega
    have q4 : ((d.coins.length : Int) != (d.players.length : Int)) = false := by simp; omega
    have q5 : ¬ ((16 : Int) < d.items.length) := by omega
    clear hn e0 e1 e2 e3 e4 e5 e6
    go_enter Try.func24, Try.ntmps24
    go_wp2_with fail
    go_ret
    exact ⟨ret_bool HR.out.symm, HB.out⟩
  exact absurd ⟨by omega, by omega, by omega, by omega, by omega, by omega, by omega⟩ hn
set_option maxRecDepth 100000 in
theorem refmay_caps (d : Ds) (p : Dp) (w : World) (hn : LensOk d) (hc : capsB [d.room, d.player, d.box] = false) : Calls Try.prog 24 #[.agg #[.slice p.ex d.exits.length p.exc, .slice p.pl d.players.length p.plc, .slice p.co d.coins.length p.coc, .slice p.it d.items.length p.itc, .slice p.bo d.boxes.length p.boc, .int .i64 d.room, .int .i64 d.player, .int .i64 d.box]] w fun e w' => e = .returned (.bool (mayD d)) ∧ Below w.heap.size w w' := by
  have HR := Lib.hid (caps_no hc)
  have HB := Lib.hid ((Below.refl w.heap.size w).alloc (Nat.le_refl _) (.cells #[.slice p.ex d.exits.length p.exc, .slice p.pl d.players.length p.plc, .slice p.co d.coins.length p.coc, .slice p.it d.items.length p.itc, .slice p.bo d.boxes.length p.boc, .int .i64 d.room, .int .i64 d.player, .int .i64 d.box] 26))
  obtain ⟨h1, h2, h3, h4, h5, h6, h7⟩ := hn
  have q0 : ¬ ((d.exits.length : Int) < 1) := by omega
  have q1 : ¬ ((8 : Int) < d.exits.length) := by omega
  have q2 : ¬ ((d.players.length : Int) < 1) := by omega
  have q3 : ¬ ((6 : Int) < d.players.length) := by omega
  have q4 : ((d.coins.length : Int) != (d.players.length : Int)) = false := by simp; omega
  have q5 : ¬ ((16 : Int) < d.items.length) := by omega
  have q6 : ((d.boxes.length : Int) != (d.items.length : Int)) = false := by simp; omega
  clear h1 h2 h3 h4 h5 h6 h7
  simp only [capsB, List.all_cons, List.all_nil, Bool.and_true] at hc
  cases x1 : capB d.room
  · have X1 := Lib.hid ((in_cap d.room).trans x1)
    clear x1 hc
    go_enter Try.func24, Try.ntmps24
    go_wp2_with fail
    refine (refin_any _ _ _).mono ?_
    rintro e w' ⟨rfl, rfl⟩
    rw [X1.out]
    go_wp2_with fail
    go_ret
    exact ⟨ret_bool HR.out.symm, HB.out⟩
  cases x2 : capB d.player
  · have X1 := Lib.hid ((in_cap d.room).trans x1)
    have X2 := Lib.hid ((in_cap d.player).trans x2)
    clear x1 x2 hc
    go_enter Try.func24, Try.ntmps24
    go_wp2_with fail
    refine (refin_any _ _ _).mono ?_
    rintro e w' ⟨rfl, rfl⟩
    rw [X1.out]
    go_wp2_with fail
    refine (refin_any _ _ _).mono ?_
    rintro e w' ⟨rfl, rfl⟩
    rw [X2.out]
    go_wp2_with fail
    go_ret
    exact ⟨ret_bool HR.out.symm, HB.out⟩
  cases x3 : capB d.box
  · have X1 := Lib.hid ((in_cap d.room).trans x1)
    have X2 := Lib.hid ((in_cap d.player).trans x2)
    have X3 := Lib.hid ((in_cap d.box).trans x3)
    clear x1 x2 x3 hc
    go_enter Try.func24, Try.ntmps24
    go_wp2_with fail
    refine (refin_any _ _ _).mono ?_
    rintro e w' ⟨rfl, rfl⟩
    rw [X1.out]
    go_wp2_with fail
    refine (refin_any _ _ _).mono ?_
    rintro e w' ⟨rfl, rfl⟩
    rw [X2.out]
    go_wp2_with fail
    refine (refin_any _ _ _).mono ?_
    rintro e w' ⟨rfl, rfl⟩
    rw [X3.out]
    go_wp2_with fail
    go_ret
    exact ⟨ret_bool HR.out.symm, HB.out⟩
  rw [x1, x2, x3] at hc
  cases hc
end Go.Proofs.Ytkhjmgedamndhaa
