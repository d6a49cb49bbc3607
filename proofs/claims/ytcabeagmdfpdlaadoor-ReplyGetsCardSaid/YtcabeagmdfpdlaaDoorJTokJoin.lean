import Derived.Test.YtcabeagmdfpdlaaDoorRows
import Derived.Test.YtcabeagmdfpdlaaDoorKit
import Derived.Test.YtcabeagmdfpdlaaDoorJMath
import Derived.Test.YtcabeagmdfpdlaaDoorJNum
import Derived.Test.YtcabeagmdfpdlaaDoorJCut
import Derived.Test.YtcabeagmdfpdlaaDoorShelf
import Derived.WalkKit
import Derived.ProofKit
import Derived.OpenShut
import Derived.IntWalk
/- token: Join, by the code and by the document's own definition. -/
namespace Go.Proofs.YtcabeagmdfpdlaaDoor
open Go.ChangeShapes Go.WideShapes Go.ChangeAt Go.RowKit
set_option linter.unusedVariables false
open Go.RowKit

/-- How many bytes words have, and the gaps between. -/
def sizes (xs : List (List UInt8)) : Nat := (xs.map fun x => x.length + 1).sum
theorem glue_snoc (xs : List (List UInt8)) (y : List UInt8) : glue (xs ++ [y]) = if xs = [] then y else glue xs ++ 32 :: y := by
  induction xs with
  | nil => rfl
  | cons x r ih =>
    cases r with
    | nil => rfl
    | cons z r =>
      show x ++ 32 :: glue ((z :: r) ++ [y]) = _
      rw [ih, if_neg (by simp), if_neg (by simp)]
      simp [glue]
theorem glue_len (xs : List (List UInt8)) : (glue xs).length ≤ sizes xs := by
  induction xs with
  | nil => simp [glue]
  | cons x r ih =>
    cases r with
    | nil => simp [glue, sizes]
    | cons y r =>
      have e : (glue (x :: y :: r)).length = x.length + 1 + (glue (y :: r)).length := by simp [glue]; omega
      rw [e]; simp only [sizes, List.map_cons, List.sum_cons] at ih ⊢; omega
theorem sizes_take (xs : List (List UInt8)) (k : Nat) : sizes (xs.take k) ≤ sizes xs := by
  have : sizes (xs.take k) + sizes (xs.drop k) = sizes xs := by
    unfold sizes; rw [← List.sum_append, ← List.map_append, List.take_append_drop]
  omega
theorem glue_take_succ (xs : List (List UInt8)) (k : Nat) (h : k < xs.length) : glue (xs.take (k + 1)) = if k = 0 then xs[k] else glue (xs.take k) ++ 32 :: xs[k] := by
  rw [List.take_succ_eq_append_getElem h, glue_snoc]
  by_cases h0 : k = 0
  · subst h0; simp
  · have : xs.take k ≠ [] := by intro e; have := congrArg List.length e; rw [List.length_take, List.length_nil] at this; omega
    rw [if_neg this, if_neg h0]

theorem join_any {xs : List (List UInt8)} {v : Value} (w : World) (h : Strs w v xs) (hs : sizes xs ≤ 140737488355328) :
    Calls Tryd.prog 18 #[v] w fun e w' => e = .returned (str (glue xs)) ∧ Below w.heap.size w w' := by
  obtain ⟨a, ca, rfl, hl, ha⟩ := h
  unfold maxLen at hl
  have H1 := Lib.hid ha
  clear ha
  have hfresh := Lib.fresh_isBuilder 66 5 w
  go_enter Tryd.func18, Tryd.ntmps18
  go_wp2_with fail
  go_loopw [8] (fun i wr => ∃ k : Nat, k ≤ xs.length ∧ i = .int .i64 k ∧ Lib.IsBuilder 66 5 w.heap.size w.heap.size (Lib.byteCells (glue (xs.take k))) wr ∧ Below w.heap.size w wr) (fun i _ => xs.length - (intOf i).toNat)
  case atStart => exact ⟨0, Nat.zero_le _, rfl, by simpa [glue, Lib.byteCells] using hfresh, (Below.refl _ _).alloc (Nat.le_refl _) _⟩
  case round =>
    clear hfresh
    obtain ⟨k, hk, rfl, hB, hbel⟩ := hrel
    have HB := Lib.hid hB
    have HS := Lib.hid hbel.size
    clear hB
    by_cases hlt : k < xs.length
    · obtain ⟨xb, xo, rfl, hxb, hxc⟩ : ∃ b off, a = some ⟨b, off, none⟩ ∧ b < w.heap.size ∧ ∀ i (hi : i < xs.length), w.cell? ⟨b, off + i, none⟩ = some (str xs[i]) := by
        rcases H1.out with h | h
        · subst h; simp at hlt
        · exact h
      have h1 := (hbel.cell (p := ⟨xb, xo + k, none⟩) hxb).trans (hxc k hlt)
      clear hxc H1
      have hg := glue_take_succ xs k hlt
      have hz1 := glue_len (xs.take (k + 1))
      have hz2 := sizes_take xs (k + 1)
      rw [hg] at hz1
      have HG := Lib.hid hg
      clear hg
      generalize xs[k] = x at *
      generalize hg0 : glue (xs.take k) = g at *
      have HG0 := Lib.hid hg0
      clear hg0
      unfold str at h1
      by_cases h0 : k = 0
      · subst h0
        have hg0 : g = [] := by rw [← HG0.out]; rfl
        subst hg0
        rw [if_pos rfl] at hz1
        rw [Nat.add_zero] at h1
        go_wp2_with fail
        refine (Tryd.Builder_WriteString w.heap.size w.heap.size _ ⟨x.toArray⟩ _ HB.out (by simp [Lib.byteCells, ByteArray.size]; omega) HS.out).mono ?_
        rintro e w1 ⟨rfl, hB1, hb1⟩
        have HB1 := Lib.hid hB1
        clear hB1
        go_wp2_with fail
        go_roundw
        case rel => exact ⟨1, by omega, by go_num, .inr (by rw [HG.out]; simpa [Lib.byteCells, Lib.strCells] using HB1.out), hbel.trans hb1⟩
        case measure => simp [intOf]; omega
      · rw [if_neg h0] at hz1
        simp only [List.length_append, List.length_cons] at hz1
        go_wp2_with fail
        refine (Tryd.Builder_WriteString w.heap.size w.heap.size _ ⟨#[32]⟩ _ HB.out (by simp [Lib.byteCells, ByteArray.size]; omega) HS.out).mono ?_
        rintro e w1 ⟨rfl, hB1, hb1⟩
        have HB1 := Lib.hid hB1
        have HS1 := Lib.hid hb1.size
        clear hB1
        go_wp2_with fail
        refine (Tryd.Builder_WriteString w.heap.size w.heap.size _ ⟨x.toArray⟩ _ (.inr HB1.out) (by simp [Lib.byteCells, Lib.strCells, ByteArray.size]; omega) (by have := HS.out; have := HS1.out; omega)).mono ?_
        rintro e w2 ⟨rfl, hB2, hb2⟩
        have HB2 := Lib.hid hB2
        clear hB2
        go_wp2_with fail
        go_roundw
        case rel => exact ⟨k + 1, by omega, by go_num, .inr (by rw [HG.out, if_neg h0]; simpa [Lib.byteCells, Lib.strCells] using HB2.out), (hbel.trans hb1).trans hb2⟩
        case measure => simp [intOf]; omega
    · have hke : k = xs.length := by omega
      subst hke
      have HE := Lib.hid (show glue (xs.take xs.length) = glue xs by rw [List.take_of_length_le (Nat.le_refl _)])
      rw [HE.out] at HB
      clear H1
      go_wp2_with fail
      refine (Tryd.Builder_String_any w.heap.size w.heap.size _ _ HB.out HS.out).mono ?_
      rintro e w1 ⟨rfl, hb1⟩
      go_wp2_with fail
      go_ret
      exact ⟨rfl, hbel.trans hb1⟩
end Go.Proofs.YtcabeagmdfpdlaaDoor
