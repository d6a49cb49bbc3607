import Derived.Test.YtcabeagmdfpdlaaDoorRows
import Derived.Test.YtcabeagmdfpdlaaDoorKit
import Derived.Test.YtcabeagmdfpdlaaDoorStrs
import Derived.Test.YtcabeagmdfpdlaaDoorJMath
import Derived.Test.YtcabeagmdfpdlaaDoorJCmdA
import Derived.Test.YtcabeagmdfpdlaaDoorJRepMath
import Derived.Test.YtcabeagmdfpdlaaDoorJRepItems
import Derived.Deep.QuietTactic
import Derived.BigQuiet
import Derived.WalkKit
import Derived.ProofKit
import Derived.OpenShut
import Derived.IntWalk
/- reply: numbers, kinds of places, players and items within their limits; the document's own fit, Few. -/
namespace Go.Proofs.YtcabeagmdfpdlaaDoor
open Go.ChangeShapes Go.WideShapes Go.ChangeAt Go.RowKit
set_option linter.unusedVariables false
open Go.RowKit
theorem pkind_any (n : Int) (w : World) : Calls Tryd.prog 54 #[.int .i64 n] w fun e w' => e = .returned (.bool (pkB n)) ∧ w = w' := by
  unfold pkB
  by_cases h1 : 0 ≤ n <;> by_cases h2 : n < 3
  all_goals
    go_enter Tryd.func54, Tryd.ntmps54
    go_wp2_with fail
    go_ret
    exact ⟨by simp [*], rfl⟩
theorem reffit_any (n : Int) (w : World) : Calls Tryd.prog 24 #[.int .i64 n] w fun e w' => e = .returned (.bool (okN n)) ∧ w = w' := by
  unfold okN
  by_cases h1 : 0 ≤ n <;> by_cases h2 : n ≤ 1073741824
  all_goals
    go_enter Tryd.func24, Tryd.ntmps24
    go_wp2_with fail
    go_ret
    exact ⟨by simp [*], rfl⟩
theorem rare_any (a : Option Addr) (cap : Nat) (xs : List Int) (w : World) (h : IntsAt w a xs) :
    Calls Tryd.prog 41 #[.slice a xs.length cap] w fun e w' => e = .returned (.bool (areB xs)) ∧ w = w' := by
  have hl := h.len
  have H := Lib.hid h
  clear h
  go_enter Tryd.func41, Tryd.ntmps41
  go_wp2_with fail
  go_loop [4, 7] (fun _ i => ∃ k : Nat, k ≤ xs.length ∧ i = .int .i64 k ∧ areB (xs.take k) = true) (fun _ i => xs.length - (intOf i).toNat)
  case atStart => exact ⟨0, Nat.zero_le _, rfl, rfl⟩
  case round =>
    obtain ⟨k, hk, rfl, ha⟩ := hrel
    have HA := Lib.hid ha
    clear ha
    by_cases hlt : k < xs.length
    · obtain ⟨b, off, rfl, hb, hc⟩ := H.out.at_ hlt
      have hcell := hc k hlt
      clear hc
      have HS := Lib.hid (areB_snoc hlt HA.out)
      have HN := Lib.hid (areB_no hlt)
      by_cases h0 : 0 ≤ xs[k] <;> by_cases h1 : xs[k] ≤ 1073741824
      · have H2 := Lib.hid (HS.out (by simp [okN, h0, h1]))
        go_wp2_with fail
        go_round
        case rel => exact ⟨k + 1, by omega, by go_num, H2.out⟩
        case measure => simp [intOf]; omega
      all_goals
        have H2 := Lib.hid (HN.out (by simp [okN]; omega))
        go_wp2_with fail
        go_ret
        exact ⟨ret_bool H2.out.symm, rfl⟩
    · have hke : k = xs.length := by omega
      subst hke
      have H2 := Lib.hid (areB_all HA.out)
      go_wp2_with fail
      go_ret
      exact ⟨ret_bool H2.out.symm, rfl⟩
theorem rplayers_any (a : Option Addr) (cap : Nat) (xs : List Int) (w : World) (h : IntsAt w a xs) :
    Calls Tryd.prog 42 #[.slice a xs.length cap] w fun e w' => e = .returned (.bool (plB xs)) ∧ w = w' := by
  have hl := h.len
  have H := Lib.hid h
  clear h
  by_cases h1 : xs.length ≤ 16
  · have HB := Lib.hid (show plB xs = areB xs by simp [plB, h1])
    go_enter Tryd.func42, Tryd.ntmps42
    go_wp2_with fail
    refine (rare_any a cap xs _ H.out).mono ?_
    rintro e w' ⟨rfl, rfl⟩
    go_wp2_with fail
    go_ret
    exact ⟨ret_bool HB.out.symm, rfl⟩
  · have HB := Lib.hid (show plB xs = false by simp [plB]; omega)
    go_enter Tryd.func42, Tryd.ntmps42
    go_wp2_with fail
    go_ret
    exact ⟨ret_bool HB.out.symm, rfl⟩
theorem ints_pair (x y : Int) (w : World) : IntsAt (w.alloc (.cells #[.int .i64 x, .int .i64 y] 3)) (some ⟨w.heap.size, 0, none⟩) [x, y] := by
  refine ⟨by simp [maxLen], .inr ⟨w.heap.size, 0, rfl, by simp, fun i hi => ?_⟩⟩
  rw [World.cell?_alloc_at _ _ _ _ rfl]
  match i, hi with
  | 0, _ => rfl
  | 1, _ => rfl
theorem rare_two (n : Nat) (x y : Int) (w : World) (hn : n = w.heap.size) : Calls Tryd.prog 41 #[.slice (some ⟨n, 0, none⟩) 2 2] (w.alloc (.cells #[.int .i64 x, .int .i64 y] 3)) fun e' w' => e' = .returned (.bool (areB [x, y])) ∧ (w.alloc (.cells #[.int .i64 x, .int .i64 y] 3)) = w' := by
  subst hn
  exact rare_any (some ⟨w.heap.size, 0, none⟩) 2 [x, y] _ (ints_pair x y w)
theorem snall_snoc {xs : List Sn} {k : Nat} (h : k < xs.length) (ha : (xs.take k).all snB = true) (hk : snB xs[k] = true) : (xs.take (k + 1)).all snB = true := by
  rw [List.take_succ_eq_append_getElem h, List.all_append, ha, Bool.true_and]
  simpa using hk
theorem snall_no {xs : List Sn} {k : Nat} (h : k < xs.length) (hk : snB xs[k] = false) : xs.all snB = false := by
  rw [Bool.eq_false_iff]; intro h2
  have := List.all_eq_true.1 h2 xs[k] (List.getElem_mem h)
  rw [hk] at this; cases this
theorem snall_all {xs : List Sn} (h : (xs.take xs.length).all snB = true) : xs.all snB = true := by
  rwa [List.take_of_length_le (Nat.le_refl _)] at h
theorem ritems_any (a : Option Addr) (cap : Nat) (xs : List Sn) (w : World) (h : SnsAt w a xs) :
    Calls Tryd.prog 43 #[.slice a xs.length cap] w fun e w' => e = .returned (.bool (itB xs)) ∧ Below w.heap.size w w' := by
  have hl := h.len
  have H := Lib.hid h
  clear h
  by_cases h16 : xs.length ≤ 16
  · have HB := Lib.hid (show itB xs = xs.all snB by simp [itB, h16])
    go_enter Tryd.func43, Tryd.ntmps43
    go_wp2_with fail
    go_loopw [4, 10] (fun _ i wr => ∃ k : Nat, k ≤ xs.length ∧ i = .int .i64 k ∧ (xs.take k).all snB = true ∧ Below w.heap.size w wr) (fun _ i _ => xs.length - (intOf i).toNat)
    case atStart => exact ⟨0, Nat.zero_le _, rfl, rfl, Below.refl _ _⟩
    case round =>
      obtain ⟨k, hk, rfl, ha, hbel⟩ := hrel
      have HA := Lib.hid ha
      clear ha
      by_cases hlt : k < xs.length
      · obtain ⟨xb, xo, rfl, hxb, hxc⟩ := H.out.at_ hlt
        obtain ⟨x1, x2, x3⟩ := hxc k hlt
        have h1 := (hbel.cell (p := ⟨xb, xo + k * 3, none⟩) hxb).trans x1
        have h2 := (hbel.cell (p := ⟨xb, xo + k * 3 + 1, none⟩) hxb).trans x2
        have h3 := (hbel.cell (p := ⟨xb, xo + k * 3 + 2, none⟩) hxb).trans x3
        have HE := Lib.hid hbel
        clear hxc x1 x2 x3 hbel
        have HS := Lib.hid (snall_snoc hlt HA.out)
        have HN := Lib.hid (snall_no hlt)
        generalize xs[k] = x at *
        obtain ⟨xi, xk, xd⟩ := x
        cases p1 : pkB xk
        · have P1 := Lib.hid p1
          have H2 := Lib.hid (HN.out (by simp [snB, p1]))
          clear p1
          go_wp2_with fail
          refine (pkind_any _ _).mono ?_
          rintro e w' ⟨rfl, rfl⟩
          rw [P1.out]
          go_wp2_with fail
          go_ret
          exact ⟨ret_bool (by rw [HB.out, H2.out]), HE.out.alloc HE.out.size _⟩
        · cases p2 : areB [xi, xd]
          · have P1 := Lib.hid p1
            have P2 := Lib.hid p2
            have H2 := Lib.hid (HN.out (by simp [areB] at p2; simp [snB]; intros; simp_all))
            clear p1 p2
            go_wp2_with fail
            refine (pkind_any _ _).mono ?_
            rintro e w' ⟨rfl, rfl⟩
            rw [P1.out]
            go_wp2_with fail
            refine (rare_two _ _ _ _ (by simp)).mono ?_
            rintro e w' ⟨rfl, rfl⟩
            rw [P2.out]
            go_wp2_with fail
            go_ret
            exact ⟨ret_bool (by rw [HB.out, H2.out]), (HE.out.alloc HE.out.size _).alloc (by have := HE.out.size; simp; omega) _⟩
          · have P1 := Lib.hid p1
            have P2 := Lib.hid p2
            have H2 := Lib.hid (HS.out (by simp [areB] at p2; simp [snB, p1, p2]))
            clear p1 p2
            go_wp2_with fail
            refine (pkind_any _ _).mono ?_
            rintro e w' ⟨rfl, rfl⟩
            rw [P1.out]
            go_wp2_with fail
            refine (rare_two _ _ _ _ (by simp)).mono ?_
            rintro e w' ⟨rfl, rfl⟩
            rw [P2.out]
            go_wp2_with fail
            go_roundw
            case rel => exact ⟨k + 1, by omega, by go_num, H2.out, (HE.out.alloc HE.out.size _).alloc (by have := HE.out.size; simp; omega) _⟩
            case measure => simp [intOf]; omega
      · have hke : k = xs.length := by omega
        subst hke
        have H2 := Lib.hid (snall_all HA.out)
        go_wp2_with fail
        go_ret
        exact ⟨ret_bool (by rw [HB.out, H2.out]), hbel⟩
  · have HB := Lib.hid (show itB xs = false by simp [itB]; omega)
    go_enter Tryd.func43, Tryd.ntmps43
    go_wp2_with fail
    go_ret
    exact ⟨ret_bool HB.out.symm, Below.refl _ _⟩
end Go.Proofs.YtcabeagmdfpdlaaDoor
