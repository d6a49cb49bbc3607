/- desc: numbers that are one of so many, purses, caps, rooms. By the code; and the document's own 'in'. -/
import Derived.Test.YtniblphklgbpnaaRows
import Derived.Test.YtniblphklgbpnaaKit
import Derived.Test.YtniblphklgbpnaaStrs
import Derived.Test.YtniblphklgbpnaaCoin
import Derived.Test.YtniblphklgbpnaaBlk
import Derived.Test.YtniblphklgbpnaaWorldMath
import Derived.Test.YtniblphklgbpnaaWorldAt
import Derived.Deep.QuietTactic
import Derived.BigQuiet
import Derived.WalkKit
import Derived.ProofKit
import Derived.OpenShut
import Derived.IntWalk
namespace Go.Proofs.Ytniblphklgbpnaa
open Go.ChangeShapes Go.WideShapes Go.ChangeAt Go.RowKit
set_option linter.unusedVariables false
open Go.RowKit
theorem isof_any (n m : Int) (w : World) : Calls Try.prog 42 #[.int .i64 n, .int .i64 m] w fun e w' => e = .returned (.bool (inB n m)) ∧ w = w' := by
  unfold inB
  by_cases h1 : 0 ≤ n
  · by_cases h2 : n < m
    ·
      go_enter Try.func42, Try.ntmps42
      go_wp2_with fail
      go_ret
      exact ⟨ret_bool (by simp [h1, h2]), rfl⟩
    ·
      go_enter Try.func42, Try.ntmps42
      go_wp2_with fail
      go_ret
      exact ⟨ret_bool (by simp [h1, h2]), rfl⟩
  ·
    go_enter Try.func42, Try.ntmps42
    go_wp2_with fail
    go_ret
    exact ⟨ret_bool (by simp; omega), rfl⟩
theorem refin_any (n m : Int) (w : World) : Calls Try.prog 26 #[.int .i64 n, .int .i64 m] w fun e w' => e = .returned (.bool (inB n m)) ∧ w = w' := by
  unfold inB
  by_cases h1 : 0 ≤ n
  · by_cases h2 : n < m
    ·
      go_enter Try.func26, Try.ntmps26
      go_wp2_with fail
      go_ret
      exact ⟨ret_bool (by simp [h1, h2]), rfl⟩
    ·
      go_enter Try.func26, Try.ntmps26
      go_wp2_with fail
      go_ret
      exact ⟨ret_bool (by simp [h1, h2]), rfl⟩
  ·
    go_enter Try.func26, Try.ntmps26
    go_wp2_with fail
    go_ret
    exact ⟨ret_bool (by simp; omega), rfl⟩
theorem areof_any (a : Option Addr) (c : Nat) (xs : List Int) (m : Int) (w : World) (h : IntsAt w a xs) : Calls Try.prog 43 #[.slice a xs.length c, .int .i64 m] w fun e w' => e = .returned (.bool (ofB xs m)) ∧ w = w' := by
  have hm := h.len
  have H := Lib.hid h
  clear h
  go_enter Try.func43, Try.ntmps43
  go_wp2_with fail
  go_loopw [6, 9] (fun _ i wr => ∃ k : Nat, k ≤ xs.length ∧ i = .int .i64 k ∧ (xs.take k).all (fun n => inB n m) = true ∧ w = wr) (fun _ i _ => xs.length - (intOf i).toNat)
  case atStart => exact ⟨0, Nat.zero_le _, rfl, rfl, rfl⟩
  case round =>
    obtain ⟨k, hk, rfl, htk, rfl⟩ := hrel
    have HT := Lib.hid htk
    clear htk
    by_cases hlt : k < xs.length
    · obtain ⟨b, o, rfl, hb, hc⟩ := H.out.at_ hlt
      have h1 := hc k hlt
      clear hc H
      have HF := Lib.hid (all_take_succ (fun n => inB n m) hlt HT.out)
      have HN := Lib.hid (all_not (fun n => inB n m) hlt)
      generalize xs[k] = x at *
      cases hx : inB x m
      · have HX := Lib.hid hx
        clear hx
        go_wp2_with fail
        refine (isof_any _ _ _).mono ?_
        rintro e w' ⟨rfl, rfl⟩
        rw [HX.out]
        go_wp2_with fail
        go_ret
        exact ⟨ret_bool (HN.out HX.out).symm, rfl⟩
      · have HX := Lib.hid hx
        clear hx
        go_wp2_with fail
        refine (isof_any _ _ _).mono ?_
        rintro e w' ⟨rfl, rfl⟩
        rw [HX.out]
        go_wp2_with fail
        go_roundw
        case rel => exact ⟨k + 1, by omega, by go_num, HF.out HX.out, by trivial⟩
        case measure => simp [intOf]; omega
    · have hke : k = xs.length := by omega
      subst hke
      have HD := Lib.hid (all_whole _ HT.out)
      clear H
      go_wp2_with fail
      go_ret
      exact ⟨ret_bool HD.out.symm, rfl⟩
theorem arepurses_any (a : Option Addr) (c : Nat) (xs : List Int) (w : World) (h : IntsAt w a xs) : Calls Try.prog 44 #[.slice a xs.length c] w fun e w' => e = .returned (.bool (pursesB xs)) ∧ w = w' := by
  have hm := h.len
  have H := Lib.hid h
  clear h
  go_enter Try.func44, Try.ntmps44
  go_wp2_with fail
  go_loopw [4, 7] (fun _ i wr => ∃ k : Nat, k ≤ xs.length ∧ i = .int .i64 k ∧ (xs.take k).all isB = true ∧ w = wr) (fun _ i _ => xs.length - (intOf i).toNat)
  case atStart => exact ⟨0, Nat.zero_le _, rfl, rfl, rfl⟩
  case round =>
    obtain ⟨k, hk, rfl, htk, rfl⟩ := hrel
    have HT := Lib.hid htk
    clear htk
    by_cases hlt : k < xs.length
    · obtain ⟨b, o, rfl, hb, hc⟩ := H.out.at_ hlt
      have h1 := hc k hlt
      clear hc H
      have HF := Lib.hid (all_take_succ isB hlt HT.out)
      have HN := Lib.hid (all_not isB hlt)
      generalize xs[k] = x at *
      cases hx : isB x
      · have HX := Lib.hid hx
        clear hx
        go_wp2_with fail
        refine (is_any _ _).mono ?_
        rintro e w' ⟨rfl, rfl⟩
        rw [HX.out]
        go_wp2_with fail
        go_ret
        exact ⟨ret_bool (HN.out HX.out).symm, rfl⟩
      · have HX := Lib.hid hx
        clear hx
        go_wp2_with fail
        refine (is_any _ _).mono ?_
        rintro e w' ⟨rfl, rfl⟩
        rw [HX.out]
        go_wp2_with fail
        go_roundw
        case rel => exact ⟨k + 1, by omega, by go_num, HF.out HX.out, by trivial⟩
        case measure => simp [intOf]; omega
    · have hke : k = xs.length := by omega
      subst hke
      have HD := Lib.hid (all_whole _ HT.out)
      clear H
      go_wp2_with fail
      go_ret
      exact ⟨ret_bool HD.out.symm, rfl⟩
theorem arecaps_any (a : Option Addr) (c : Nat) (xs : List Int) (w : World) (h : IntsAt w a xs) : Calls Try.prog 24 #[.slice a xs.length c] w fun e w' => e = .returned (.bool (capsB xs)) ∧ w = w' := by
  have hm := h.len
  have H := Lib.hid h
  clear h
  go_enter Try.func24, Try.ntmps24
  go_wp2_with fail
  go_loopw [4, 7] (fun _ i wr => ∃ k : Nat, k ≤ xs.length ∧ i = .int .i64 k ∧ (xs.take k).all capB = true ∧ w = wr) (fun _ i _ => xs.length - (intOf i).toNat)
  case atStart => exact ⟨0, Nat.zero_le _, rfl, rfl, rfl⟩
  case round =>
    obtain ⟨k, hk, rfl, htk, rfl⟩ := hrel
    have HT := Lib.hid htk
    clear htk
    by_cases hlt : k < xs.length
    · obtain ⟨b, o, rfl, hb, hc⟩ := H.out.at_ hlt
      have h1 := hc k hlt
      clear hc H
      have HF := Lib.hid (all_take_succ capB hlt HT.out)
      have HN := Lib.hid (all_not capB hlt)
      generalize xs[k] = x at *
      by_cases h2 : x < 0
      · have HX := Lib.hid (show capB x = false by simp [capB]; omega)
        go_wp2_with fail
        go_ret
        exact ⟨ret_bool (HN.out HX.out).symm, rfl⟩
      · by_cases h3 : 64 < x
        · have HX := Lib.hid (show capB x = false by simp [capB]; omega)
          go_wp2_with fail
          go_ret
          exact ⟨ret_bool (HN.out HX.out).symm, rfl⟩
        · have HX := Lib.hid (show capB x = true by simp [capB]; omega)
          go_wp2_with fail
          go_roundw
          case rel => exact ⟨k + 1, by omega, by go_num, HF.out HX.out, by trivial⟩
          case measure => simp [intOf]; omega
    · have hke : k = xs.length := by omega
      subst hke
      have HD := Lib.hid (all_whole _ HT.out)
      clear H
      go_wp2_with fail
      go_ret
      exact ⟨ret_bool HD.out.symm, rfl⟩
end Go.Proofs.Ytniblphklgbpnaa
