/- desc.areRooms: rooms' exits lead to rooms. -/
import Derived.Test.YtniblphklgbpnaaRows
import Derived.Test.YtniblphklgbpnaaKit
import Derived.Test.YtniblphklgbpnaaStrs
import Derived.Test.YtniblphklgbpnaaCoin
import Derived.Test.YtniblphklgbpnaaBlk
import Derived.Test.YtniblphklgbpnaaWorldMath
import Derived.Test.YtniblphklgbpnaaWorldAt
import Derived.Test.YtniblphklgbpnaaDescA
import Derived.Deep.QuietTactic
import Derived.BigQuiet
import Derived.WalkKit
import Derived.ProofKit
import Derived.OpenShut
import Derived.IntWalk
namespace Go.Proofs.Ytniblphklgbpnaa
open Go.ChangeShapes Go.WideShapes Go.ChangeAt Go.RowKit
set_option linter.unusedVariables false
open Go.RowKit
/-- An exit of the four, by its number. -/
def Ex.get (e : Ex) : Nat → Int
  | 0 => e.n
  | 1 => e.e
  | 2 => e.s
  | _ => e.w
theorem exB_get (r : Int) (e : Ex) : exB r e = true ↔ ∀ j, j < 4 → toB r (e.get j) = true := by
  simp only [exB, Bool.and_eq_true]
  constructor
  · rintro ⟨h0, h1, h2, h3⟩ j hj
    match j, hj with
    | 0, _ => exact h0
    | 1, _ => exact h1
    | 2, _ => exact h2
    | 3, _ => exact h3
  · intro h
    exact ⟨h 0 (by omega), h 1 (by omega), h 2 (by omega), h 3 (by omega)⟩
theorem exB_not {r : Int} {e : Ex} {j : Nat} (hj : j < 4) (h : toB r (e.get j) = false) : exB r e = false := by
  rw [Bool.eq_false_iff]; intro h2
  rw [(exB_get r e).1 h2 j hj] at h; cases h
theorem toB_split {r t : Int} (h : toB r t = true) : t = -1 ∨ (t ≠ -1 ∧ inB t r = true) := by
  by_cases h1 : t = -1
  · exact .inl h1
  · right; simp [toB, h1] at h; exact ⟨h1, h⟩
theorem toB_no {r t : Int} (h : toB r t = false) : t ≠ -1 ∧ inB t r = false := by
  simp [toB] at h; exact h
theorem run_dir (e : Ex) (j : Nat) (hj : j < 4) (w : World) : (Instr.index 45 (.agg #[.int .i64 e.n, .int .i64 e.e, .int .i64 e.s, .int .i64 e.w]) (.int .i64 (j : Int))).run Try.prog w = .ok (.int .i64 (e.get j)) w := by
  obtain rfl | rfl | rfl | rfl : j = 0 ∨ j = 1 ∨ j = 2 ∨ j = 3 := by omega
  all_goals
    simp [Instr.index, run_underlying Try.underlying45, asIntOf, go_sem, Ex.get]
theorem arerooms_any (a : Option Addr) (c : Nat) (es : List Ex) (w : World) (h : ExsAt w a es) : Calls Try.prog 22 #[.slice a es.length c] w fun e w' => e = .returned (.bool (roomsB es)) ∧ Below w.heap.size w w' := by
  by_cases l0 : es.length < 1
  · have HD := Lib.hid (show roomsB es = false by simp only [roomsB]; rw [decide_eq_false (by omega)]; rfl)
    clear h
    have l0' : ((es.length : Int) < 1) := by omega
    go_enter Try.func22, Try.ntmps22
    go_wp2_with fail
    go_ret
    exact ⟨ret_bool HD.out.symm, Below.refl _ _⟩
  by_cases l8 : 8 < es.length
  · have HD := Lib.hid (show roomsB es = false by simp only [roomsB]; rw [decide_eq_false (p := es.length ≤ 8) (by omega)]; simp)
    clear h
    have l0' : ¬ ((es.length : Int) < 1) := by omega
    have l8' : ((8 : Int) < es.length) := by omega
    clear l0 l8
    go_enter Try.func22, Try.ntmps22
    go_wp2_with fail
    go_ret
    exact ⟨ret_bool HD.out.symm, Below.refl _ _⟩
  have HD := Lib.hid (show roomsB es = es.all (exB es.length) by simp only [roomsB]; rw [decide_eq_true (p := 1 ≤ es.length) (by omega), decide_eq_true (p := es.length ≤ 8) (by omega)]; simp)
  have hm := h.len
  have l0' : ¬ ((es.length : Int) < 1) := by omega
  have l8' : ¬ ((8 : Int) < es.length) := by omega
  have H := Lib.hid h
  clear h l0 l8
  go_enter Try.func22, Try.ntmps22
  go_wp2_with fail
  go_loopw [4, 6, 17, 21, 22] (fun _ _ i _ _ wr => ∃ k : Nat, k ≤ es.length ∧ i = .int .i64 k ∧ (es.take k).all (exB es.length) = true ∧ Below w.heap.size w wr) (fun _ _ i _ _ _ => es.length - (intOf i).toNat)
  case atStart => exact ⟨0, Nat.zero_le _, rfl, rfl, Below.refl _ _⟩
  case round =>
    obtain ⟨k, hk, rfl, htk, hbel⟩ := hrel
    have HT := Lib.hid htk
    clear htk
    by_cases hlt : k < es.length
    · obtain ⟨b, o, rfl, hb, c0, c1, c2, c3⟩ := ExsAt.cells (RowAt.below H.out hbel (Nat.le_refl _)) hlt
      have HF := Lib.hid (all_take_succ (exB es.length) hlt HT.out)
      have HN := Lib.hid (all_not (exB es.length) hlt)
      clear H
      generalize es[k] = x at *
      have hB := Lib.hid hbel
      clear hbel
      obtain ⟨wp, hwp⟩ : ∃ q, q = wr := ⟨_, rfl⟩
      subst hwp
      go_wp2_with fail
      go_loopw [6, 22] (fun _ i wr => ∃ j : Nat, j ≤ 4 ∧ i = .int .i64 j ∧ (∀ q, q < j → toB es.length (x.get q) = true) ∧ Below w.heap.size w wr) (fun _ i _ => 4 - (intOf i).toNat)
      case atStart => exact ⟨0, by omega, rfl, fun q hq => absurd hq (by omega), hB.out.alloc hB.out.size _⟩
      case round =>
        obtain ⟨j, hj, rfl, hq, hbel⟩ := hrel
        have HQ := Lib.hid hq
        clear hq
        by_cases hj4 : j < 4
        · have HX : Hid (toB es.length (x.get j) = false → exB es.length x = false) := Lib.hid (fun h => exB_not hj4 h)
          have HS : Hid (toB es.length (x.get j) = true → ∀ q, q < j + 1 → toB es.length (x.get q) = true) := Lib.hid (fun h q hq => by
            by_cases e : q = j
            · subst e; exact h
            · exact HQ.out q (by omega))
          have hrun := run_dir x j hj4
          generalize x.get j = t at *
          cases hx : toB es.length t
          · have HX2 := Lib.hid (HN.out (HX.out hx))
            obtain ⟨hne, hin⟩ := toB_no hx
            have HI := Lib.hid hin
            have hne' : (t != -1) = true := by simpa using hne
            clear hx hin HX HS HF HN HQ hne
            go_wp2_with fail
            refine (isof_any _ _ _).mono ?_
            rintro e w' ⟨rfl, rfl⟩
            rw [HI.out]
            go_wp2_with fail
            go_ret
            exact ⟨ret_bool (HD.out.trans HX2.out).symm, hbel⟩
          · have HX2 := Lib.hid (HS.out hx)
            rcases toB_split hx with ht | ⟨hne, hin⟩
            · subst ht
              clear hx HX HS HF HN HQ
              go_wp2_with fail
              go_roundw
              case rel => exact ⟨j + 1, by omega, by go_num, HX2.out, hbel⟩
              case measure => simp [intOf]; omega
            · have HI := Lib.hid hin
              have hne' : (t != -1) = true := by simpa using hne
              clear hx hin HX HS HF HN HQ hne
              go_wp2_with fail
              refine (isof_any _ _ _).mono ?_
              rintro e w' ⟨rfl, rfl⟩
              rw [HI.out]
              go_wp2_with fail
              go_roundw
              case rel => exact ⟨j + 1, by omega, by go_num, HX2.out, hbel⟩
              case measure => simp [intOf]; omega
        · obtain rfl : j = 4 := by omega
          have HX := Lib.hid (HF.out ((exB_get _ _).2 HQ.out))
          go_wp2_with fail
          go_roundw
          case rel => exact ⟨k + 1, by omega, by go_num, HX.out, hbel⟩
          case measure => simp [intOf]; omega
    · have hke : k = es.length := by omega
      subst hke
      have HE := Lib.hid (all_whole _ HT.out)
      clear H
      go_wp2_with fail
      go_ret
      exact ⟨ret_bool (HD.out.trans HE.out).symm, hbel⟩
end Go.Proofs.Ytniblphklgbpnaa
