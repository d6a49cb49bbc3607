import Derived.Test.YtcabeagmdfpdlaaDoorRows
import Derived.Test.YtcabeagmdfpdlaaDoorKit
import Derived.Test.YtcabeagmdfpdlaaDoorStrs
import Derived.Test.YtcabeagmdfpdlaaDoorJTab
import Derived.Test.YtcabeagmdfpdlaaDoorJMath
import Derived.Test.YtcabeagmdfpdlaaDoorJCmdA
import Derived.Test.YtcabeagmdfpdlaaDoorJCmdNames1
import Derived.WalkKit
import Derived.ProofKit
import Derived.OpenShut
import Derived.IntWalk
/- The document's own Name, Way, Kind, Dir. -/
namespace Go.Proofs.YtcabeagmdfpdlaaDoor
open Go.ChangeShapes Go.WideShapes Go.ChangeAt Go.RowKit
set_option linter.unusedVariables false
open Go.RowKit
theorem karr11 (n : Nat) (h1 : 1 ≤ n) (h : n ≤ 10) : (#[.string ⟨#[]⟩, .string ⟨#[109, 111, 118, 101]⟩, .string ⟨#[112, 117, 115, 104]⟩, .string ⟨#[103, 101, 116]⟩, .string ⟨#[100, 114, 111, 112]⟩, .string ⟨#[112, 117, 116]⟩, .string ⟨#[116, 97, 107, 101]⟩, .string ⟨#[103, 105, 118, 101]⟩, .string ⟨#[116, 114, 97, 100, 101]⟩, .string ⟨#[108, 111, 111, 107]⟩, .string ⟨#[111, 119, 110]⟩] : Array Value)[n]? = some (.string ⟨(kindNames.getD (n - 1) []).toArray⟩) := by
  match n, h1, h with
  | 1, _, _ | 2, _, _ | 3, _, _ | 4, _, _ | 5, _, _ | 6, _, _ | 7, _, _ | 8, _, _ | 9, _, _ | 10, _, _ => rfl
theorem refname_any (n : Int) (w : World) :
    Calls Tryd.prog 21 #[.int .i64 n] w fun e w' => e = .returned (.string ⟨(nameOf n).toArray⟩) ∧ Below w.heap.size w w' := by
  by_cases h1 : 1 ≤ n
  · by_cases h2 : n ≤ 10
    · have HX := Lib.hid (show kindNames.getD (n.toNat - 1) [] = nameOf n by unfold nameOf; rw [if_pos ⟨h1, h2⟩]; congr 1; omega)
      have hcell := karr11 n.toNat (by omega) (by omega)
      rw [HX.out] at hcell
      generalize nameOf n = x at *
      go_enter Tryd.func21, Tryd.ntmps21
      go_wp2_with fail
      go_ret
      exact ⟨ret_str rfl, (Below.refl _ _).alloc (Nat.le_refl _) _⟩
    · have HX := Lib.hid (show nameOf n = [] by unfold nameOf; rw [if_neg (by omega)])
      go_enter Tryd.func21, Tryd.ntmps21
      go_wp2_with fail
      go_ret
      exact ⟨ret_str (x := []) HX.out.symm, (Below.refl _ _).alloc (Nat.le_refl _) _⟩
  · have HX := Lib.hid (show nameOf n = [] by unfold nameOf; rw [if_neg (by omega)])
    go_enter Tryd.func21, Tryd.ntmps21
    go_wp2_with fail
    go_ret
    exact ⟨ret_str (x := []) HX.out.symm, (Below.refl _ _).alloc (Nat.le_refl _) _⟩
theorem refkind_any (l : List UInt8) (w : World) :
    Calls Tryd.prog 34 #[.string ⟨l.toArray⟩] w fun e w' => e = .returned (.tuple #[.int .i64 (kindN l), .bool (kindB l)]) ∧ Below w.heap.size w w' := by
  go_enter Tryd.func34, Tryd.ntmps34
  go_wp2_with fail
  go_loopw [4] (fun i wr => ∃ k : Nat, k ≤ 10 ∧ i = .int .i64 ((k : Int) + 1) ∧ l ∉ kindNames.take k ∧ Below w.heap.size w wr) (fun i _ => 11 - (intOf i).toNat)
  case atStart => exact ⟨0, Nat.zero_le _, rfl, by simp, Below.refl _ _⟩
  case round =>
    obtain ⟨k, hk, rfl, hm, hb⟩ := hrel
    have HM := Lib.hid hm
    have HB := Lib.hid hb
    clear hm hb
    by_cases hlt : k < 10
    · have HNm := Lib.hid (nameOf_succ hlt)
      have HH := Lib.hid (kind_hit hlt)
      have HN := Lib.hid (not_mem_succ (ss := kindNames) (k := k) (x := l) (by simpa [kindNames] using hlt) HM.out)
      generalize kindNames.getD k [] = x at *
      by_cases he : x = l
      · subst he
        have H2 := Lib.hid (HH.out HM.out)
        go_wp2_with fail
        refine (refname_any _ _).mono ?_
        rintro e w1 ⟨rfl, b1⟩
        rw [HNm.out]
        go_wp2_with fail
        go_ret2
        exact ⟨ret_kind H2.out.1.symm H2.out.2.symm, bl HB.out b1⟩
      · have hne : (x == l) = false := by simpa using he
        have H2 := Lib.hid (HN.out he)
        clear he
        go_wp2_with fail
        refine (refname_any _ _).mono ?_
        rintro e w1 ⟨rfl, b1⟩
        rw [HNm.out]
        go_wp2_with fail
        go_roundw
        case rel => exact ⟨k + 1, by omega, by go_num, H2.out, bl HB.out b1⟩
        case measure => simp [intOf]; omega
    · have hke : k = 10 := by omega
      subst hke
      have H2 := Lib.hid (kind_miss HM.out)
      go_wp2_with fail
      go_ret2
      exact ⟨ret_kind H2.out.1.symm H2.out.2.symm, HB.out⟩
end Go.Proofs.YtcabeagmdfpdlaaDoor
