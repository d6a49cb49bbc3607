import Derived.Test.YtcabeagmdfpdlaaDoorRows
import Derived.Test.YtcabeagmdfpdlaaDoorKit
import Derived.Test.YtcabeagmdfpdlaaDoorStrs
import Derived.Test.YtcabeagmdfpdlaaDoorJTab
import Derived.Test.YtcabeagmdfpdlaaDoorClone
import Derived.Test.YtcabeagmdfpdlaaDoorJMath
import Derived.Test.YtcabeagmdfpdlaaDoorJCmdA
import Derived.WalkKit
import Derived.ProofKit
import Derived.OpenShut
import Derived.IntWalk
/- cmd: Name, Way, Kind, Dir: by the code, over its two tables. -/
namespace Go.Proofs.YtcabeagmdfpdlaaDoor
open Go.ChangeShapes Go.WideShapes Go.ChangeAt Go.RowKit
set_option linter.unusedVariables false
open Go.RowKit
def KTab (w : World) : Prop := StrTab Tryd.prog w "innkeep/cmd.kindNames" kindNames
def WTab (w : World) : Prop := StrTab Tryd.prog w "innkeep/cmd.wayNames" wayNames
theorem KTab.below {w w' : World} (h : KTab w) (hb : Below w.heap.size w w') : KTab w' := StrTab.below (g := 0) h (by kernel_rfl) hb
theorem KTab.cells {w : World} (h : KTab w) : ∀ i, w.cell? ⟨0, i, none⟩ = (#[.string ⟨#[109, 111, 118, 101]⟩, .string ⟨#[112, 117, 115, 104]⟩, .string ⟨#[103, 101, 116]⟩, .string ⟨#[100, 114, 111, 112]⟩, .string ⟨#[112, 117, 116]⟩, .string ⟨#[116, 97, 107, 101]⟩, .string ⟨#[103, 105, 118, 101]⟩, .string ⟨#[116, 114, 97, 100, 101]⟩, .string ⟨#[108, 111, 111, 107]⟩, .string ⟨#[111, 119, 110]⟩][i]? : Option Value) := fun i => StrTab.cell (g := 0) h (by kernel_rfl) i
theorem karr (k : Nat) (h : k < 10) : (#[.string ⟨#[109, 111, 118, 101]⟩, .string ⟨#[112, 117, 115, 104]⟩, .string ⟨#[103, 101, 116]⟩, .string ⟨#[100, 114, 111, 112]⟩, .string ⟨#[112, 117, 116]⟩, .string ⟨#[116, 97, 107, 101]⟩, .string ⟨#[103, 105, 118, 101]⟩, .string ⟨#[116, 114, 97, 100, 101]⟩, .string ⟨#[108, 111, 111, 107]⟩, .string ⟨#[111, 119, 110]⟩] : Array Value)[k]? = some (.string ⟨(kindNames.getD k []).toArray⟩) := by
  match k, h with
  | 0, _ | 1, _ | 2, _ | 3, _ | 4, _ | 5, _ | 6, _ | 7, _ | 8, _ | 9, _ => rfl
theorem warr (k : Nat) (h : k < 4) : (#[.string ⟨#[110, 111, 114, 116, 104]⟩, .string ⟨#[101, 97, 115, 116]⟩, .string ⟨#[115, 111, 117, 116, 104]⟩, .string ⟨#[119, 101, 115, 116]⟩] : Array Value)[k]? = some (.string ⟨(wayNames.getD k []).toArray⟩) := by
  match k, h with
  | 0, _ | 1, _ | 2, _ | 3, _ => rfl
theorem ret_kind {n m : Int} {b c : Bool} (h1 : n = m) (h2 : b = c) : Ending.returned (.tuple #[.int .i64 n, .bool b]) = .returned (.tuple #[.int .i64 m, .bool c]) := by rw [h1, h2]

set_option maxRecDepth 100000 in
theorem kind_any (l : List UInt8) (w : World) (ht : KTab w) :
    Calls Tryd.prog 47 #[.string ⟨l.toArray⟩] w fun e w' => e = .returned (.tuple #[.int .i64 (kindN l), .bool (kindB l)]) ∧ w = w' := by
  have HT := Lib.hid ht
  have hc := ht.cells
  clear ht
  go_enter Tryd.func47, Tryd.ntmps47
  go_wp2_with fail
  clear hc
  go_loop [4, 5, 7] (fun _ _ i => ∃ k : Nat, k ≤ 10 ∧ i = .int .i64 k ∧ l ∉ kindNames.take k) (fun _ _ i => 10 - (intOf i).toNat)
  case atStart => exact ⟨0, Nat.zero_le _, rfl, by simp⟩
  case round =>
    obtain ⟨k, hk, rfl, hm⟩ := hrel
    have HM := Lib.hid hm
    clear hm
    by_cases hlt : k < 10
    · have hidx : ∀ w, (Instr.index 84 (.agg #[.string ⟨#[109, 111, 118, 101]⟩, .string ⟨#[112, 117, 115, 104]⟩, .string ⟨#[103, 101, 116]⟩, .string ⟨#[100, 114, 111, 112]⟩, .string ⟨#[112, 117, 116]⟩, .string ⟨#[116, 97, 107, 101]⟩, .string ⟨#[103, 105, 118, 101]⟩, .string ⟨#[116, 114, 97, 100, 101]⟩, .string ⟨#[108, 111, 111, 107]⟩, .string ⟨#[111, 119, 110]⟩]) (.int .i64 k)).run Tryd.prog w = .ok (.string ⟨(kindNames.getD k []).toArray⟩) w := fun w =>
        run_index_one w 84 9 10 _ _ k Tryd.underlying84 (fun w => by rw [Tryd.sizeOf9]) (fun w => by rw [Tryd.isAgg9]) (by omega) (by omega) _ (by simpa using karr k hlt)
      have HH := Lib.hid (kind_hit hlt)
      have HN := Lib.hid (not_mem_succ (ss := kindNames) (k := k) (x := l) (by simpa [kindNames] using hlt) HM.out)
      generalize kindNames.getD k [] = x at *
      by_cases he : x = l
      · subst he
        have H2 := Lib.hid (HH.out HM.out)
        go_wp2_with fail
        go_ret2
        exact ⟨ret_kind H2.out.1.symm H2.out.2.symm, rfl⟩
      · have hne : (x == l) = false := by simpa using he
        have H2 := Lib.hid (HN.out he)
        clear he
        go_wp2_with fail
        go_round
        case rel => exact ⟨k + 1, by omega, by go_num, H2.out⟩
        case measure => simp [intOf]; omega
    · have hke : k = 10 := by omega
      subst hke
      have H2 := Lib.hid (kind_miss HM.out)
      go_wp2_with fail
      go_ret2
      exact ⟨ret_kind H2.out.1.symm H2.out.2.symm, rfl⟩

theorem ret_str {x y : List UInt8} (h : x = y) : Ending.returned (.string ⟨x.toArray⟩) = .returned (.string ⟨y.toArray⟩) := by rw [h]
theorem name_any (n : Int) (w : World) (ht : KTab w) :
    Calls Tryd.prog 38 #[.int .i64 n] w fun e w' => e = .returned (.string ⟨(nameOf n).toArray⟩) ∧ Below w.heap.size w w' := by
  cases hk : isKindB n
  · have HK := Lib.hid hk
    have HX := Lib.hid (show nameOf n = [] by
      simp only [isKindB, Bool.and_eq_false_iff, decide_eq_false_iff_not] at hk
      unfold nameOf; rw [if_neg (by omega)])
    clear hk ht
    go_enter Tryd.func38, Tryd.ntmps38
    go_wp2_with fail
    refine (iskind_any _ _).mono ?_
    rintro e w' ⟨rfl, rfl⟩
    rw [HK.out]
    go_wp2_with fail
    go_ret
    exact ⟨ret_str (x := []) HX.out.symm, Below.refl _ _⟩
  · have HK := Lib.hid hk
    simp only [isKindB, Bool.and_eq_true, decide_eq_true_eq] at hk
    obtain ⟨h1, h2⟩ := hk
    have HX := Lib.hid (show kindNames.getD (n - 1).toNat [] = nameOf n by unfold nameOf; rw [if_pos ⟨h1, h2⟩])
    have hl := name_len n
    have hcell := (ht.cells (n - 1).toNat).trans (karr (n - 1).toNat (by omega))
    rw [HX.out, show (n - 1).toNat = n.toNat - 1 by omega] at hcell
    have h3 : 0 ≤ n - 1 := by omega
    have h4 : n - 1 < 10 := by omega
    clear ht HX
    generalize nameOf n = x at *
    go_enter Tryd.func38, Tryd.ntmps38
    go_wp2_with fail
    refine (iskind_any _ _).mono ?_
    rintro e w' ⟨rfl, rfl⟩
    rw [HK.out]
    go_wp2_with fail
    refine (clone_any _ _ (by show (List.toArray _).size ≤ _; rw [List.size_toArray]; omega)).mono ?_
    rintro e w1 ⟨rfl, b1⟩
    go_wp2_with fail
    go_ret
    exact ⟨rfl, b1⟩
end Go.Proofs.YtcabeagmdfpdlaaDoor
