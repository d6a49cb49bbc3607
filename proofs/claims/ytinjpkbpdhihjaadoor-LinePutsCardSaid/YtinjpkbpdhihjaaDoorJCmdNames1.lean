import Derived.Test.YtinjpkbpdhihjaaDoorRows
import Derived.Test.YtinjpkbpdhihjaaDoorKit
import Derived.Test.YtinjpkbpdhihjaaDoorStrs
import Derived.Test.YtinjpkbpdhihjaaDoorJTab
import Derived.Test.YtinjpkbpdhihjaaDoorClone
import Derived.Test.YtinjpkbpdhihjaaDoorJMath
import Derived.Test.YtinjpkbpdhihjaaDoorJCmd
import Derived.WalkKit
import Derived.ProofKit
import Derived.OpenShut
import Derived.IntWalk
/- cmd: Name, Way, Kind, Dir: by the code, over its two tables. -/
namespace Go.Proofs.YtinjpkbpdhihjaaDoor
open Go.ChangeShapes Go.WideShapes Go.ChangeAt Go.RowKit
set_option linter.unusedVariables false
open Go.RowKit
def KTab (w : World) : Prop := StrTab Tryd.prog w "innkeep/cmd.kindNames" kindNames
def WTab (w : World) : Prop := StrTab Tryd.prog w "innkeep/cmd.wayNames" wayNames
theorem KTab.below {w w' : World} (h : KTab w) (hb : Below w.heap.size w w') : KTab w' := StrTab.below (g := 0) h (by kernel_rfl) hb
theorem WTab.below {w w' : World} (h : WTab w) (hb : Below w.heap.size w w') : WTab w' := StrTab.below (g := 1) h (by kernel_rfl) hb
theorem KTab.cells {w : World} (h : KTab w) : ∀ i, w.cell? ⟨0, i, none⟩ = (#[.string ⟨#[109, 111, 118, 101]⟩, .string ⟨#[112, 117, 115, 104]⟩, .string ⟨#[103, 101, 116]⟩, .string ⟨#[100, 114, 111, 112]⟩, .string ⟨#[112, 117, 116]⟩, .string ⟨#[116, 97, 107, 101]⟩, .string ⟨#[103, 105, 118, 101]⟩, .string ⟨#[116, 114, 97, 100, 101]⟩, .string ⟨#[108, 111, 111, 107]⟩, .string ⟨#[111, 119, 110]⟩][i]? : Option Value) := fun i => StrTab.cell (g := 0) h (by kernel_rfl) i
theorem WTab.cells {w : World} (h : WTab w) : ∀ i, w.cell? ⟨1, i, none⟩ = (#[.string ⟨#[110, 111, 114, 116, 104]⟩, .string ⟨#[101, 97, 115, 116]⟩, .string ⟨#[115, 111, 117, 116, 104]⟩, .string ⟨#[119, 101, 115, 116]⟩][i]? : Option Value) := fun i => StrTab.cell (g := 1) h (by kernel_rfl) i
theorem karr (k : Nat) (h : k < 10) : (#[.string ⟨#[109, 111, 118, 101]⟩, .string ⟨#[112, 117, 115, 104]⟩, .string ⟨#[103, 101, 116]⟩, .string ⟨#[100, 114, 111, 112]⟩, .string ⟨#[112, 117, 116]⟩, .string ⟨#[116, 97, 107, 101]⟩, .string ⟨#[103, 105, 118, 101]⟩, .string ⟨#[116, 114, 97, 100, 101]⟩, .string ⟨#[108, 111, 111, 107]⟩, .string ⟨#[111, 119, 110]⟩] : Array Value)[k]? = some (.string ⟨(kindNames.getD k []).toArray⟩) := by
  match k, h with
  | 0, _ | 1, _ | 2, _ | 3, _ | 4, _ | 5, _ | 6, _ | 7, _ | 8, _ | 9, _ => rfl
theorem warr (k : Nat) (h : k < 4) : (#[.string ⟨#[110, 111, 114, 116, 104]⟩, .string ⟨#[101, 97, 115, 116]⟩, .string ⟨#[115, 111, 117, 116, 104]⟩, .string ⟨#[119, 101, 115, 116]⟩] : Array Value)[k]? = some (.string ⟨(wayNames.getD k []).toArray⟩) := by
  match k, h with
  | 0, _ | 1, _ | 2, _ | 3, _ => rfl
theorem ret_kind {n m : Int} {b c : Bool} (h1 : n = m) (h2 : b = c) : Ending.returned (.tuple #[.int .i64 n, .bool b]) = .returned (.tuple #[.int .i64 m, .bool c]) := by rw [h1, h2]

set_option maxRecDepth 100000 in
theorem kind_any (l : List UInt8) (w : World) (ht : KTab w) :
    Calls Tryd.prog 42 #[.string ⟨l.toArray⟩] w fun e w' => e = .returned (.tuple #[.int .i64 (kindN l), .bool (kindB l)]) ∧ w = w' := by
  have HT := Lib.hid ht
  have hc := ht.cells
  clear ht
  go_enter Tryd.func42, Tryd.ntmps42
  go_wp2_with fail
  clear hc
  go_loop [4, 5, 7] (fun _ _ i => ∃ k : Nat, k ≤ 10 ∧ i = .int .i64 k ∧ l ∉ kindNames.take k) (fun _ _ i => 10 - (intOf i).toNat)
  case atStart => exact ⟨0, Nat.zero_le _, rfl, by simp⟩
  case round =>
    obtain ⟨k, hk, rfl, hm⟩ := hrel
    have HM := Lib.hid hm
    clear hm
    by_cases hlt : k < 10
    · have hidx : ∀ w, (Instr.index 92 (.agg #[.string ⟨#[109, 111, 118, 101]⟩, .string ⟨#[112, 117, 115, 104]⟩, .string ⟨#[103, 101, 116]⟩, .string ⟨#[100, 114, 111, 112]⟩, .string ⟨#[112, 117, 116]⟩, .string ⟨#[116, 97, 107, 101]⟩, .string ⟨#[103, 105, 118, 101]⟩, .string ⟨#[116, 114, 97, 100, 101]⟩, .string ⟨#[108, 111, 111, 107]⟩, .string ⟨#[111, 119, 110]⟩]) (.int .i64 k)).run Tryd.prog w = .ok (.string ⟨(kindNames.getD k []).toArray⟩) w := fun w =>
        run_index_one w 92 9 10 _ _ k Tryd.underlying92 (fun w => by rw [Tryd.sizeOf9]) (fun w => by rw [Tryd.isAgg9]) (by omega) (by omega) _ (by simpa using karr k hlt)
      have HH := Lib.hid (kind_hit hlt)
      have HN := Lib.hid (not_mem_succ (ss := kindNames) (k := k) (x := l) (by simpa [kindNames] using hlt) HM.out)
      generalize kindNames.getD k [] = x at *
      by_cases he : x = l
      · subst he
        have H2 := Lib.hid (HH.out HM.out)
        go_wp2_with fail
        go_ret2
        exact ⟨ret_kind H2.out.1.symm H2.out.2.symm, rfl⟩
      · have hne : (x == l) = false := by simpa using he
        have H2 := Lib.hid (HN.out he)
        clear he
        go_wp2_with fail
        go_round
        case rel => exact ⟨k + 1, by omega, by go_num, H2.out⟩
        case measure => simp [intOf]; omega
    · have hke : k = 10 := by omega
      subst hke
      have H2 := Lib.hid (kind_miss HM.out)
      go_wp2_with fail
      go_ret2
      exact ⟨ret_kind H2.out.1.symm H2.out.2.symm, rfl⟩

set_option maxRecDepth 100000 in
theorem dir_any (l : List UInt8) (w : World) (ht : WTab w) :
    Calls Tryd.prog 62 #[.string ⟨l.toArray⟩] w fun e w' => e = .returned (.tuple #[.int .i64 (dirN l), .bool (dirB l)]) ∧ w = w' := by
  have HT := Lib.hid ht
  have hc := ht.cells
  clear ht
  go_enter Tryd.func62, Tryd.ntmps62
  go_wp2_with fail
  clear hc
  go_loop [4, 5, 7] (fun _ _ i => ∃ k : Nat, k ≤ 4 ∧ i = .int .i64 k ∧ l ∉ wayNames.take k) (fun _ _ i => 4 - (intOf i).toNat)
  case atStart => exact ⟨0, Nat.zero_le _, rfl, by simp⟩
  case round =>
    obtain ⟨k, hk, rfl, hm⟩ := hrel
    have HM := Lib.hid hm
    clear hm
    by_cases hlt : k < 4
    · have hidx : ∀ w, (Instr.index 97 (.agg #[.string ⟨#[110, 111, 114, 116, 104]⟩, .string ⟨#[101, 97, 115, 116]⟩, .string ⟨#[115, 111, 117, 116, 104]⟩, .string ⟨#[119, 101, 115, 116]⟩]) (.int .i64 k)).run Tryd.prog w = .ok (.string ⟨(wayNames.getD k []).toArray⟩) w := fun w =>
        run_index_one w 97 9 4 _ _ k Tryd.underlying97 (fun w => by rw [Tryd.sizeOf9]) (fun w => by rw [Tryd.isAgg9]) (by omega) (by omega) _ (by simpa using warr k hlt)
      have HH := Lib.hid (dir_hit hlt)
      have HN := Lib.hid (not_mem_succ (ss := wayNames) (k := k) (x := l) (by simpa [wayNames] using hlt) HM.out)
      generalize wayNames.getD k [] = x at *
      by_cases he : x = l
      · subst he
        have H2 := Lib.hid (HH.out HM.out)
        go_wp2_with fail
        go_ret2
        exact ⟨ret_kind H2.out.1.symm H2.out.2.symm, rfl⟩
      · have hne : (x == l) = false := by simpa using he
        have H2 := Lib.hid (HN.out he)
        clear he
        go_wp2_with fail
        go_round
        case rel => exact ⟨k + 1, by omega, by go_num, H2.out⟩
        case measure => simp [intOf]; omega
    · have hke : k = 4 := by omega
      subst hke
      have H2 := Lib.hid (dir_miss HM.out)
      go_wp2_with fail
      go_ret2
      exact ⟨ret_kind H2.out.1.symm H2.out.2.symm, rfl⟩

theorem ret_str {x y : List UInt8} (h : x = y) : Ending.returned (.string ⟨x.toArray⟩) = .returned (.string ⟨y.toArray⟩) := by rw [h]
theorem name_any (n : Int) (w : World) (ht : KTab w) :
    Calls Tryd.prog 41 #[.int .i64 n] w fun e w' => e = .returned (.string ⟨(nameOf n).toArray⟩) ∧ Below w.heap.size w w' := by
  cases hk : isKindB n
  · have HK := Lib.hid hk
    have HX := Lib.hid (show nameOf n = [] by
      simp only [isKindB, Bool.and_eq_false_iff, decide_eq_false_iff_not] at hk
      unfold nameOf; rw [if_neg (by omega)])
    clear hk ht
    go_enter Tryd.func41, Tryd.ntmps41
    go_wp2_with fail
    refine (iskind_any _ _).mono ?_
    rintro e w' ⟨rfl, rfl⟩
    rw [HK.out]
    go_wp2_with fail
    go_ret
    exact ⟨ret_str (x := []) HX.out.symm, Below.refl _ _⟩
  · have HK := Lib.hid hk
    simp only [isKindB, Bool.and_eq_true, decide_eq_true_eq] at hk
    obtain ⟨h1, h2⟩ := hk
    have HX := Lib.hid (show kindNames.getD (n - 1).toNat [] = nameOf n by unfold nameOf; rw [if_pos ⟨h1, h2⟩])
    have hl := name_len n
    have hcell := (ht.cells (n - 1).toNat).trans (karr (n - 1).toNat (by omega))
    rw [HX.out, show (n - 1).toNat = n.toNat - 1 by omega] at hcell
    have h3 : 0 ≤ n - 1 := by omega
    have h4 : n - 1 < 10 := by omega
    clear ht HX
    generalize nameOf n = x at *
    go_enter Tryd.func41, Tryd.ntmps41
    go_wp2_with fail
    refine (iskind_any _ _).mono ?_
    rintro e w' ⟨rfl, rfl⟩
    rw [HK.out]
    go_wp2_with fail
    refine (clone_any _ _ (by show (List.toArray _).size ≤ _; rw [List.size_toArray]; omega)).mono ?_
    rintro e w1 ⟨rfl, b1⟩
    go_wp2_with fail
    go_ret
    exact ⟨rfl, b1⟩
theorem way_any (n : Int) (w : World) (ht : WTab w) :
    Calls Tryd.prog 61 #[.int .i64 n] w fun e w' => e = .returned (.string ⟨(wayOf n).toArray⟩) ∧ Below w.heap.size w w' := by
  cases hk : isDirB n
  · have HK := Lib.hid hk
    have HX := Lib.hid (show wayOf n = [] by
      simp only [isDirB, Bool.and_eq_false_iff, decide_eq_false_iff_not] at hk
      unfold wayOf; rw [if_neg (by omega)])
    clear hk ht
    go_enter Tryd.func61, Tryd.ntmps61
    go_wp2_with fail
    refine (isdir_any _ _).mono ?_
    rintro e w' ⟨rfl, rfl⟩
    rw [HK.out]
    go_wp2_with fail
    go_ret
    exact ⟨ret_str (x := []) HX.out.symm, Below.refl _ _⟩
  · have HK := Lib.hid hk
    simp only [isDirB, Bool.and_eq_true, decide_eq_true_eq] at hk
    obtain ⟨h1, h2⟩ := hk
    have HX := Lib.hid (show wayNames.getD n.toNat [] = wayOf n by unfold wayOf; rw [if_pos ⟨h1, h2⟩])
    have hl := way_len n
    have hcell := (ht.cells n.toNat).trans (warr n.toNat (by omega))
    rw [HX.out] at hcell
    clear ht HX
    generalize wayOf n = x at *
    go_enter Tryd.func61, Tryd.ntmps61
    go_wp2_with fail
    refine (isdir_any _ _).mono ?_
    rintro e w' ⟨rfl, rfl⟩
    rw [HK.out]
    go_wp2_with fail
    refine (clone_any _ _ (by show (List.toArray _).size ≤ _; rw [List.size_toArray]; omega)).mono ?_
    rintro e w1 ⟨rfl, b1⟩
    go_wp2_with fail
    go_ret
    exact ⟨rfl, b1⟩
end Go.Proofs.YtinjpkbpdhihjaaDoor
