/- token: awake: the answers that the document fixes. -/
import Derived.Test.YtmilcjjofchpeaaDoorRows
import Derived.Test.YtmilcjjofchpeaaDoorKit
import Derived.Test.YtmilcjjofchpeaaDoorTokMath
import Derived.Test.YtmilcjjofchpeaaDoorTokNum
import Derived.Test.YtmilcjjofchpeaaDoorTokSame
import Derived.Test.YtmilcjjofchpeaaDoorTokJoin
import Derived.Test.YtmilcjjofchpeaaDoorTokWord
import Derived.Test.YtmilcjjofchpeaaDoorTokCut
import Derived.Lib.SmallJoins
import Derived.WalkKit
import Derived.ProofKit
import Derived.OpenShut
import Derived.IntWalk
namespace Go.Proofs.YtmilcjjofchpeaaDoor
open Go.ChangeShapes Go.WideShapes Go.ChangeAt Go.RowKit
set_option linter.unusedVariables false
open Go.RowKit

theorem strs_two (w : World) (a b : List UInt8) : Strs (w.alloc (.cells #[str a, str b] 9)) (.slice (some ⟨w.heap.size, 0, none⟩) 2 2) [a, b] := by
  refine ⟨_, _, rfl, by simp [maxLen], .inr ⟨w.heap.size, 0, rfl, by simp, fun i hi => ?_⟩⟩
  match i, hi with
  | 0, _ => simp
  | 1, _ => simp
theorem strs_nil (w : World) : Strs w (.slice none 0 0) [] := ⟨none, 0, rfl, by simp [maxLen], .inl rfl⟩
theorem tab_below {w w' : World} (h : Tab w) (hb : Below w.heap.size w w') : Tab w' := by
  unfold Tab at h ⊢
  exact Joins.tab_stays (g := 3) (by kernel_rfl) h hb (Nat.le_refl _)
theorem words_len0 : words [32] = [] := by decide
theorem num_a (w : World) : Calls Tryd.prog 15 #[.string ⟨#[49, 48, 55, 51, 55, 52, 49, 56, 50, 52]⟩] w fun e w' => e = .returned (.tuple #[.int .i64 1073741824, .bool true]) ∧ w = w' := number_any _ w (by decide)
theorem num_b (w : World) : Calls Tryd.prog 15 #[.string ⟨#[49, 48, 55, 51, 55, 52, 49, 56, 50, 53]⟩] w fun e w' => e = .returned (.tuple #[.int .i64 0, .bool false]) ∧ w = w' := number_any _ w (by decide)
theorem num_c (w : World) : Calls Tryd.prog 15 #[.string ⟨#[48, 53]⟩] w fun e w' => e = .returned (.tuple #[.int .i64 0, .bool false]) ∧ w = w' := number_any _ w (by decide)
theorem num_d (w : World) : Calls Tryd.prog 15 #[.string ⟨#[]⟩] w fun e w' => e = .returned (.tuple #[.int .i64 0, .bool false]) ∧ w = w' := number_any _ w (by decide)
theorem word_17 (w : World) (ht : Tab w) : Calls Tryd.prog 17 #[.int .i64 17] w fun e w' => e = .returned (.string ⟨#[49, 55]⟩) ∧ Below w.heap.size w w' := by
  have := word_any 17 w (by decide) ht
  rw [show Lib.decDigits 17 = [49, 55] by rw [Lib.decDigits_two (by decide) (by decide)]; decide] at this
  exact this
theorem cut_get (w : World) : Calls Tryd.prog 11 #[.string ⟨#[32, 32, 103, 101, 116, 32, 53, 32]⟩] w (GivesStrs [[103, 101, 116], [53]] w) := cut_any _ w (by decide)
theorem cut_gap (w : World) : Calls Tryd.prog 11 #[.string ⟨#[32]⟩] w fun e w' => (∃ a cap, e = .returned (.slice a 0 cap)) ∧ Below w.heap.size w w' :=
  (cut_any _ w (by decide)).mono fun e w' h => by
    obtain ⟨v, rfl, ⟨a, cap, rfl, _, _⟩, hb⟩ := h
    exact ⟨⟨a, cap, rfl⟩, hb⟩
theorem join_get (w : World) (v : Value) (h : Strs w v [[103, 101, 116], [53]]) : Calls Tryd.prog 13 #[v] w fun e w' => e = .returned (.string ⟨#[103, 101, 116, 32, 53]⟩) ∧ Below w.heap.size w w' := join_any w h (by decide)
theorem join_no (w : World) : Calls Tryd.prog 13 #[.slice none 0 0] w fun e w' => e = .returned (.string ⟨#[]⟩) ∧ Below w.heap.size w w' := join_any w (strs_nil w) (by decide)
theorem same_get (w : World) (v u : Value) (h : Strs w v [[103, 101, 116], [53]]) (h2 : Strs w u [[103, 101, 116], [53]]) : Calls Tryd.prog 10 #[v, u] w fun e w' => e = .returned (.bool true) ∧ Below w.heap.size w w' := by
  have := same_any w h h2
  simpa using this

theorem awake_any (w : World) (ht : Tab w) : Calls Tryd.prog 9 #[] w fun e w' => e = .returned (.bool true) ∧ Below w.heap.size w w' := by
  have HT := Lib.hid ht
  clear ht
  go_enter Tryd.func9, Tryd.ntmps9
  go_wp2_with fail
  refine (num_a _).mono ?_
  rintro e w' ⟨rfl, rfl⟩
  go_wp2_with fail
  refine (num_b _).mono ?_
  rintro e w' ⟨rfl, rfl⟩
  go_wp2_with fail
  refine (num_c _).mono ?_
  rintro e w' ⟨rfl, rfl⟩
  go_wp2_with fail
  refine (num_d _).mono ?_
  rintro e w' ⟨rfl, rfl⟩
  go_wp2_with fail
  refine (cut_get _).mono ?_
  rintro e w1 ⟨v1, rfl, hv1, b1⟩
  have HV1 := Lib.hid hv1
  clear hv1
  go_wp2_with fail
  have bA : Below w.heap.size w (w1.alloc (.cells #[.string ⟨#[103, 101, 116]⟩, .string ⟨#[53]⟩] 9)) := b1.alloc b1.size _
  refine (same_get _ _ _ (HV1.out.below ((Below.refl _ _).alloc (Nat.le_refl _) _)) (strs_two w1 [103, 101, 116] [53])).mono ?_
  rintro e w2 ⟨rfl, b2⟩
  have B2 := Lib.hid (bl bA b2)
  clear bA b2 b1 HV1
  go_wp2_with fail
  have bA : Below w.heap.size w (w2.alloc (.cells #[.string ⟨#[103, 101, 116]⟩, .string ⟨#[53]⟩] 9)) := B2.out.alloc B2.out.size _
  refine (join_get _ _ (strs_two w2 [103, 101, 116] [53])).mono ?_
  rintro e w3 ⟨rfl, b3⟩
  have B3 := Lib.hid (bl bA b3)
  clear bA b3 B2
  go_wp2_with fail
  refine (word_17 _ (tab_below HT.out B3.out)).mono ?_
  rintro e w4 ⟨rfl, b4⟩
  have B4 := Lib.hid (bl B3.out b4)
  clear b4 B3
  go_wp2_with fail
  refine (cut_gap _).mono ?_
  rintro e w5 ⟨⟨a5, c5, rfl⟩, b5⟩
  have B5 := Lib.hid (bl B4.out b5)
  clear b5 B4
  go_wp2_with fail
  refine (join_no _).mono ?_
  rintro e w6 ⟨rfl, b6⟩
  have B6 := Lib.hid (bl B5.out b6)
  clear b6 B5
  go_wp2_with fail
  go_ret
  exact ⟨rfl, B6.out⟩
end Go.Proofs.YtmilcjjofchpeaaDoor
