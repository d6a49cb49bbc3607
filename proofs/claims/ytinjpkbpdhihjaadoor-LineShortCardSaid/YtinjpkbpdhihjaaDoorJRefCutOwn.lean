import Derived.Test.YtinjpkbpdhihjaaDoorRows
import Derived.Test.YtinjpkbpdhihjaaDoorKit
import Derived.Test.YtinjpkbpdhihjaaDoorJMath
import Derived.Test.YtinjpkbpdhihjaaDoorJNum
import Derived.Test.YtinjpkbpdhihjaaDoorJCut
import Derived.WalkKit
import Derived.ProofKit
import Derived.OpenShut
import Derived.IntWalk
/- The document's own Cut, and that its answer's row is the answer's alone. -/
namespace Go.Proofs.YtinjpkbpdhihjaaDoor
open Go.ChangeShapes Go.WideShapes Go.ChangeAt Go.RowKit
set_option linter.unusedVariables false
open Go.RowKit
def GivesOwn (xs : List (List UInt8)) (w : World) (e : Ending) (w' : World) : Prop := ∃ v, e = .returned v ∧ w'.ownsRow w.heap.size 9 1 v xs.length (xs.map str) ∧ xs.length ≤ maxLen ∧ Below w.heap.size w w'
set_option maxRecDepth 100000 in
theorem refcut_own (s : ByteArray) (w : World) (hs : s.size ≤ 1000000) :
    Calls Tryd.prog 17 #[.string s] w (GivesOwn (words s.data.toList) w) := by
  obtain ⟨i0, hi0, hz0, hz1, hz2⟩ := info_parts string_info
  have HI := Lib.hid hi0
  clear hi0
  go_enter Tryd.func17, Tryd.ntmps17
  go_wp2_with fail
  go_loopw [3, 4] (fun v iv wr => ∃ (i : Nat) (ys : List (List UInt8)), i ≤ s.size ∧ iv = .int .i64 i ∧ words s.data.toList = ys ++ words (s.data.toList.drop i) ∧ ys.length ≤ i ∧
      wr.ownsRow w.heap.size 9 1 v ys.length (ys.map str) ∧ Below w.heap.size w wr) (fun _ iv _ => s.size - (intOf iv).toNat)
  case atStart => exact ⟨0, [], Nat.zero_le _, rfl, by simp, by simp, World.ownsRow_nil _ _ _ _, Below.refl _ _⟩
  case round =>
    obtain ⟨i, ys, hi, rfl, hw, hyl, hown, hbel⟩ := hrel
    have HW := Lib.hid hw
    have HO := Lib.hid hown
    clear hw hown
    by_cases hlt : i < s.size
    · by_cases hc : s[i] = 32
      · have hb : ((s[i].toNat : Int) == 32) = true := by rw [hc]; rfl
        have HD := Lib.hid (drop_gap s i hlt hc)
        clear hc
        go_wp2_with fail
        go_roundw
        case rel => exact ⟨i + 1, ys, by omega, by go_num, by rw [HW.out, HD.out], by omega, HO.out, hbel⟩
        case measure => simp [intOf]; omega
      · have hb : ((s[i].toNat : Int) == 32) = false := by
          rw [beq_eq_false_iff_ne]; intro e; exact hc (UInt8.toNat_inj.1 (by simp; omega))
        have HC := Lib.hid hc
        clear hc
        go_wp2_with fail
        go_loop [5] (fun kv => ∃ k : Nat, i ≤ k ∧ k ≤ s.size ∧ kv = .int .i64 k ∧ (part s i k).all (fun c => c != 32) = true) (fun kv => s.size - (intOf kv).toNat)
        case atStart => exact ⟨i, Nat.le_refl _, by omega, rfl, by simp [part]⟩
        case round =>
          obtain ⟨k, hik, hk, rfl, ha⟩ := hrel
          have HA := Lib.hid ha
          clear ha
          by_cases hgo : ∃ h : k < s.size, ¬ s[k] = 32
          · obtain ⟨hk2, hc2⟩ := hgo
            have hb2 : ((s[k].toNat : Int) == 32) = false := by
              rw [beq_eq_false_iff_ne]; intro e; exact hc2 (UInt8.toNat_inj.1 (by simp; omega))
            have HA2 := Lib.hid (part_all hik hk2 HA.out hc2)
            clear hc2
            go_wp2_with fail
            go_round
            case rel => exact ⟨k + 1, by omega, by omega, by go_num, HA2.out⟩
            case measure => simp [intOf]; omega
          · have hend : k = s.size ∨ ∃ h : k < s.size, s[k] = 32 := by
              by_cases hk2 : k < s.size
              · right; exact ⟨hk2, Classical.byContradiction fun h => hgo ⟨hk2, h⟩⟩
              · left; omega
            clear hgo
            have hlt2 : i < k := by
              apply Decidable.byContradiction; intro h
              have hki : k = i := by omega
              subst hki
              rcases hend with h | ⟨h, hc⟩
              · omega
              · exact HC.out hc
            have HP := Lib.hid (part_words hlt2 hk HA.out hend)
            have hex := part_extract s i k
            have HG : ∀ hk2 : k < s.size, ((s[k].toNat : Int) == 32) = true := fun hk2 => by
              rcases hend with h | ⟨h, hc⟩
              · omega
              · rw [hc]; rfl
            have hsz := Lib.hid hbel.size
            have HEX := Lib.hid hex
            clear hend hex
            by_cases hk2 : k < s.size
            all_goals
              first
                | (have hb3 := HG hk2; clear HG)
                | clear HG
              go_wp2_with (at_builtin; refine wpList_append_own _ rfl (.tmp 29) (.tmp 34) 39 rfl w.heap.size 9 i0 (.string ⟨#[]⟩) 1 16 Tryd.underlying39 HI.out hz0 hz1 hz2 rfl (by decide) _ _ _ rfl (HO.out.alloc _) ⟨wr.heap.size, 0, none⟩ 1 1 [.string (s.extract i k)] rfl rfl (one_new _ _ _) (one_cell _ rfl) (by unfold maxLen; omega) (by omega) (by have := hsz.out; simp; omega) ?_; intro v' w2 hown' hgrow _)
              have R : w2.ownsRow w.heap.size 9 1 v' (ys ++ [part s i k]).length ((ys ++ [part s i k]).map str) := by
                rw [HEX.out] at hown'; simpa using hown'
              have hbel2 : Below w.heap.size w w2 := (hbel.alloc hsz.out _).grown hgrow (by have := hsz.out; simp; omega) (fun q hq => (HO.out.lt q hq).1)
              exact ⟨⟨k, ys ++ [part s i k], hk, rfl, by rw [HW.out, HP.out]; simp, by simp; omega, R, hbel2⟩, by simp [intOf]; omega⟩
    · have hie : i = s.size := by omega
      subst hie
      have HE := Lib.hid (show words s.data.toList = ys by
        have h := HW.out
        rw [List.drop_eq_nil_of_le (by rw [data_len]; omega), words_nil, List.append_nil] at h; exact h)
      go_wp2_with fail
      go_ret
      exact ⟨u3, rfl, by rw [HE.out]; exact HO.out, by rw [HE.out]; unfold maxLen; omega, hbel⟩
end Go.Proofs.YtinjpkbpdhihjaaDoor
