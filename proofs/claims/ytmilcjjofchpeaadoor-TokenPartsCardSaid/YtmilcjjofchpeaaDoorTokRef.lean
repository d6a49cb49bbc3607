/- token's numbers by the document's own definition. -/
import Derived.Test.YtmilcjjofchpeaaDoorRows
import Derived.Test.YtmilcjjofchpeaaDoorKit
import Derived.Test.YtmilcjjofchpeaaDoorTokMath
import Derived.Test.YtmilcjjofchpeaaDoorTokNum
import Derived.PlainAid
import Derived.WalkKit
import Derived.ProofKit
import Derived.OpenShut
import Derived.IntWalk
namespace Go.Proofs.YtmilcjjofchpeaaDoor
open Go.ChangeShapes Go.WideShapes Go.ChangeAt Go.RowKit
set_option linter.unusedVariables false
open Go.RowKit

theorem refnumber_loop (s : ByteArray) (w : World) (h0 : 0 < s.size) (h10 : s.size ≤ 10) :
    Calls Tryd.prog 16 #[.string s] w fun e w' => e = .returned (.tuple #[.int .i64 (numN s.data.toList), .bool (numB s.data.toList)]) ∧ w = w' := by
  have hd1 : dig (s.data.toList.take 0) = true := by simp [dig]
  have HD := Lib.hid hd1
  clear hd1
  have hne := Lib.hid (data_nil h0)
  have he1 : ¬ s = ByteArray.empty := by intro e; rw [e] at h0; simp at h0
  have he2 : ((s.size : Int) == 0) = false := by rw [beq_eq_false_iff_ne]; omega
  go_enter Tryd.func16, Tryd.ntmps16
  go_wp2_with fail
  go_loop [4, 5] (fun n i => ∃ k : Nat, k ≤ s.size ∧ i = .int .i64 k ∧ n = .int .i64 (val (s.data.toList.take k) : Nat) ∧ dig (s.data.toList.take k) = true ∧ zeroAhead (s.data.toList.take k) = false) (fun _ i => s.size - (intOf i).toNat)
  case atStart => exact ⟨0, Nat.zero_le _, rfl, rfl, HD.out, by simp [zeroAhead]⟩
  case round =>
    obtain ⟨k, hk, rfl, rfl, hd, hz⟩ := hrel
    have HDk := Lib.hid hd
    have HZk := Lib.hid hz
    have hlt10 := val_lt _ hd
    have hle : (s.data.toList.take k).length ≤ 10 := by have := List.length_take_le k s.data.toList; omega
    have hp10 : 10 ^ (s.data.toList.take k).length ≤ 10 ^ 10 := Nat.pow_le_pow_right (by omega) hle
    have hv10 : val (s.data.toList.take k) < 10000000000 := by omega
    clear hd hz hlt10 hle hp10
    by_cases hlt : k < s.size
    · have hts := Lib.hid (take_snoc s k hlt)
      have hg := Lib.hid (show (s.data.toList.take (k + 1))[0]? = s.data.toList[0]? by rw [List.getElem?_take, if_pos (by omega)])
      by_cases hc : 48 ≤ s[k].toNat ∧ s[k].toNat ≤ 57
      · obtain ⟨hc1, hc2⟩ := hc
        have hds := Lib.hid (show dig (s.data.toList.take (k + 1)) = true by rw [hts.out, dig_snoc, HDk.out, (isD_iff _).2 ⟨hc1, hc2⟩]; rfl)
        have HVS := Lib.hid (show val (s.data.toList.take (k + 1)) = 10 * val (s.data.toList.take k) + (s[k].toNat - 48) by rw [hts.out, val_snoc])
        have hzero : 0 < k → val (s.data.toList.take k) = 0 → numB s.data.toList = false := fun hk0 hv0 => by
          have hne2 : s.data.toList.take k ≠ [] := by intro e; have := congrArg List.length e; rw [List.length_take, data_len, List.length_nil] at this; omega
          have := head_of_zero HDk.out hne2 hv0
          rw [List.getElem?_take, if_pos hk0] at this
          exact numB_zero ((zeroAhead_iff _).2 ⟨by rw [data_len]; omega, this⟩)
        have hnext : (0 < k → val (s.data.toList.take k) ≠ 0) → zeroAhead (s.data.toList.take (k + 1)) = false := fun hn => by
          rw [Bool.eq_false_iff]; intro hz
          obtain ⟨z1, z2⟩ := (zeroAhead_iff _).1 hz
          rw [List.length_take, data_len] at z1
          rw [hg.out] at z2
          by_cases hk1 : k = 1
          · subst hk1
            apply hn (by omega)
            have e0 : s.data.toList.take 1 = [48] := by
              cases hq : s.data.toList with
              | nil => exact absurd hq hne.out
              | cons a b => rw [hq] at z2; simp at z2; simp [z2]
            rw [e0]; rfl
          · have : zeroAhead (s.data.toList.take k) = true := (zeroAhead_iff _).2 ⟨by rw [List.length_take, data_len]; omega, by rw [List.getElem?_take, if_pos (by omega)]; exact z2⟩
            rw [HZk.out] at this; cases this
        have HN := Lib.hid hnext
        have HO := Lib.hid hzero
        clear hnext hzero
        generalize hvv : val (s.data.toList.take k) = v at *
        have HV := Lib.hid hvv
        clear hvv
        by_cases hk0 : k = 0
        · subst hk0
          have hn := Lib.hid (HN.out (by omega))
          go_wp2_with fail
          go_round
          case rel => exact ⟨1, by omega, by go_num, by rw [HVS.out]; go_num, hds.out, hn.out⟩
          case measure => simp [intOf]; omega
        · by_cases hv0 : v = 0
          · have hno := Lib.hid (HO.out (by omega) hv0)
            subst hv0
            go_wp2_with fail
            go_ret2
            exact ⟨ret_num (num_no hno.out) hno.out.symm, rfl⟩
          · have hn := Lib.hid (HN.out (fun _ => hv0))
            have hbv : ((v : Int) == 0) = false := by rw [beq_eq_false_iff_ne]; omega
            go_wp2_with fail
            go_round
            case rel => exact ⟨k + 1, by omega, by go_num, by rw [HVS.out]; go_num, hds.out, hn.out⟩
            case measure => simp [intOf]; omega
      · have hno := Lib.hid (numB_dig (l := s.data.toList) (k := k + 1) (by rw [hts.out, dig_snoc, HDk.out, Bool.true_and, Bool.eq_false_iff]; intro e; exact hc ((isD_iff _).1 e)))
        by_cases hc3 : s[k].toNat < 48
        · clear hc
          go_wp2_with fail
          go_ret2
          exact ⟨ret_num (num_no hno.out) hno.out.symm, rfl⟩
        · have hc4 : 57 < s[k].toNat := by omega
          clear hc
          go_wp2_with fail
          go_ret2
          exact ⟨ret_num (num_no hno.out) hno.out.symm, rfl⟩
    · have hke : k = s.size := by omega
      subst hke
      have hall : s.data.toList.take s.size = s.data.toList := List.take_of_length_le (by rw [data_len]; omega)
      rw [hall] at HDk HZk hv10
      have HA := Lib.hid hall
      clear hall
      by_cases hm : val s.data.toList ≤ 1073741824
      · have hyes := Lib.hid (show numB s.data.toList = true from (numB_iff _).2 ⟨hne.out, HZk.out, HDk.out, hm⟩)
        have HW := Lib.hid (num_yes hyes.out)
        generalize hvv : val s.data.toList = v at *
        have HV := Lib.hid hvv
        clear hvv
        rw [HA.out, HV.out]
        go_wp2_with fail
        go_ret2
        exact ⟨ret_num HW.out hyes.out.symm, rfl⟩
      · have hno := Lib.hid (numB_val (l := s.data.toList) (k := s.size) (by rw [HA.out]; omega))
        generalize hvv : val s.data.toList = v at *
        have HV := Lib.hid hvv
        clear hvv
        rw [HA.out, HV.out]
        go_wp2_with fail
        go_ret2
        exact ⟨ret_num (num_no hno.out) hno.out.symm, rfl⟩

theorem refnumber_any (s : ByteArray) (w : World) (hs : s.size ≤ 9223372036854775807) :
    Calls Tryd.prog 16 #[.string s] w fun e w' => e = .returned (.tuple #[.int .i64 (numN s.data.toList), .bool (numB s.data.toList)]) ∧ w = w' := by
  by_cases h0 : 0 < s.size
  · by_cases h10 : s.size ≤ 10
    · exact refnumber_loop s w h0 h10
    · have hno := Lib.hid (long_no (l := s.data.toList) (by rw [data_len]; omega))
      have he1 : ¬ s = ByteArray.empty := by intro e; rw [e] at h0; simp at h0
      have he2 : ((s.size : Int) == 0) = false := by rw [beq_eq_false_iff_ne]; omega
      have h11 : ¬ ((s.size : Int) ≤ 10) := by omega
      have h12 : 10 < (s.size : Int) := by omega
      go_enter Tryd.func16, Tryd.ntmps16
      go_wp2_with fail
      go_ret2
      exact ⟨ret_num (num_no hno.out) hno.out.symm, rfl⟩
  · obtain rfl : s = ⟨#[]⟩ := by apply ByteArray.ext; exact Array.eq_empty_of_size_eq_zero (by have := s.size_data; omega)
    go_enter Tryd.func16, Tryd.ntmps16
    go_wp2_with fail
    go_ret2
    exact ⟨rfl, rfl⟩
end Go.Proofs.YtmilcjjofchpeaaDoor
