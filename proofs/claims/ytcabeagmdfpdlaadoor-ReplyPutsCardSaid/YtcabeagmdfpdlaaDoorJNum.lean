import Derived.Test.YtcabeagmdfpdlaaDoorRows
import Derived.Test.YtcabeagmdfpdlaaDoorKit
import Derived.Test.YtcabeagmdfpdlaaDoorJMath
import Derived.PlainAid
import Derived.WalkKit
import Derived.ProofKit
import Derived.OpenShut
import Derived.IntWalk
/- token: Number, of whatever word, by the code and by the document's own definition. -/
namespace Go.Proofs.YtcabeagmdfpdlaaDoor
open Go.ChangeShapes Go.WideShapes Go.ChangeAt Go.RowKit
set_option linter.unusedVariables false
open Go.RowKit

theorem take_snoc (s : ByteArray) (k : Nat) (h : k < s.size) : s.data.toList.take (k + 1) = s.data.toList.take k ++ [s[k]] := by
  rw [List.take_succ_eq_append_getElem (by simpa using h)]; rfl
theorem data_get? (s : ByteArray) (k : Nat) (h : k < s.size) : s.data.toList[k]? = some s[k] := by
  rw [List.getElem?_eq_getElem (by simpa using h)]; rfl
theorem data_len (s : ByteArray) : s.data.toList.length = s.size := by simp
theorem data_nil {s : ByteArray} (h : 0 < s.size) : s.data.toList ≠ [] := by
  intro e; have := data_len s; rw [e] at this; simp at this; omega
theorem ret_num {l : List UInt8} {n : Int} {b : Bool} (h1 : n = numN l) (h2 : b = numB l) : Ending.returned (.tuple #[.int .i64 n, .bool b]) = .returned (.tuple #[.int .i64 (numN l), .bool (numB l)]) := by rw [h1, h2]
theorem num_no {l : List UInt8} (h : numB l = false) : (0 : Int) = numN l := by unfold numN; rw [h]; rfl
theorem num_yes {l : List UInt8} (h : numB l = true) : ((val l : Nat) : Int) = numN l := by unfold numN; rw [h]; rfl
theorem numB_val {l : List UInt8} {k : Nat} (h : 1073741824 < val (l.take k)) : numB l = false := by
  rw [Bool.eq_false_iff]; intro h2; have := ((numB_iff l).1 h2).2.2.2; have := val_take_le l k; omega
theorem numB_dig {l : List UInt8} {k : Nat} (h : dig (l.take k) = false) : numB l = false := by
  rw [Bool.eq_false_iff]; intro h2; have := dig_take ((numB_iff l).1 h2).2.2.1 k; rw [h] at this; cases this
theorem numB_zero {l : List UInt8} (h : zeroAhead l = true) : numB l = false := by simp [numB, h]

theorem number_nil (s : ByteArray) (w : World) (hs : s.size = 0) :
    Calls Tryd.prog 57 #[.string s] w fun e w' => e = .returned (.tuple #[.int .i64 (numN s.data.toList), .bool (numB s.data.toList)]) ∧ w = w' := by
  obtain rfl : s = ⟨#[]⟩ := by apply ByteArray.ext; exact Array.eq_empty_of_size_eq_zero hs
  go_enter Tryd.func57, Tryd.ntmps57
  go_wp2_with fail
  go_ret2
  exact ⟨rfl, rfl⟩

theorem number_loop (s : ByteArray) (w : World) (hs : s.size ≤ 9223372036854775807) (h0 : 0 < s.size) (hz : zeroAhead s.data.toList = false) :
    Calls Tryd.prog 57 #[.string s] w fun e w' => e = .returned (.tuple #[.int .i64 (numN s.data.toList), .bool (numB s.data.toList)]) ∧ w = w' := by
  have he : s.toList.isEmpty = false := by rw [ByteArray.toList_eq]; simpa using data_nil h0
  have hz2 : 1 < s.size → (((s[0]'h0).toNat : Int) == 48) = false := by
    intro h; rw [beq_eq_false_iff_ne]; intro e
    have e2 : s[0] = 48 := UInt8.toNat_inj.1 (by simp; omega)
    rw [(zeroAhead_iff _).2 ⟨by rw [data_len]; exact h, by rw [data_get? s 0 h0, e2]⟩] at hz; cases hz
  have hd1 : dig (s.data.toList.take 0) = true := by simp [dig]
  have HZ := Lib.hid hz
  have HD := Lib.hid hd1
  clear hz hd1
  have hne := Lib.hid (data_nil h0)
  by_cases h1 : 1 < s.size
  all_goals
    first | (have hb := hz2 h1; clear hz2) | clear hz2
    go_enter Tryd.func57, Tryd.ntmps57
    go_wp2_with fail
    go_loop [4, 21] (fun n i => ∃ k : Nat, k ≤ s.size ∧ i = .int .i64 k ∧ n = .int .i64 (val (s.data.toList.take k) : Nat) ∧ dig (s.data.toList.take k) = true ∧ val (s.data.toList.take k) ≤ 1073741824) (fun _ i => s.size - (intOf i).toNat)
    case atStart => exact ⟨0, Nat.zero_le _, rfl, rfl, HD.out, by simp [val]⟩
    case round =>
      obtain ⟨k, hk, rfl, rfl, hd, hv⟩ := hrel
      have HDk := Lib.hid hd
      clear hd
      by_cases hlt : k < s.size
      · have hts := Lib.hid (take_snoc s k hlt)
        by_cases hc : 48 ≤ s[k].toNat ∧ s[k].toNat ≤ 57
        · obtain ⟨hc1, hc2⟩ := hc
          have hvs : val (s.data.toList.take (k + 1)) = 10 * val (s.data.toList.take k) + (s[k].toNat - 48) := by rw [hts.out, val_snoc]
          have hds := Lib.hid (show dig (s.data.toList.take (k + 1)) = true by rw [hts.out, dig_snoc, HDk.out, (isD_iff _).2 ⟨hc1, hc2⟩]; rfl)
          have HVS := Lib.hid hvs
          clear hvs
          generalize hvv : val (s.data.toList.take k) = v at *
          have HV := Lib.hid hvv
          clear hvv
          by_cases ho : 10 * v + (s[k].toNat - 48) ≤ 1073741824
          · go_wp2_with fail
            go_round
            case rel => exact ⟨k + 1, by omega, by go_num, by rw [HVS.out]; go_num, hds.out, by rw [HVS.out]; exact ho⟩
            case measure => simp [intOf]; omega
          · have hno := Lib.hid (numB_val (l := s.data.toList) (k := k + 1) (by rw [HVS.out]; omega))
            go_wp2_with fail
            go_ret2
            exact ⟨ret_num (num_no hno.out) hno.out.symm, rfl⟩
        · have hno := Lib.hid (numB_dig (l := s.data.toList) (k := k + 1) (by rw [hts.out, dig_snoc, HDk.out, Bool.true_and, Bool.eq_false_iff]; intro e; exact hc ((isD_iff _).1 e)))
          by_cases hc3 : s[k].toNat < 48
          · clear hc
            go_wp2_with fail
            go_ret2
            exact ⟨ret_num (num_no hno.out) hno.out.symm, rfl⟩
          · have hc4 : 57 < s[k].toNat := by omega
            clear hc
            go_wp2_with fail
            go_ret2
            exact ⟨ret_num (num_no hno.out) hno.out.symm, rfl⟩
      · have hke : k = s.size := by omega
        subst hke
        have hall : s.data.toList.take s.size = s.data.toList := List.take_of_length_le (by rw [data_len]; omega)
        have hyes := Lib.hid (show numB s.data.toList = true from (numB_iff _).2 ⟨hne.out, HZ.out, by rw [← hall]; exact HDk.out, by rw [← hall]; exact hv⟩)
        have HA := Lib.hid hall
        clear hall
        go_wp2_with fail
        go_ret2
        exact ⟨ret_num (by rw [HA.out]; exact num_yes hyes.out) hyes.out.symm, rfl⟩

theorem number_any (s : ByteArray) (w : World) (hs : s.size ≤ 9223372036854775807) :
    Calls Tryd.prog 57 #[.string s] w fun e w' => e = .returned (.tuple #[.int .i64 (numN s.data.toList), .bool (numB s.data.toList)]) ∧ w = w' := by
  by_cases h0 : 0 < s.size
  · by_cases hz : zeroAhead s.data.toList = true
    · have hno := Lib.hid (numB_zero hz)
      have he : s.toList.isEmpty = false := by rw [ByteArray.toList_eq]; simpa using data_nil h0
      obtain ⟨h1, h2⟩ := (zeroAhead_iff _).1 hz
      rw [data_len] at h1
      have hb : (((s[0]'h0).toNat : Int) == 48) = true := by
        rw [data_get? s 0 h0] at h2; injection h2 with h2; rw [h2]; rfl
      clear hz h2
      go_enter Tryd.func57, Tryd.ntmps57
      go_wp2_with fail
      go_ret2
      exact ⟨ret_num (num_no hno.out) hno.out.symm, rfl⟩
    · exact number_loop s w hs h0 (by simpa using hz)
  · exact number_nil s w (by omega)
end Go.Proofs.YtcabeagmdfpdlaaDoor
/- token's numbers by the document's own definition. -/
namespace Go.Proofs.YtcabeagmdfpdlaaDoor
open Go.ChangeShapes Go.WideShapes Go.ChangeAt Go.RowKit
set_option linter.unusedVariables false
open Go.RowKit

theorem refnumber_loop (s : ByteArray) (w : World) (h0 : 0 < s.size) (h10 : s.size ≤ 10) :
    Calls Tryd.prog 50 #[.string s] w fun e w' => e = .returned (.tuple #[.int .i64 (numN s.data.toList), .bool (numB s.data.toList)]) ∧ w = w' := by
  have hd1 : dig (s.data.toList.take 0) = true := by simp [dig]
  have HD := Lib.hid hd1
  clear hd1
  have hne := Lib.hid (data_nil h0)
  have he1 : ¬ s = ByteArray.empty := by intro e; rw [e] at h0; simp at h0
  have he2 : ((s.size : Int) == 0) = false := by rw [beq_eq_false_iff_ne]; omega
  go_enter Tryd.func50, Tryd.ntmps50
  go_wp2_with fail
  go_loop [4, 5] (fun n i => ∃ k : Nat, k ≤ s.size ∧ i = .int .i64 k ∧ n = .int .i64 (val (s.data.toList.take k) : Nat) ∧ dig (s.data.toList.take k) = true ∧ zeroAhead (s.data.toList.take k) = false) (fun _ i => s.size - (intOf i).toNat)
  case atStart => exact ⟨0, Nat.zero_le _, rfl, rfl, HD.out, by simp [zeroAhead]⟩
  case round =>
    obtain ⟨k, hk, rfl, rfl, hd, hz⟩ := hrel
    have HDk := Lib.hid hd
    have HZk := Lib.hid hz
    have hlt10 := val_lt _ hd
    have hle : (s.data.toList.take k).length ≤ 10 := by have := List.length_take_le k s.data.toList; omega
    have hp10 : 10 ^ (s.data.toList.take k).length ≤ 10 ^ 10 := Nat.pow_le_pow_right (by omega) hle
    have hv10 : val (s.data.toList.take k) < 10000000000 := by omega
    clear hd hz hlt10 hle hp10
    by_cases hlt : k < s.size
    · have hts := Lib.hid (take_snoc s k hlt)
      have hg := Lib.hid (show (s.data.toList.take (k + 1))[0]? = s.data.toList[0]? by rw [List.getElem?_take, if_pos (by omega)])
      by_cases hc : 48 ≤ s[k].toNat ∧ s[k].toNat ≤ 57
      · obtain ⟨hc1, hc2⟩ := hc
        have hds := Lib.hid (show dig (s.data.toList.take (k + 1)) = true by rw [hts.out, dig_snoc, HDk.out, (isD_iff _).2 ⟨hc1, hc2⟩]; rfl)
        have HVS := Lib.hid (show val (s.data.toList.take (k + 1)) = 10 * val (s.data.toList.take k) + (s[k].toNat - 48) by rw [hts.out, val_snoc])
        have hzero : 0 < k → val (s.data.toList.take k) = 0 → numB s.data.toList = false := fun hk0 hv0 => by
          have hne2 : s.data.toList.take k ≠ [] := by intro e; have := congrArg List.length e; rw [List.length_take, data_len, List.length_nil] at this; omega
          have := head_of_zero HDk.out hne2 hv0
          rw [List.getElem?_take, if_pos hk0] at this
          exact numB_zero ((zeroAhead_iff _).2 ⟨by rw [data_len]; omega, this⟩)
        have hnext : (0 < k → val (s.data.toList.take k) ≠ 0) → zeroAhead (s.data.toList.take (k + 1)) = false := fun hn => by
          rw [Bool.eq_false_iff]; intro hz
          obtain ⟨z1, z2⟩ := (zeroAhead_iff _).1 hz
          rw [List.length_take, data_len] at z1
          rw [hg.out] at z2
          by_cases hk1 : k = 1
          · subst hk1
            apply hn (by omega)
            have e0 : s.data.toList.take 1 = [48] := by
              cases hq : s.data.toList with
              | nil => exact absurd hq hne.out
              | cons a b => rw [hq] at z2; simp at z2; simp [z2]
            rw [e0]; rfl
          · have : zeroAhead (s.data.toList.take k) = true := (zeroAhead_iff _).2 ⟨by rw [List.length_take, data_len]; omega, by rw [List.getElem?_take, if_pos (by omega)]; exact z2⟩
            rw [HZk.out] at this; cases this
        have HN := Lib.hid hnext
        have HO := Lib.hid hzero
        clear hnext hzero
        generalize hvv : val (s.data.toList.take k) = v at *
        have HV := Lib.hid hvv
        clear hvv
        by_cases hk0 : k = 0
        · subst hk0
          have hn := Lib.hid (HN.out (by omega))
          go_wp2_with fail
          go_round
          case rel => exact ⟨1, by omega, by go_num, by rw [HVS.out]; go_num, hds.out, hn.out⟩
          case measure => simp [intOf]; omega
        · by_cases hv0 : v = 0
          · have hno := Lib.hid (HO.out (by omega) hv0)
            subst hv0
            go_wp2_with fail
            go_ret2
            exact ⟨ret_num (num_no hno.out) hno.out.symm, rfl⟩
          · have hn := Lib.hid (HN.out (fun _ => hv0))
            have hbv : ((v : Int) == 0) = false := by rw [beq_eq_false_iff_ne]; omega
            go_wp2_with fail
            go_round
            case rel => exact ⟨k + 1, by omega, by go_num, by rw [HVS.out]; go_num, hds.out, hn.out⟩
            case measure => simp [intOf]; omega
      · have hno := Lib.hid (numB_dig (l := s.data.toList) (k := k + 1) (by rw [hts.out, dig_snoc, HDk.out, Bool.true_and, Bool.eq_false_iff]; intro e; exact hc ((isD_iff _).1 e)))
        by_cases hc3 : s[k].toNat < 48
        · clear hc
          go_wp2_with fail
          go_ret2
          exact ⟨ret_num (num_no hno.out) hno.out.symm, rfl⟩
        · have hc4 : 57 < s[k].toNat := by omega
          clear hc
          go_wp2_with fail
          go_ret2
          exact ⟨ret_num (num_no hno.out) hno.out.symm, rfl⟩
    · have hke : k = s.size := by omega
      subst hke
      have hall : s.data.toList.take s.size = s.data.toList := List.take_of_length_le (by rw [data_len]; omega)
      rw [hall] at HDk HZk hv10
      have HA := Lib.hid hall
      clear hall
      by_cases hm : val s.data.toList ≤ 1073741824
      · have hyes := Lib.hid (show numB s.data.toList = true from (numB_iff _).2 ⟨hne.out, HZk.out, HDk.out, hm⟩)
        have HW := Lib.hid (num_yes hyes.out)
        generalize hvv : val s.data.toList = v at *
        have HV := Lib.hid hvv
        clear hvv
        rw [HA.out, HV.out]
        go_wp2_with fail
        go_ret2
        exact ⟨ret_num HW.out hyes.out.symm, rfl⟩
      · have hno := Lib.hid (numB_val (l := s.data.toList) (k := s.size) (by rw [HA.out]; omega))
        generalize hvv : val s.data.toList = v at *
        have HV := Lib.hid hvv
        clear hvv
        rw [HA.out, HV.out]
        go_wp2_with fail
        go_ret2
        exact ⟨ret_num (num_no hno.out) hno.out.symm, rfl⟩

theorem refnumber_any (s : ByteArray) (w : World) (hs : s.size ≤ 9223372036854775807) :
    Calls Tryd.prog 50 #[.string s] w fun e w' => e = .returned (.tuple #[.int .i64 (numN s.data.toList), .bool (numB s.data.toList)]) ∧ w = w' := by
  by_cases h0 : 0 < s.size
  · by_cases h10 : s.size ≤ 10
    · exact refnumber_loop s w h0 h10
    · have hno := Lib.hid (long_no (l := s.data.toList) (by rw [data_len]; omega))
      have he1 : ¬ s = ByteArray.empty := by intro e; rw [e] at h0; simp at h0
      have he2 : ((s.size : Int) == 0) = false := by rw [beq_eq_false_iff_ne]; omega
      have h11 : ¬ ((s.size : Int) ≤ 10) := by omega
      have h12 : 10 < (s.size : Int) := by omega
      go_enter Tryd.func50, Tryd.ntmps50
      go_wp2_with fail
      go_ret2
      exact ⟨ret_num (num_no hno.out) hno.out.symm, rfl⟩
  · obtain rfl : s = ⟨#[]⟩ := by apply ByteArray.ext; exact Array.eq_empty_of_size_eq_zero (by have := s.size_data; omega)
    go_enter Tryd.func50, Tryd.ntmps50
    go_wp2_with fail
    go_ret2
    exact ⟨rfl, rfl⟩
end Go.Proofs.YtcabeagmdfpdlaaDoor
