/- token: Number, of whatever word, by the code and by the document's own definition. -/
import Derived.Test.YtmilcjjofchpeaaDoorRows
import Derived.Test.YtmilcjjofchpeaaDoorKit
import Derived.Test.YtmilcjjofchpeaaDoorTokMath
import Derived.PlainAid
import Derived.WalkKit
import Derived.ProofKit
import Derived.OpenShut
import Derived.IntWalk
namespace Go.Proofs.YtmilcjjofchpeaaDoor
open Go.ChangeShapes Go.WideShapes Go.ChangeAt Go.RowKit
set_option linter.unusedVariables false
open Go.RowKit

theorem take_snoc (s : ByteArray) (k : Nat) (h : k < s.size) : s.data.toList.take (k + 1) = s.data.toList.take k ++ [s[k]] := by
  rw [List.take_succ_eq_append_getElem (by simpa using h)]; rfl
theorem data_get? (s : ByteArray) (k : Nat) (h : k < s.size) : s.data.toList[k]? = some s[k] := by
  rw [List.getElem?_eq_getElem (by simpa using h)]; rfl
theorem data_len (s : ByteArray) : s.data.toList.length = s.size := by simp
theorem data_nil {s : ByteArray} (h : 0 < s.size) : s.data.toList ≠ [] := by
  intro e; have := data_len s; rw [e] at this; simp at this; omega
theorem ret_num {l : List UInt8} {n : Int} {b : Bool} (h1 : n = numN l) (h2 : b = numB l) : Ending.returned (.tuple #[.int .i64 n, .bool b]) = .returned (.tuple #[.int .i64 (numN l), .bool (numB l)]) := by rw [h1, h2]
theorem num_no {l : List UInt8} (h : numB l = false) : (0 : Int) = numN l := by unfold numN; rw [h]; rfl
theorem num_yes {l : List UInt8} (h : numB l = true) : ((val l : Nat) : Int) = numN l := by unfold numN; rw [h]; rfl
theorem numB_val {l : List UInt8} {k : Nat} (h : 1073741824 < val (l.take k)) : numB l = false := by
  rw [Bool.eq_false_iff]; intro h2; have := ((numB_iff l).1 h2).2.2.2; have := val_take_le l k; omega
theorem numB_dig {l : List UInt8} {k : Nat} (h : dig (l.take k) = false) : numB l = false := by
  rw [Bool.eq_false_iff]; intro h2; have := dig_take ((numB_iff l).1 h2).2.2.1 k; rw [h] at this; cases this
theorem numB_zero {l : List UInt8} (h : zeroAhead l = true) : numB l = false := by simp [numB, h]

theorem number_nil (s : ByteArray) (w : World) (hs : s.size = 0) :
    Calls Tryd.prog 15 #[.string s] w fun e w' => e = .returned (.tuple #[.int .i64 (numN s.data.toList), .bool (numB s.data.toList)]) ∧ w = w' := by
  obtain rfl : s = ⟨#[]⟩ := by apply ByteArray.ext; exact Array.eq_empty_of_size_eq_zero hs
  go_enter Tryd.func15, Tryd.ntmps15
  go_wp2_with fail
  go_ret2
  exact ⟨rfl, rfl⟩

theorem number_loop (s : ByteArray) (w : World) (hs : s.size ≤ 9223372036854775807) (h0 : 0 < s.size) (hz : zeroAhead s.data.toList = false) :
    Calls Tryd.prog 15 #[.string s] w fun e w' => e = .returned (.tuple #[.int .i64 (numN s.data.toList), .bool (numB s.data.toList)]) ∧ w = w' := by
  have he : s.toList.isEmpty = false := by rw [ByteArray.toList_eq]; simpa using data_nil h0
  have hz2 : 1 < s.size → (((s[0]'h0).toNat : Int) == 48) = false := by
    intro h; rw [beq_eq_false_iff_ne]; intro e
    have e2 : s[0] = 48 := UInt8.toNat_inj.1 (by simp; omega)
    rw [(zeroAhead_iff _).2 ⟨by rw [data_len]; exact h, by rw [data_get? s 0 h0, e2]⟩] at hz; cases hz
  have hd1 : dig (s.data.toList.take 0) = true := by simp [dig]
  have HZ := Lib.hid hz
  have HD := Lib.hid hd1
  clear hz hd1
  have hne := Lib.hid (data_nil h0)
  by_cases h1 : 1 < s.size
  all_goals
    first | (have hb := hz2 h1; clear hz2) | clear hz2
    go_enter Tryd.func15, Tryd.ntmps15
    go_wp2_with fail
    go_loop [4, 21] (fun n i => ∃ k : Nat, k ≤ s.size ∧ i = .int .i64 k ∧ n = .int .i64 (val (s.data.toList.take k) : Nat) ∧ dig (s.data.toList.take k) = true ∧ val (s.data.toList.take k) ≤ 1073741824) (fun _ i => s.size - (intOf i).toNat)
    case atStart => exact ⟨0, Nat.zero_le _, rfl, rfl, HD.out, by simp [val]⟩
    case round =>
      obtain ⟨k, hk, rfl, rfl, hd, hv⟩ := hrel
      have HDk := Lib.hid hd
      clear hd
      by_cases hlt : k < s.size
      · have hts := Lib.hid (take_snoc s k hlt)
        by_cases hc : 48 ≤ s[k].toNat ∧ s[k].toNat ≤ 57
        · obtain ⟨hc1, hc2⟩ := hc
          have hvs : val (s.data.toList.take (k + 1)) = 10 * val (s.data.toList.take k) + (s[k].toNat - 48) := by rw [hts.out, val_snoc]
          have hds := Lib.hid (show dig (s.data.toList.take (k + 1)) = true by rw [hts.out, dig_snoc, HDk.out, (isD_iff _).2 ⟨hc1, hc2⟩]; rfl)
          have HVS := Lib.hid hvs
          clear hvs
          generalize hvv : val (s.data.toList.take k) = v at *
          have HV := Lib.hid hvv
          clear hvv
          by_cases ho : 10 * v + (s[k].toNat - 48) ≤ 1073741824
          · go_wp2_with fail
            go_round
            case rel => exact ⟨k + 1, by omega, by go_num, by rw [HVS.out]; go_num, hds.out, by rw [HVS.out]; exact ho⟩
            case measure => simp [intOf]; omega
          · have hno := Lib.hid (numB_val (l := s.data.toList) (k := k + 1) (by rw [HVS.out]; omega))
            go_wp2_with fail
            go_ret2
            exact ⟨ret_num (num_no hno.out) hno.out.symm, rfl⟩
        · have hno := Lib.hid (numB_dig (l := s.data.toList) (k := k + 1) (by rw [hts.out, dig_snoc, HDk.out, Bool.true_and, Bool.eq_false_iff]; intro e; exact hc ((isD_iff _).1 e)))
          by_cases hc3 : s[k].toNat < 48
          · clear hc
            go_wp2_with fail
            go_ret2
            exact ⟨ret_num (num_no hno.out) hno.out.symm, rfl⟩
          · have hc4 : 57 < s[k].toNat := by omega
            clear hc
            go_wp2_with fail
            go_ret2
            exact ⟨ret_num (num_no hno.out) hno.out.symm, rfl⟩
      · have hke : k = s.size := by omega
        subst hke
        have hall : s.data.toList.take s.size = s.data.toList := List.take_of_length_le (by rw [data_len]; omega)
        have hyes := Lib.hid (show numB s.data.toList = true from (numB_iff _).2 ⟨hne.out, HZ.out, by rw [← hall]; exact HDk.out, by rw [← hall]; exact hv⟩)
        have HA := Lib.hid hall
        clear hall
        go_wp2_with fail
        go_ret2
        exact ⟨ret_num (by rw [HA.out]; exact num_yes hyes.out) hyes.out.symm, rfl⟩

theorem number_any (s : ByteArray) (w : World) (hs : s.size ≤ 9223372036854775807) :
    Calls Tryd.prog 15 #[.string s] w fun e w' => e = .returned (.tuple #[.int .i64 (numN s.data.toList), .bool (numB s.data.toList)]) ∧ w = w' := by
  by_cases h0 : 0 < s.size
  · by_cases hz : zeroAhead s.data.toList = true
    · have hno := Lib.hid (numB_zero hz)
      have he : s.toList.isEmpty = false := by rw [ByteArray.toList_eq]; simpa using data_nil h0
      obtain ⟨h1, h2⟩ := (zeroAhead_iff _).1 hz
      rw [data_len] at h1
      have hb : (((s[0]'h0).toNat : Int) == 48) = true := by
        rw [data_get? s 0 h0] at h2; injection h2 with h2; rw [h2]; rfl
      clear hz h2
      go_enter Tryd.func15, Tryd.ntmps15
      go_wp2_with fail
      go_ret2
      exact ⟨ret_num (num_no hno.out) hno.out.symm, rfl⟩
    · exact number_loop s w hs h0 (by simpa using hz)
  · exact number_nil s w (by omega)
end Go.Proofs.YtmilcjjofchpeaaDoor
