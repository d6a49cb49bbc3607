import Derived.Test.YtcabeagmdfpdlaaDoorRows
import Derived.Test.YtcabeagmdfpdlaaDoorKit
import Derived.Test.YtcabeagmdfpdlaaDoorStrs
import Derived.Test.YtcabeagmdfpdlaaDoorJMath
import Derived.Test.YtcabeagmdfpdlaaDoorJNum
import Derived.Deep.QuietTactic
import Derived.BigQuiet
import Derived.WalkKit
import Derived.ProofKit
import Derived.OpenShut
import Derived.IntWalk
/- token: lists of words that lie in memory; Same and Plain by the document's own definitions. -/
namespace Go.Proofs.YtcabeagmdfpdlaaDoor
open Go.ChangeShapes Go.WideShapes Go.ChangeAt Go.RowKit
set_option linter.unusedVariables false
open Go.RowKit

end Go.Proofs.YtcabeagmdfpdlaaDoor
/- token: Cut by the document's own definition. -/
namespace Go.Proofs.YtcabeagmdfpdlaaDoor
open Go.ChangeShapes Go.WideShapes Go.ChangeAt Go.RowKit
set_option linter.unusedVariables false
open Go.RowKit

theorem string_info : (Tryd.prog.info? 9).map (fun i => (i.zero, i.size, i.bytes)) = some (some (.string ⟨#[]⟩), 1, 16) := by kernel_rfl
/-- A row of the call's own, as a list of words. -/
theorem strs_of_row {w : World} {base : Nat} {v : Value} {xs : List (List UInt8)} (h : w.ownsRow base 9 1 v xs.length (xs.map str)) (hm : xs.length ≤ maxLen) : Strs w v xs := by
  obtain ⟨_, h⟩ := h
  rcases h with ⟨rfl, h0⟩ | ⟨g, cap2, cur, rfl, hg, hh, hn, hc2, hsz, htk⟩
  · have : xs = [] := List.eq_nil_of_length_eq_zero h0
    subst this; exact ⟨none, 0, rfl, by simp, .inl rfl⟩
  · refine ⟨_, _, rfl, hm, .inr ⟨g, 0, rfl, ?_, fun i hi => ?_⟩⟩
    · exact (Array.getElem?_eq_some_iff.1 hh).1
    · have e1 : cur.toList[i]? = some (str xs[i]) := by
        have e2 : (cur.toList.take (xs.length * 1))[i]? = (xs.map str)[i]? := by rw [htk]
        rw [List.getElem?_take] at e2
        simpa [hi] using e2
      simp [World.cell?, hh, Array.getElem?_toList] at e1 ⊢
      exact e1
theorem strsC_of_row {w : World} {base : Nat} {v : Value} {xs : List (List UInt8)} (h : w.ownsRow base 9 1 v xs.length (xs.map str)) (hm : xs.length ≤ maxLen) : StrsC w v xs := by
  refine ⟨strs_of_row h hm, ?_⟩
  rcases h.2 with ⟨rfl, h0⟩ | ⟨g, c, cur, rfl, _, _, hc, _⟩
  · exact ⟨none, 0, by rw [h0], by omega⟩
  · exact ⟨_, c, rfl, hc⟩
theorem one_new (w : World) (x : Value) (T : TypeId) (j : Nat) (u : Value) (h : [x][j]? = some u) : (w.alloc (.cells #[x] T)).cell? ((⟨w.heap.size, 0, none⟩ : Addr).add j) = some u := by
  match j, h with
  | 0, h => simp at h; subst h; simp [Addr.add]
theorem one_cell (x : Value) (hx : x.oneCell' = true) : ∀ u ∈ [x], u.oneCell' = true := by intro u hu; simp at hu; rw [hu]; exact hx
theorem cuts_len (l : List UInt8) : (cuts l).length ≤ l.length + 1 := by
  induction l with
  | nil => simp [cuts]
  | cons c l ih =>
    rw [cuts_cons]
    split
    · simp; omega
    · cases hq : cuts l with
      | nil => simp [onto]
      | cons h t => rw [hq] at ih; simp [onto] at ih ⊢; omega
theorem words_len (l : List UInt8) : (words l).length ≤ l.length + 1 := Nat.le_trans (List.length_filter_le _ _) (cuts_len l)

theorem drop_gap (s : ByteArray) (i : Nat) (h : i < s.size) (hc : s[i] = 32) : words (s.data.toList.drop i) = words (s.data.toList.drop (i + 1)) := by
  have : s.data.toList.drop i = 32 :: s.data.toList.drop (i + 1) := by
    rw [List.drop_eq_getElem_cons (by rw [data_len]; exact h)]
    have : s.data.toList[i]'(by rw [data_len]; exact h) = s[i] := rfl
    rw [this, hc]
  rw [this, words_gap]
/-- The part from i to k. -/
def part (s : ByteArray) (i k : Nat) : List UInt8 := (s.data.toList.drop i).take (k - i)
theorem part_snoc (s : ByteArray) (i k : Nat) (hik : i ≤ k) (h : k < s.size) : part s i (k + 1) = part s i k ++ [s[k]] := by
  unfold part
  rw [show k + 1 - i = (k - i) + 1 by omega, List.take_succ_eq_append_getElem (by rw [List.length_drop, data_len]; omega)]
  congr 1
  simp only [List.getElem_drop]
  have : i + (k - i) = k := by omega
  simp only [this]; rfl
theorem part_all {s : ByteArray} {i k : Nat} (hik : i ≤ k) (h : k < s.size) (ha : (part s i k).all (fun c => c != 32) = true) (hc : ¬ s[k] = 32) : (part s i (k + 1)).all (fun c => c != 32) = true := by
  rw [part_snoc s i k hik h, List.all_append, ha]; simpa using hc
theorem part_extract (s : ByteArray) (i k : Nat) : Value.string (s.extract i k) = str (part s i k) := by
  unfold str part
  have := ByteArray.extract_mk s.data.toList i k
  rw [show (ByteArray.mk s.data.toList.toArray) = s by simp] at this
  rw [this]
theorem part_words {s : ByteArray} {i k : Nat} (hik : i < k) (hk : k ≤ s.size) (ha : (part s i k).all (fun c => c != 32) = true) (hend : k = s.size ∨ ∃ h : k < s.size, s[k] = 32) :
    words (s.data.toList.drop i) = part s i k :: words (s.data.toList.drop k) := by
  have e : s.data.toList.drop i = part s i k ++ s.data.toList.drop k := by
    unfold part
    have := List.take_append_drop (k - i) (s.data.toList.drop i)
    rw [List.drop_drop, show i + (k - i) = k by omega] at this
    exact this.symm
  rw [e, words_word]
  · simp only [plain, ha, Bool.and_true, Bool.not_eq_true', List.isEmpty_eq_false_iff]
    intro e2
    have := congrArg List.length e2
    unfold part at this
    rw [List.length_take, List.length_drop, data_len, List.length_nil] at this
    omega
  · rcases hend with rfl | ⟨h, hc⟩
    · left; exact List.drop_eq_nil_of_le (by rw [data_len]; omega)
    · right
      rw [List.getElem?_drop, Nat.add_zero, data_get? s k h, hc]

set_option maxRecDepth 100000 in
theorem refcut_any (s : ByteArray) (w : World) (hs : s.size ≤ 1000000) :
    Calls Tryd.prog 32 #[.string s] w (GivesStrs (words s.data.toList) w) := by
  obtain ⟨i0, hi0, hz0, hz1, hz2⟩ := info_parts string_info
  have HI := Lib.hid hi0
  clear hi0
  go_enter Tryd.func32, Tryd.ntmps32
  go_wp2_with fail
  go_loopw [3, 4] (fun v iv wr => ∃ (i : Nat) (ys : List (List UInt8)), i ≤ s.size ∧ iv = .int .i64 i ∧ words s.data.toList = ys ++ words (s.data.toList.drop i) ∧ ys.length ≤ i ∧
      wr.ownsRow w.heap.size 9 1 v ys.length (ys.map str) ∧ Below w.heap.size w wr) (fun _ iv _ => s.size - (intOf iv).toNat)
  case atStart => exact ⟨0, [], Nat.zero_le _, rfl, by simp, by simp, World.ownsRow_nil _ _ _ _, Below.refl _ _⟩
  case round =>
    obtain ⟨i, ys, hi, rfl, hw, hyl, hown, hbel⟩ := hrel
    have HW := Lib.hid hw
    have HO := Lib.hid hown
    clear hw hown
    by_cases hlt : i < s.size
    · by_cases hc : s[i] = 32
      · have hb : ((s[i].toNat : Int) == 32) = true := by rw [hc]; rfl
        have HD := Lib.hid (drop_gap s i hlt hc)
        clear hc
        go_wp2_with fail
        go_roundw
        case rel => exact ⟨i + 1, ys, by omega, by go_num, by rw [HW.out, HD.out], by omega, HO.out, hbel⟩
        case measure => simp [intOf]; omega
      · have hb : ((s[i].toNat : Int) == 32) = false := by
          rw [beq_eq_false_iff_ne]; intro e; exact hc (UInt8.toNat_inj.1 (by simp; omega))
        have HC := Lib.hid hc
        clear hc
        go_wp2_with fail
        go_loop [5] (fun kv => ∃ k : Nat, i ≤ k ∧ k ≤ s.size ∧ kv = .int .i64 k ∧ (part s i k).all (fun c => c != 32) = true) (fun kv => s.size - (intOf kv).toNat)
        case atStart => exact ⟨i, Nat.le_refl _, by omega, rfl, by simp [part]⟩
        case round =>
          obtain ⟨k, hik, hk, rfl, ha⟩ := hrel
          have HA := Lib.hid ha
          clear ha
          by_cases hgo : ∃ h : k < s.size, ¬ s[k] = 32
          · obtain ⟨hk2, hc2⟩ := hgo
            have hb2 : ((s[k].toNat : Int) == 32) = false := by
              rw [beq_eq_false_iff_ne]; intro e; exact hc2 (UInt8.toNat_inj.1 (by simp; omega))
            have HA2 := Lib.hid (part_all hik hk2 HA.out hc2)
            clear hc2
            go_wp2_with fail
            go_round
            case rel => exact ⟨k + 1, by omega, by omega, by go_num, HA2.out⟩
            case measure => simp [intOf]; omega
          · have hend : k = s.size ∨ ∃ h : k < s.size, s[k] = 32 := by
              by_cases hk2 : k < s.size
              · right; exact ⟨hk2, Classical.byContradiction fun h => hgo ⟨hk2, h⟩⟩
              · left; omega
            clear hgo
            have hlt2 : i < k := by
              apply Decidable.byContradiction; intro h
              have hki : k = i := by omega
              subst hki
              rcases hend with h | ⟨h, hc⟩
              · omega
              · exact HC.out hc
            have HP := Lib.hid (part_words hlt2 hk HA.out hend)
            have hex := part_extract s i k
            have HG : ∀ hk2 : k < s.size, ((s[k].toNat : Int) == 32) = true := fun hk2 => by
              rcases hend with h | ⟨h, hc⟩
              · omega
              · rw [hc]; rfl
            have hsz := Lib.hid hbel.size
            have HEX := Lib.hid hex
            clear hend hex
            by_cases hk2 : k < s.size
            all_goals
              first
                | (have hb3 := HG hk2; clear HG)
                | clear HG
              go_wp2_with (at_builtin; refine wpList_append_own _ rfl (.tmp 29) (.tmp 34) 48 rfl w.heap.size 9 i0 (.string ⟨#[]⟩) 1 16 Tryd.underlying48 HI.out hz0 hz1 hz2 rfl (by decide) _ _ _ rfl (HO.out.alloc _) ⟨wr.heap.size, 0, none⟩ 1 1 [.string (s.extract i k)] rfl rfl (one_new _ _ _) (one_cell _ rfl) (by unfold maxLen; omega) (by omega) (by have := hsz.out; simp; omega) ?_; intro v' w2 hown' hgrow _)
              have R : w2.ownsRow w.heap.size 9 1 v' (ys ++ [part s i k]).length ((ys ++ [part s i k]).map str) := by
                rw [HEX.out] at hown'; simpa using hown'
              have hbel2 : Below w.heap.size w w2 := (hbel.alloc hsz.out _).grown hgrow (by have := hsz.out; simp; omega) (fun q hq => (HO.out.lt q hq).1)
              exact ⟨⟨k, ys ++ [part s i k], hk, rfl, by rw [HW.out, HP.out]; simp, by simp; omega, R, hbel2⟩, by simp [intOf]; omega⟩
    · have hie : i = s.size := by omega
      subst hie
      have HE := Lib.hid (show words s.data.toList = ys by
        have h := HW.out
        rw [List.drop_eq_nil_of_le (by rw [data_len]; omega), words_nil, List.append_nil] at h; exact h)
      go_wp2_with fail
      go_ret
      exact ⟨u3, rfl, by rw [HE.out]; exact strs_of_row HO.out (by unfold maxLen; omega), hbel⟩
end Go.Proofs.YtcabeagmdfpdlaaDoor
