/- token: lists of words that lie in memory; Same and Plain by the document's own definitions. -/
import Derived.Test.YtmilcjjofchpeaaDoorRows
import Derived.Test.YtmilcjjofchpeaaDoorKit
import Derived.Test.YtmilcjjofchpeaaDoorTokMath
import Derived.Test.YtmilcjjofchpeaaDoorTokNum
import Derived.Deep.QuietTactic
import Derived.BigQuiet
import Derived.WalkKit
import Derived.ProofKit
import Derived.OpenShut
import Derived.IntWalk
namespace Go.Proofs.YtmilcjjofchpeaaDoor
open Go.ChangeShapes Go.WideShapes Go.ChangeAt Go.RowKit
set_option linter.unusedVariables false
open Go.RowKit

theorem ret_bool {a b : Bool} (h : a = b) : Ending.returned (.bool a) = .returned (.bool b) := by rw [h]
theorem bdrew {B : Nat} {a w : World} (h : Below B a w) (n : Nat) : Below B a (w.drewN n) := ⟨h.os, h.tape, h.output, h.size, h.block⟩
/-- A text's value. -/
def str (x : List UInt8) : Value := .string ⟨x.toArray⟩
theorem str_of (s : ByteArray) : Value.string s = str s.data.toList := by simp [str]
/-- A list of words as it lies in memory. -/
def Strs (w : World) (v : Value) (xs : List (List UInt8)) : Prop :=
  ∃ a cap, v = .slice a xs.length cap ∧ xs.length ≤ maxLen ∧ (xs = [] ∨ ∃ b off, a = some ⟨b, off, none⟩ ∧ b < w.heap.size ∧ ∀ i (hi : i < xs.length), w.cell? ⟨b, off + i, none⟩ = some (str xs[i]))
theorem Strs.below {w w' : World} {v : Value} {xs : List (List UInt8)} (h : Strs w v xs) (hb : Below w.heap.size w w') : Strs w' v xs := by
  obtain ⟨a, cap, rfl, hl, h⟩ := h
  refine ⟨a, cap, rfl, hl, ?_⟩
  rcases h with h | ⟨b, off, rfl, hb2, hc⟩
  · exact .inl h
  · exact .inr ⟨b, off, rfl, by have := hb.size; omega, fun i hi => (hb.cell (p := ⟨b, off + i, none⟩) hb2).trans (hc i hi)⟩
/-- What a call hands back: a list of words, and old memory as it was. -/
def GivesStrs (xs : List (List UInt8)) (w : World) (e : Ending) (w' : World) : Prop := ∃ v, e = .returned v ∧ Strs w' v xs ∧ Below w.heap.size w w'

theorem take_eq_succ {α : Type} {xs ys : List α} {k : Nat} (hx : k < xs.length) (hy : k < ys.length) (h : xs.take k = ys.take k) (he : xs[k] = ys[k]) : xs.take (k + 1) = ys.take (k + 1) := by
  rw [List.take_succ_eq_append_getElem hx, List.take_succ_eq_append_getElem hy, h, he]
theorem same_cells (a b : Option Addr) (ca cb : Nat) (xs ys : List (List UInt8)) (w : World) (hl : xs.length = ys.length) (hm : xs.length ≤ maxLen)
    (ha : xs = [] ∨ ∃ b off, a = some ⟨b, off, none⟩ ∧ b < w.heap.size ∧ ∀ i (hi : i < xs.length), w.cell? ⟨b, off + i, none⟩ = some (str xs[i]))
    (hb : ys = [] ∨ ∃ b' off, b = some ⟨b', off, none⟩ ∧ b' < w.heap.size ∧ ∀ i (hi : i < ys.length), w.cell? ⟨b', off + i, none⟩ = some (str ys[i])) :
    Calls Tryd.prog 10 #[.slice a xs.length ca, .slice b ys.length cb] w fun e w' => e = .returned (.bool (decide (xs = ys))) ∧ Below w.heap.size w w' := by
  unfold maxLen at hm
  have H1 := Lib.hid ha
  have H2 := Lib.hid hb
  have HL := Lib.hid hl
  rw [← hl]
  clear ha hb hl
  go_enter Tryd.func10, Tryd.ntmps10
  go_wp2_with fail
  go_loopw [5] (fun i wr => ∃ k : Nat, k ≤ xs.length ∧ i = .int .i64 k ∧ xs.take k = ys.take k ∧ Below w.heap.size w wr) (fun i _ => xs.length - (intOf i).toNat)
  case atStart => exact ⟨0, Nat.zero_le _, rfl, rfl, Below.refl _ _⟩
  case round =>
    obtain ⟨k, hk, rfl, htk, hbel⟩ := hrel
    have HT := Lib.hid htk
    clear htk
    by_cases hlt : k < xs.length
    · have hy : k < ys.length := by have := HL.out; omega
      obtain ⟨xb, xo, rfl, hxb, hxc⟩ : ∃ b off, a = some ⟨b, off, none⟩ ∧ b < w.heap.size ∧ ∀ i (hi : i < xs.length), w.cell? ⟨b, off + i, none⟩ = some (str xs[i]) := by
        rcases H1.out with h | h
        · subst h; simp at hlt
        · exact h
      obtain ⟨yb, yo, rfl, hyb, hyc⟩ : ∃ b' off, b = some ⟨b', off, none⟩ ∧ b' < w.heap.size ∧ ∀ i (hi : i < ys.length), w.cell? ⟨b', off + i, none⟩ = some (str ys[i]) := by
        rcases H2.out with h | h
        · subst h; simp at hy
        · exact h
      have h1 := (hbel.cell (p := ⟨xb, xo + k, none⟩) hxb).trans (hxc k hlt)
      have h2 := (hbel.cell (p := ⟨yb, yo + k, none⟩) hyb).trans (hyc k hy)
      clear hxc hyc H1 H2
      have HX := Lib.hid (take_eq_succ hlt hy HT.out)
      have HN : Hid (¬ xs[k] = ys[k] → ¬ xs = ys) := Lib.hid (fun h e => by subst e; exact h rfl)
      generalize hx : xs[k] = x at *
      generalize hyy : ys[k] = y at *
      have G1 := Lib.hid hx
      have G2 := Lib.hid hyy
      clear hx hyy
      unfold str at h1 h2
      by_cases he : x = y
      · subst he
        have HX2 := Lib.hid (HX.out rfl)
        go_wp2_with fail
        go_quiet (fail)
        go_wp2_with fail
        go_roundw
        case rel => exact ⟨k + 1, by omega, by go_num, HX2.out, bdrew hbel _⟩
        case measure => simp [intOf]; omega
      · have hne : (x == y) = false := by simpa using he
        have HD := Lib.hid (show decide (xs = ys) = false by simpa using HN.out he)
        clear he
        go_wp2_with fail
        go_quiet (fail)
        go_wp2_with fail
        go_ret
        exact ⟨ret_bool (by rw [HD.out]), bdrew hbel _⟩
    · have hke : k = xs.length := by omega
      subst hke
      have HD := Lib.hid (show decide (xs = ys) = true by
        have := HT.out
        rw [List.take_of_length_le (Nat.le_refl _), HL.out, List.take_of_length_le (Nat.le_refl _)] at this
        simpa using this)
      clear H1 H2
      go_wp2_with fail
      go_ret
      exact ⟨ret_bool (by rw [HD.out]), hbel⟩
theorem same_any {xs ys : List (List UInt8)} {v u : Value} (w : World) (h1 : Strs w v xs) (h2 : Strs w u ys) :
    Calls Tryd.prog 10 #[v, u] w fun e w' => e = .returned (.bool (decide (xs = ys))) ∧ Below w.heap.size w w' := by
  obtain ⟨a, ca, rfl, hl, ha⟩ := h1
  obtain ⟨b, cb, rfl, hl2, hb⟩ := h2
  by_cases h : xs.length = ys.length
  · exact same_cells a b ca cb xs ys w h hl ha hb
  · have HD := Lib.hid (show decide (xs = ys) = false by rw [decide_eq_false_iff_not]; intro e; exact h (by rw [e]))
    rw [HD.out]
    clear ha hb
    unfold maxLen at hl hl2
    have hb : ((xs.length : Int) == (ys.length : Int)) = false := by rw [beq_eq_false_iff_ne]; omega
    go_enter Tryd.func10, Tryd.ntmps10
    go_wp2_with fail
    go_ret
    exact ⟨rfl, Below.refl _ _⟩

theorem plain_any (s : ByteArray) (w : World) (hs : s.size ≤ 9223372036854775807) :
    Calls Tryd.prog 19 #[.string s] w fun e w' => e = .returned (.bool (plain s.data.toList)) ∧ w = w' := by
  go_enter Tryd.func19, Tryd.ntmps19
  go_wp2_with fail
  go_loop [3] (fun i => ∃ k : Nat, k ≤ s.size ∧ i = .int .i64 k ∧ (s.data.toList.take k).all (fun c => c != 32) = true) (fun i => s.size - (intOf i).toNat)
  case atStart => exact ⟨0, Nat.zero_le _, rfl, by simp⟩
  case round =>
    obtain ⟨k, hk, rfl, ha⟩ := hrel
    have HA := Lib.hid ha
    clear ha
    by_cases hlt : k < s.size
    · have hts := Lib.hid (take_snoc s k hlt)
      by_cases hc : s[k] = 32
      · have hb : ((s[k].toNat : Int) == 32) = true := by rw [hc]; rfl
        have HP := Lib.hid (show plain s.data.toList = false by
          rw [Bool.eq_false_iff]; intro hp
          simp only [plain, Bool.and_eq_true] at hp
          have := List.all_eq_true.1 hp.2 s[k] (List.mem_of_getElem? (data_get? s k hlt))
          rw [hc] at this; cases this)
        clear hc
        go_wp2_with fail
        go_ret
        exact ⟨ret_bool (by rw [HP.out]), rfl⟩
      · have hb : ((s[k].toNat : Int) == 32) = false := by
          rw [beq_eq_false_iff_ne]; intro e; exact hc (UInt8.toNat_inj.1 (by simp; omega))
        have HN := Lib.hid (show (s.data.toList.take (k + 1)).all (fun c => c != 32) = true by rw [hts.out, List.all_append, HA.out]; simpa using hc)
        clear hc
        go_wp2_with fail
        go_round
        case rel => exact ⟨k + 1, by omega, by go_num, HN.out⟩
        case measure => simp [intOf]; omega
    · have hke : k = s.size := by omega
      subst hke
      have HP := Lib.hid (show plain s.data.toList = decide (0 < s.size) by
        have h2 := HA.out
        rw [List.take_of_length_le (by rw [data_len]; omega)] at h2
        simp only [plain, h2, Bool.and_true]
        by_cases h0 : 0 < s.size
        · have := data_nil h0; cases hq : s.data.toList with
          | nil => exact absurd hq this
          | cons a b => simp [h0]
        · have : s.data.toList = [] := List.eq_nil_of_length_eq_zero (by rw [data_len]; omega)
          simp [this, h0])
      go_wp2_with fail
      go_ret
      exact ⟨ret_bool (by rw [HP.out]), rfl⟩
end Go.Proofs.YtmilcjjofchpeaaDoor
