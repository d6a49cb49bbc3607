/- desc.floors: the places of items in these rooms. -/
import Derived.Test.YtniblphklgbpnaaRows
import Derived.Test.YtniblphklgbpnaaKit
import Derived.Test.YtniblphklgbpnaaStrs
import Derived.Test.YtniblphklgbpnaaCoin
import Derived.Test.YtniblphklgbpnaaBlk
import Derived.Test.YtniblphklgbpnaaWorldMath
import Derived.Test.YtniblphklgbpnaaWorldAt
import Derived.Deep.QuietTactic
import Derived.BigQuiet
import Derived.WalkKit
import Derived.ProofKit
import Derived.OpenShut
import Derived.IntWalk
namespace Go.Proofs.Ytniblphklgbpnaa
open Go.ChangeShapes Go.WideShapes Go.ChangeAt Go.RowKit
set_option linter.unusedVariables false
open Go.RowKit
theorem place_info : (Try.prog.info? 41).map (fun i => (i.zero, i.size, i.bytes)) = some (some (.agg #[.int .i64 0, .int .i64 0]), 2, 16) := by kernel_rfl
theorem make_places (n : Nat) (h : n ≤ 1000000) (W : World) : (Instr.makeSlice 27 (.int .i64 (n : Int)) (.int .i64 (n : Int))).run Try.prog W = .ok (.slice (some ⟨W.heap.size, 0, none⟩) n n) (W.alloc (.cells (madeCells (Value.agg #[.int .i64 0, .int .i64 0]).cells (n * 2)) 41)) := by
  obtain ⟨i0, hi0, hz0, hz1, hz2⟩ := info_parts place_info
  have hr := run_make (P := Try.prog) W 27 41 i0 (.agg #[.int .i64 0, .int .i64 0]) Try.underlying27 hi0 hz0 .i64 .i64 n n (by omega) (by omega) (by rw [hz2]; omega) (by omega)
  rw [Int.toNat_natCast, hz1] at hr
  exact hr
/-- What the floors' block holds after so many rounds. -/
def FlAt (xs : List Int) (k : Nat) (cs : Array Value) : Prop := cs.size = xs.length * 2 ∧ ∀ i (hi : i < xs.length), i < k → cs[i * 2]? = some (.int .i64 0) ∧ cs[i * 2 + 1]? = some (.int .i64 xs[i])
theorem FlAt.start (xs : List Int) (z : Array Value) : FlAt xs 0 (madeCells z (xs.length * 2)) := ⟨by simp [size_madeCells], fun i _ h => absurd h (by omega)⟩
theorem FlAt.step {xs : List Int} {k : Nat} {cs : Array Value} (h : FlAt xs k cs) (hk : k < xs.length) : FlAt xs (k + 1) ((cs.setIfInBounds (k * 2) (.int .i64 0)).setIfInBounds (k * 2 + 1) (.int .i64 xs[k])) := by
  obtain ⟨h1, h2⟩ := h
  refine ⟨by simp [h1], fun i hi hik => ?_⟩
  by_cases e : i = k
  · subst e
    constructor
    · rw [Array.getElem?_setIfInBounds_ne (by omega), Array.getElem?_setIfInBounds_self_of_lt (by omega)]
    · rw [Array.getElem?_setIfInBounds_self_of_lt (by simp; omega)]
  · obtain ⟨h3, h4⟩ := h2 i hi (by omega)
    constructor
    · rw [Array.getElem?_setIfInBounds_ne (by omega), Array.getElem?_setIfInBounds_ne (by omega), h3]
    · rw [Array.getElem?_setIfInBounds_ne (by omega), Array.getElem?_setIfInBounds_ne (by omega), h4]
theorem FlAt.cell {xs : List Int} {k : Nat} {cs : Array Value} (h : FlAt xs k cs) {i : Nat} (hi : i < xs.length * 2) : ∃ u, cs[i]? = some u := ⟨cs[i]'(by rw [h.1]; exact hi), Array.getElem?_eq_getElem _⟩
theorem FlAt.row {xs : List Int} {cs : Array Value} {W : World} {n : Nat} {t : TypeId} (h : FlAt xs xs.length cs) (hb : Blk W n t cs) (hl : xs.length ≤ 1000000) : PlsAt W (some ⟨n, 0, none⟩) (floorsL xs) := by
  refine ⟨by simp [floorsL, maxLen]; omega, .inr ⟨n, 0, rfl, hb.lt, fun i hi j hj => ?_⟩⟩
  have hi2 : i < xs.length := by simpa [floorsL] using hi
  obtain ⟨h1, h2⟩ := h.2 i hi2 hi2
  rw [hb.cell]
  obtain rfl | rfl : j = 0 ∨ j = 1 := by omega
  · simpa [floorsL, plC] using h1
  · simpa [floorsL, plC] using h2
theorem floors_any (a : Option Addr) (c : Nat) (xs : List Int) (w : World) (h : IntsAt w a xs) (hl : xs.length ≤ 1000000) :
    Calls Try.prog 21 #[.slice a xs.length c] w fun e w' => ∃ n, e = .returned (.slice (some ⟨n, 0, none⟩) (floorsL xs).length (floorsL xs).length) ∧ w.heap.size ≤ n ∧ PlsAt w' (some ⟨n, 0, none⟩) (floorsL xs) ∧ Below w.heap.size w w' := by
  have hm := h.len
  have hmk := make_places xs.length hl w
  have HZ := Lib.hid (FlAt.start xs (Value.agg #[.int .i64 0, .int .i64 0]).cells)
  have H := Lib.hid h
  have HL := Lib.hid hl
  clear h hl
  have hlen : (floorsL xs).length = xs.length := by simp [floorsL]
  rw [hlen]
  generalize madeCells (Value.agg #[.int .i64 0, .int .i64 0]).cells (xs.length * 2) = z at *
  go_enter Try.func21, Try.ntmps21
  go_wp2_with fail
  go_loopw [4, 5, 11] (fun _ _ i wr => ∃ (k : Nat) (cs : Array Value), k ≤ xs.length ∧ i = .int .i64 k ∧ FlAt xs k cs ∧ Blk wr w.heap.size 41 cs ∧ Below w.heap.size w wr) (fun _ _ i _ => xs.length - (intOf i).toNat)
  case atStart => exact ⟨0, z, Nat.zero_le _, rfl, HZ.out, Blk.new _ _ _, (Below.refl _ _).alloc (Nat.le_refl _) _⟩
  case round =>
    obtain ⟨k, cs, hk, rfl, hf, hbl, hbel⟩ := hrel
    by_cases hlt : k < xs.length
    · obtain ⟨b, o, rfl, hb, hc⟩ := H.out.at_ hlt
      have h1 := (hbel.cell (p := ⟨b, o + k, none⟩) hb).trans (hc k hlt)
      obtain ⟨u0, hu0⟩ := hf.cell (i := k * 2) (by omega)
      obtain ⟨u1, hu1⟩ := hf.cell (i := k * 2 + 1) (by omega)
      have c0 := (hbl.cell (k * 2)).trans hu0
      have c1 := (hbl.cell (k * 2 + 1)).trans hu1
      have f0 := hbl.frozen (k * 2)
      have f1 := hbl.frozen (k * 2 + 1)
      have HF := Lib.hid (hf.step hlt)
      have HB := Lib.hid hbl
      have hB := Lib.hid hbel
      clear hc H hf hbl hbel
      generalize xs[k] = x at *
      go_wp2_with fail
      go_roundw
      case rel => exact ⟨k + 1, _, by omega, by go_num, HF.out, (HB.out.set_ _ _).set_ _ _, ((hB.out.setCell (Nat.le_refl _) _).setCell (Nat.le_refl _) _)⟩
      case measure => simp [intOf]; omega
    · have hke : k = xs.length := by omega
      subst hke
      have HB := Lib.hid hbl
      clear H hbl
      go_wp2_with fail
      go_ret
      exact ⟨_, rfl, Nat.le_refl _, hf.row HB.out HL.out, hbel⟩
end Go.Proofs.Ytniblphklgbpnaa
