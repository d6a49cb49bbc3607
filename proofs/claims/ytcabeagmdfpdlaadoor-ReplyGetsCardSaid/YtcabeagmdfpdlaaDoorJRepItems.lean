import Derived.Test.YtcabeagmdfpdlaaDoorRows
import Derived.Test.YtcabeagmdfpdlaaDoorKit
import Derived.Test.YtcabeagmdfpdlaaDoorStrs
import Derived.Test.YtcabeagmdfpdlaaDoorJMath
import Derived.Test.YtcabeagmdfpdlaaDoorJRepMath
import Derived.Deep.QuietTactic
import Derived.BigQuiet
import Derived.WalkKit
import Derived.ProofKit
import Derived.OpenShut
import Derived.IntWalk
/- Items that are seen, as they lie in memory; slices.Equal of them, and the document's own Seens. -/
namespace Go.Proofs.YtcabeagmdfpdlaaDoor
open Go.ChangeShapes Go.WideShapes Go.ChangeAt Go.RowKit
set_option linter.unusedVariables false
open Go.RowKit
/-- A list of items as it lies in memory: empty, or in a block, three cells each. -/
def SnsAt (w : World) (a : Option Addr) (xs : List Sn) : Prop :=
  xs.length ≤ maxLen ∧ (xs = [] ∨ ∃ b off, a = some ⟨b, off, none⟩ ∧ b < w.heap.size ∧ ∀ i (hi : i < xs.length), w.cell? ⟨b, off + i * 3, none⟩ = some (.int .i64 xs[i].item) ∧ w.cell? ⟨b, off + i * 3 + 1, none⟩ = some (.int .i64 xs[i].kind) ∧ w.cell? ⟨b, off + i * 3 + 2, none⟩ = some (.int .i64 xs[i].id))
theorem SnsAt.below {w w' : World} {a : Option Addr} {xs : List Sn} (h : SnsAt w a xs) {B : Nat} (hb : Below B w w') (hB : w.heap.size ≤ B) : SnsAt w' a xs := by
  obtain ⟨hl, h⟩ := h
  refine ⟨hl, ?_⟩
  rcases h with h | ⟨b, off, rfl, hb2, hc⟩
  · exact .inl h
  · refine .inr ⟨b, off, rfl, by have := hb.size; omega, fun i hi => ?_⟩
    obtain ⟨h1, h2, h3⟩ := hc i hi
    exact ⟨(hb.cell (p := ⟨b, off + i * 3, none⟩) (by show b < B; omega)).trans h1, (hb.cell (p := ⟨b, off + i * 3 + 1, none⟩) (by show b < B; omega)).trans h2, (hb.cell (p := ⟨b, off + i * 3 + 2, none⟩) (by show b < B; omega)).trans h3⟩
theorem SnsAt.call {w w' : World} {a : Option Addr} {xs : List Sn} (h : SnsAt w a xs) (hb : Below w.heap.size w w') : SnsAt w' a xs := h.below hb (Nat.le_refl _)
theorem SnsAt.alloc {w : World} {a : Option Addr} {xs : List Sn} (h : SnsAt w a xs) (o : Obj) : SnsAt (w.alloc o) a xs := h.below ((Below.refl _ _).alloc (Nat.le_refl _) _) (Nat.le_refl _)
theorem SnsAt.nil (w : World) (a : Option Addr) : SnsAt w a [] := ⟨by simp, .inl rfl⟩
theorem SnsAt.len {w : World} {a : Option Addr} {xs : List Sn} (h : SnsAt w a xs) : xs.length ≤ 9223372036854775807 := by
  have := h.1; unfold maxLen at this; omega
theorem SnsAt.at_ {w : World} {a : Option Addr} {xs : List Sn} (h : SnsAt w a xs) {k : Nat} (hk : k < xs.length) : ∃ b off, a = some ⟨b, off, none⟩ ∧ b < w.heap.size ∧ ∀ i (hi : i < xs.length), w.cell? ⟨b, off + i * 3, none⟩ = some (.int .i64 xs[i].item) ∧ w.cell? ⟨b, off + i * 3 + 1, none⟩ = some (.int .i64 xs[i].kind) ∧ w.cell? ⟨b, off + i * 3 + 2, none⟩ = some (.int .i64 xs[i].id) := by
  rcases h.2 with h | h
  · subst h; simp at hk
  · exact h
theorem run_seen (a1 a2 a3 b1 b2 b3 : Int) (w : World) : (binOp .neq 46 (.agg #[.int .i64 a1, .int .i64 a2, .int .i64 a3]) (.agg #[.int .i64 b1, .int .i64 b2, .int .i64 b3])).run Tryd.prog w = .ok (.bool (!decide ((⟨a1, a2, a3⟩ : Sn) = ⟨b1, b2, b3⟩))) w := by
  by_cases e1 : a1 = b1
  · by_cases e2 : a2 = b2
    · by_cases e3 : a3 = b3
      · subst e1 e2 e3; go_simp
      · go_simp
    · go_simp
  · go_simp
theorem refseens_cells (a b : Option Addr) (ca cb : Nat) (xs ys : List Sn) (w : World) (hl : xs.length = ys.length) (h1 : SnsAt w a xs) (h2 : SnsAt w b ys) :
    Calls Tryd.prog 28 #[.slice a xs.length ca, .slice b ys.length cb] w fun e w' => e = .returned (.bool (decide (xs = ys))) ∧ Below w.heap.size w w' := by
  have hm := h1.len
  have H1 := Lib.hid h1
  have H2 := Lib.hid h2
  have HL := Lib.hid hl
  rw [← hl]
  clear h1 h2 hl
  go_enter Tryd.func28, Tryd.ntmps28
  go_wp2_with fail
  go_loopw [5] (fun i wr => ∃ k : Nat, k ≤ xs.length ∧ i = .int .i64 k ∧ xs.take k = ys.take k ∧ Below w.heap.size w wr) (fun i _ => xs.length - (intOf i).toNat)
  case atStart => exact ⟨0, Nat.zero_le _, rfl, rfl, Below.refl _ _⟩
  case round =>
    obtain ⟨k, hk, rfl, htk, hbel⟩ := hrel
    have HT := Lib.hid htk
    clear htk
    by_cases hlt : k < xs.length
    · have hy : k < ys.length := by have := HL.out; omega
      obtain ⟨xb, xo, rfl, hxb, hxc⟩ := H1.out.at_ hlt
      obtain ⟨yb, yo, rfl, hyb, hyc⟩ := H2.out.at_ hy
      obtain ⟨x1, x2, x3⟩ := hxc k hlt
      obtain ⟨y1, y2, y3⟩ := hyc k hy
      have h1 := (hbel.cell (p := ⟨xb, xo + k * 3, none⟩) hxb).trans x1
      have h2 := (hbel.cell (p := ⟨xb, xo + k * 3 + 1, none⟩) hxb).trans x2
      have h3 := (hbel.cell (p := ⟨xb, xo + k * 3 + 2, none⟩) hxb).trans x3
      have h4 := (hbel.cell (p := ⟨yb, yo + k * 3, none⟩) hyb).trans y1
      have h5 := (hbel.cell (p := ⟨yb, yo + k * 3 + 1, none⟩) hyb).trans y2
      have h6 := (hbel.cell (p := ⟨yb, yo + k * 3 + 2, none⟩) hyb).trans y3
      clear hxc hyc H1 H2 x1 x2 x3 y1 y2 y3
      have HX := Lib.hid (take_eq_succ hlt hy HT.out)
      have HN : Hid (¬ xs[k] = ys[k] → ¬ xs = ys) := Lib.hid (fun h e => by subst e; exact h rfl)
      have hrun := run_seen xs[k].item xs[k].kind xs[k].id ys[k].item ys[k].kind ys[k].id
      generalize hx : xs[k] = x at *
      generalize hyy : ys[k] = y at *
      have G1 := Lib.hid hx
      have G2 := Lib.hid hyy
      clear hx hyy
      obtain ⟨xi, xk, xd⟩ := x
      obtain ⟨yi, yk, yd⟩ := y
      by_cases he : (⟨xi, xk, xd⟩ : Sn) = ⟨yi, yk, yd⟩
      · have HX2 := Lib.hid (HX.out he)
        simp only [he, decide_true, Bool.not_true] at hrun
        clear he
        go_wp2_with fail
        go_quiet (fail)
        go_wp2_with fail
        go_roundw
        case rel => exact ⟨k + 1, by omega, by go_num, HX2.out, bdrew hbel _⟩
        case measure => simp [intOf]; omega
      · have HD := Lib.hid (show decide (xs = ys) = false by simpa using HN.out he)
        simp only [he, decide_false, Bool.not_false] at hrun
        clear he
        go_wp2_with fail
        go_quiet (fail)
        go_wp2_with fail
        go_ret
        exact ⟨ret_bool (by rw [HD.out]), bdrew hbel _⟩
    · have hke : k = xs.length := by omega
      subst hke
      have HD := Lib.hid (show decide (xs = ys) = true by
        have := HT.out
        rw [List.take_of_length_le (Nat.le_refl _), HL.out, List.take_of_length_le (Nat.le_refl _)] at this
        simpa using this)
      clear H1 H2
      go_wp2_with fail
      go_ret
      exact ⟨ret_bool (by rw [HD.out]), hbel⟩
theorem refseens_any (a b : Option Addr) (ca cb : Nat) (xs ys : List Sn) (w : World) (h1 : SnsAt w a xs) (h2 : SnsAt w b ys) :
    Calls Tryd.prog 28 #[.slice a xs.length ca, .slice b ys.length cb] w fun e w' => e = .returned (.bool (decide (xs = ys))) ∧ Below w.heap.size w w' := by
  by_cases h : xs.length = ys.length
  · exact refseens_cells a b ca cb xs ys w h h1 h2
  · have HD := Lib.hid (show decide (xs = ys) = false by rw [decide_eq_false_iff_not]; intro e; exact h (by rw [e]))
    rw [HD.out]
    have hl := h1.len
    have hl2 := h2.len
    clear h1 h2
    have hb : ((xs.length : Int) == (ys.length : Int)) = false := by rw [beq_eq_false_iff_ne]; omega
    have hb2 : ((xs.length : Int) != (ys.length : Int)) = true := by rw [bne, hb]; rfl
    go_enter Tryd.func28, Tryd.ntmps28
    go_wp2_with fail
    go_ret
    exact ⟨rfl, Below.refl _ _⟩
theorem eqseens_cells (a b : Option Addr) (ca cb : Nat) (xs ys : List Sn) (w : World) (hl : xs.length = ys.length) (h1 : SnsAt w a xs) (h2 : SnsAt w b ys) :
    Calls Tryd.prog 26 #[.slice a xs.length ca, .slice b ys.length cb] w fun e w' => e = .returned (.bool (decide (xs = ys))) ∧ Below w.heap.size w w' := by
  have hm := h1.len
  have H1 := Lib.hid h1
  have H2 := Lib.hid h2
  have HL := Lib.hid hl
  rw [← hl]
  clear h1 h2 hl
  go_enter Tryd.func26, Tryd.ntmps26
  go_wp2_with fail
  go_loopw [5, 13] (fun _ i wr => ∃ k : Nat, k ≤ xs.length ∧ i = .int .i64 k ∧ xs.take k = ys.take k ∧ Below w.heap.size w wr) (fun _ i _ => xs.length - (intOf i).toNat)
  case atStart => exact ⟨0, Nat.zero_le _, rfl, rfl, Below.refl _ _⟩
  case round =>
    obtain ⟨k, hk, rfl, htk, hbel⟩ := hrel
    have HT := Lib.hid htk
    clear htk
    by_cases hlt : k < xs.length
    · have hy : k < ys.length := by have := HL.out; omega
      obtain ⟨xb, xo, rfl, hxb, hxc⟩ := H1.out.at_ hlt
      obtain ⟨yb, yo, rfl, hyb, hyc⟩ := H2.out.at_ hy
      obtain ⟨x1, x2, x3⟩ := hxc k hlt
      obtain ⟨y1, y2, y3⟩ := hyc k hy
      have h1 := (hbel.cell (p := ⟨xb, xo + k * 3, none⟩) hxb).trans x1
      have h2 := (hbel.cell (p := ⟨xb, xo + k * 3 + 1, none⟩) hxb).trans x2
      have h3 := (hbel.cell (p := ⟨xb, xo + k * 3 + 2, none⟩) hxb).trans x3
      have h4 := (hbel.cell (p := ⟨yb, yo + k * 3, none⟩) hyb).trans y1
      have h5 := (hbel.cell (p := ⟨yb, yo + k * 3 + 1, none⟩) hyb).trans y2
      have h6 := (hbel.cell (p := ⟨yb, yo + k * 3 + 2, none⟩) hyb).trans y3
      clear hxc hyc H1 H2 x1 x2 x3 y1 y2 y3
      have HX := Lib.hid (take_eq_succ hlt hy HT.out)
      have HN : Hid (¬ xs[k] = ys[k] → ¬ xs = ys) := Lib.hid (fun h e => by subst e; exact h rfl)
      have hrun := run_seen xs[k].item xs[k].kind xs[k].id ys[k].item ys[k].kind ys[k].id
      generalize hx : xs[k] = x at *
      generalize hyy : ys[k] = y at *
      have G1 := Lib.hid hx
      have G2 := Lib.hid hyy
      clear hx hyy
      obtain ⟨xi, xk, xd⟩ := x
      obtain ⟨yi, yk, yd⟩ := y
      by_cases he : (⟨xi, xk, xd⟩ : Sn) = ⟨yi, yk, yd⟩
      · have HX2 := Lib.hid (HX.out he)
        simp only [he, decide_true, Bool.not_true] at hrun
        clear he
        go_wp2_with fail
        go_quiet (fail)
        go_wp2_with fail
        go_roundw
        case rel => exact ⟨k + 1, by omega, by go_num, HX2.out, bdrew hbel _⟩
        case measure => simp [intOf]; omega
      · have HD := Lib.hid (show decide (xs = ys) = false by simpa using HN.out he)
        simp only [he, decide_false, Bool.not_false] at hrun
        clear he
        go_wp2_with fail
        go_quiet (fail)
        go_wp2_with fail
        go_ret
        exact ⟨ret_bool (by rw [HD.out]), bdrew hbel _⟩
    · have hke : k = xs.length := by omega
      subst hke
      have HD := Lib.hid (show decide (xs = ys) = true by
        have := HT.out
        rw [List.take_of_length_le (Nat.le_refl _), HL.out, List.take_of_length_le (Nat.le_refl _)] at this
        simpa using this)
      clear H1 H2
      go_wp2_with fail
      go_ret
      exact ⟨ret_bool (by rw [HD.out]), hbel⟩
theorem eqseens_any (a b : Option Addr) (ca cb : Nat) (xs ys : List Sn) (w : World) (h1 : SnsAt w a xs) (h2 : SnsAt w b ys) :
    Calls Tryd.prog 26 #[.slice a xs.length ca, .slice b ys.length cb] w fun e w' => e = .returned (.bool (decide (xs = ys))) ∧ Below w.heap.size w w' := by
  by_cases h : xs.length = ys.length
  · exact eqseens_cells a b ca cb xs ys w h h1 h2
  · have HD := Lib.hid (show decide (xs = ys) = false by rw [decide_eq_false_iff_not]; intro e; exact h (by rw [e]))
    rw [HD.out]
    have hl := h1.len
    have hl2 := h2.len
    clear h1 h2
    have hb : ((xs.length : Int) == (ys.length : Int)) = false := by rw [beq_eq_false_iff_ne]; omega
    have hb2 : ((xs.length : Int) != (ys.length : Int)) = true := by rw [bne, hb]; rfl
    go_enter Tryd.func26, Tryd.ntmps26
    go_wp2_with fail
    go_ret
    exact ⟨rfl, Below.refl _ _⟩
end Go.Proofs.YtcabeagmdfpdlaaDoor
