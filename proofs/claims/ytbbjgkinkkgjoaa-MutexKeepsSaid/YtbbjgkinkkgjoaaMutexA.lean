/- mutex: the code's isPlace, Holder, has, with. -/
import Derived.Test.YtbbjgkinkkgjoaaMutexMath
import Derived.Test.YtbbjgkinkkgjoaaMutexOwn
import Derived.BigQuiet
namespace Go.Proofs.Ytbbjgkinkkgjoaa
open Go.ChangeShapes Go.WideShapes Go.ChangeAt Go.RowKit
open Lib (hid)
set_option linter.unusedVariables false
set_option maxRecDepth 100000
open Go.RowKit Go
theorem misplace_any (a : Option Addr) (cap : Nat) (n : Nat) (p : Int) (w : World) (hn : n ≤ 9223372036854775807) : Calls Try.prog 17 #[.slice a n cap, .int .i64 p] w fun e w' => e = .returned (.bool (plB n p)) ∧ w = w' := by
 by_cases h1 : 0 ≤ p
 ·by_cases h2 : p < n
  ·have HR := hid (show plB n p = true by simp [plB, h1, h2])
   go_enter Try.func17, Try.ntmps17
   go_wp2_with fail
   go_ret
   exact ⟨ret_bool HR.out.symm, rfl⟩
  ·have HR := hid (show plB n p = false by simp [plB, h1, h2])
   go_enter Try.func17, Try.ntmps17
   go_wp2_with fail
   go_ret
   exact ⟨ret_bool HR.out.symm, rfl⟩
 ·have HR := hid (show plB n p = false by simp [plB, h1])
  go_enter Try.func17, Try.ntmps17
  go_wp2_with fail
  go_ret
  exact ⟨ret_bool HR.out.symm, rfl⟩
/-- What Holder answers. -/
def holderN (l : List Int) (p : Int) : Int := if heldB l p then lockN l p - 1 else 0
theorem mholder_any (a : Option Addr) (cap : Nat) (l : List Int) (p : Int) (w : World) (h : IntsAt w a l) (hl : Locks l) : Calls Try.prog 13 #[.slice a l.length cap, .int .i64 p] w fun e w' => e = .returned (.tuple #[.int .i64 (holderN l p), .bool (heldB l p)]) ∧ Below w.heap.size w w' := by
 have hm := h.len
 have HM := hid hm
 cases hp : plB l.length p
 ·have HR := hid (show heldB l p = false by simp [heldB, hp])
  have HN := hid (show holderN l p = 0 by simp [holderN, HR.out])
  have HP := hid hp
  clear h hl hp
  go_enter Try.func13, Try.ntmps13
  go_wp2_with fail
  refine (misplace_any _ _ _ _ _ HM.out).mono ?_
  rintro e w' ⟨rfl, rfl⟩
  rw [HP.out]
  go_wp2_with fail
  go_ret2
  exact ⟨by rw [HN.out, HR.out]; rfl, Below.refl _ _⟩
 ·obtain ⟨k, rfl, hk⟩ := plB_nat hp
  obtain ⟨b, o, rfl, hb, hc⟩ := h.at_ hk
  have hck := hc k hk
  have hx := hl.2 l[k] (List.getElem_mem hk)
  have HR := hid (show heldB l (k : Int) = decide (0 < l[k]) by simp [heldB, hp, lockN_at hk])
  have HN := hid (show holderN l (k : Int) = if 0 < l[k] then l[k] - 1 else 0 by simp [holderN, HR.out, lockN_at hk])
  have HP := hid hp
  clear h hl hp hc
  generalize l[k] = x at *
  by_cases h0 : x = 0
  ·have q0 : (x == 0) = true := by simpa using h0
   have HX := hid h0
   clear h0
   go_enter Try.func13, Try.ntmps13
   go_wp2_with fail
   refine (misplace_any _ _ _ _ _ HM.out).mono ?_
   rintro e w' ⟨rfl, rfl⟩
   rw [HP.out]
   go_wp2_with fail
   go_ret2
   exact ⟨by rw [HN.out, HR.out, HX.out]; rfl, Below.refl _ _⟩
  ·have q0 : (x == 0) = false := by simpa using h0
   have hw : IntKind.i64.wrap (x - 1) = x - 1 := IntWalk.i64_in _ (by omega)
   have HX := hid (show 0 < x by omega)
   clear h0
   go_enter Try.func13, Try.ntmps13
   go_wp2_with fail
   refine (misplace_any _ _ _ _ _ HM.out).mono ?_
   rintro e w' ⟨rfl, rfl⟩
   rw [HP.out]
   go_wp2_with fail
   go_ret2
   exact ⟨by rw [HN.out, HR.out, if_pos HX.out, decide_eq_true HX.out]; rfl, Below.refl _ _⟩
theorem mhas_any (a : Option Addr) (cap : Nat) (l : List Int) (p s : Int) (w : World) (h : IntsAt w a l) (hl : Locks l) (hs : 0 ≤ s) : Calls Try.prog 20 #[.slice a l.length cap, .int .i64 p, .int .i64 s] w fun e w' => e = .returned (.bool (hasB l p s)) ∧ Below w.heap.size w w' := by
 have HI := hid h
 have HL := hid hl
 have hm := h.len
 cases hh : heldB l p
 ·have HH := hid hh
  have HR := hid (show hasB l p s = false by
   cases hp : plB l.length p
   ·simp [hasB, hp]
   ·simp [heldB, hp] at hh
    simp [hasB, hp]; omega)
  clear h hl hh hs
  go_enter Try.func20, Try.ntmps20
  go_wp2_with fail
  refine (mholder_any a cap l p _ HI.out HL.out).mono ?_
  rintro e u1 ⟨rfl, b1⟩
  rw [HH.out]
  have B1 := hid b1
  clear b1
  go_wp2_with fail
  go_ret
  exact ⟨ret_bool HR.out.symm, B1.out⟩
 ·have HH := hid hh
  have HN := hid (show holderN l p = lockN l p - 1 by simp [holderN, hh])
  by_cases he : lockN l p = s + 1
  ·have q0 : (lockN l p - 1 == s) = true := by simp; omega
   have HR := hid (show hasB l p s = true by simp [heldB] at hh; simp [hasB, hh.1, he])
   clear h hl hh hs he
   go_enter Try.func20, Try.ntmps20
   go_wp2_with fail
   refine (mholder_any a cap l p _ HI.out HL.out).mono ?_
   rintro e u1 ⟨rfl, b1⟩
   rw [HH.out, HN.out]
   have B1 := hid b1
   clear b1
   generalize lockN l p - 1 = x at *
   go_wp2_with fail
   go_ret
   exact ⟨ret_bool HR.out.symm, B1.out⟩
  ·have q0 : (lockN l p - 1 == s) = false := by rw [beq_eq_false_iff_ne]; omega
   have HR := hid (show hasB l p s = false by simp [hasB, he])
   clear h hl hh hs he
   go_enter Try.func20, Try.ntmps20
   go_wp2_with fail
   refine (mholder_any a cap l p _ HI.out HL.out).mono ?_
   rintro e u1 ⟨rfl, b1⟩
   rw [HH.out, HN.out]
   have B1 := hid b1
   clear b1
   generalize lockN l p - 1 = x at *
   go_wp2_with fail
   go_ret
   exact ⟨ret_bool HR.out.symm, B1.out⟩
end Go.Proofs.Ytbbjgkinkkgjoaa
