import Derived.Test.YtcabeagmdfpdlaaDoorRows
import Derived.Test.YtcabeagmdfpdlaaDoorKit
import Derived.Test.YtcabeagmdfpdlaaDoorJMath
import Derived.Test.YtcabeagmdfpdlaaDoorJNum
import Derived.Deep.RegionWith
import Derived.Lib.ItoaLen
import Derived.Lib.ItoaMem
import Derived.WalkKit
import Derived.ProofKit
import Derived.OpenShut
import Derived.IntWalk
/- token: a number's word by the document's own definition. -/
namespace Go.Proofs.YtcabeagmdfpdlaaDoor
open Go.ChangeShapes Go.WideShapes Go.ChangeAt Go.RowKit
set_option linter.unusedVariables false
open Go.RowKit
/-- A digit's byte. -/
def dgt (n : Nat) : UInt8 := UInt8.ofNat (48 + n)
theorem dgt_nat {n : Nat} (h : n < 10) : (48 + (n : Int)) = (dgt n).toNat := by unfold dgt; simp; omega
theorem conv_one (W : World) (b : UInt8) (x : Int) (hx : x = b.toNat) :
    (convert 64 9 (.slice (some ⟨W.heap.size, 0, none⟩) 1 1)).run Tryd.prog (W.alloc (.cells #[.int .u8 x] 5)) = .ok (.string ⟨#[b]⟩) (W.alloc (.cells #[.int .u8 x] 5)) := by
  subst hx
  exact run_convert_bytes_back (P := Tryd.prog) (W.alloc (.cells #[.int .u8 (b.toNat : Int)] 5)) 64 9 5 ⟨W.heap.size, 0, none⟩ 1 [b] Tryd.underlying64 Tryd.underlying5 Tryd.underlying9 (fun j hj => by
    have : j = 0 := by simp at hj; omega
    subst this
    simp [Addr.add])

theorem conv_old {w w1 : World} {b : UInt8} {x : Int} (b1 : Below (w.alloc (.cells #[.int .u8 x] 5)).drew.heap.size (w.alloc (.cells #[.int .u8 x] 5)).drew w1) (hx : x = b.toNat) :
    (convert 64 9 (.slice (some ⟨w.heap.size, 0, none⟩) 1 1)).run Tryd.prog w1 = .ok (.string ⟨#[b]⟩) w1 := by
  subst hx
  exact run_convert_bytes_back (P := Tryd.prog) w1 64 9 5 ⟨w.heap.size, 0, none⟩ 1 [b] Tryd.underlying64 Tryd.underlying5 Tryd.underlying9 (fun j hj => by
    have : j = 0 := by simp at hj; omega
    subst this
    rw [show (Addr.add ⟨w.heap.size, 0, none⟩ 0) = ⟨w.heap.size, 0, none⟩ by simp [Addr.add], b1.cell (p := ⟨w.heap.size, 0, none⟩) (by simp)]
    simp)

theorem conv_drew (w : World) (b : UInt8) (x : Int) (hx : x = b.toNat) :
    (convert 64 9 (.slice (some ⟨w.heap.size, 0, none⟩) 1 1)).run Tryd.prog (w.alloc (.cells #[.int .u8 x] 5)).drew = .ok (.string ⟨#[b]⟩) (w.alloc (.cells #[.int .u8 x] 5)).drew :=
  conv_old (Below.refl _ _) hx

theorem below_a {w w1 : World} {o : Obj} (b1 : Below w.drew.heap.size w.drew w1) : Below w.heap.size w (w1.alloc o) := by
  have b2 : Below w.heap.size w w1 := ⟨b1.os, b1.tape, b1.output, b1.size, b1.block⟩
  exact b2.alloc b2.size o
theorem below_b {w w1 : World} {o : Obj} (b1 : Below (w.alloc o).drew.heap.size (w.alloc o).drew w1) : Below w.heap.size w w1 := by
  have b2 : Below (w.alloc o).heap.size (w.alloc o) w1 := ⟨b1.os, b1.tape, b1.output, b1.size, b1.block⟩
  exact ((Below.refl w.heap.size w).alloc (Nat.le_refl _) o).trans (b2.mono (by simp))

theorem refword_any (n : Nat) : ∀ (w : World) (hn : n ≤ 1073741824), Calls Tryd.prog 40 #[.int .i64 n] w fun e w' => e = .returned (.string ⟨(Lib.decDigits n).toArray⟩) ∧ Below w.heap.size w w' := by
  induction n using Nat.strongRecOn with
  | ind n ih =>
    intro w hn
    by_cases h : n < 10
    · have HD := Lib.hid (show Lib.decDigits n = [dgt n] by rw [Lib.decDigits, dif_pos h]; rfl)
      rw [HD.out]
      clear ih
      have hcv := fun W => conv_one W (dgt n) (48 + (n : Int)) (dgt_nat h)
      go_enter Tryd.func40, Tryd.ntmps40
      go_wp2_with fail
      go_ret
      exact ⟨rfl, (Below.refl _ _).alloc (Nat.le_refl _) _⟩
    · have HD := Lib.hid (show Lib.decDigits n = Lib.decDigits (n / 10) ++ [dgt (n % 10)] by rw [Lib.decDigits, dif_neg h]; rfl)
      have HI := Lib.hid (ih (n / 10) (by omega))
      rw [HD.out]
      clear ih
      have hdg := Lib.hid (show (48 + (n : Int) % 10) = (dgt (n % 10)).toNat by rw [← dgt_nat (by omega)]; omega)
      have hcv := fun W => conv_one W (dgt (n % 10)) (48 + (n : Int) % 10) hdg.out
      have hq : ((n / 10 : Nat) : Int) = (n : Int) / 10 := by omega
      rw [hq] at HI
      clear hq
      have t1 : (n : Int).tmod 10 = (n : Int) % 10 := Int.tmod_eq_emod_of_nonneg (by omega)
      have t2 : IntKind.i64.wrap (48 + (n : Int) % 10) = 48 + (n : Int) % 10 := IntWalk.i64_in _ (by omega)
      have t3 : IntKind.u8.wrap (48 + (n : Int) % 10) = 48 + (n : Int) % 10 := IntWalk.u8_in _ (by omega)
      have t4 : IntKind.i64.wrap ((n : Int) / 10) = (n : Int) / 10 := IntWalk.i64_in _ (by omega)
      have hn10 := Lib.hid (show n / 10 ≤ 1073741824 by omega)
      have hlen : (Lib.decDigits (n / 10)).length ≤ 21 := by
        have := Lib.itoa_length_le ((n / 10 : Nat) : Int) (by omega) (by omega)
        rwa [Lib.itoa_nonneg] at this
      have hadd := fun w => run_string_add_sum (P := Tryd.prog) (w := w) ⟨(Lib.decDigits (n / 10)).toArray⟩ ⟨#[dgt (n % 10)]⟩ (by simp [ByteArray.size]; omega)
      have hcv3 := fun W => conv_drew W (dgt (n % 10)) (48 + (n : Int) % 10) hdg.out
      go_enter Tryd.func40, Tryd.ntmps40
      go_wp2_with fail
      go_region_with (go_at_call 40; refine (HI.out _ hn10.out).mono ?_; rintro e w1 ⟨rfl, b1⟩; try have hcv2 := conv_old b1 hdg.out)
      all_goals
        go_wp2
        go_ret
        refine ⟨congrArg Ending.returned (congrArg Value.string (ByteArray.mk_append_mk _ _)), ?_⟩
        first
          | exact below_a b1
          | exact below_b b1
end Go.Proofs.YtcabeagmdfpdlaaDoor
