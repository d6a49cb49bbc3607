import Derived.Test.YtinjpkbpdhihjaaDoorRows
import Derived.Test.YtinjpkbpdhihjaaDoorKit
import Derived.Test.YtinjpkbpdhihjaaDoorStrs
import Derived.Test.YtinjpkbpdhihjaaDoorJTab
import Derived.Test.YtinjpkbpdhihjaaDoorJBlk
import Derived.Test.YtinjpkbpdhihjaaDoorJMath
import Derived.Test.YtinjpkbpdhihjaaDoorJNum
import Derived.Test.YtinjpkbpdhihjaaDoorJTokJoin
import Derived.Test.YtinjpkbpdhihjaaDoorJCut
import Derived.Test.YtinjpkbpdhihjaaDoorJCmd
import Derived.Test.YtinjpkbpdhihjaaDoorJMay
import Derived.Test.YtinjpkbpdhihjaaDoorJWords
import Derived.Test.YtinjpkbpdhihjaaDoorJLinePut
import Derived.Test.YtinjpkbpdhihjaaDoorJRefA
import Derived.Deep.QuietTactic
import Derived.BigQuiet
import Derived.WalkKit
import Derived.ProofKit
import Derived.OpenShut
import Derived.IntWalk
/- line: the document's own Put; a number at a place. -/
namespace Go.Proofs.YtinjpkbpdhihjaaDoor
open Go.ChangeShapes Go.WideShapes Go.ChangeAt Go.RowKit
set_option linter.unusedVariables false
open Go.RowKit Go
set_option maxRecDepth 100000 in
theorem refput_any (c : Cm) (ga wa : Option Addr) (gc wc : Nat) (w : World) (h1 : IntsAt w ga c.gives) (h2 : IntsAt w wa c.wants) :
    Calls Tryd.prog 12 #[.agg #[.int .i64 c.kind, .int .i64 c.dir, .int .i64 c.item, .int .i64 c.box, .int .i64 c.who, .slice ga c.gives.length gc, .int .i64 c.pay, .slice wa c.wants.length wc, .int .i64 c.fee]] w fun e w' => e = .returned (putOut c) ∧ Below w.heap.size w w' := by
  have H1 := Lib.hid h1
  have H2 := Lib.hid h2
  clear h1 h2
  cases hm : mayB c
  · have HM := Lib.hid ((may_eq c).symm.trans hm)
    have HO := Lib.hid (show putOut c = .tuple #[str [], .int .i64 2] by simp [putOut, hm])
    clear hm
    go_enter Tryd.func12, Tryd.ntmps12
    go_wp2_with fail
    have P0 := Lib.hid (PutAt.new w c ga wa gc wc)
    have hA := P0.out.2.2.cell
    go_wp2_with fail
    refine (refmay_any c ga wa gc wc _ (H1.out.below P0.out.1 (Nat.le_refl _)) (H2.out.below P0.out.1 (Nat.le_refl _))).mono ?_
    rintro e w1 ⟨rfl, b1⟩
    rw [HM.out]
    have B1 := Lib.hid (P0.out.call b1)
    clear b1 hA
    go_wp2_with fail
    go_ret2
    exact ⟨by rw [HO.out]; rfl, B1.out.1⟩
  · have HM := Lib.hid ((may_eq c).symm.trans hm)
    have HB := Lib.hid hm
    have HO := Lib.hid (show putOut c = .tuple #[str (glue (wordsOf c)), .int .i64 0] by simp [putOut, hm])
    have HZ := Lib.hid (words_sizes hm)
    clear hm
    go_enter Tryd.func12, Tryd.ntmps12
    go_wp2_with fail
    have P0 := Lib.hid (PutAt.new w c ga wa gc wc)
    have hA := P0.out.2.2.cell
    go_wp2_with fail
    refine (refmay_any c ga wa gc wc _ (H1.out.below P0.out.1 (Nat.le_refl _)) (H2.out.below P0.out.1 (Nat.le_refl _))).mono ?_
    rintro e w1 ⟨rfl, b1⟩
    rw [HM.out]
    have P1 := Lib.hid (P0.out.call b1)
    clear b1 hA
    have hA := P1.out.2.2.cell
    go_wp2_with fail
    refine (refwords_any c ga wa gc wc _ HB.out (H1.out.below P1.out.1 (Nat.le_refl _)) (H2.out.below P1.out.1 (Nat.le_refl _))).mono ?_
    rintro e w2 ⟨v, rfl, hv, b2⟩
    have P2 := Lib.hid (P1.out.call b2)
    have HV := Lib.hid hv
    clear b2 hA hv
    go_wp2_with fail
    refine (refjoin_any _ HV.out (by have := HZ.out.1; omega)).mono ?_
    rintro e w3 ⟨rfl, rfl⟩
    go_wp2_with fail
    go_ret2
    exact ⟨by rw [HO.out]; rfl, P2.out.1⟩
theorem refnum_str (x : List UInt8) (w : World) (hx : x.length ≤ 9223372036854775807) :
    Calls Tryd.prog 53 #[.string ⟨x.toArray⟩] w fun e w' => e = .returned (.tuple #[.int .i64 (numN x : Int), .bool (numB x)]) ∧ w = w' :=
  refnumber_any ⟨x.toArray⟩ w (by simpa [ByteArray.size] using hx)
theorem at_any {v : Value} {ws : List (List UInt8)} (i : Int) (w : World) (h : Strs w v ws) (hx : ∀ x ∈ ws, x.length ≤ 1000000) (hl : ws.length ≤ 1000000) (i0 : 0 ≤ i) (i9 : i ≤ 5000000) :
    Calls Tryd.prog 31 #[v, .int .i64 i] w fun e w' => e = .returned (.int .i64 (atN ws i)) ∧ w = w' := by
  obtain ⟨a, cap, rfl, -, hc⟩ := h
  by_cases hlt : i < ws.length
  · obtain ⟨j, rfl⟩ : ∃ j : Nat, i = (j : Int) := ⟨i.toNat, by omega⟩
    have hj : j < ws.length := by omega
    rcases hc with hc | ⟨b, off, rfl, hb, hc⟩
    · subst hc; simp at hj
    have hcell := hc j hj
    have HA := Lib.hid (show atN ws (j : Int) = (numN ws[j] : Int) from atN_of (List.getElem?_eq_getElem hj))
    have hxl := hx ws[j] (List.getElem_mem hj)
    generalize ws[j] = x at *
    unfold str at hcell
    clear hc hx
    go_enter Tryd.func31, Tryd.ntmps31
    go_wp2_with fail
    refine (refnum_str x _ (by omega)).mono ?_
    rintro e w' ⟨rfl, rfl⟩
    go_wp2_with fail
    go_ret
    exact ⟨by rw [HA.out]; rfl, rfl⟩
  · have HA := Lib.hid (show atN ws i = 0 by unfold atN; rw [if_neg (by omega)])
    clear hc hx
    go_enter Tryd.func31, Tryd.ntmps31
    go_wp2_with fail
    go_ret
    exact ⟨by rw [HA.out]; rfl, rfl⟩
end Go.Proofs.YtinjpkbpdhihjaaDoor
