/- desc.areNested: the walk. -/
import Derived.Test.YtniblphklgbpnaaRows
import Derived.Test.YtniblphklgbpnaaKit
import Derived.Test.YtniblphklgbpnaaStrs
import Derived.Test.YtniblphklgbpnaaCoin
import Derived.Test.YtniblphklgbpnaaBlk
import Derived.Test.YtniblphklgbpnaaHolds
import Derived.Test.YtniblphklgbpnaaWorldMath
import Derived.Test.YtniblphklgbpnaaWorldAt
import Derived.Test.YtniblphklgbpnaaDescNest
import Derived.Deep.QuietTactic
import Derived.BigQuiet
import Derived.Deep.RegionHeld3
import Derived.WalkKit
import Derived.ProofKit
import Derived.OpenShut
import Derived.IntWalk
namespace Go.Proofs.Ytniblphklgbpnaa
open Go.ChangeShapes Go.WideShapes Go.ChangeAt Go.RowKit
set_option linter.unusedVariables false
open Go.RowKit
theorem cell_lt {w : World} {p : Addr} {v : Value} (h : w.cell? p = some v) : p.block < w.heap.size := by
  apply Decidable.byContradiction; intro hn
  have e : w.heap[p.block]? = none := by simp; omega
  simp [World.cell?, e] at h
set_option maxRecDepth 100000 in
theorem arenested_any (a : Option Addr) (c : Nat) (ps : List Pl) (w : World) (h : PlsAt w a ps) (hid : BoxesIn ps) :
    Calls Try.prog 30 #[.slice a ps.length c] w fun e w' => e = .returned (.bool (nestB ps)) ∧ Below w.heap.size w w' := by
  have hm := h.len
  have H := Lib.hid h
  have HD := Lib.hid hid
  have hmf : ∀ (fn : Fn) (first cap : Array Value) (w : World), (Instr.makeFunc fn first cap).run Try.prog w = .ok (.func fn first cap) w := fun _ _ _ _ => rfl
  have hsf : ∀ (W : World) (p : Addr) (fn : Fn) (x y : Array Value), (store p (.func fn x y)).run Try.prog W = stored Try.prog W p (.func fn x y) .plain := fun W p fn x y => run_store _ _ _ _ _ rfl
  clear h hid
  go_enter Try.func30, Try.ntmps30
  go_wp2_with fail
  go_loopw [5, 9] (fun _ i wr => ∃ k : Nat, k ≤ ps.length ∧ i = .int .i64 k ∧ (ps.take k).all (endsB ps 4) = true ∧ Below w.heap.size w wr ∧ wr.cell? ⟨w.heap.size + 1, 0, none⟩ = some (.func (.func 46) #[] #[.pointer (some ⟨w.heap.size + 1, 0, none⟩), .pointer (some ⟨w.heap.size, 0, none⟩)]) ∧ wr.cell? ⟨w.heap.size, 0, none⟩ = some (.slice a ps.length c)) (fun _ i _ => ps.length - (intOf i).toNat)
  case atStart =>
    have hp := Holds.pair w #[.slice a ps.length c] #[.func (.func 46) #[] #[.pointer (some ⟨w.heap.size + 1, 0, none⟩), .pointer (some ⟨w.heap.size, 0, none⟩)]] 27 63
    exact ⟨0, Nat.zero_le _, rfl, rfl, hp.1.1, (hp.2.2.2 0).trans rfl, (hp.1.2.2 0).trans rfl⟩
  case round =>
    obtain ⟨k, hk, rfl, htk, hbel, hg, hh⟩ := hrel
    have HT := Lib.hid htk
    clear htk
    by_cases hlt : k < ps.length
    · obtain ⟨b, o, hbo, hb, c0, c1⟩ := PlsAt.cells (RowAt.below H.out hbel (Nat.le_refl _)) hlt
      have HF := Lib.hid (all_take_succ (endsB ps 4) hlt HT.out)
      have HN := Lib.hid (all_not (endsB ps 4) hlt)
      have HI := Lib.hid (HD.out ps[k] (List.getElem_mem hlt))
      subst hbo
      have HP := Lib.hid (RowAt.below H.out hbel (Nat.le_refl _))
      have HB := Lib.hid hbel
      have HG := Lib.hid hg
      have HH := Lib.hid hh
      have hls : w.heap.size + 1 < wr.heap.size := cell_lt hg
      clear H HT hbel hmf hsf
      generalize ps[k] = x at *
      have HA := Lib.hid (show Below wr.heap.size wr (wr.alloc (.cells #[.int .i64 x.kind, .int .i64 x.id] 41)) from (Below.refl _ _).alloc (Nat.le_refl _) _)
      cases hx : endsB ps 4 x
      · have HX := Lib.hid hx
        clear hx
        go_wp2_with fail
        refine (ends_any _ _ _ _ ps HD.out 4 (Nat.le_refl _) 0 x _ rfl HI.out (HP.out.call HA.out) (cell_call HG.out HA.out) (cell_call HH.out HA.out)).mono ?_
        rintro e w1 ⟨rfl, b1⟩
        rw [HX.out]
        go_wp2_with fail
        go_ret
        exact ⟨ret_bool (HN.out HX.out).symm, bl (HB.out.alloc HB.out.size _) b1⟩
      · have HX := Lib.hid hx
        clear hx
        go_wp2_with fail
        refine (ends_any _ _ _ _ ps HD.out 4 (Nat.le_refl _) 0 x _ rfl HI.out (HP.out.call HA.out) (cell_call HG.out HA.out) (cell_call HH.out HA.out)).mono ?_
        rintro e w1 ⟨rfl, b1⟩
        rw [HX.out]
        go_wp2_with fail
        go_roundw
        case rel => exact ⟨k + 1, by omega, by go_num, HF.out HX.out, bl (HB.out.alloc HB.out.size _) b1, cell_call (cell_call HG.out HA.out) b1, cell_call (cell_call HH.out HA.out) b1⟩
        case measure => simp [intOf]; omega
    · have hke : k = ps.length := by omega
      subst hke
      have HE := Lib.hid (all_whole _ HT.out)
      have HB := Lib.hid hbel
      clear H hbel hmf hsf
      go_wp2_with fail
      go_ret
      exact ⟨ret_bool HE.out.symm, HB.out⟩
end Go.Proofs.Ytniblphklgbpnaa
