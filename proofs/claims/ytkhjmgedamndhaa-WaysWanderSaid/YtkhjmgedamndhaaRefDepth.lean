/- The document's own Depth. -/
import Derived.Test.YtkhjmgedamndhaaRows
import Derived.Test.YtkhjmgedamndhaaKit
import Derived.Test.YtkhjmgedamndhaaStrs
import Derived.Test.YtkhjmgedamndhaaBlk
import Derived.Test.YtkhjmgedamndhaaHolds
import Derived.Test.YtkhjmgedamndhaaWorldMath
import Derived.Test.YtkhjmgedamndhaaWorldAt
import Derived.Test.YtkhjmgedamndhaaDescNest
import Derived.Test.YtkhjmgedamndhaaDescNest2
import Derived.Test.YtkhjmgedamndhaaDescCopy
import Derived.Deep.QuietTactic
import Derived.BigQuiet
import Derived.WalkKit
import Derived.ProofKit
import Derived.OpenShut
import Derived.IntWalk
namespace Go.Proofs.Ytkhjmgedamndhaa
open Go.ChangeShapes Go.WideShapes Go.ChangeAt Go.RowKit
set_option linter.unusedVariables false
open Go.RowKit
theorem depth_stop {ps : List Pl} {m : Nat} {p z : Pl} (hm : m ≤ 50) (h : dpt ps 50 p = (dpt ps (50 - m) z).map (· + m)) (hz : ¬ z.kind = 2) : depthR ps p = m := by
  have : dpt ps (50 - m) z = some 0 := by generalize 50 - m = j; cases j <;> simp [dpt, hz]
  unfold depthR; rw [h, this]; simp
theorem depth_over {ps : List Pl} {p z : Pl} (h : dpt ps 50 p = (dpt ps (50 - 50) z).map (· + 50)) (hz : z.kind = 2) : depthR ps p = 99 := by
  have e : dpt ps (50 - 50) z = none := by rw [Nat.sub_self]; simp [dpt, hz]
  unfold depthR; rw [h, e]; rfl
theorem depth_step {ps : List Pl} {m : Nat} {p z : Pl} (hm : m < 50) (h : dpt ps 50 p = (dpt ps (50 - m) z).map (· + m)) (hz : z.kind = 2) : dpt ps 50 p = (dpt ps (50 - (m + 1)) (par ps z)).map (· + (m + 1)) := by
  obtain ⟨j, hj⟩ : ∃ j, 50 - m = j + 1 := ⟨50 - m - 1, by omega⟩
  rw [h, hj, show 50 - (m + 1) = j by omega]
  simp only [dpt]
  rw [if_pos hz]
  cases dpt ps j (par ps z) with
  | none => rfl
  | some q => simp; omega
set_option maxRecDepth 100000 in
theorem depth_any (x : Wd) (p : Wp) (y : Pl) (w : World) (h : PlsAt w p.wh x.wher) (hid : BoxesIn x.wher) (hy : y.kind = 2 → 0 ≤ y.id ∧ y.id < x.wher.length) :
    Calls Try.prog 27 #[.agg #[.slice p.d.ex x.d.exits.length p.d.exc, .slice p.d.pl x.d.players.length p.d.plc, .slice p.d.co x.d.coins.length p.d.coc, .slice p.d.it x.d.items.length p.d.itc, .slice p.d.bo x.d.boxes.length p.d.boc, .int .i64 x.d.room, .int .i64 x.d.player, .int .i64 x.d.box, .slice p.at_ x.at_.length p.atc, .slice p.co x.coins.length p.coc, .slice p.wh x.wher.length p.whc], .agg #[.int .i64 y.kind, .int .i64 y.id]] w fun e w' => e = .returned (.int .i64 (depthR x.wher y : Nat)) ∧ Below w.heap.size w w' := by
  have hm := h.len
  have H := Lib.hid h
  have HD := Lib.hid hid
  clear h hid
  have HP := Lib.hid (Holds.pair w #[.slice p.d.ex x.d.exits.length p.d.exc, .slice p.d.pl x.d.players.length p.d.plc, .slice p.d.co x.d.coins.length p.d.coc, .slice p.d.it x.d.items.length p.d.itc, .slice p.d.bo x.d.boxes.length p.d.boc, .int .i64 x.d.room, .int .i64 x.d.player, .int .i64 x.d.box, .slice p.at_ x.at_.length p.atc, .slice p.co x.coins.length p.coc, .slice p.wh x.wher.length p.whc] #[.int .i64 y.kind, .int .i64 y.id] 29 57)
  have HB2 := Lib.hid (Blk.newn (w.alloc (.cells #[.slice p.d.ex x.d.exits.length p.d.exc, .slice p.d.pl x.d.players.length p.d.plc, .slice p.d.co x.d.coins.length p.d.coc, .slice p.d.it x.d.items.length p.d.itc, .slice p.d.bo x.d.boxes.length p.d.boc, .int .i64 x.d.room, .int .i64 x.d.player, .int .i64 x.d.box, .slice p.at_ x.at_.length p.atc, .slice p.co x.coins.length p.coc, .slice p.wh x.wher.length p.whc] 29)) 57 #[.int .i64 y.kind, .int .i64 y.id] (n := w.heap.size + 1) (by simp))
  go_enter Try.func27, Try.ntmps27
  go_wp2_with fail
  go_loopw [5] (fun n wr => ∃ (m : Nat) (z : Pl), m ≤ 50 ∧ n = .int .i64 m ∧ (z.kind = 2 → 0 ≤ z.id ∧ z.id < x.wher.length) ∧ dpt x.wher 50 y = (dpt x.wher (50 - m) z).map (· + m) ∧ Holds w w.heap.size #[.slice p.d.ex x.d.exits.length p.d.exc, .slice p.d.pl x.d.players.length p.d.plc, .slice p.d.co x.d.coins.length p.d.coc, .slice p.d.it x.d.items.length p.d.itc, .slice p.d.bo x.d.boxes.length p.d.boc, .int .i64 x.d.room, .int .i64 x.d.player, .int .i64 x.d.box, .slice p.at_ x.at_.length p.atc, .slice p.co x.coins.length p.coc, .slice p.wh x.wher.length p.whc] wr ∧ Blk wr (w.heap.size + 1) 57 #[.int .i64 z.kind, .int .i64 z.id]) (fun n _ => 51 - (intOf n).toNat)
  case atStart => exact ⟨0, y, by omega, rfl, hy, by simp, HP.out.1, HB2.out⟩
  case round =>
    obtain ⟨m, z, hm50, rfl, hz, hdp, h1, h2⟩ := hrel
    have hc1 := h1.2.2
    have hc2 := h2.cell
    have hf2 := h2.frozen
    have hl2 := h2.lt
    have HH := Lib.hid h1
    have HB := Lib.hid h2
    have HDP := Lib.hid hdp
    clear h1 h2 hdp
    obtain ⟨zk, zi⟩ := z
    by_cases hk : zk = 2
    · subst hk
      by_cases h50 : m < 50
      · obtain ⟨i0, i1⟩ := hz rfl
        obtain ⟨q, rfl⟩ : ∃ q : Nat, zi = q := ⟨zi.toNat, by simp only at i0; omega⟩
        have hlt : q < x.wher.length := by simp only at i1; omega
        have HS := Lib.hid (depth_step h50 HDP.out rfl)
        have HPM := Lib.hid (par_mem i0 i1)
        have HI := Lib.hid (HD.out x.wher[q] (List.getElem_mem hlt))
        obtain ⟨b, o, hbo, hb, c0, c1⟩ := PlsAt.cells (RowAt.below H.out HH.out.1 (Nat.le_refl _)) hlt
        have HE : Hid (par x.wher ⟨2, q⟩ = x.wher[q]) := Lib.hid (by rw [HPM.out]; simp)
        clear H hz i0 i1 HPM
        generalize x.wher[q] = v at *
        have hw : IntKind.i64.wrap ((m : Int) + 1) = (m : Int) + 1 := IntWalk.i64_in _ (by omega)
        have hn50 : ¬ (50 : Int) < (m : Int) + 1 := by omega
        go_wp2_with fail
        go_roundw
        case rel => exact ⟨m + 1, v, by omega, by go_num, HI.out, by rw [HS.out, HE.out], ⟨(HH.out.1.setCell (by show w.heap.size ≤ w.heap.size + 1; omega) _).setCell (by show w.heap.size ≤ w.heap.size + 1; omega) _, by have := HH.out.2.1; simp [World.setCell]; omega, fun i => ((World.cell?_setCell_far _ _ _ _ (by simp)).trans (World.cell?_setCell_far _ _ _ _ (by simp))).trans (HH.out.2.2 i)⟩, (HB.out.set_ 0 _).set_ 1 _⟩
        case measure => simp [intOf]; omega
      · obtain rfl : m = 50 := by omega
        have HR := Lib.hid (depth_over HDP.out rfl)
        clear H hz
        go_wp2_with fail
        go_ret
        exact ⟨by rw [HR.out]; rfl, HH.out.1⟩
    · have hk2 : (zk == 2) = false := by simpa using hk
      have HR := Lib.hid (depth_stop hm50 HDP.out hk)
      clear hk H hz
      go_wp2_with fail
      go_ret
      exact ⟨by rw [HR.out]; rfl, HH.out.1⟩
end Go.Proofs.Ytkhjmgedamndhaa
