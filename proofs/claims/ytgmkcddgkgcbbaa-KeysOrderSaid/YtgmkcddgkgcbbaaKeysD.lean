/- keys.Sort: a map of keys made, ranged over, sorted. -/
import Derived.Test.YtgmkcddgkgcbbaaKeysC
import Derived.Test.YtgmkcddgkgcbbaaKeysMap
import Derived.Test.YtgmkcddgkgcbbaaKeysSrt
namespace Go.Proofs.Ytgmkcddgkgcbbaa
open Go.ChangeShapes Go.WideShapes Go.ChangeAt Go.RowKit
open Lib (hid)
set_option linter.unusedVariables false
open Go.RowKit Go
theorem key_info : (Try.prog.info? 24).map (fun i => (i.zero, i.size, i.bytes)) = some (some (.agg #[.int .i64 0, .int .i64 0]), 2, 16) := by kernel_rfl
theorem ownr_less {α : Type} {k : Nat} {e : TypeId} {enc : α → List Value} {n m : Nat} {W : World} {a : Option Addr} {xs : List α} (h : OwnR k e enc n W a xs) (hm : m ≤ n) : OwnR k e enc m W a xs :=
 ⟨h.1, h.2.imp id (fun ⟨b, cs, e, hb, h⟩ => ⟨b, cs, e, Nat.le_trans hm hb, h⟩)⟩
set_option maxRecDepth 100000 in
set_option maxHeartbeats 1000000 in
theorem ksort_any (a : Option Addr) (cap : Nat) (l : List Pl) (w : World) (h : PlsAt w a l) (hi : ∀ k ∈ l, InK k) (hl : l.length ≤ 1000) :
 Calls Try.prog 12 #[.slice a l.length cap] w fun e w' => ∃ (b : Option Addr) (c : Nat) (s : List Pl), e = .returned (.slice b s.length c) ∧ IsSort l s ∧ OwnR 2 24 plC w.heap.size w' b s ∧ Below w.heap.size w w' := by
 have hm := h.len
 have H := hid h
 have HI := hid hi
 have HL := hid hl
 have M0 := hid (metk_none w)
 have B0 := hid ((Below.refl w.heap.size w).alloc (Nat.le_refl _) (.map #[] 0))
 clear h hi
 have hmk := run_makeMap (P := Try.prog) 49 w
 go_enter Try.func12, Try.ntmps12
 go_wp2_with fail
 generalize w.alloc (.map #[] 0) = W0 at *
 clear hmk
 go_loopw [5, 11] (fun _ i wr => ∃ k : Nat, k ≤ l.length ∧ i = .int .i64 k ∧ MetK wr w.heap.size (l.take k) ∧ Below w.heap.size w wr) (fun _ i _ => l.length - (intOf i).toNat)
 case atStart => exact ⟨0, Nat.zero_le _, rfl, M0.out, B0.out⟩
 case round =>
  obtain ⟨k, hk, rfl, hmt, hb1⟩ := hrel
  have HM := hid hmt
  have HB := hid hb1
  clear hmt M0 B0
  by_cases hlt : k < l.length
  ·obtain ⟨b, o, rfl, hbb, h0, h1⟩ := H.out.cells hlt
   have c0 := kcell_call h0 hbb hb1
   have c1 := kcell_call h1 hbb hb1
   have hin := HI.out _ (List.getElem_mem hlt)
   have HT := hid (show l.take (k + 1) = l.take k ++ [l[k]] by rw [List.take_succ_eq_append_getElem hlt])
   clear h0 h1 hb1
   generalize l[k] = z at *
   obtain ⟨z0, z1⟩ := z
   simp only at c0 c1
   obtain ⟨W', hrun, hm3, hg⟩ := (HM.out.call ((Below.refl _ _).alloc (Nat.le_refl _) (.cells #[.int .i64 z0, .int .i64 z1] 24))).put ⟨z0, z1⟩ hin (by rw [List.length_take]; omega)
   have HM3 := hid hm3
   have HR2 := hid hrun
   have HB2 := hid ((HB.out.alloc HB.out.size (.cells #[.int .i64 z0, .int .i64 z1] 24)).grown hg (by have := HB.out.size; simp; omega) (fun q hq => by cases hq; exact Nat.le_refl _))
   clear hrun hg hm3 hin
   go_wp2_with (at_mapUpdate; refine kput_step rfl _ _ _ 49 rfl _ _ _ rfl rfl rfl HR2.out ?_)
   go_wp2_with fail
   go_roundw
   case rel => exact ⟨k + 1, by omega, by go_num, by rw [HT.out]; exact HM3.out, HB2.out⟩
   case measure => simp [intOf]; omega
  ·have hke : k = l.length := by omega
   subst hke
   rw [List.take_length] at HM
   have HS := hid HB.out.size
   clear H hb1
   go_wp2_with (at_range; refine range_keys HM.out rfl _ rfl rfl ?_; intro w0 hrg0 hg0 hs0)
   go_frame
   have HR0 := hid hrg0
   have HB0 := hid (HB.out.grown hg0 HB.out.size (fun q hq => by cases hq))
   have HN := hid (show wr.heap.size + 1 ≤ w0.heap.size by omega)
   have HRN := hid HM.out.lt
   generalize wr.heap.size = rn at *
   have HMR := hid (show some w.heap.size ≠ none ∧ True from ⟨by simp, trivial⟩)
   clear hrg0 hg0 hs0 HB HS HM
   go_loopw [6, 7] (fun v _ wr => ∃ R : List Pl, RngK wr w.heap.size rn l R ∧ GrowR 2 24 plC (rn + 1) wr v R ∧ rn + 1 ≤ wr.heap.size ∧ Below w.heap.size w wr) (fun _ _ wr => wr.rangeLeft w.heap.size rn)
   case atStart => exact ⟨[], HR0.out, GrowR.nil _, HN.out, HB0.out⟩
   case round =>
    obtain ⟨R, hR, hG, hN, hB⟩ := hrel
    have HRR := hid hR
    have HG := hid hG
    have HNN := hid hN
    have HBB := hid hB
    clear hR hG hB hN HR0 HB0 HN
    go_wp2_with (at_next; refine next_keys HRR.out HI.out rfl _ rfl rfl ?_ ?_)
    ·intro hall hnd
     have HALL := hid hall
     have HND := hid hnd
     obtain ⟨ra, rc, rfl, hO⟩ := HG.out.own plC_len
     have HO := hid hO
     have HRL := hid HRR.out.sub
     clear hall hnd hO
     go_wp2_with fail
     refine (sort_own (rn + 1) ra rc R _ HO.out (by have := HRL.out; omega)).mono ?_
     rintro e w2 ⟨rfl, hO2, hB2⟩
     have HO2 := hid hO2
     have HB2 := hid (hB2 _ _ HBB.out (by have := HRN.out; omega))
     clear hO2 hB2
     go_wp2_with fail
     go_ret
     refine ⟨ra, rc, srtK R, by rw [srtK_len]; rfl, ?_, ownr_less HO2.out (by have := HRN.out; omega), HB2.out⟩
     have hs := srtK_is HND.out
     exact ⟨hs.up, fun q => (hs.mem q).trans (HALL.out q)⟩
    ·intro z c w1 hz hR1 hg1 hs1 hlt1 hen
     obtain ⟨z0, z1⟩ := z
     have HR1 := hid hR1
     have HG1 := hid (show GrowR 2 24 plC (rn + 1) w1 _ R from World.ownsRow.kept HG.out hg1 (.inr (HG.out.apart (g := rn) (by omega))))
     have HB1 := hid (HBB.out.grown hg1 HBB.out.size (fun q hq => by cases hq; exact Nat.le_of_lt HRN.out))
     have HS1 := hid hs1
     have HLT := hid hlt1
     have HRL := hid HRR.out.sub
     have hn1 : rn + 1 ≤ w1.heap.size := by have := HNN.out; omega
     have HN1 := hid hn1
     clear hR1 hg1 hs1 hlt1 hz
     simp only at hen
     dsimp only
     have A1 := hid (World.grownBy_alloc w1 (.cells #[.int .i64 z0, .int .i64 z1] 24) none)
     have G2 := hid (HG1.out.call ((Below.refl _ _).alloc (Nat.le_refl _) (.cells #[.int .i64 z0, .int .i64 z1] 24)))
     obtain ⟨v3, W3, hr3, hg3, hb3⟩ := G2.out.one Try.underlying22 key_info rfl (by decide) (by decide) plC_len plC_one ⟨z0, z1⟩ (by have := HRL.out; omega) (by simp; omega)
     have HR3 := hid (show (Builtin.append_ #[22, 22] 22 #[_, .slice (some ⟨w1.heap.size + 1, 0, none⟩) 1 1]).run Try.prog ((w1.alloc (.cells #[.int .i64 z0, .int .i64 z1] 24)).alloc (.cells #[.int .i64 z0, .int .i64 z1] 24)) = .ok v3 W3 by simpa [plC] using hr3)
     have HG3 := hid hg3
     have HB3 := hid hb3
     clear hr3 hg3 hb3
     go_wp2_with (at_builtin; refine append_step1 rfl (.tmp 24) (.tmp 26) 22 rfl _ _ v3 W3 rfl rfl HR3.out ?_)
     have hap : ∀ g, g < rn + 1 → some g ≠ Value.ownBlock u6 := fun g hg e => HG.out.apart hg e.symm
     have K1 := HR1.out.kept A1.out (by simp) (by simp)
     have L1 := HR1.out.left A1.out (by simp) (by simp)
     have L2 := K1.left HB3.out (hap _ (by have := HRN.out; omega)) (hap _ (by omega))
     go_roundw
     case rel => exact ⟨_, K1.kept HB3.out (hap _ (by have := HRN.out; omega)) (hap _ (by omega)), HG3.out, Nat.le_trans (by simp; omega) HB3.out.size, G2.out.below (HB1.out.alloc HB1.out.size _) HB3.out (by have := HRN.out; omega)⟩
     case measure => rw [L2, L1]; exact HLT.out
end Go.Proofs.Ytgmkcddgkgcbbaa
