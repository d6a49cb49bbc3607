/- mutex: the code's with: the locks ahead, the other one, the locks behind. -/
import Derived.Test.YtbbjgkinkkgjoaaMutexA
namespace Go.Proofs.Ytbbjgkinkkgjoaa
open Go.ChangeShapes Go.WideShapes Go.ChangeAt Go.RowKit
open Lib (hid)
set_option linter.unusedVariables false
open Go.RowKit Go
/-- The list behind place k. -/
def behA (b o k cap : Nat) : Addr := if cap = k + 1 then ⟨b, o, none⟩ else ⟨b, o + (k + 1), none⟩
theorem cut_ahead (b o k n cap : Nat) (hk : k < n) (hc : n ≤ cap) (W : World) : (Instr.slice 22 (.slice (some ⟨b, o, none⟩) n cap) none (some (.int .i64 (k : Int))) (some (.int .i64 (k : Int)))).run Try.prog W = .ok (.slice (some ⟨b, o, none⟩) k k) W := by
 obtain ⟨i0, hi0, hz0, hz1, hz2⟩ := info_parts int_info
 simp [Instr.slice, run_underlying Try.underlying22, Instr.sliceBounds, run_sliceBound, sizeOf, typeInfo, hi0, show (k : Int) ≤ (cap : Int) by omega]
 intro; simp [Addr.add]
theorem cut_behind (b o k n cap : Nat) (hk : k < n) (hc : n ≤ cap) (W : World) : (Instr.slice 22 (.slice (some ⟨b, o, none⟩) n cap) (some (.int .i64 ((k : Int) + 1))) none none).run Try.prog W = .ok (.slice (some (behA b o k cap)) (n - (k + 1)) (cap - (k + 1))) W := by
 obtain ⟨i0, hi0, hz0, hz1, hz2⟩ := info_parts int_info
 have e : ((k : Int) + 1).toNat = k + 1 := by omega
 simp [Instr.slice, run_underlying Try.underlying22, Instr.sliceBounds, run_sliceBound, sizeOf, typeInfo, hi0, hz1, e, show (0 : Int) ≤ (k : Int) + 1 by omega, show (k : Int) + 1 ≤ (n : Int) by omega, behA]
 split <;> simp [Addr.add]
set_option maxRecDepth 100000 in
theorem mwith_any (a : Option Addr) (cap : Nat) (l : List Int) (k : Nat) (x : Int) (w : World) (h : LkAt w a cap l) (hl : l.length ≤ 100) (hk : k < l.length) : Calls Try.prog 18 #[.slice a l.length cap, .int .i64 (k : Int), .int .i64 x] w fun e w' => ∃ g gc, e = .returned (.slice g (l.set k x).length gc) ∧ LkAt w' g gc (l.set k x) ∧ NewA w.heap.size g ∧ Below w.heap.size w w' := by
 obtain ⟨b, o, rfl, hb, hc⟩ := h.1.at_ hk
 have hm := h.2.2
 have h1 := fun W => cut_ahead b o k l.length cap hk h.2.1 W
 have h2 := fun W => cut_behind b o k l.length cap hk h.2.1 W
 have hw : IntKind.i64.wrap ((k : Int) + 1) = (k : Int) + 1 := IntWalk.i64_in _ (by omega)
 have HA := hid (show IntsAt w (some ⟨b, o, none⟩) (l.take k) from ⟨by have := h.1.1; simp; omega, .inr ⟨b, o, rfl, hb, fun i hi => by rw [hc i (by simp at hi; omega)]; simp⟩⟩)
 have HB := hid (show IntsAt w (some (behA b o k cap)) (l.drop (k + 1)) from by
  refine ⟨by have := h.1.1; simp; omega, ?_⟩
  by_cases he : cap = k + 1
  ·left; have := h.2.1; apply List.drop_eq_nil_of_le; omega
  ·right
   refine ⟨b, o + (k + 1), by simp [behA, he], hb, fun i hi => ?_⟩
   simp at hi
   rw [show o + (k + 1) + i = o + (k + 1 + i) by omega, hc (k + 1 + i) (by omega)]
   simp)
 have HE := hid (show l.take k ++ [x] ++ l.drop (k + 1) = l.set k x by rw [List.set_eq_take_append_cons_drop]; simp [hk])
 have HT := hid (show (l.take k).length = k by simp; omega)
 have HD := hid (show (l.drop (k + 1)).length = l.length - (k + 1) by simp)
 clear h hc
 go_enter Try.func18, Try.ntmps18
 go_wp2_with fail
 go_wp2_with fail
 go_quiet (fail)
 have HA1 := hid (HA.out.drewN nq)
 have HB1 := hid (HB.out.drewN nq)
 have B1 := hid (bdrew (Below.refl w.heap.size w) nq)
 clear HA HB hb h1 h2
 generalize w.drewN nq = w1 at *
 obtain ⟨v3, W3, hr3, hg3, hb3, hv3⟩ := full_one HA1.out x (by rw [HT.out]; omega)
 obtain ⟨v4, W4, hr4, hg4, hb4⟩ := hg3.app (c := cap - (k + 1)) (HB1.out.below hb3 (Nat.le_refl _)) (.inl hv3) (by rw [HD.out, List.length_append, HT.out]; simp; omega) hb3.size
 rw [HT.out] at hr3
 rw [HD.out] at hr4
 rw [HE.out] at hg4
 obtain ⟨g, gc, rfl, hx, hn, -⟩ := hg4.own
 have HX := hid hx
 have HN := hid (show NewA w.heap.size g from fun q hq => Nat.le_trans B1.out.size (hn q hq))
 have HR3 := hid hr3
 have HR4 := hid hr4
 have HB4 := hid (bl B1.out (hg3.below hb3 (Nat.le_refl _) hb3.size hb4))
 clear hr3 hr4 hg4 hg3 hb3 hb4 hv3 HA1 HB1 HE hx hn B1
 go_wp2_with (at_builtin; first | refine append_step1 rfl (.tmp 17) (.tmp 19) 22 rfl _ _ _ W3 rfl rfl HR3.out ?_ | refine append_step1 rfl (.tmp 20) (.tmp 21) 22 rfl _ _ _ W4 rfl rfl HR4.out ?_)
 go_ret
 exact ⟨g, gc, by rw [List.length_set]; rfl, HX.out, HN.out, HB4.out⟩
end Go.Proofs.Ytbbjgkinkkgjoaa
