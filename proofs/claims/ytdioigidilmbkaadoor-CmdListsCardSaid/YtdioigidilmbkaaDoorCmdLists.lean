/- CmdLists: for every command, and every number: the statement answers true. No condition but that the program's two tables lie as its text lays them (tied). -/
import Derived.Test.YtdioigidilmbkaaDoorRows
import Derived.Test.YtdioigidilmbkaaDoorKit
import Derived.Test.YtdioigidilmbkaaDoorStrs
import Derived.Test.YtdioigidilmbkaaDoorStrTab
import Derived.Test.YtdioigidilmbkaaDoorCmdMath
import Derived.Test.YtdioigidilmbkaaDoorCmdListMath
import Derived.Test.YtdioigidilmbkaaDoorCmdA
import Derived.Test.YtdioigidilmbkaaDoorNameMath
import Derived.Test.YtdioigidilmbkaaDoorCmdNames1
import Derived.Test.YtdioigidilmbkaaDoorCmdSame
import Derived.Test.YtdioigidilmbkaaDoorCmdMay
import Derived.Test.YtdioigidilmbkaaDoorCmdRefSame
import Derived.Test.YtdioigidilmbkaaDoorCmdRefMay
import Derived.Test.YtdioigidilmbkaaDoorCmdAwake
import Derived.Test.YtdioigidilmbkaaDoorCmdLaw
import Derived.Test.YtdioigidilmbkaaDoorHolds
import Derived.Test.YtdioigidilmbkaaDoorBlk
import Derived.Deep.RegionHeld3
import Derived.Deep.DeepCutAuto
import Derived.WalkKit
import Derived.ProofKit
import Derived.OpenShut
import Derived.IntWalk
namespace Go.Proofs.YtdioigidilmbkaaDoor
open Go.ChangeShapes Go.WideShapes Go.ChangeAt Go.RowKit
set_option linter.unusedVariables false
open Go.RowKit
/-- What the last statement reads. -/
def Lst (w : World) (x p g u : Nat) (X C : Array Value) (q1 q2 : Addr) (v1 v2 : Value) (xs ys : List Int) (w' : World) : Prop :=
  (Below w.heap.size w w' ∧ x < w'.heap.size ∧ ∀ j, w'.cell? ⟨x, j, none⟩ = (X[j]? : Option Value)) ∧ (p < w'.heap.size ∧ ∀ j, w'.cell? ⟨p, j, none⟩ = (C[j]? : Option Value)) ∧ w'.cell? q1 = some v1 ∧ w'.cell? q2 = some v2 ∧ IntsAt w' (some ⟨g, 0, none⟩) xs ∧ IntsAt w' (some ⟨u, 0, none⟩) ys
theorem Lst.drew {w w' : World} {x p g u : Nat} {X C : Array Value} {q1 q2 : Addr} {v1 v2 : Value} {xs ys : List Int} (h : Lst w x p g u X C q1 q2 v1 v2 xs ys w') : Lst w x p g u X C q1 q2 v1 v2 xs ys w'.drew := ⟨⟨h.1.1.drew, h.1.2⟩, h.2⟩
theorem Lst.call {w w' w1 : World} {x p g u : Nat} {X C : Array Value} {q1 q2 : Addr} {v1 v2 : Value} {xs ys : List Int} (h : Lst w x p g u X C q1 q2 v1 v2 xs ys w') (h1 : q1.block < w.heap.size) (h2 : q2.block < w.heap.size) (hb : Below w'.heap.size w' w1) : Lst w x p g u X C q1 q2 v1 v2 xs ys w1 := by
  obtain ⟨⟨a1, a2, a3⟩, ⟨c1, c2⟩, k1, k2, i1, i2⟩ := h
  have hs := a1.size
  have hz := hb.size
  exact ⟨⟨a1.trans (hb.mono hs), by omega, fun j => (hb.cell (p := ⟨x, j, none⟩) a2).trans (a3 j)⟩, ⟨by omega, fun j => (hb.cell (p := ⟨p, j, none⟩) c1).trans (c2 j)⟩, (hb.cell (p := q1) (by omega)).trans k1, (hb.cell (p := q2) (by omega)).trans k2, i1.below hb (Nat.le_refl _), i2.below hb (Nat.le_refl _)⟩
set_option maxRecDepth 100000 in
set_option maxHeartbeats 4000000 in
theorem lists_go (d i b h p f : Int) (gs ws : List Int) (ga wa : Option Addr) (gn wn : Nat) (n : Nat) (w : World) (h1 : IntsAt w ga gs) (h2 : IntsAt w wa ws) (hn : n ≤ 255) (hk : KTab w) (hw : WTab w) (f1 : fewB ⟨8, d, i, b, h, gs, p, ws, f⟩ = true) (f2 : refMayB ⟨8, d, i, b, h, gs, p, ws, f⟩ = true) :
    Calls Tryd.prog 6 #[.agg #[.int .i64 8, .int .i64 d, .int .i64 i, .int .i64 b, .int .i64 h, .slice ga gs.length gn, .int .i64 p, .slice wa ws.length wn, .int .i64 f], .int .u8 n] w fun e w' => e = .returned (.bool true) ∧ Below w.heap.size w w' := by
  obtain ⟨ra, rl, rb, rm⟩ := row8 f2
  have H1 := Lib.hid h1
  have H2 := Lib.hid h2
  have HK := Lib.hid hk
  have HW := Lib.hid hw
  have HF := Lib.hid f1
  have HM := Lib.hid f2
  have RA := Lib.hid ra
  have M0 := Lib.hid (show mayB ⟨8, d, i, b, h, gs, p, ws, f⟩ = true by rw [may8 f2 gs, ra]; simp [rl])
  have MY := Lib.hid (show mayB ⟨8, d, i, b, h, zeros 16, p, ws, f⟩ = true by rw [may8 f2 (zeros 16), zeros_are]; rfl)
  have MZ := Lib.hid (show mayB ⟨8, d, i, b, h, gs, p, zeros 17, f⟩ = false by rw [may8w f2 (zeros 17), zeros_are]; rfl)
  have F2 := Lib.hid f2
  have S0 := Lib.hid (sameB_refl ⟨8, d, i, b, h, gs, p, ws, f⟩)
  clear h1 h2 hk hw f1 f2 ra rb
  go_enter Tryd.func6, Tryd.ntmps6
  go_wp2_with fail
  have B0 := Lib.hid (Blk.new w 24 #[.int .i64 8, .int .i64 d, .int .i64 i, .int .i64 b, .int .i64 h, .slice ga gs.length gn, .int .i64 p, .slice wa ws.length wn, .int .i64 f])
  have L0 := Lib.hid ((Below.refl _ w).alloc (Nat.le_refl _) (.cells #[.int .i64 8, .int .i64 d, .int .i64 i, .int .i64 b, .int .i64 h, .slice ga gs.length gn, .int .i64 p, .slice wa ws.length wn, .int .i64 f] 24))
  refine (awake_any _ (HK.out.below L0.out) (HW.out.below L0.out)).mono ?_
  rintro e w1 ⟨rfl, b1⟩
  have B1 := Lib.hid (B0.out.call b1)
  have L1 := Lib.hid (L0.out.trans (b1.mono L0.out.size))
  have hA := B1.out.cell
  clear b1 B0 L0
  go_wp2_with fail
  refine (few_any ⟨8, d, i, b, h, gs, p, ws, f⟩ ga wa gn wn _ (H1.out.below L1.out (Nat.le_refl _)) (H2.out.below L1.out (Nat.le_refl _))).mono ?_
  rintro e w2 ⟨rfl, b2⟩
  rw [HF.out]
  have B2 := Lib.hid (B1.out.call b2)
  have L2 := Lib.hid (L1.out.trans (b2.mono L1.out.size))
  clear b2 hA B1 L1
  have hA := B2.out.cell
  go_wp2_with fail
  refine (refmay_any ⟨8, d, i, b, h, gs, p, ws, f⟩ ga wa gn wn _ (H1.out.below L2.out (Nat.le_refl _)) (H2.out.below L2.out (Nat.le_refl _))).mono ?_
  rintro e w3 ⟨rfl, b3⟩
  rw [HM.out]
  have B3 := Lib.hid (B2.out.call b3)
  have L3 := Lib.hid (L2.out.trans (b3.mono L2.out.size))
  clear b3 hA B2 L2
  have hA := B3.out.cell
  have hlt := B3.out.lt
  -- the first append
  have hn0 : Blk ((w3.alloc (.cells #[.int .i64 8, .int .i64 d, .int .i64 i, .int .i64 b, .int .i64 h, .slice ga gs.length gn, .int .i64 p, .slice wa ws.length wn, .int .i64 f] 24)).alloc (.cells #[] 3)) (w3.heap.size + 1) 3 #[] := Blk.newn _ _ _ (by simp)
  obtain ⟨g, c4, cur, w4, hr4, hg, hb4, hc4, hl4⟩ := append_new (a := ga) (cap := gn) (xs := gs) (w3.heap.size + 1) hn0 (((H1.out.below L3.out (Nat.le_refl _)).alloc _).alloc _) (by omega)
  have R4 := Lib.hid hr4
  have HB4 := Lib.hid hb4
  have HC4 := Lib.hid hc4
  have HL4 := Lib.hid hl4
  have BX := Lib.hid (((Blk.new w3 24 #[.int .i64 8, .int .i64 d, .int .i64 i, .int .i64 b, .int .i64 h, .slice ga gs.length gn, .int .i64 p, .slice wa ws.length wn, .int .i64 f]).alloc (.cells #[] 3)).below hl4 (by omega))
  have BC := Lib.hid (((B3.out.alloc (.cells #[.int .i64 8, .int .i64 d, .int .i64 i, .int .i64 b, .int .i64 h, .slice ga gs.length gn, .int .i64 p, .slice wa ws.length wn, .int .i64 f] 24)).alloc (.cells #[] 3)).below hl4 (by omega))
  clear hr4 hn0 hb4 hc4 hl4
  -- the second append, in the world behind the first one's store
  have hX1 : Blk ((w4.setCell ⟨w3.heap.size, 5, none⟩ (.slice (some ⟨g, 0, none⟩) gs.length c4)).alloc (.cells #[] 3)) w3.heap.size 24 #[.int .i64 8, .int .i64 d, .int .i64 i, .int .i64 b, .int .i64 h, .slice (some ⟨g, 0, none⟩) gs.length c4, .int .i64 p, .slice wa ws.length wn, .int .i64 f] := (BX.out.set_ 5 _).alloc _
  have hC1 : Blk ((w4.setCell ⟨w3.heap.size, 5, none⟩ (.slice (some ⟨g, 0, none⟩) gs.length c4)).alloc (.cells #[] 3)) w.heap.size 24 #[.int .i64 8, .int .i64 d, .int .i64 i, .int .i64 b, .int .i64 h, .slice ga gs.length gn, .int .i64 p, .slice wa ws.length wn, .int .i64 f] := (BC.out.far (by show w.heap.size ≠ w3.heap.size; omega) _).alloc _
  have hG1 : Blk ((w4.setCell ⟨w3.heap.size, 5, none⟩ (.slice (some ⟨g, 0, none⟩) gs.length c4)).alloc (.cells #[] 3)) g 3 cur := (HB4.out.far (by show g ≠ w3.heap.size; omega) _).alloc _
  have hL1 : Below w.heap.size w ((w4.setCell ⟨w3.heap.size, 5, none⟩ (.slice (some ⟨g, 0, none⟩) gs.length c4)).alloc (.cells #[] 3)) := by
    have hs := HL4.out.size
    have h3 := L3.out.size
    simp at hs
    exact (((((L3.out.alloc h3 _).alloc (by simp; omega) _).trans (HL4.out.mono (by omega))).setCell h3 _).alloc (by show w.heap.size ≤ (World.setCell _ _ _).heap.size; simp [World.setCell]; omega) _)
  have hsz : (w4.setCell ⟨w3.heap.size, 5, none⟩ (.slice (some ⟨g, 0, none⟩) gs.length c4)).heap.size = w4.heap.size := by simp [World.setCell]
  have hn1 : Blk ((w4.setCell ⟨w3.heap.size, 5, none⟩ (.slice (some ⟨g, 0, none⟩) gs.length c4)).alloc (.cells #[] 3)) w4.heap.size 3 #[] := Blk.newn _ _ _ hsz
  have hg4 := HB4.out.lt
  have hx4 := BX.out.lt
  have hc4' := BC.out.lt
  obtain ⟨u, c5, cu2, w5, hr5, hu5, hb5, hc5, hl5⟩ := append_new (a := wa) (cap := wn) (xs := ws) w4.heap.size hn1 (H2.out.below hL1 (Nat.le_refl _)) (by omega)
  have R5 := Lib.hid hr5
  have BU := Lib.hid hb5
  have HC5 := Lib.hid hc5
  have BX5 := Lib.hid (hX1.below hl5 hx4)
  have BC5 := Lib.hid (hC1.below hl5 hc4')
  have BG5 := Lib.hid (hG1.below hl5 hg4)
  have L5 := Lib.hid (hL1.trans (hl5.mono (by have := L3.out.size; omega)))
  clear hr5 hb5 hc5 hl5 hn1 hX1 hG1 hL1 hsz
  have hC1c := hC1.cell
  clear hC1
  have hX := BX.out.cell
  have hXf := BX.out.frozen
  have hA2 := BC.out.cell
  have hX5 := BX5.out.cell
  have hXf5 := BX5.out.frozen
  have hA5 := BC5.out.cell
  go_wp2_with (at_builtin; first | refine append_step1 rfl (.tmp 29) (.tmp 31) 22 rfl _ _ _ w4 rfl rfl R4.out ?_ | refine append_step1 rfl (.tmp 34) (.tmp 36) 22 rfl _ _ _ w5 rfl rfl R5.out ?_)
  -- the world behind both stores
  have hXC : Blk (w5.setCell ⟨w3.heap.size, 7, none⟩ (.slice (some ⟨u, 0, none⟩) ws.length c5)) w3.heap.size 24 #[.int .i64 8, .int .i64 d, .int .i64 i, .int .i64 b, .int .i64 h, .slice (some ⟨g, 0, none⟩) gs.length c4, .int .i64 p, .slice (some ⟨u, 0, none⟩) ws.length c5, .int .i64 f] := BX5.out.set_ 7 _
  have hC6 : Blk (w5.setCell ⟨w3.heap.size, 7, none⟩ (.slice (some ⟨u, 0, none⟩) ws.length c5)) w.heap.size 24 #[.int .i64 8, .int .i64 d, .int .i64 i, .int .i64 b, .int .i64 h, .slice ga gs.length gn, .int .i64 p, .slice wa ws.length wn, .int .i64 f] := BC5.out.far (by show w.heap.size ≠ w3.heap.size; omega) _
  have hG6 : Blk (w5.setCell ⟨w3.heap.size, 7, none⟩ (.slice (some ⟨u, 0, none⟩) ws.length c5)) g 3 cur := BG5.out.far (by show g ≠ w3.heap.size; omega) _
  have hU6 : Blk (w5.setCell ⟨w3.heap.size, 7, none⟩ (.slice (some ⟨u, 0, none⟩) ws.length c5)) u 3 cu2 := BU.out.far (by show u ≠ w3.heap.size; omega) _
  have hL6 : Below w.heap.size w (w5.setCell ⟨w3.heap.size, 7, none⟩ (.slice (some ⟨u, 0, none⟩) ws.length c5)) := L5.out.setCell (by show w.heap.size ≤ w3.heap.size; omega) _
  clear hA hA2 hX hXf hX5 hXf5 hA5 hC1c BX5 BC5 BG5 BU L5 BX BC HB4 R4 R5 HL4 B3 L3
  generalize w5.setCell ⟨w3.heap.size, 7, none⟩ (.slice (some ⟨u, 0, none⟩) ws.length c5) = w6 at *
  have BX6 := Lib.hid hXC
  have BC6 := Lib.hid hC6
  have BG6 := Lib.hid hG6
  have BU6 := Lib.hid hU6
  have L6 := Lib.hid hL6
  clear hXC hC6 hG6 hU6 hL6
  refine (same_any ⟨8, d, i, b, h, gs, p, ws, f⟩ ⟨8, d, i, b, h, gs, p, ws, f⟩ (some ⟨g, 0, none⟩) (some ⟨u, 0, none⟩) ga wa c4 c5 gn wn _ (BG6.out.ints (xs := gs) (by unfold maxLen; omega) HC4.out) (BU6.out.ints (xs := ws) (by unfold maxLen; omega) HC5.out) (H1.out.below L6.out (Nat.le_refl _)) (H2.out.below L6.out (Nat.le_refl _))).mono ?_
  rintro e w7 ⟨rfl, b7⟩
  rw [S0.out]
  have BX7 := Lib.hid (BX6.out.call b7)
  have BC7 := Lib.hid (BC6.out.call b7)
  have BG7 := Lib.hid (BG6.out.call b7)
  have BU7 := Lib.hid (BU6.out.call b7)
  have L7 := Lib.hid (L6.out.trans (b7.mono L6.out.size))
  clear b7 BX6 BC6 BG6 BU6 L6
  have hX := BX7.out.cell
  go_wp2_with fail
  refine (may_any ⟨8, d, i, b, h, gs, p, ws, f⟩ (some ⟨g, 0, none⟩) (some ⟨u, 0, none⟩) c4 c5 _ (BG7.out.ints (xs := gs) (by unfold maxLen; omega) HC4.out) (BU7.out.ints (xs := ws) (by unfold maxLen; omega) HC5.out)).mono ?_
  rintro e w8 ⟨rfl, b8⟩
  rw [M0.out]
  have BX8 := Lib.hid (BX7.out.call b8)
  have BC8 := Lib.hid (BC7.out.call b8)
  have BG8 := Lib.hid (BG7.out.call b8)
  have BU8 := Lib.hid (BU7.out.call b8)
  have L8 := Lib.hid (L7.out.trans (b8.mono L7.out.size))
  have hlt8 := BC8.out.lt
  clear b8 BX7 BC7 BG7 BU7 L7 hX
  have hA := BC8.out.cell
  have hm16 : ∀ W : World, (Instr.makeSlice 22 (.int .i64 16) (.int .i64 16)).run Tryd.prog W = .ok (.slice (some ⟨W.heap.size, 0, none⟩) 16 16) (W.alloc (.cells (zc 16) 3)) := make_ints 16 (by omega)
  have hm17 : ∀ W : World, (Instr.makeSlice 22 (.int .i64 17) (.int .i64 17)).run Tryd.prog W = .ok (.slice (some ⟨W.heap.size, 0, none⟩) 17 17) (W.alloc (.cells (zc 17) 3)) := make_ints 17 (by omega)
  -- the four new blocks
  have a1 : Below w8.heap.size w8 ((((w8.alloc (.cells #[.int .i64 8, .int .i64 d, .int .i64 i, .int .i64 b, .int .i64 h, .slice (some ⟨w8.heap.size + 1, 0, none⟩) 16 16, .int .i64 p, .slice wa ws.length wn, .int .i64 f] 24)).alloc (.cells (zc 16) 3)).alloc (.cells #[.int .i64 8, .int .i64 d, .int .i64 i, .int .i64 b, .int .i64 h, .slice ga gs.length gn, .int .i64 p, .slice (some ⟨w8.heap.size + 1 + 1 + 1, 0, none⟩) 17 17, .int .i64 f] 24)).alloc (.cells (zc 17) 3)) :=
    ((((Below.refl _ _).alloc (Nat.le_refl _) _).alloc (by simp) _).alloc (by simp; omega) _).alloc (by simp; omega) _
  have i16 : IntsAt ((((w8.alloc (.cells #[.int .i64 8, .int .i64 d, .int .i64 i, .int .i64 b, .int .i64 h, .slice (some ⟨w8.heap.size + 1, 0, none⟩) 16 16, .int .i64 p, .slice wa ws.length wn, .int .i64 f] 24)).alloc (.cells (zc 16) 3)).alloc (.cells #[.int .i64 8, .int .i64 d, .int .i64 i, .int .i64 b, .int .i64 h, .slice ga gs.length gn, .int .i64 p, .slice (some ⟨w8.heap.size + 1 + 1 + 1, 0, none⟩) 17 17, .int .i64 f] 24)).alloc (.cells (zc 17) 3)) (some ⟨w8.heap.size + 1, 0, none⟩) (zeros 16) :=
    Blk.ints (t := 3) (cs := zc 16) (((Blk.newn _ _ _ (by simp)).alloc _).alloc _) (by simp [zeros, maxLen]) (fun j hj => by rw [zc_get (by simpa [zeros] using hj), zeros_get])
  have i17 : IntsAt ((((w8.alloc (.cells #[.int .i64 8, .int .i64 d, .int .i64 i, .int .i64 b, .int .i64 h, .slice (some ⟨w8.heap.size + 1, 0, none⟩) 16 16, .int .i64 p, .slice wa ws.length wn, .int .i64 f] 24)).alloc (.cells (zc 16) 3)).alloc (.cells #[.int .i64 8, .int .i64 d, .int .i64 i, .int .i64 b, .int .i64 h, .slice ga gs.length gn, .int .i64 p, .slice (some ⟨w8.heap.size + 1 + 1 + 1, 0, none⟩) 17 17, .int .i64 f] 24)).alloc (.cells (zc 17) 3)) (some ⟨w8.heap.size + 1 + 1 + 1, 0, none⟩) (zeros 17) :=
    Blk.ints (t := 3) (cs := zc 17) (Blk.newn _ _ _ (by simp)) (by simp [zeros, maxLen]) (fun j hj => by rw [zc_get (by simpa [zeros] using hj), zeros_get])
  have bz : Blk ((((w8.alloc (.cells #[.int .i64 8, .int .i64 d, .int .i64 i, .int .i64 b, .int .i64 h, .slice (some ⟨w8.heap.size + 1, 0, none⟩) 16 16, .int .i64 p, .slice wa ws.length wn, .int .i64 f] 24)).alloc (.cells (zc 16) 3)).alloc (.cells #[.int .i64 8, .int .i64 d, .int .i64 i, .int .i64 b, .int .i64 h, .slice ga gs.length gn, .int .i64 p, .slice (some ⟨w8.heap.size + 1 + 1 + 1, 0, none⟩) 17 17, .int .i64 f] 24)).alloc (.cells (zc 17) 3)) (w8.heap.size + 1 + 1) 24 #[.int .i64 8, .int .i64 d, .int .i64 i, .int .i64 b, .int .i64 h, .slice ga gs.length gn, .int .i64 p, .slice (some ⟨w8.heap.size + 1 + 1 + 1, 0, none⟩) 17 17, .int .i64 f] := (Blk.newn _ _ _ (by simp)).alloc _
  have A1 := Lib.hid a1
  have I16 := Lib.hid i16
  have I17 := Lib.hid i17
  have BZ := Lib.hid bz
  clear a1 i16 i17 bz
  go_wp2_with fail
  refine (may_any ⟨8, d, i, b, h, zeros 16, p, ws, f⟩ (some ⟨w8.heap.size + 1, 0, none⟩) wa 16 wn _ I16.out ((H2.out.below L8.out (Nat.le_refl _)).below A1.out (Nat.le_refl _))).mono ?_
  rintro e w10 ⟨rfl, b10⟩
  rw [MY.out]
  have BX10 := Lib.hid ((BX8.out.call A1.out).call b10)
  have BC10 := Lib.hid ((BC8.out.call A1.out).call b10)
  have BG10 := Lib.hid ((BG8.out.call A1.out).call b10)
  have BU10 := Lib.hid ((BU8.out.call A1.out).call b10)
  have BZ10 := Lib.hid (BZ.out.call b10)
  have I17b := Lib.hid (I17.out.below b10 (Nat.le_refl _))
  have L10 := Lib.hid ((L8.out.trans (A1.out.mono L8.out.size)).trans (b10.mono (Nat.le_trans L8.out.size A1.out.size)))
  clear b10 hm16 hm17 hA BX8 BC8 BG8 BU8 BZ I16 I17 A1 L8
  have hZ := BZ10.out.cell
  go_wp2_with fail
  refine (may_any ⟨8, d, i, b, h, gs, p, zeros 17, f⟩ ga (some ⟨w8.heap.size + 1 + 1 + 1, 0, none⟩) gn 17 _ (H1.out.below L10.out (Nat.le_refl _)) I17b.out).mono ?_
  rintro e w11 ⟨rfl, b11⟩
  rw [MZ.out]
  have BX11 := Lib.hid (BX10.out.call b11)
  have BC11 := Lib.hid (BC10.out.call b11)
  have BG11 := Lib.hid (BG10.out.call b11)
  have BU11 := Lib.hid (BU10.out.call b11)
  have L11 := Lib.hid (L10.out.trans (b11.mono L10.out.size))
  clear b11 hZ BX10 BC10 BG10 BU10 BZ10 I17b L10
  have hA := BC11.out.cell
  have hX := BX11.out.cell
  by_cases hlen : gs.length < 2
  · go_wp2_with fail
    go_ret
    exact ⟨rfl, L11.out⟩
  · have hl2 : 2 ≤ gs.length := by omega
    clear hlen
    have hl3 : (0 : Int) < (gs.length : Int) - 1 := by omega
    obtain ⟨kk, hkk⟩ : ∃ kk : Nat, kk = n % (gs.length - 1) := ⟨_, rfl⟩
    have hk1 : kk < gs.length - 1 := by rw [hkk]; exact Nat.mod_lt _ (by omega)
    have HKK := Lib.hid (show ((n : Int) % ((gs.length : Int) - 1)) = (kk : Int) by rw [hkk]; exact mod_less n gs.length (by omega))
    clear hkk
    have hk0 : (0 : Int) ≤ (kk : Int) := by omega
    have hk2 : (kk : Int) < (gs.length : Int) := by omega
    have hk3 : (kk : Int) + 1 < (gs.length : Int) := by omega
    obtain ⟨y1, hy1⟩ : ∃ y, y = gs.getD kk 0 := ⟨_, rfl⟩
    obtain ⟨y2, hy2⟩ : ∃ y, y = gs.getD (kk + 1) 0 := ⟨_, rfl⟩
    have hc1 : w11.cell? ⟨g, kk, none⟩ = some (.int .i64 y1) := by rw [BG11.out.cell, HC4.out kk (by omega), hy1, getD_get (by omega)]
    have hc2 : w11.cell? ⟨g, kk + 1, none⟩ = some (.int .i64 y2) := by rw [BG11.out.cell, HC4.out (kk + 1) (by omega), hy2, getD_get (by omega)]
    have hf1 := BG11.out.frozen
    have hgx : ¬ g = w3.heap.size := by omega
    have hxg : ¬ w3.heap.size = g := by omega
    have HY1 := Lib.hid hy1
    have HY2 := Lib.hid hy2
    have hw1 : w.heap.size ≤ g := by omega
    have MX := Lib.hid (show mayB ⟨8, d, i, b, h, swapL gs kk, p, ws, f⟩ = true by rw [may8 F2.out (swapL gs kk), swapL_are gs kk (by omega) RA.out, swapL_len]; simp [rl])
    have SX := Lib.hid (show sameB ⟨8, d, i, b, h, swapL gs kk, p, ws, f⟩ ⟨8, d, i, b, h, gs, p, ws, f⟩ = (y1 == y2) by
      rw [same8, Bool.eq_iff_iff, decide_eq_true_iff, swapL_eq gs kk (by omega), ← hy1, ← hy2]; simp)
    have CS : Hid (∀ W : World, IntsAt W (some ⟨g, 0, none⟩) (swapL gs kk) → IntsAt W (some ⟨u, 0, none⟩) ws → IntsAt W ga gs → IntsAt W wa ws → Calls Tryd.prog 11 #[.agg #[.int .i64 8, .int .i64 d, .int .i64 i, .int .i64 b, .int .i64 h, .slice (some ⟨g, 0, none⟩) gs.length c4, .int .i64 p, .slice (some ⟨u, 0, none⟩) ws.length c5, .int .i64 f], .agg #[.int .i64 8, .int .i64 d, .int .i64 i, .int .i64 b, .int .i64 h, .slice ga gs.length gn, .int .i64 p, .slice wa ws.length wn, .int .i64 f]] W fun e w' => e = .returned (.bool (y1 == y2)) ∧ Below W.heap.size W w') := Lib.hid (fun W u1 u2 u3 u4 => by
      have hh := same_any ⟨8, d, i, b, h, swapL gs kk, p, ws, f⟩ ⟨8, d, i, b, h, gs, p, ws, f⟩ (some ⟨g, 0, none⟩) (some ⟨u, 0, none⟩) ga wa c4 c5 gn wn W u1 u2 u3 u4
      rw [SX.out] at hh
      simp only [swapL_len] at hh
      exact hh)
    have CM : Hid (∀ W : World, IntsAt W (some ⟨g, 0, none⟩) (swapL gs kk) → IntsAt W (some ⟨u, 0, none⟩) ws → Calls Tryd.prog 9 #[.agg #[.int .i64 8, .int .i64 d, .int .i64 i, .int .i64 b, .int .i64 h, .slice (some ⟨g, 0, none⟩) gs.length c4, .int .i64 p, .slice (some ⟨u, 0, none⟩) ws.length c5, .int .i64 f]] W fun e w' => e = .returned (.bool true) ∧ Below W.heap.size W w') := Lib.hid (fun W u1 u2 => by
      have hh := may_any ⟨8, d, i, b, h, swapL gs kk, p, ws, f⟩ (some ⟨g, 0, none⟩) (some ⟨u, 0, none⟩) c4 c5 W u1 u2
      rw [MX.out] at hh
      simp only [swapL_len] at hh
      exact hh)
    clear hy1 hy2
    go_upto_region 17 with fail
    simp only [HKK.out]
    go_wp2_with fail
    go_region
    go_wp2_with fail
    have hbx : Blk ((w11.setCell ⟨g, kk, none⟩ (.int .i64 y2)).setCell ⟨g, kk + 1, none⟩ (.int .i64 y1)).drew w3.heap.size 24 #[.int .i64 8, .int .i64 d, .int .i64 i, .int .i64 b, .int .i64 h, .slice (some ⟨g, 0, none⟩) gs.length c4, .int .i64 p, .slice (some ⟨u, 0, none⟩) ws.length c5, .int .i64 f] := (BX11.out.far hxg _).far hxg _
    have hbc : Blk ((w11.setCell ⟨g, kk, none⟩ (.int .i64 y2)).setCell ⟨g, kk + 1, none⟩ (.int .i64 y1)).drew w.heap.size 24 #[.int .i64 8, .int .i64 d, .int .i64 i, .int .i64 b, .int .i64 h, .slice ga gs.length gn, .int .i64 p, .slice wa ws.length wn, .int .i64 f] := (BC11.out.far (by show w.heap.size ≠ g; omega) _).far (by show w.heap.size ≠ g; omega) _
    have hbu : Blk ((w11.setCell ⟨g, kk, none⟩ (.int .i64 y2)).setCell ⟨g, kk + 1, none⟩ (.int .i64 y1)).drew u 3 cu2 := (BU11.out.far (by show u ≠ g; omega) _).far (by show u ≠ g; omega) _
    have hbg : Blk ((w11.setCell ⟨g, kk, none⟩ (.int .i64 y2)).setCell ⟨g, kk + 1, none⟩ (.int .i64 y1)).drew g 3 ((cur.setIfInBounds kk (.int .i64 y2)).setIfInBounds (kk + 1) (.int .i64 y1)) := (BG11.out.set_ kk _).set_ (kk + 1) _
    have hbl : Below w.heap.size w ((w11.setCell ⟨g, kk, none⟩ (.int .i64 y2)).setCell ⟨g, kk + 1, none⟩ (.int .i64 y1)).drew := ((L11.out.setCell hw1 _).setCell hw1 _).drew
    clear hc1 hc2 hf1 hA hX BX11 BC11 BG11 BU11 L11
    generalize ((w11.setCell ⟨g, kk, none⟩ (.int .i64 y2)).setCell ⟨g, kk + 1, none⟩ (.int .i64 y1)).drew = w12 at *
    have hig : IntsAt w12 (some ⟨g, 0, none⟩) (swapL gs kk) := hbg.ints (by rw [swapL_len]; unfold maxLen; omega) (fun j hj => by
      have hj2 : j < gs.length := by rw [swapL_len] at hj; exact hj
      have hcj := HC4.out j hj2
      have hjs : j < cur.size := (Array.getElem?_eq_some_iff.1 hcj).1
      rw [swapL_get gs kk j (by omega) hj, ← HY1.out, ← HY2.out, Array.getElem?_setIfInBounds, Array.getElem?_setIfInBounds]
      by_cases e1 : kk + 1 = j
      · subst e1; simp [hjs]
      · rw [if_neg e1, if_neg (show ¬ j = kk + 1 from fun e => e1 e.symm)]
        by_cases e2 : kk = j
        · subst e2; simp [hjs]
        · rw [if_neg e2, if_neg (show ¬ j = kk from fun e => e2 e.symm), hcj, getD_get hj2])
    have hiu : IntsAt w12 (some ⟨u, 0, none⟩) ws := hbu.ints (by unfold maxLen; omega) HC5.out
    obtain ⟨bb, off, rfl, hbb, hcs⟩ := H1.out.at_ (k := kk) (by omega)
    have q1 := (hbl.cell (p := ⟨bb, off + kk, none⟩) hbb).trans (hcs kk (by omega))
    have q2 := (hbl.cell (p := ⟨bb, off + (kk + 1), none⟩) hbb).trans (hcs (kk + 1) (by omega))
    rw [← getD_get, ← HY1.out] at q1
    rw [← getD_get, ← HY2.out] at q2
    have HL := Lib.hid (show Lst w w3.heap.size w.heap.size g u #[.int .i64 8, .int .i64 d, .int .i64 i, .int .i64 b, .int .i64 h, .slice (some ⟨g, 0, none⟩) gs.length c4, .int .i64 p, .slice (some ⟨u, 0, none⟩) ws.length c5, .int .i64 f] #[.int .i64 8, .int .i64 d, .int .i64 i, .int .i64 b, .int .i64 h, .slice (some ⟨bb, off, none⟩) gs.length gn, .int .i64 p, .slice wa ws.length wn, .int .i64 f] ⟨bb, off + kk, none⟩ ⟨bb, off + (kk + 1), none⟩ (.int .i64 y1) (.int .i64 y2) (swapL gs kk) ws w12 from ⟨⟨hbl, hbx.lt, hbx.cell⟩, ⟨hbc.lt, hbc.cell⟩, q1, q2, hig, hiu⟩)
    clear hbx hbc hbu hbg hbl hig hiu q1 q2 hcs
    have hwr : IntKind.i64.wrap ((kk : Int) + 1) = (kk : Int) + 1 := IntWalk.i64_in _ (by omega)
    have hk4 : (0 : Int) ≤ (kk : Int) + 1 := by omega
    have hk5 : ((kk : Int) + 1).toNat = kk + 1 := by omega
    refine wp_region_noPanic ?_
    refine wp_region_held_drew (S := (fun w' => (Below w.heap.size w w' ∧ w3.heap.size < w'.heap.size ∧ ∀ j, w'.cell? ⟨w3.heap.size, j, none⟩ = (#[.int .i64 8, .int .i64 d, .int .i64 i, .int .i64 b, .int .i64 h, .slice (some ⟨g, 0, none⟩) gs.length c4, .int .i64 p, .slice (some ⟨u, 0, none⟩) ws.length c5, .int .i64 f][j]? : Option Value)) ∧ (w.heap.size < w'.heap.size ∧ ∀ j, w'.cell? ⟨w.heap.size, j, none⟩ = (#[.int .i64 8, .int .i64 d, .int .i64 i, .int .i64 b, .int .i64 h, .slice (some ⟨bb, off, none⟩) gs.length gn, .int .i64 p, .slice wa ws.length wn, .int .i64 f][j]? : Option Value)) ∧ w'.cell? ⟨bb, off + kk, none⟩ = some (.int .i64 y1) ∧ w'.cell? ⟨bb, off + (kk + 1), none⟩ = some (.int .i64 y2) ∧ IntsAt w' (some ⟨g, 0, none⟩) (swapL gs kk) ∧ IntsAt w' (some ⟨u, 0, none⟩) ws)) (by kernel_rfl) (by (first | (exact Lst.drew HL.out) | (exact Lst.call hHeld hbb hbb hb))) (fun hHeld => ?_)
    first
      | (refine wpAnyH_take (i := 0) (v := undef) (by simp only [List.getElem?_toArray, List.getElem?_cons_succ, List.getElem?_cons_zero]; rfl) (by kernel_rfl) (by kernel_rfl) (by kernel_rfl) (fun _ _ _ h => h) (Or.inr ⟨by rfl, rfl⟩) (by assumption) ?_; try simp only [Act.put, List.setIfInBounds_toArray, List.set_cons_zero, List.set_cons_succ])
      | (refine wpAnyH_take (i := 0) (v := ?_) (by simp only [List.getElem?_toArray, List.getElem?_cons_succ, List.getElem?_cons_zero]; rfl) (by kernel_rfl) (by kernel_rfl) (by kernel_rfl) (fun _ _ _ h => h) (Or.inl ⟨by rfl, ?_⟩) (by assumption) ?_
         rotate_left
         · (intro ww hSw; (try dsimp only at hSw); go_simp; (try with_reducible rfl))
         try simp only [Act.put, List.setIfInBounds_toArray, List.set_cons_zero, List.set_cons_succ])
      | (refine wpAnyH_ready (rs := [0]) (by kernel_rfl) (by simp) (AllReadyH.cons (by simp only [List.getElem?_toArray, List.getElem?_cons_succ, List.getElem?_cons_zero]; rfl) (fun K hK => ?_) AllReadyH.nil)
         go_simp
         first
           | (go_at_call 11; (with_reducible refine (CS.out _ hHeld.2.2.2.2.1 hHeld.2.2.2.2.2 (H1.out.below hHeld.1.1 (Nat.le_refl _)) (H2.out.below hHeld.1.1 (Nat.le_refl _))).mono ?_); rintro e w9 ⟨rfl, hb⟩)
           | (go_at_call 9; (with_reducible refine (CM.out _ hHeld.2.2.2.2.1 hHeld.2.2.2.2.2).mono ?_); rintro e w9 ⟨rfl, hb⟩)
         try go_wp2_with fail
         refine hK.out _ _ (by (first | (exact Lst.drew HL.out) | (exact Lst.call hHeld hbb hbb hb))) (fun hHeld => ?_)
         clear hK K
         try simp only [Act.put, List.setIfInBounds_toArray, List.set_cons_zero, List.set_cons_succ])
    first
      | (refine wpAnyH_take (i := 1) (v := undef) (by simp only [List.getElem?_toArray, List.getElem?_cons_succ, List.getElem?_cons_zero]; rfl) (by kernel_rfl) (by kernel_rfl) (by kernel_rfl) (fun _ _ _ h => h) (Or.inr ⟨by rfl, rfl⟩) (by assumption) ?_; try simp only [Act.put, List.setIfInBounds_toArray, List.set_cons_zero, List.set_cons_succ])
      | (refine wpAnyH_take (i := 1) (v := ?_) (by simp only [List.getElem?_toArray, List.getElem?_cons_succ, List.getElem?_cons_zero]; rfl) (by kernel_rfl) (by kernel_rfl) (by kernel_rfl) (fun _ _ _ h => h) (Or.inl ⟨by rfl, ?_⟩) (by assumption) ?_
         rotate_left
         · (intro ww hSw; (try dsimp only at hSw); go_simp; (try with_reducible rfl))
         try simp only [Act.put, List.setIfInBounds_toArray, List.set_cons_zero, List.set_cons_succ])
      | (refine wpAnyH_ready (rs := [1]) (by kernel_rfl) (by simp) (AllReadyH.cons (by simp only [List.getElem?_toArray, List.getElem?_cons_succ, List.getElem?_cons_zero]; rfl) (fun K hK => ?_) AllReadyH.nil)
         go_simp
         first
           | (go_at_call 11; (with_reducible refine (CS.out _ hHeld.2.2.2.2.1 hHeld.2.2.2.2.2 (H1.out.below hHeld.1.1 (Nat.le_refl _)) (H2.out.below hHeld.1.1 (Nat.le_refl _))).mono ?_); rintro e w9 ⟨rfl, hb⟩)
           | (go_at_call 9; (with_reducible refine (CM.out _ hHeld.2.2.2.2.1 hHeld.2.2.2.2.2).mono ?_); rintro e w9 ⟨rfl, hb⟩)
         try go_wp2_with fail
         refine hK.out _ _ (by (first | (exact Lst.drew HL.out) | (exact Lst.call hHeld hbb hbb hb))) (fun hHeld => ?_)
         clear hK K
         try simp only [Act.put, List.setIfInBounds_toArray, List.set_cons_zero, List.set_cons_succ])
    first
      | (refine wpAnyH_take (i := 3) (v := undef) (by simp only [List.getElem?_toArray, List.getElem?_cons_succ, List.getElem?_cons_zero]; rfl) (by kernel_rfl) (by kernel_rfl) (by kernel_rfl) (fun _ _ _ h => h) (Or.inr ⟨by rfl, rfl⟩) (by assumption) ?_; try simp only [Act.put, List.setIfInBounds_toArray, List.set_cons_zero, List.set_cons_succ])
      | (refine wpAnyH_take (i := 3) (v := ?_) (by simp only [List.getElem?_toArray, List.getElem?_cons_succ, List.getElem?_cons_zero]; rfl) (by kernel_rfl) (by kernel_rfl) (by kernel_rfl) (fun _ _ _ h => h) (Or.inl ⟨by rfl, ?_⟩) (by assumption) ?_
         rotate_left
         · (intro ww hSw; (try dsimp only at hSw); go_simp; (try with_reducible rfl))
         try simp only [Act.put, List.setIfInBounds_toArray, List.set_cons_zero, List.set_cons_succ])
      | (refine wpAnyH_ready (rs := [3]) (by kernel_rfl) (by simp) (AllReadyH.cons (by simp only [List.getElem?_toArray, List.getElem?_cons_succ, List.getElem?_cons_zero]; rfl) (fun K hK => ?_) AllReadyH.nil)
         go_simp
         first
           | (go_at_call 11; (with_reducible refine (CS.out _ hHeld.2.2.2.2.1 hHeld.2.2.2.2.2 (H1.out.below hHeld.1.1 (Nat.le_refl _)) (H2.out.below hHeld.1.1 (Nat.le_refl _))).mono ?_); rintro e w9 ⟨rfl, hb⟩)
           | (go_at_call 9; (with_reducible refine (CM.out _ hHeld.2.2.2.2.1 hHeld.2.2.2.2.2).mono ?_); rintro e w9 ⟨rfl, hb⟩)
         try go_wp2_with fail
         refine hK.out _ _ (by (first | (exact Lst.drew HL.out) | (exact Lst.call hHeld hbb hbb hb))) (fun hHeld => ?_)
         clear hK K
         try simp only [Act.put, List.setIfInBounds_toArray, List.set_cons_zero, List.set_cons_succ])
    first
      | (refine wpAnyH_take (i := 4) (v := undef) (by simp only [List.getElem?_toArray, List.getElem?_cons_succ, List.getElem?_cons_zero]; rfl) (by kernel_rfl) (by kernel_rfl) (by kernel_rfl) (fun _ _ _ h => h) (Or.inr ⟨by rfl, rfl⟩) (by assumption) ?_; try simp only [Act.put, List.setIfInBounds_toArray, List.set_cons_zero, List.set_cons_succ])
      | (refine wpAnyH_take (i := 4) (v := ?_) (by simp only [List.getElem?_toArray, List.getElem?_cons_succ, List.getElem?_cons_zero]; rfl) (by kernel_rfl) (by kernel_rfl) (by kernel_rfl) (fun _ _ _ h => h) (Or.inl ⟨by rfl, ?_⟩) (by assumption) ?_
         rotate_left
         · (intro ww hSw; (try dsimp only at hSw); go_simp; (try with_reducible rfl))
         try simp only [Act.put, List.setIfInBounds_toArray, List.set_cons_zero, List.set_cons_succ])
      | (refine wpAnyH_ready (rs := [4]) (by kernel_rfl) (by simp) (AllReadyH.cons (by simp only [List.getElem?_toArray, List.getElem?_cons_succ, List.getElem?_cons_zero]; rfl) (fun K hK => ?_) AllReadyH.nil)
         go_simp
         first
           | (go_at_call 11; (with_reducible refine (CS.out _ hHeld.2.2.2.2.1 hHeld.2.2.2.2.2 (H1.out.below hHeld.1.1 (Nat.le_refl _)) (H2.out.below hHeld.1.1 (Nat.le_refl _))).mono ?_); rintro e w9 ⟨rfl, hb⟩)
           | (go_at_call 9; (with_reducible refine (CM.out _ hHeld.2.2.2.2.1 hHeld.2.2.2.2.2).mono ?_); rintro e w9 ⟨rfl, hb⟩)
         try go_wp2_with fail
         refine hK.out _ _ (by (first | (exact Lst.drew HL.out) | (exact Lst.call hHeld hbb hbb hb))) (fun hHeld => ?_)
         clear hK K
         try simp only [Act.put, List.setIfInBounds_toArray, List.set_cons_zero, List.set_cons_succ])
    first
      | (refine wpAnyH_take (i := 5) (v := undef) (by simp only [List.getElem?_toArray, List.getElem?_cons_succ, List.getElem?_cons_zero]; rfl) (by kernel_rfl) (by kernel_rfl) (by kernel_rfl) (fun _ _ _ h => h) (Or.inr ⟨by rfl, rfl⟩) (by assumption) ?_; try simp only [Act.put, List.setIfInBounds_toArray, List.set_cons_zero, List.set_cons_succ])
      | (refine wpAnyH_take (i := 5) (v := ?_) (by simp only [List.getElem?_toArray, List.getElem?_cons_succ, List.getElem?_cons_zero]; rfl) (by kernel_rfl) (by kernel_rfl) (by kernel_rfl) (fun _ _ _ h => h) (Or.inl ⟨by rfl, ?_⟩) (by assumption) ?_
         rotate_left
         · (intro ww hSw; (try dsimp only at hSw); go_simp; (try with_reducible rfl))
         try simp only [Act.put, List.setIfInBounds_toArray, List.set_cons_zero, List.set_cons_succ])
      | (refine wpAnyH_ready (rs := [5]) (by kernel_rfl) (by simp) (AllReadyH.cons (by simp only [List.getElem?_toArray, List.getElem?_cons_succ, List.getElem?_cons_zero]; rfl) (fun K hK => ?_) AllReadyH.nil)
         go_simp
         first
           | (go_at_call 11; (with_reducible refine (CS.out _ hHeld.2.2.2.2.1 hHeld.2.2.2.2.2 (H1.out.below hHeld.1.1 (Nat.le_refl _)) (H2.out.below hHeld.1.1 (Nat.le_refl _))).mono ?_); rintro e w9 ⟨rfl, hb⟩)
           | (go_at_call 9; (with_reducible refine (CM.out _ hHeld.2.2.2.2.1 hHeld.2.2.2.2.2).mono ?_); rintro e w9 ⟨rfl, hb⟩)
         try go_wp2_with fail
         refine hK.out _ _ (by (first | (exact Lst.drew HL.out) | (exact Lst.call hHeld hbb hbb hb))) (fun hHeld => ?_)
         clear hK K
         try simp only [Act.put, List.setIfInBounds_toArray, List.set_cons_zero, List.set_cons_succ])
    first
      | (refine wpAnyH_take (i := 6) (v := undef) (by simp only [List.getElem?_toArray, List.getElem?_cons_succ, List.getElem?_cons_zero]; rfl) (by kernel_rfl) (by kernel_rfl) (by kernel_rfl) (fun _ _ _ h => h) (Or.inr ⟨by rfl, rfl⟩) (by assumption) ?_; try simp only [Act.put, List.setIfInBounds_toArray, List.set_cons_zero, List.set_cons_succ])
      | (refine wpAnyH_take (i := 6) (v := ?_) (by simp only [List.getElem?_toArray, List.getElem?_cons_succ, List.getElem?_cons_zero]; rfl) (by kernel_rfl) (by kernel_rfl) (by kernel_rfl) (fun _ _ _ h => h) (Or.inl ⟨by rfl, ?_⟩) (by assumption) ?_
         rotate_left
         · (intro ww hSw; (try dsimp only at hSw); go_simp; (try with_reducible rfl))
         try simp only [Act.put, List.setIfInBounds_toArray, List.set_cons_zero, List.set_cons_succ])
      | (refine wpAnyH_ready (rs := [6]) (by kernel_rfl) (by simp) (AllReadyH.cons (by simp only [List.getElem?_toArray, List.getElem?_cons_succ, List.getElem?_cons_zero]; rfl) (fun K hK => ?_) AllReadyH.nil)
         go_simp
         first
           | (go_at_call 11; (with_reducible refine (CS.out _ hHeld.2.2.2.2.1 hHeld.2.2.2.2.2 (H1.out.below hHeld.1.1 (Nat.le_refl _)) (H2.out.below hHeld.1.1 (Nat.le_refl _))).mono ?_); rintro e w9 ⟨rfl, hb⟩)
           | (go_at_call 9; (with_reducible refine (CM.out _ hHeld.2.2.2.2.1 hHeld.2.2.2.2.2).mono ?_); rintro e w9 ⟨rfl, hb⟩)
         try go_wp2_with fail
         refine hK.out _ _ (by (first | (exact Lst.drew HL.out) | (exact Lst.call hHeld hbb hbb hb))) (fun hHeld => ?_)
         clear hK K
         try simp only [Act.put, List.setIfInBounds_toArray, List.set_cons_zero, List.set_cons_succ])
    first
      | (refine wpAnyH_take (i := 7) (v := undef) (by simp only [List.getElem?_toArray, List.getElem?_cons_succ, List.getElem?_cons_zero]; rfl) (by kernel_rfl) (by kernel_rfl) (by kernel_rfl) (fun _ _ _ h => h) (Or.inr ⟨by rfl, rfl⟩) (by assumption) ?_; try simp only [Act.put, List.setIfInBounds_toArray, List.set_cons_zero, List.set_cons_succ])
      | (refine wpAnyH_take (i := 7) (v := ?_) (by simp only [List.getElem?_toArray, List.getElem?_cons_succ, List.getElem?_cons_zero]; rfl) (by kernel_rfl) (by kernel_rfl) (by kernel_rfl) (fun _ _ _ h => h) (Or.inl ⟨by rfl, ?_⟩) (by assumption) ?_
         rotate_left
         · (intro ww hSw; (try dsimp only at hSw); go_simp; (try with_reducible rfl))
         try simp only [Act.put, List.setIfInBounds_toArray, List.set_cons_zero, List.set_cons_succ])
      | (refine wpAnyH_ready (rs := [7]) (by kernel_rfl) (by simp) (AllReadyH.cons (by simp only [List.getElem?_toArray, List.getElem?_cons_succ, List.getElem?_cons_zero]; rfl) (fun K hK => ?_) AllReadyH.nil)
         go_simp
         first
           | (go_at_call 11; (with_reducible refine (CS.out _ hHeld.2.2.2.2.1 hHeld.2.2.2.2.2 (H1.out.below hHeld.1.1 (Nat.le_refl _)) (H2.out.below hHeld.1.1 (Nat.le_refl _))).mono ?_); rintro e w9 ⟨rfl, hb⟩)
           | (go_at_call 9; (with_reducible refine (CM.out _ hHeld.2.2.2.2.1 hHeld.2.2.2.2.2).mono ?_); rintro e w9 ⟨rfl, hb⟩)
         try go_wp2_with fail
         refine hK.out _ _ (by (first | (exact Lst.drew HL.out) | (exact Lst.call hHeld hbb hbb hb))) (fun hHeld => ?_)
         clear hK K
         try simp only [Act.put, List.setIfInBounds_toArray, List.set_cons_zero, List.set_cons_succ])
    first
      | (refine wpAnyH_take (i := 8) (v := undef) (by simp only [List.getElem?_toArray, List.getElem?_cons_succ, List.getElem?_cons_zero]; rfl) (by kernel_rfl) (by kernel_rfl) (by kernel_rfl) (fun _ _ _ h => h) (Or.inr ⟨by rfl, rfl⟩) (by assumption) ?_; try simp only [Act.put, List.setIfInBounds_toArray, List.set_cons_zero, List.set_cons_succ])
      | (refine wpAnyH_take (i := 8) (v := ?_) (by simp only [List.getElem?_toArray, List.getElem?_cons_succ, List.getElem?_cons_zero]; rfl) (by kernel_rfl) (by kernel_rfl) (by kernel_rfl) (fun _ _ _ h => h) (Or.inl ⟨by rfl, ?_⟩) (by assumption) ?_
         rotate_left
         · (intro ww hSw; (try dsimp only at hSw); go_simp; (try with_reducible rfl))
         try simp only [Act.put, List.setIfInBounds_toArray, List.set_cons_zero, List.set_cons_succ])
      | (refine wpAnyH_ready (rs := [8]) (by kernel_rfl) (by simp) (AllReadyH.cons (by simp only [List.getElem?_toArray, List.getElem?_cons_succ, List.getElem?_cons_zero]; rfl) (fun K hK => ?_) AllReadyH.nil)
         go_simp
         first
           | (go_at_call 11; (with_reducible refine (CS.out _ hHeld.2.2.2.2.1 hHeld.2.2.2.2.2 (H1.out.below hHeld.1.1 (Nat.le_refl _)) (H2.out.below hHeld.1.1 (Nat.le_refl _))).mono ?_); rintro e w9 ⟨rfl, hb⟩)
           | (go_at_call 9; (with_reducible refine (CM.out _ hHeld.2.2.2.2.1 hHeld.2.2.2.2.2).mono ?_); rintro e w9 ⟨rfl, hb⟩)
         try go_wp2_with fail
         refine hK.out _ _ (by (first | (exact Lst.drew HL.out) | (exact Lst.call hHeld hbb hbb hb))) (fun hHeld => ?_)
         clear hK K
         try simp only [Act.put, List.setIfInBounds_toArray, List.set_cons_zero, List.set_cons_succ])
    first
      | (refine wpAnyH_take (i := 9) (v := undef) (by simp only [List.getElem?_toArray, List.getElem?_cons_succ, List.getElem?_cons_zero]; rfl) (by kernel_rfl) (by kernel_rfl) (by kernel_rfl) (fun _ _ _ h => h) (Or.inr ⟨by rfl, rfl⟩) (by assumption) ?_; try simp only [Act.put, List.setIfInBounds_toArray, List.set_cons_zero, List.set_cons_succ])
      | (refine wpAnyH_take (i := 9) (v := ?_) (by simp only [List.getElem?_toArray, List.getElem?_cons_succ, List.getElem?_cons_zero]; rfl) (by kernel_rfl) (by kernel_rfl) (by kernel_rfl) (fun _ _ _ h => h) (Or.inl ⟨by rfl, ?_⟩) (by assumption) ?_
         rotate_left
         · (intro ww hSw; (try dsimp only at hSw); go_simp; (try with_reducible rfl))
         try simp only [Act.put, List.setIfInBounds_toArray, List.set_cons_zero, List.set_cons_succ])
      | (refine wpAnyH_ready (rs := [9]) (by kernel_rfl) (by simp) (AllReadyH.cons (by simp only [List.getElem?_toArray, List.getElem?_cons_succ, List.getElem?_cons_zero]; rfl) (fun K hK => ?_) AllReadyH.nil)
         go_simp
         first
           | (go_at_call 11; (with_reducible refine (CS.out _ hHeld.2.2.2.2.1 hHeld.2.2.2.2.2 (H1.out.below hHeld.1.1 (Nat.le_refl _)) (H2.out.below hHeld.1.1 (Nat.le_refl _))).mono ?_); rintro e w9 ⟨rfl, hb⟩)
           | (go_at_call 9; (with_reducible refine (CM.out _ hHeld.2.2.2.2.1 hHeld.2.2.2.2.2).mono ?_); rintro e w9 ⟨rfl, hb⟩)
         try go_wp2_with fail
         refine hK.out _ _ (by (first | (exact Lst.drew HL.out) | (exact Lst.call hHeld hbb hbb hb))) (fun hHeld => ?_)
         clear hK K
         try simp only [Act.put, List.setIfInBounds_toArray, List.set_cons_zero, List.set_cons_succ])
    first
      | (refine wpAnyH_take (i := 10) (v := undef) (by simp only [List.getElem?_toArray, List.getElem?_cons_succ, List.getElem?_cons_zero]; rfl) (by kernel_rfl) (by kernel_rfl) (by kernel_rfl) (fun _ _ _ h => h) (Or.inr ⟨by rfl, rfl⟩) (by assumption) ?_; try simp only [Act.put, List.setIfInBounds_toArray, List.set_cons_zero, List.set_cons_succ])
      | (refine wpAnyH_take (i := 10) (v := ?_) (by simp only [List.getElem?_toArray, List.getElem?_cons_succ, List.getElem?_cons_zero]; rfl) (by kernel_rfl) (by kernel_rfl) (by kernel_rfl) (fun _ _ _ h => h) (Or.inl ⟨by rfl, ?_⟩) (by assumption) ?_
         rotate_left
         · (intro ww hSw; (try dsimp only at hSw); go_simp; (try with_reducible rfl))
         try simp only [Act.put, List.setIfInBounds_toArray, List.set_cons_zero, List.set_cons_succ])
      | (refine wpAnyH_ready (rs := [10]) (by kernel_rfl) (by simp) (AllReadyH.cons (by simp only [List.getElem?_toArray, List.getElem?_cons_succ, List.getElem?_cons_zero]; rfl) (fun K hK => ?_) AllReadyH.nil)
         go_simp
         first
           | (go_at_call 11; (with_reducible refine (CS.out _ hHeld.2.2.2.2.1 hHeld.2.2.2.2.2 (H1.out.below hHeld.1.1 (Nat.le_refl _)) (H2.out.below hHeld.1.1 (Nat.le_refl _))).mono ?_); rintro e w9 ⟨rfl, hb⟩)
           | (go_at_call 9; (with_reducible refine (CM.out _ hHeld.2.2.2.2.1 hHeld.2.2.2.2.2).mono ?_); rintro e w9 ⟨rfl, hb⟩)
         try go_wp2_with fail
         refine hK.out _ _ (by (first | (exact Lst.drew HL.out) | (exact Lst.call hHeld hbb hbb hb))) (fun hHeld => ?_)
         clear hK K
         try simp only [Act.put, List.setIfInBounds_toArray, List.set_cons_zero, List.set_cons_succ])
    first
      | (refine wpAnyH_take (i := 11) (v := undef) (by simp only [List.getElem?_toArray, List.getElem?_cons_succ, List.getElem?_cons_zero]; rfl) (by kernel_rfl) (by kernel_rfl) (by kernel_rfl) (fun _ _ _ h => h) (Or.inr ⟨by rfl, rfl⟩) (by assumption) ?_; try simp only [Act.put, List.setIfInBounds_toArray, List.set_cons_zero, List.set_cons_succ])
      | (refine wpAnyH_take (i := 11) (v := ?_) (by simp only [List.getElem?_toArray, List.getElem?_cons_succ, List.getElem?_cons_zero]; rfl) (by kernel_rfl) (by kernel_rfl) (by kernel_rfl) (fun _ _ _ h => h) (Or.inl ⟨by rfl, ?_⟩) (by assumption) ?_
         rotate_left
         · (intro ww hSw; (try dsimp only at hSw); go_simp; (try with_reducible rfl))
         try simp only [Act.put, List.setIfInBounds_toArray, List.set_cons_zero, List.set_cons_succ])
      | (refine wpAnyH_ready (rs := [11]) (by kernel_rfl) (by simp) (AllReadyH.cons (by simp only [List.getElem?_toArray, List.getElem?_cons_succ, List.getElem?_cons_zero]; rfl) (fun K hK => ?_) AllReadyH.nil)
         go_simp
         first
           | (go_at_call 11; (with_reducible refine (CS.out _ hHeld.2.2.2.2.1 hHeld.2.2.2.2.2 (H1.out.below hHeld.1.1 (Nat.le_refl _)) (H2.out.below hHeld.1.1 (Nat.le_refl _))).mono ?_); rintro e w9 ⟨rfl, hb⟩)
           | (go_at_call 9; (with_reducible refine (CM.out _ hHeld.2.2.2.2.1 hHeld.2.2.2.2.2).mono ?_); rintro e w9 ⟨rfl, hb⟩)
         try go_wp2_with fail
         refine hK.out _ _ (by (first | (exact Lst.drew HL.out) | (exact Lst.call hHeld hbb hbb hb))) (fun hHeld => ?_)
         clear hK K
         try simp only [Act.put, List.setIfInBounds_toArray, List.set_cons_zero, List.set_cons_succ])
    first
      | (refine wpAnyH_take (i := 12) (v := undef) (by simp only [List.getElem?_toArray, List.getElem?_cons_succ, List.getElem?_cons_zero]; rfl) (by kernel_rfl) (by kernel_rfl) (by kernel_rfl) (fun _ _ _ h => h) (Or.inr ⟨by rfl, rfl⟩) (by assumption) ?_; try simp only [Act.put, List.setIfInBounds_toArray, List.set_cons_zero, List.set_cons_succ])
      | (refine wpAnyH_take (i := 12) (v := ?_) (by simp only [List.getElem?_toArray, List.getElem?_cons_succ, List.getElem?_cons_zero]; rfl) (by kernel_rfl) (by kernel_rfl) (by kernel_rfl) (fun _ _ _ h => h) (Or.inl ⟨by rfl, ?_⟩) (by assumption) ?_
         rotate_left
         · (intro ww hSw; (try dsimp only at hSw); go_simp; (try with_reducible rfl))
         try simp only [Act.put, List.setIfInBounds_toArray, List.set_cons_zero, List.set_cons_succ])
      | (refine wpAnyH_ready (rs := [12]) (by kernel_rfl) (by simp) (AllReadyH.cons (by simp only [List.getElem?_toArray, List.getElem?_cons_succ, List.getElem?_cons_zero]; rfl) (fun K hK => ?_) AllReadyH.nil)
         go_simp
         first
           | (go_at_call 11; (with_reducible refine (CS.out _ hHeld.2.2.2.2.1 hHeld.2.2.2.2.2 (H1.out.below hHeld.1.1 (Nat.le_refl _)) (H2.out.below hHeld.1.1 (Nat.le_refl _))).mono ?_); rintro e w9 ⟨rfl, hb⟩)
           | (go_at_call 9; (with_reducible refine (CM.out _ hHeld.2.2.2.2.1 hHeld.2.2.2.2.2).mono ?_); rintro e w9 ⟨rfl, hb⟩)
         try go_wp2_with fail
         refine hK.out _ _ (by (first | (exact Lst.drew HL.out) | (exact Lst.call hHeld hbb hbb hb))) (fun hHeld => ?_)
         clear hK K
         try simp only [Act.put, List.setIfInBounds_toArray, List.set_cons_zero, List.set_cons_succ])
    first
      | (refine wpAnyH_take (i := 13) (v := undef) (by simp only [List.getElem?_toArray, List.getElem?_cons_succ, List.getElem?_cons_zero]; rfl) (by kernel_rfl) (by kernel_rfl) (by kernel_rfl) (fun _ _ _ h => h) (Or.inr ⟨by rfl, rfl⟩) (by assumption) ?_; try simp only [Act.put, List.setIfInBounds_toArray, List.set_cons_zero, List.set_cons_succ])
      | (refine wpAnyH_take (i := 13) (v := ?_) (by simp only [List.getElem?_toArray, List.getElem?_cons_succ, List.getElem?_cons_zero]; rfl) (by kernel_rfl) (by kernel_rfl) (by kernel_rfl) (fun _ _ _ h => h) (Or.inl ⟨by rfl, ?_⟩) (by assumption) ?_
         rotate_left
         · (intro ww hSw; (try dsimp only at hSw); go_simp; (try with_reducible rfl))
         try simp only [Act.put, List.setIfInBounds_toArray, List.set_cons_zero, List.set_cons_succ])
      | (refine wpAnyH_ready (rs := [13]) (by kernel_rfl) (by simp) (AllReadyH.cons (by simp only [List.getElem?_toArray, List.getElem?_cons_succ, List.getElem?_cons_zero]; rfl) (fun K hK => ?_) AllReadyH.nil)
         go_simp
         first
           | (go_at_call 11; (with_reducible refine (CS.out _ hHeld.2.2.2.2.1 hHeld.2.2.2.2.2 (H1.out.below hHeld.1.1 (Nat.le_refl _)) (H2.out.below hHeld.1.1 (Nat.le_refl _))).mono ?_); rintro e w9 ⟨rfl, hb⟩)
           | (go_at_call 9; (with_reducible refine (CM.out _ hHeld.2.2.2.2.1 hHeld.2.2.2.2.2).mono ?_); rintro e w9 ⟨rfl, hb⟩)
         try go_wp2_with fail
         refine hK.out _ _ (by (first | (exact Lst.drew HL.out) | (exact Lst.call hHeld hbb hbb hb))) (fun hHeld => ?_)
         clear hK K
         try simp only [Act.put, List.setIfInBounds_toArray, List.set_cons_zero, List.set_cons_succ])
    first
      | (refine wpAnyH_take (i := 14) (v := undef) (by simp only [List.getElem?_toArray, List.getElem?_cons_succ, List.getElem?_cons_zero]; rfl) (by kernel_rfl) (by kernel_rfl) (by kernel_rfl) (fun _ _ _ h => h) (Or.inr ⟨by rfl, rfl⟩) (by assumption) ?_; try simp only [Act.put, List.setIfInBounds_toArray, List.set_cons_zero, List.set_cons_succ])
      | (refine wpAnyH_take (i := 14) (v := ?_) (by simp only [List.getElem?_toArray, List.getElem?_cons_succ, List.getElem?_cons_zero]; rfl) (by kernel_rfl) (by kernel_rfl) (by kernel_rfl) (fun _ _ _ h => h) (Or.inl ⟨by rfl, ?_⟩) (by assumption) ?_
         rotate_left
         · (intro ww hSw; (try dsimp only at hSw); go_simp; (try with_reducible rfl))
         try simp only [Act.put, List.setIfInBounds_toArray, List.set_cons_zero, List.set_cons_succ])
      | (refine wpAnyH_ready (rs := [14]) (by kernel_rfl) (by simp) (AllReadyH.cons (by simp only [List.getElem?_toArray, List.getElem?_cons_succ, List.getElem?_cons_zero]; rfl) (fun K hK => ?_) AllReadyH.nil)
         go_simp
         first
           | (go_at_call 11; (with_reducible refine (CS.out _ hHeld.2.2.2.2.1 hHeld.2.2.2.2.2 (H1.out.below hHeld.1.1 (Nat.le_refl _)) (H2.out.below hHeld.1.1 (Nat.le_refl _))).mono ?_); rintro e w9 ⟨rfl, hb⟩)
           | (go_at_call 9; (with_reducible refine (CM.out _ hHeld.2.2.2.2.1 hHeld.2.2.2.2.2).mono ?_); rintro e w9 ⟨rfl, hb⟩)
         try go_wp2_with fail
         refine hK.out _ _ (by (first | (exact Lst.drew HL.out) | (exact Lst.call hHeld hbb hbb hb))) (fun hHeld => ?_)
         clear hK K
         try simp only [Act.put, List.setIfInBounds_toArray, List.set_cons_zero, List.set_cons_succ])
    first
      | (refine wpAnyH_take (i := 2) (v := undef) (by simp only [List.getElem?_toArray, List.getElem?_cons_succ, List.getElem?_cons_zero]; rfl) (by kernel_rfl) (by kernel_rfl) (by kernel_rfl) (fun _ _ _ h => h) (Or.inr ⟨by rfl, rfl⟩) (by assumption) ?_; try simp only [Act.put, List.setIfInBounds_toArray, List.set_cons_zero, List.set_cons_succ])
      | (refine wpAnyH_take (i := 2) (v := ?_) (by simp only [List.getElem?_toArray, List.getElem?_cons_succ, List.getElem?_cons_zero]; rfl) (by kernel_rfl) (by kernel_rfl) (by kernel_rfl) (fun _ _ _ h => h) (Or.inl ⟨by rfl, ?_⟩) (by assumption) ?_
         rotate_left
         · (intro ww hSw; (try dsimp only at hSw); go_simp; (try with_reducible rfl))
         try simp only [Act.put, List.setIfInBounds_toArray, List.set_cons_zero, List.set_cons_succ])
      | (refine wpAnyH_ready (rs := [2]) (by kernel_rfl) (by simp) (AllReadyH.cons (by simp only [List.getElem?_toArray, List.getElem?_cons_succ, List.getElem?_cons_zero]; rfl) (fun K hK => ?_) AllReadyH.nil)
         go_simp
         first
           | (go_at_call 11; (with_reducible refine (CS.out _ hHeld.2.2.2.2.1 hHeld.2.2.2.2.2 (H1.out.below hHeld.1.1 (Nat.le_refl _)) (H2.out.below hHeld.1.1 (Nat.le_refl _))).mono ?_); rintro e w9 ⟨rfl, hb⟩)
           | (go_at_call 9; (with_reducible refine (CM.out _ hHeld.2.2.2.2.1 hHeld.2.2.2.2.2).mono ?_); rintro e w9 ⟨rfl, hb⟩)
         try go_wp2_with fail
         refine hK.out _ _ (by (first | (exact Lst.drew HL.out) | (exact Lst.call hHeld hbb hbb hb))) (fun hHeld => ?_)
         clear hK K
         try simp only [Act.put, List.setIfInBounds_toArray, List.set_cons_zero, List.set_cons_succ])
    first
      | (refine wpAnyH_take (i := 15) (v := undef) (by simp only [List.getElem?_toArray, List.getElem?_cons_succ, List.getElem?_cons_zero]; rfl) (by kernel_rfl) (by kernel_rfl) (by kernel_rfl) (fun _ _ _ h => h) (Or.inr ⟨by rfl, rfl⟩) (by assumption) ?_; try simp only [Act.put, List.setIfInBounds_toArray, List.set_cons_zero, List.set_cons_succ])
      | (refine wpAnyH_take (i := 15) (v := ?_) (by simp only [List.getElem?_toArray, List.getElem?_cons_succ, List.getElem?_cons_zero]; rfl) (by kernel_rfl) (by kernel_rfl) (by kernel_rfl) (fun _ _ _ h => h) (Or.inl ⟨by rfl, ?_⟩) (by assumption) ?_
         rotate_left
         · (intro ww hSw; (try dsimp only at hSw); go_simp; (try with_reducible rfl))
         try simp only [Act.put, List.setIfInBounds_toArray, List.set_cons_zero, List.set_cons_succ])
      | (refine wpAnyH_ready (rs := [15]) (by kernel_rfl) (by simp) (AllReadyH.cons (by simp only [List.getElem?_toArray, List.getElem?_cons_succ, List.getElem?_cons_zero]; rfl) (fun K hK => ?_) AllReadyH.nil)
         go_simp
         first
           | (go_at_call 11; (with_reducible refine (CS.out _ hHeld.2.2.2.2.1 hHeld.2.2.2.2.2 (H1.out.below hHeld.1.1 (Nat.le_refl _)) (H2.out.below hHeld.1.1 (Nat.le_refl _))).mono ?_); rintro e w9 ⟨rfl, hb⟩)
           | (go_at_call 9; (with_reducible refine (CM.out _ hHeld.2.2.2.2.1 hHeld.2.2.2.2.2).mono ?_); rintro e w9 ⟨rfl, hb⟩)
         try go_wp2_with fail
         refine hK.out _ _ (by (first | (exact Lst.drew HL.out) | (exact Lst.call hHeld hbb hbb hb))) (fun hHeld => ?_)
         clear hK K
         try simp only [Act.put, List.setIfInBounds_toArray, List.set_cons_zero, List.set_cons_succ])
    first
      | (refine wpAnyH_take (i := 16) (v := undef) (by simp only [List.getElem?_toArray, List.getElem?_cons_succ, List.getElem?_cons_zero]; rfl) (by kernel_rfl) (by kernel_rfl) (by kernel_rfl) (fun _ _ _ h => h) (Or.inr ⟨by rfl, rfl⟩) (by assumption) ?_; try simp only [Act.put, List.setIfInBounds_toArray, List.set_cons_zero, List.set_cons_succ])
      | (refine wpAnyH_take (i := 16) (v := ?_) (by simp only [List.getElem?_toArray, List.getElem?_cons_succ, List.getElem?_cons_zero]; rfl) (by kernel_rfl) (by kernel_rfl) (by kernel_rfl) (fun _ _ _ h => h) (Or.inl ⟨by rfl, ?_⟩) (by assumption) ?_
         rotate_left
         · (intro ww hSw; (try dsimp only at hSw); go_simp; (try with_reducible rfl))
         try simp only [Act.put, List.setIfInBounds_toArray, List.set_cons_zero, List.set_cons_succ])
      | (refine wpAnyH_ready (rs := [16]) (by kernel_rfl) (by simp) (AllReadyH.cons (by simp only [List.getElem?_toArray, List.getElem?_cons_succ, List.getElem?_cons_zero]; rfl) (fun K hK => ?_) AllReadyH.nil)
         go_simp
         first
           | (go_at_call 11; (with_reducible refine (CS.out _ hHeld.2.2.2.2.1 hHeld.2.2.2.2.2 (H1.out.below hHeld.1.1 (Nat.le_refl _)) (H2.out.below hHeld.1.1 (Nat.le_refl _))).mono ?_); rintro e w9 ⟨rfl, hb⟩)
           | (go_at_call 9; (with_reducible refine (CM.out _ hHeld.2.2.2.2.1 hHeld.2.2.2.2.2).mono ?_); rintro e w9 ⟨rfl, hb⟩)
         try go_wp2_with fail
         refine hK.out _ _ (by (first | (exact Lst.drew HL.out) | (exact Lst.call hHeld hbb hbb hb))) (fun hHeld => ?_)
         clear hK K
         try simp only [Act.put, List.setIfInBounds_toArray, List.set_cons_zero, List.set_cons_succ])
    first
      | (refine wpAnyH_take (i := 17) (v := undef) (by simp only [List.getElem?_toArray, List.getElem?_cons_succ, List.getElem?_cons_zero]; rfl) (by kernel_rfl) (by kernel_rfl) (by kernel_rfl) (fun _ _ _ h => h) (Or.inr ⟨by rfl, rfl⟩) (by assumption) ?_; try simp only [Act.put, List.setIfInBounds_toArray, List.set_cons_zero, List.set_cons_succ])
      | (refine wpAnyH_take (i := 17) (v := ?_) (by simp only [List.getElem?_toArray, List.getElem?_cons_succ, List.getElem?_cons_zero]; rfl) (by kernel_rfl) (by kernel_rfl) (by kernel_rfl) (fun _ _ _ h => h) (Or.inl ⟨by rfl, ?_⟩) (by assumption) ?_
         rotate_left
         · (intro ww hSw; (try dsimp only at hSw); go_simp; (try with_reducible rfl))
         try simp only [Act.put, List.setIfInBounds_toArray, List.set_cons_zero, List.set_cons_succ])
      | (refine wpAnyH_ready (rs := [17]) (by kernel_rfl) (by simp) (AllReadyH.cons (by simp only [List.getElem?_toArray, List.getElem?_cons_succ, List.getElem?_cons_zero]; rfl) (fun K hK => ?_) AllReadyH.nil)
         go_simp
         first
           | (go_at_call 11; (with_reducible refine (CS.out _ hHeld.2.2.2.2.1 hHeld.2.2.2.2.2 (H1.out.below hHeld.1.1 (Nat.le_refl _)) (H2.out.below hHeld.1.1 (Nat.le_refl _))).mono ?_); rintro e w9 ⟨rfl, hb⟩)
           | (go_at_call 9; (with_reducible refine (CM.out _ hHeld.2.2.2.2.1 hHeld.2.2.2.2.2).mono ?_); rintro e w9 ⟨rfl, hb⟩)
         try go_wp2_with fail
         refine hK.out _ _ (by (first | (exact Lst.drew HL.out) | (exact Lst.call hHeld hbb hbb hb))) (fun hHeld => ?_)
         clear hK K
         try simp only [Act.put, List.setIfInBounds_toArray, List.set_cons_zero, List.set_cons_succ])
    first
      | (refine wpAnyH_take (i := 18) (v := undef) (by simp only [List.getElem?_toArray, List.getElem?_cons_succ, List.getElem?_cons_zero]; rfl) (by kernel_rfl) (by kernel_rfl) (by kernel_rfl) (fun _ _ _ h => h) (Or.inr ⟨by rfl, rfl⟩) (by assumption) ?_; try simp only [Act.put, List.setIfInBounds_toArray, List.set_cons_zero, List.set_cons_succ])
      | (refine wpAnyH_take (i := 18) (v := ?_) (by simp only [List.getElem?_toArray, List.getElem?_cons_succ, List.getElem?_cons_zero]; rfl) (by kernel_rfl) (by kernel_rfl) (by kernel_rfl) (fun _ _ _ h => h) (Or.inl ⟨by rfl, ?_⟩) (by assumption) ?_
         rotate_left
         · (intro ww hSw; (try dsimp only at hSw); go_simp; (try with_reducible rfl))
         try simp only [Act.put, List.setIfInBounds_toArray, List.set_cons_zero, List.set_cons_succ])
      | (refine wpAnyH_ready (rs := [18]) (by kernel_rfl) (by simp) (AllReadyH.cons (by simp only [List.getElem?_toArray, List.getElem?_cons_succ, List.getElem?_cons_zero]; rfl) (fun K hK => ?_) AllReadyH.nil)
         go_simp
         first
           | (go_at_call 11; (with_reducible refine (CS.out _ hHeld.2.2.2.2.1 hHeld.2.2.2.2.2 (H1.out.below hHeld.1.1 (Nat.le_refl _)) (H2.out.below hHeld.1.1 (Nat.le_refl _))).mono ?_); rintro e w9 ⟨rfl, hb⟩)
           | (go_at_call 9; (with_reducible refine (CM.out _ hHeld.2.2.2.2.1 hHeld.2.2.2.2.2).mono ?_); rintro e w9 ⟨rfl, hb⟩)
         try go_wp2_with fail
         refine hK.out _ _ (by (first | (exact Lst.drew HL.out) | (exact Lst.call hHeld hbb hbb hb))) (fun hHeld => ?_)
         clear hK K
         try simp only [Act.put, List.setIfInBounds_toArray, List.set_cons_zero, List.set_cons_succ])
    first
      | (refine wpAnyH_take (i := 19) (v := undef) (by simp only [List.getElem?_toArray, List.getElem?_cons_succ, List.getElem?_cons_zero]; rfl) (by kernel_rfl) (by kernel_rfl) (by kernel_rfl) (fun _ _ _ h => h) (Or.inr ⟨by rfl, rfl⟩) (by assumption) ?_; try simp only [Act.put, List.setIfInBounds_toArray, List.set_cons_zero, List.set_cons_succ])
      | (refine wpAnyH_take (i := 19) (v := ?_) (by simp only [List.getElem?_toArray, List.getElem?_cons_succ, List.getElem?_cons_zero]; rfl) (by kernel_rfl) (by kernel_rfl) (by kernel_rfl) (fun _ _ _ h => h) (Or.inl ⟨by rfl, ?_⟩) (by assumption) ?_
         rotate_left
         · (intro ww hSw; (try dsimp only at hSw); go_simp; (try with_reducible rfl))
         try simp only [Act.put, List.setIfInBounds_toArray, List.set_cons_zero, List.set_cons_succ])
      | (refine wpAnyH_ready (rs := [19]) (by kernel_rfl) (by simp) (AllReadyH.cons (by simp only [List.getElem?_toArray, List.getElem?_cons_succ, List.getElem?_cons_zero]; rfl) (fun K hK => ?_) AllReadyH.nil)
         go_simp
         first
           | (go_at_call 11; (with_reducible refine (CS.out _ hHeld.2.2.2.2.1 hHeld.2.2.2.2.2 (H1.out.below hHeld.1.1 (Nat.le_refl _)) (H2.out.below hHeld.1.1 (Nat.le_refl _))).mono ?_); rintro e w9 ⟨rfl, hb⟩)
           | (go_at_call 9; (with_reducible refine (CM.out _ hHeld.2.2.2.2.1 hHeld.2.2.2.2.2).mono ?_); rintro e w9 ⟨rfl, hb⟩)
         try go_wp2_with fail
         refine hK.out _ _ (by (first | (exact Lst.drew HL.out) | (exact Lst.call hHeld hbb hbb hb))) (fun hHeld => ?_)
         clear hK K
         try simp only [Act.put, List.setIfInBounds_toArray, List.set_cons_zero, List.set_cons_succ])
    first
      | (refine wpAnyH_take (i := 20) (v := undef) (by simp only [List.getElem?_toArray, List.getElem?_cons_succ, List.getElem?_cons_zero]; rfl) (by kernel_rfl) (by kernel_rfl) (by kernel_rfl) (fun _ _ _ h => h) (Or.inr ⟨by rfl, rfl⟩) (by assumption) ?_; try simp only [Act.put, List.setIfInBounds_toArray, List.set_cons_zero, List.set_cons_succ])
      | (refine wpAnyH_take (i := 20) (v := ?_) (by simp only [List.getElem?_toArray, List.getElem?_cons_succ, List.getElem?_cons_zero]; rfl) (by kernel_rfl) (by kernel_rfl) (by kernel_rfl) (fun _ _ _ h => h) (Or.inl ⟨by rfl, ?_⟩) (by assumption) ?_
         rotate_left
         · (intro ww hSw; (try dsimp only at hSw); go_simp; (try with_reducible rfl))
         try simp only [Act.put, List.setIfInBounds_toArray, List.set_cons_zero, List.set_cons_succ])
      | (refine wpAnyH_ready (rs := [20]) (by kernel_rfl) (by simp) (AllReadyH.cons (by simp only [List.getElem?_toArray, List.getElem?_cons_succ, List.getElem?_cons_zero]; rfl) (fun K hK => ?_) AllReadyH.nil)
         go_simp
         first
           | (go_at_call 11; (with_reducible refine (CS.out _ hHeld.2.2.2.2.1 hHeld.2.2.2.2.2 (H1.out.below hHeld.1.1 (Nat.le_refl _)) (H2.out.below hHeld.1.1 (Nat.le_refl _))).mono ?_); rintro e w9 ⟨rfl, hb⟩)
           | (go_at_call 9; (with_reducible refine (CM.out _ hHeld.2.2.2.2.1 hHeld.2.2.2.2.2).mono ?_); rintro e w9 ⟨rfl, hb⟩)
         try go_wp2_with fail
         refine hK.out _ _ (by (first | (exact Lst.drew HL.out) | (exact Lst.call hHeld hbb hbb hb))) (fun hHeld => ?_)
         clear hK K
         try simp only [Act.put, List.setIfInBounds_toArray, List.set_cons_zero, List.set_cons_succ])
    refine wpAnyH_done (by kernel_rfl) ?_ _
    refine NoPanic.normal ?_
    have hBl := Lib.hid hHeld.1.1
    go_wp2_with fail
    go_ret
    exact ⟨rfl, hBl.out⟩
end Go.Proofs.YtdioigidilmbkaaDoor
