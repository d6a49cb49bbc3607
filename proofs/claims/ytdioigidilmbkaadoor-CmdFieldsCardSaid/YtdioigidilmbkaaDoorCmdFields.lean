/- CmdFields: for every command that may be, and every number: the statement answers true. No condition but that the program's two tables lie as its text lays them (tied). -/
import Derived.Test.YtdioigidilmbkaaDoorRows
import Derived.Test.YtdioigidilmbkaaDoorKit
import Derived.Test.YtdioigidilmbkaaDoorStrs
import Derived.Test.YtdioigidilmbkaaDoorStrTab
import Derived.Test.YtdioigidilmbkaaDoorCmdMath
import Derived.Test.YtdioigidilmbkaaDoorCmdFieldMath
import Derived.Test.YtdioigidilmbkaaDoorCmdA
import Derived.Test.YtdioigidilmbkaaDoorNameMath
import Derived.Test.YtdioigidilmbkaaDoorCmdNames1
import Derived.Test.YtdioigidilmbkaaDoorCmdSame
import Derived.Test.YtdioigidilmbkaaDoorCmdMay
import Derived.Test.YtdioigidilmbkaaDoorCmdRefSame
import Derived.Test.YtdioigidilmbkaaDoorCmdRefMay
import Derived.Test.YtdioigidilmbkaaDoorCmdAwake
import Derived.Test.YtdioigidilmbkaaDoorCmdLaw
import Derived.Test.YtdioigidilmbkaaDoorHolds
import Derived.Deep.RegionHeld3
import Derived.Deep.DeepCutAuto
import Derived.WalkKit
import Derived.ProofKit
import Derived.OpenShut
import Derived.IntWalk
namespace Go.Proofs.YtdioigidilmbkaaDoor
open Go.ChangeShapes Go.WideShapes Go.ChangeAt Go.RowKit
set_option linter.unusedVariables false
open Go.RowKit
/-- Four blocks of the call's own, as they were laid. -/
def Four (w : World) (p q r t : Nat) (A L B I : Array Value) (w' : World) : Prop := Holds w p A w' ∧ Holds w q L w' ∧ Holds w r B w' ∧ Holds w t I w'
theorem Four.drew {w w' : World} {p q r t : Nat} {A L B I : Array Value} (h : Four w p q r t A L B I w') : Four w p q r t A L B I w'.drew := ⟨h.1.drew, h.2.1.drew, h.2.2.1.drew, h.2.2.2.drew⟩
theorem Four.call {w w' w1 : World} {p q r t : Nat} {A L B I : Array Value} (h : Four w p q r t A L B I w') (hb : Below w'.heap.size w' w1) : Four w p q r t A L B I w1 := ⟨h.1.call hb, h.2.1.call hb, h.2.2.1.call hb, h.2.2.2.call hb⟩
set_option maxRecDepth 100000 in
set_option maxHeartbeats 4000000 in
theorem fields_go (k d i b h p f : Int) (gs ws : List Int) (ga wa : Option Addr) (gn wn : Nat) (n : Nat) (w : World) (h1 : IntsAt w ga gs) (h2 : IntsAt w wa ws) (hn : n ≤ 4294967295) (hk : KTab w) (hw : WTab w) (f1 : fewB ⟨k, d, i, b, h, gs, p, ws, f⟩ = true) (f2 : refMayB ⟨k, d, i, b, h, gs, p, ws, f⟩ = true) :
    Calls Tryd.prog 5 #[.agg #[.int .i64 k, .int .i64 d, .int .i64 i, .int .i64 b, .int .i64 h, .slice ga gs.length gn, .int .i64 p, .slice wa ws.length wn, .int .i64 f], .int .u32 n] w fun e w' => e = .returned (.bool true) ∧ Below w.heap.size w w' := by
  have H1 := Lib.hid h1
  have H2 := Lib.hid h2
  have HK := Lib.hid hk
  have HW := Lib.hid hw
  have HF := Lib.hid f1
  have HM := Lib.hid f2
  have M0 := Lib.hid (fun (W : World) (u1 : IntsAt W ga gs) (u2 : IntsAt W wa ws) => may_any ⟨k, d, ((n : Int) % 1073741824), b, h, gs, p, ws, f⟩ ga wa gn wn W u1 u2)
  have S0 := Lib.hid (fun (W : World) (u1 : IntsAt W ga gs) (u2 : IntsAt W wa ws) => same_any ⟨k, d, ((n : Int) % 1073741824), b, h, gs, p, ws, f⟩ ⟨k, d, i, b, h, gs, p, ws, f⟩ ga wa ga wa gn wn gn wn W u1 u2 u1 u2)
  have E0 := Lib.hid (may_f0 (V := ((n : Int) % 1073741824)) f2 (by omega) (by omega))
  have T0 := Lib.hid (same_f0 (k := k) (d := d) (i := i) (b := b) (h := h) (p := p) (f := f) (gs := gs) (ws := ws) (V := ((n : Int) % 1073741824)))
  have M1 := Lib.hid (fun (W : World) (u1 : IntsAt W ga gs) (u2 : IntsAt W wa ws) => may_any ⟨k, d, i, ((n : Int) % 1073741824), h, gs, p, ws, f⟩ ga wa gn wn W u1 u2)
  have S1 := Lib.hid (fun (W : World) (u1 : IntsAt W ga gs) (u2 : IntsAt W wa ws) => same_any ⟨k, d, i, ((n : Int) % 1073741824), h, gs, p, ws, f⟩ ⟨k, d, i, b, h, gs, p, ws, f⟩ ga wa ga wa gn wn gn wn W u1 u2 u1 u2)
  have E1 := Lib.hid (may_f1 (V := ((n : Int) % 1073741824)) f2 (by omega) (by omega))
  have T1 := Lib.hid (same_f1 (k := k) (d := d) (i := i) (b := b) (h := h) (p := p) (f := f) (gs := gs) (ws := ws) (V := ((n : Int) % 1073741824)))
  have M2 := Lib.hid (fun (W : World) (u1 : IntsAt W ga gs) (u2 : IntsAt W wa ws) => may_any ⟨k, d, i, b, ((n : Int) % 1073741824), gs, p, ws, f⟩ ga wa gn wn W u1 u2)
  have S2 := Lib.hid (fun (W : World) (u1 : IntsAt W ga gs) (u2 : IntsAt W wa ws) => same_any ⟨k, d, i, b, ((n : Int) % 1073741824), gs, p, ws, f⟩ ⟨k, d, i, b, h, gs, p, ws, f⟩ ga wa ga wa gn wn gn wn W u1 u2 u1 u2)
  have E2 := Lib.hid (may_f2 (V := ((n : Int) % 1073741824)) f2 (by omega) (by omega))
  have T2 := Lib.hid (same_f2 (k := k) (d := d) (i := i) (b := b) (h := h) (p := p) (f := f) (gs := gs) (ws := ws) (V := ((n : Int) % 1073741824)))
  have M3 := Lib.hid (fun (W : World) (u1 : IntsAt W ga gs) (u2 : IntsAt W wa ws) => may_any ⟨k, d, i, b, h, gs, ((n : Int) % 1073741824), ws, f⟩ ga wa gn wn W u1 u2)
  have S3 := Lib.hid (fun (W : World) (u1 : IntsAt W ga gs) (u2 : IntsAt W wa ws) => same_any ⟨k, d, i, b, h, gs, ((n : Int) % 1073741824), ws, f⟩ ⟨k, d, i, b, h, gs, p, ws, f⟩ ga wa ga wa gn wn gn wn W u1 u2 u1 u2)
  have E3 := Lib.hid (may_f3 (V := ((n : Int) % 1073741824)) f2 (by omega) (by omega))
  have T3 := Lib.hid (same_f3 (k := k) (d := d) (i := i) (b := b) (h := h) (p := p) (f := f) (gs := gs) (ws := ws) (V := ((n : Int) % 1073741824)))
  have M4 := Lib.hid (fun (W : World) (u1 : IntsAt W ga gs) (u2 : IntsAt W wa ws) => may_any ⟨k, d, i, b, h, gs, p, ws, ((n : Int) % 1073741824)⟩ ga wa gn wn W u1 u2)
  have S4 := Lib.hid (fun (W : World) (u1 : IntsAt W ga gs) (u2 : IntsAt W wa ws) => same_any ⟨k, d, i, b, h, gs, p, ws, ((n : Int) % 1073741824)⟩ ⟨k, d, i, b, h, gs, p, ws, f⟩ ga wa ga wa gn wn gn wn W u1 u2 u1 u2)
  have E4 := Lib.hid (may_f4 (V := ((n : Int) % 1073741824)) f2 (by omega) (by omega))
  have T4 := Lib.hid (same_f4 (k := k) (d := d) (i := i) (b := b) (h := h) (p := p) (f := f) (gs := gs) (ws := ws) (V := ((n : Int) % 1073741824)))
  clear h1 h2 hk hw f1 f2
  go_enter Tryd.func5, Tryd.ntmps5
  go_wp2_with fail
  have P0 := Lib.hid (Holds.new w #[.int .i64 k, .int .i64 d, .int .i64 i, .int .i64 b, .int .i64 h, .slice ga gs.length gn, .int .i64 p, .slice wa ws.length wn, .int .i64 f] 24)
  refine (awake_any _ (HK.out.below P0.out.1) (HW.out.below P0.out.1)).mono ?_
  rintro e w1 ⟨rfl, b1⟩
  have P1 := Lib.hid (P0.out.call b1)
  have hA := P1.out.2.2
  clear b1
  go_wp2_with fail
  refine (few_any ⟨k, d, i, b, h, gs, p, ws, f⟩ ga wa gn wn _ (H1.out.below P1.out.1 (Nat.le_refl _)) (H2.out.below P1.out.1 (Nat.le_refl _))).mono ?_
  rintro e w2 ⟨rfl, b2⟩
  rw [HF.out]
  have P2 := Lib.hid (P1.out.call b2)
  clear b2 hA
  have hA := P2.out.2.2
  go_wp2_with fail
  refine (refmay_any ⟨k, d, i, b, h, gs, p, ws, f⟩ ga wa gn wn _ (H1.out.below P2.out.1 (Nat.le_refl _)) (H2.out.below P2.out.1 (Nat.le_refl _))).mono ?_
  rintro e w3 ⟨rfl, b3⟩
  rw [HM.out]
  have P3 := Lib.hid (P2.out.call b3)
  clear b3 hA
  have hA := P3.out.2.2
  have hlt := P3.out.2.1
  go_upto_region 10 with fail
  go_cut [7] (fun s7 wx => ∃ r : Nat, s7 = .slice (some ⟨r, 0, none⟩) 5 5 ∧ Holds w w.heap.size #[.int .i64 k, .int .i64 d, .int .i64 i, .int .i64 b, .int .i64 h, .slice ga gs.length gn, .int .i64 p, .slice wa ws.length wn, .int .i64 f] wx ∧ Holds w w3.heap.size #[.int .i64 k, .int .i64 d, .int .i64 ((n : Int) % 1073741824), .int .i64 b, .int .i64 h, .slice ga gs.length gn, .int .i64 p, .slice wa ws.length wn, .int .i64 f, .int .i64 k, .int .i64 d, .int .i64 i, .int .i64 ((n : Int) % 1073741824), .int .i64 h, .slice ga gs.length gn, .int .i64 p, .slice wa ws.length wn, .int .i64 f, .int .i64 k, .int .i64 d, .int .i64 i, .int .i64 b, .int .i64 ((n : Int) % 1073741824), .slice ga gs.length gn, .int .i64 p, .slice wa ws.length wn, .int .i64 f, .int .i64 k, .int .i64 d, .int .i64 i, .int .i64 b, .int .i64 h, .slice ga gs.length gn, .int .i64 ((n : Int) % 1073741824), .slice wa ws.length wn, .int .i64 f, .int .i64 k, .int .i64 d, .int .i64 i, .int .i64 b, .int .i64 h, .slice ga gs.length gn, .int .i64 p, .slice wa ws.length wn, .int .i64 ((n : Int) % 1073741824)] wx ∧ Holds w r #[.bool (has0 k), .bool (has1 k), .bool (has2 k), .bool (has3 k), .bool (has4 k)] wx)
  case first =>
    go_wp2_with fail
    all_goals
      subst_vars
      go_meet
      refine ⟨_, rfl, (P3.out.alloc _).alloc _, (((Holds.at_ rfl rfl).alloc _).from_ P3.out.1), ((Holds.at_ (by simp) (by simp [has0, has1, has2, has3, has4] <;> first | omega | grind)).from_ (P3.out.1.alloc P3.out.1.size _))⟩
  case rest =>
    obtain ⟨r, rfl, hp, hq, hr⟩ := hcut
    have hA := hp.2.2
    have hBl := Lib.hid hp
    have hQl := Lib.hid hq
    have hRl := Lib.hid hr
    clear hp hq hr P0 P1 P2 P3
    generalize has0 k = x0 at *
    generalize has1 k = x1 at *
    generalize has2 k = x2 at *
    generalize has3 k = x3 at *
    generalize has4 k = x4 at *
    go_wp2_with fail
    have HF0 := Lib.hid (show Four w w.heap.size w3.heap.size r wc.heap.size #[.int .i64 k, .int .i64 d, .int .i64 i, .int .i64 b, .int .i64 h, .slice ga gs.length gn, .int .i64 p, .slice wa ws.length wn, .int .i64 f] #[.int .i64 k, .int .i64 d, .int .i64 ((n : Int) % 1073741824), .int .i64 b, .int .i64 h, .slice ga gs.length gn, .int .i64 p, .slice wa ws.length wn, .int .i64 f, .int .i64 k, .int .i64 d, .int .i64 i, .int .i64 ((n : Int) % 1073741824), .int .i64 h, .slice ga gs.length gn, .int .i64 p, .slice wa ws.length wn, .int .i64 f, .int .i64 k, .int .i64 d, .int .i64 i, .int .i64 b, .int .i64 ((n : Int) % 1073741824), .slice ga gs.length gn, .int .i64 p, .slice wa ws.length wn, .int .i64 f, .int .i64 k, .int .i64 d, .int .i64 i, .int .i64 b, .int .i64 h, .slice ga gs.length gn, .int .i64 ((n : Int) % 1073741824), .slice wa ws.length wn, .int .i64 f, .int .i64 k, .int .i64 d, .int .i64 i, .int .i64 b, .int .i64 h, .slice ga gs.length gn, .int .i64 p, .slice wa ws.length wn, .int .i64 ((n : Int) % 1073741824)] #[.bool x0, .bool x1, .bool x2, .bool x3, .bool x4] #[.int .i64 i, .int .i64 b, .int .i64 h, .int .i64 p, .int .i64 f] (wc.alloc (.cells #[.int .i64 i, .int .i64 b, .int .i64 h, .int .i64 p, .int .i64 f] 3)) from ⟨hBl.out.alloc _, hQl.out.alloc _, hRl.out.alloc _, (Holds.at_ rfl rfl).from_ hBl.out.1⟩)
    clear hA
    go_loopw [9] (fun s wr => ∃ j : Int, 0 ≤ j ∧ j ≤ 5 ∧ s = .int .i64 j ∧ Four w w.heap.size w3.heap.size r wc.heap.size #[.int .i64 k, .int .i64 d, .int .i64 i, .int .i64 b, .int .i64 h, .slice ga gs.length gn, .int .i64 p, .slice wa ws.length wn, .int .i64 f] #[.int .i64 k, .int .i64 d, .int .i64 ((n : Int) % 1073741824), .int .i64 b, .int .i64 h, .slice ga gs.length gn, .int .i64 p, .slice wa ws.length wn, .int .i64 f, .int .i64 k, .int .i64 d, .int .i64 i, .int .i64 ((n : Int) % 1073741824), .int .i64 h, .slice ga gs.length gn, .int .i64 p, .slice wa ws.length wn, .int .i64 f, .int .i64 k, .int .i64 d, .int .i64 i, .int .i64 b, .int .i64 ((n : Int) % 1073741824), .slice ga gs.length gn, .int .i64 p, .slice wa ws.length wn, .int .i64 f, .int .i64 k, .int .i64 d, .int .i64 i, .int .i64 b, .int .i64 h, .slice ga gs.length gn, .int .i64 ((n : Int) % 1073741824), .slice wa ws.length wn, .int .i64 f, .int .i64 k, .int .i64 d, .int .i64 i, .int .i64 b, .int .i64 h, .slice ga gs.length gn, .int .i64 p, .slice wa ws.length wn, .int .i64 ((n : Int) % 1073741824)] #[.bool x0, .bool x1, .bool x2, .bool x3, .bool x4] #[.int .i64 i, .int .i64 b, .int .i64 h, .int .i64 p, .int .i64 f] wr) (fun s _ => 5 - (intOf s).toNat)
    case atStart => exact ⟨0, by omega, by omega, rfl, HF0.out⟩
    case round =>
      obtain ⟨j, j0, j5, rfl, hF⟩ := hrel
      have HQ := Lib.hid hF
      clear hF HF0 hBl hQl hRl
      by_cases hj : j = 5
      · subst hj
        go_wp2_with fail
        go_ret
        exact ⟨rfl, HQ.out.1.1⟩
      · obtain rfl | rfl | rfl | rfl | rfl : j = 0 ∨ j = 1 ∨ j = 2 ∨ j = 3 ∨ j = 4 := by omega
        · have hx := Bool.eq_false_or_eq_true x0
          have M := M0
          have Sm := S0
          have E := E0
          have T := T0
          clear hj j0 j5 M0 M1 M2 M3 M4 S0 S1 S2 S3 S4 E0 E1 E2 E3 E4 T0 T1 T2 T3 T4
          rcases hx with hx | hx
          all_goals
            go_wp2_with fail
            refine wp_region_noPanic ?_
            refine wp_region_held_drew (S := (fun w' => (Below w.heap.size w w' ∧ w.heap.size < w'.heap.size ∧ ∀ j, w'.cell? ⟨w.heap.size, j, none⟩ = (#[.int .i64 k, .int .i64 d, .int .i64 i, .int .i64 b, .int .i64 h, .slice ga gs.length gn, .int .i64 p, .slice wa ws.length wn, .int .i64 f][j]? : Option Value)) ∧ (Below w.heap.size w w' ∧ w3.heap.size < w'.heap.size ∧ ∀ j, w'.cell? ⟨w3.heap.size, j, none⟩ = (#[.int .i64 k, .int .i64 d, .int .i64 ((n : Int) % 1073741824), .int .i64 b, .int .i64 h, .slice ga gs.length gn, .int .i64 p, .slice wa ws.length wn, .int .i64 f, .int .i64 k, .int .i64 d, .int .i64 i, .int .i64 ((n : Int) % 1073741824), .int .i64 h, .slice ga gs.length gn, .int .i64 p, .slice wa ws.length wn, .int .i64 f, .int .i64 k, .int .i64 d, .int .i64 i, .int .i64 b, .int .i64 ((n : Int) % 1073741824), .slice ga gs.length gn, .int .i64 p, .slice wa ws.length wn, .int .i64 f, .int .i64 k, .int .i64 d, .int .i64 i, .int .i64 b, .int .i64 h, .slice ga gs.length gn, .int .i64 ((n : Int) % 1073741824), .slice wa ws.length wn, .int .i64 f, .int .i64 k, .int .i64 d, .int .i64 i, .int .i64 b, .int .i64 h, .slice ga gs.length gn, .int .i64 p, .slice wa ws.length wn, .int .i64 ((n : Int) % 1073741824)][j]? : Option Value)) ∧ (Below w.heap.size w w' ∧ r < w'.heap.size ∧ ∀ j, w'.cell? ⟨r, j, none⟩ = (#[.bool x0, .bool x1, .bool x2, .bool x3, .bool x4][j]? : Option Value)) ∧ (Below w.heap.size w w' ∧ wc.heap.size < w'.heap.size ∧ ∀ j, w'.cell? ⟨wc.heap.size, j, none⟩ = (#[.int .i64 i, .int .i64 b, .int .i64 h, .int .i64 p, .int .i64 f][j]? : Option Value)))) (by kernel_rfl) (by (first | (exact Four.drew HQ.out) | (exact Four.call hHeld hb))) (fun hHeld => ?_)
            first
              | (refine wpAnyH_take (i := 0) (v := undef) (by simp only [List.getElem?_toArray, List.getElem?_cons_succ, List.getElem?_cons_zero]; rfl) (by kernel_rfl) (by kernel_rfl) (by kernel_rfl) (fun _ _ _ h => h) (Or.inr ⟨by rfl, rfl⟩) (by assumption) ?_; try simp only [Act.put, List.setIfInBounds_toArray, List.set_cons_zero, List.set_cons_succ])
              | (refine wpAnyH_take (i := 0) (v := ?_) (by simp only [List.getElem?_toArray, List.getElem?_cons_succ, List.getElem?_cons_zero]; rfl) (by kernel_rfl) (by kernel_rfl) (by kernel_rfl) (fun _ _ _ h => h) (Or.inl ⟨by rfl, ?_⟩) (by assumption) ?_
                 rotate_left
                 · (intro ww hSw; (try dsimp only at hSw); go_simp; (try with_reducible rfl))
                 try simp only [Act.put, List.setIfInBounds_toArray, List.set_cons_zero, List.set_cons_succ])
              | (refine wpAnyH_ready (rs := [0]) (by kernel_rfl) (by simp) (AllReadyH.cons (by simp only [List.getElem?_toArray, List.getElem?_cons_succ, List.getElem?_cons_zero]; rfl) (fun K hK => ?_) AllReadyH.nil)
                 go_simp
                 first
                   | (go_at_call 9; (with_reducible refine (M.out _ (H1.out.below hHeld.1.1 (Nat.le_refl _)) (H2.out.below hHeld.1.1 (Nat.le_refl _))).mono ?_); rintro e w9 ⟨rfl, hb⟩; rw [E.out])
                   | (go_at_call 11; (with_reducible refine (Sm.out _ (H1.out.below hHeld.1.1 (Nat.le_refl _)) (H2.out.below hHeld.1.1 (Nat.le_refl _))).mono ?_); rintro e w9 ⟨rfl, hb⟩; rw [T.out])
                 try go_wp2_with fail
                 refine hK.out _ _ (by (first | (exact Four.drew HQ.out) | (exact Four.call hHeld hb))) (fun hHeld => ?_)
                 clear hK K
                 try simp only [Act.put, List.setIfInBounds_toArray, List.set_cons_zero, List.set_cons_succ])
            first
              | (refine wpAnyH_take (i := 1) (v := undef) (by simp only [List.getElem?_toArray, List.getElem?_cons_succ, List.getElem?_cons_zero]; rfl) (by kernel_rfl) (by kernel_rfl) (by kernel_rfl) (fun _ _ _ h => h) (Or.inr ⟨by rfl, rfl⟩) (by assumption) ?_; try simp only [Act.put, List.setIfInBounds_toArray, List.set_cons_zero, List.set_cons_succ])
              | (refine wpAnyH_take (i := 1) (v := ?_) (by simp only [List.getElem?_toArray, List.getElem?_cons_succ, List.getElem?_cons_zero]; rfl) (by kernel_rfl) (by kernel_rfl) (by kernel_rfl) (fun _ _ _ h => h) (Or.inl ⟨by rfl, ?_⟩) (by assumption) ?_
                 rotate_left
                 · (intro ww hSw; (try dsimp only at hSw); go_simp; (try with_reducible rfl))
                 try simp only [Act.put, List.setIfInBounds_toArray, List.set_cons_zero, List.set_cons_succ])
              | (refine wpAnyH_ready (rs := [1]) (by kernel_rfl) (by simp) (AllReadyH.cons (by simp only [List.getElem?_toArray, List.getElem?_cons_succ, List.getElem?_cons_zero]; rfl) (fun K hK => ?_) AllReadyH.nil)
                 go_simp
                 first
                   | (go_at_call 9; (with_reducible refine (M.out _ (H1.out.below hHeld.1.1 (Nat.le_refl _)) (H2.out.below hHeld.1.1 (Nat.le_refl _))).mono ?_); rintro e w9 ⟨rfl, hb⟩; rw [E.out])
                   | (go_at_call 11; (with_reducible refine (Sm.out _ (H1.out.below hHeld.1.1 (Nat.le_refl _)) (H2.out.below hHeld.1.1 (Nat.le_refl _))).mono ?_); rintro e w9 ⟨rfl, hb⟩; rw [T.out])
                 try go_wp2_with fail
                 refine hK.out _ _ (by (first | (exact Four.drew HQ.out) | (exact Four.call hHeld hb))) (fun hHeld => ?_)
                 clear hK K
                 try simp only [Act.put, List.setIfInBounds_toArray, List.set_cons_zero, List.set_cons_succ])
            first
              | (refine wpAnyH_take (i := 2) (v := undef) (by simp only [List.getElem?_toArray, List.getElem?_cons_succ, List.getElem?_cons_zero]; rfl) (by kernel_rfl) (by kernel_rfl) (by kernel_rfl) (fun _ _ _ h => h) (Or.inr ⟨by rfl, rfl⟩) (by assumption) ?_; try simp only [Act.put, List.setIfInBounds_toArray, List.set_cons_zero, List.set_cons_succ])
              | (refine wpAnyH_take (i := 2) (v := ?_) (by simp only [List.getElem?_toArray, List.getElem?_cons_succ, List.getElem?_cons_zero]; rfl) (by kernel_rfl) (by kernel_rfl) (by kernel_rfl) (fun _ _ _ h => h) (Or.inl ⟨by rfl, ?_⟩) (by assumption) ?_
                 rotate_left
                 · (intro ww hSw; (try dsimp only at hSw); go_simp; (try with_reducible rfl))
                 try simp only [Act.put, List.setIfInBounds_toArray, List.set_cons_zero, List.set_cons_succ])
              | (refine wpAnyH_ready (rs := [2]) (by kernel_rfl) (by simp) (AllReadyH.cons (by simp only [List.getElem?_toArray, List.getElem?_cons_succ, List.getElem?_cons_zero]; rfl) (fun K hK => ?_) AllReadyH.nil)
                 go_simp
                 first
                   | (go_at_call 9; (with_reducible refine (M.out _ (H1.out.below hHeld.1.1 (Nat.le_refl _)) (H2.out.below hHeld.1.1 (Nat.le_refl _))).mono ?_); rintro e w9 ⟨rfl, hb⟩; rw [E.out])
                   | (go_at_call 11; (with_reducible refine (Sm.out _ (H1.out.below hHeld.1.1 (Nat.le_refl _)) (H2.out.below hHeld.1.1 (Nat.le_refl _))).mono ?_); rintro e w9 ⟨rfl, hb⟩; rw [T.out])
                 try go_wp2_with fail
                 refine hK.out _ _ (by (first | (exact Four.drew HQ.out) | (exact Four.call hHeld hb))) (fun hHeld => ?_)
                 clear hK K
                 try simp only [Act.put, List.setIfInBounds_toArray, List.set_cons_zero, List.set_cons_succ])
            first
              | (refine wpAnyH_take (i := 3) (v := undef) (by simp only [List.getElem?_toArray, List.getElem?_cons_succ, List.getElem?_cons_zero]; rfl) (by kernel_rfl) (by kernel_rfl) (by kernel_rfl) (fun _ _ _ h => h) (Or.inr ⟨by rfl, rfl⟩) (by assumption) ?_; try simp only [Act.put, List.setIfInBounds_toArray, List.set_cons_zero, List.set_cons_succ])
              | (refine wpAnyH_take (i := 3) (v := ?_) (by simp only [List.getElem?_toArray, List.getElem?_cons_succ, List.getElem?_cons_zero]; rfl) (by kernel_rfl) (by kernel_rfl) (by kernel_rfl) (fun _ _ _ h => h) (Or.inl ⟨by rfl, ?_⟩) (by assumption) ?_
                 rotate_left
                 · (intro ww hSw; (try dsimp only at hSw); go_simp; (try with_reducible rfl))
                 try simp only [Act.put, List.setIfInBounds_toArray, List.set_cons_zero, List.set_cons_succ])
              | (refine wpAnyH_ready (rs := [3]) (by kernel_rfl) (by simp) (AllReadyH.cons (by simp only [List.getElem?_toArray, List.getElem?_cons_succ, List.getElem?_cons_zero]; rfl) (fun K hK => ?_) AllReadyH.nil)
                 go_simp
                 first
                   | (go_at_call 9; (with_reducible refine (M.out _ (H1.out.below hHeld.1.1 (Nat.le_refl _)) (H2.out.below hHeld.1.1 (Nat.le_refl _))).mono ?_); rintro e w9 ⟨rfl, hb⟩; rw [E.out])
                   | (go_at_call 11; (with_reducible refine (Sm.out _ (H1.out.below hHeld.1.1 (Nat.le_refl _)) (H2.out.below hHeld.1.1 (Nat.le_refl _))).mono ?_); rintro e w9 ⟨rfl, hb⟩; rw [T.out])
                 try go_wp2_with fail
                 refine hK.out _ _ (by (first | (exact Four.drew HQ.out) | (exact Four.call hHeld hb))) (fun hHeld => ?_)
                 clear hK K
                 try simp only [Act.put, List.setIfInBounds_toArray, List.set_cons_zero, List.set_cons_succ])
            first
              | (refine wpAnyH_take (i := 5) (v := undef) (by simp only [List.getElem?_toArray, List.getElem?_cons_succ, List.getElem?_cons_zero]; rfl) (by kernel_rfl) (by kernel_rfl) (by kernel_rfl) (fun _ _ _ h => h) (Or.inr ⟨by rfl, rfl⟩) (by assumption) ?_; try simp only [Act.put, List.setIfInBounds_toArray, List.set_cons_zero, List.set_cons_succ])
              | (refine wpAnyH_take (i := 5) (v := ?_) (by simp only [List.getElem?_toArray, List.getElem?_cons_succ, List.getElem?_cons_zero]; rfl) (by kernel_rfl) (by kernel_rfl) (by kernel_rfl) (fun _ _ _ h => h) (Or.inl ⟨by rfl, ?_⟩) (by assumption) ?_
                 rotate_left
                 · (intro ww hSw; (try dsimp only at hSw); go_simp; (try with_reducible rfl))
                 try simp only [Act.put, List.setIfInBounds_toArray, List.set_cons_zero, List.set_cons_succ])
              | (refine wpAnyH_ready (rs := [5]) (by kernel_rfl) (by simp) (AllReadyH.cons (by simp only [List.getElem?_toArray, List.getElem?_cons_succ, List.getElem?_cons_zero]; rfl) (fun K hK => ?_) AllReadyH.nil)
                 go_simp
                 first
                   | (go_at_call 9; (with_reducible refine (M.out _ (H1.out.below hHeld.1.1 (Nat.le_refl _)) (H2.out.below hHeld.1.1 (Nat.le_refl _))).mono ?_); rintro e w9 ⟨rfl, hb⟩; rw [E.out])
                   | (go_at_call 11; (with_reducible refine (Sm.out _ (H1.out.below hHeld.1.1 (Nat.le_refl _)) (H2.out.below hHeld.1.1 (Nat.le_refl _))).mono ?_); rintro e w9 ⟨rfl, hb⟩; rw [T.out])
                 try go_wp2_with fail
                 refine hK.out _ _ (by (first | (exact Four.drew HQ.out) | (exact Four.call hHeld hb))) (fun hHeld => ?_)
                 clear hK K
                 try simp only [Act.put, List.setIfInBounds_toArray, List.set_cons_zero, List.set_cons_succ])
            first
              | (refine wpAnyH_take (i := 6) (v := undef) (by simp only [List.getElem?_toArray, List.getElem?_cons_succ, List.getElem?_cons_zero]; rfl) (by kernel_rfl) (by kernel_rfl) (by kernel_rfl) (fun _ _ _ h => h) (Or.inr ⟨by rfl, rfl⟩) (by assumption) ?_; try simp only [Act.put, List.setIfInBounds_toArray, List.set_cons_zero, List.set_cons_succ])
              | (refine wpAnyH_take (i := 6) (v := ?_) (by simp only [List.getElem?_toArray, List.getElem?_cons_succ, List.getElem?_cons_zero]; rfl) (by kernel_rfl) (by kernel_rfl) (by kernel_rfl) (fun _ _ _ h => h) (Or.inl ⟨by rfl, ?_⟩) (by assumption) ?_
                 rotate_left
                 · (intro ww hSw; (try dsimp only at hSw); go_simp; (try with_reducible rfl))
                 try simp only [Act.put, List.setIfInBounds_toArray, List.set_cons_zero, List.set_cons_succ])
              | (refine wpAnyH_ready (rs := [6]) (by kernel_rfl) (by simp) (AllReadyH.cons (by simp only [List.getElem?_toArray, List.getElem?_cons_succ, List.getElem?_cons_zero]; rfl) (fun K hK => ?_) AllReadyH.nil)
                 go_simp
                 first
                   | (go_at_call 9; (with_reducible refine (M.out _ (H1.out.below hHeld.1.1 (Nat.le_refl _)) (H2.out.below hHeld.1.1 (Nat.le_refl _))).mono ?_); rintro e w9 ⟨rfl, hb⟩; rw [E.out])
                   | (go_at_call 11; (with_reducible refine (Sm.out _ (H1.out.below hHeld.1.1 (Nat.le_refl _)) (H2.out.below hHeld.1.1 (Nat.le_refl _))).mono ?_); rintro e w9 ⟨rfl, hb⟩; rw [T.out])
                 try go_wp2_with fail
                 refine hK.out _ _ (by (first | (exact Four.drew HQ.out) | (exact Four.call hHeld hb))) (fun hHeld => ?_)
                 clear hK K
                 try simp only [Act.put, List.setIfInBounds_toArray, List.set_cons_zero, List.set_cons_succ])
            first
              | (refine wpAnyH_take (i := 7) (v := undef) (by simp only [List.getElem?_toArray, List.getElem?_cons_succ, List.getElem?_cons_zero]; rfl) (by kernel_rfl) (by kernel_rfl) (by kernel_rfl) (fun _ _ _ h => h) (Or.inr ⟨by rfl, rfl⟩) (by assumption) ?_; try simp only [Act.put, List.setIfInBounds_toArray, List.set_cons_zero, List.set_cons_succ])
              | (refine wpAnyH_take (i := 7) (v := ?_) (by simp only [List.getElem?_toArray, List.getElem?_cons_succ, List.getElem?_cons_zero]; rfl) (by kernel_rfl) (by kernel_rfl) (by kernel_rfl) (fun _ _ _ h => h) (Or.inl ⟨by rfl, ?_⟩) (by assumption) ?_
                 rotate_left
                 · (intro ww hSw; (try dsimp only at hSw); go_simp; (try with_reducible rfl))
                 try simp only [Act.put, List.setIfInBounds_toArray, List.set_cons_zero, List.set_cons_succ])
              | (refine wpAnyH_ready (rs := [7]) (by kernel_rfl) (by simp) (AllReadyH.cons (by simp only [List.getElem?_toArray, List.getElem?_cons_succ, List.getElem?_cons_zero]; rfl) (fun K hK => ?_) AllReadyH.nil)
                 go_simp
                 first
                   | (go_at_call 9; (with_reducible refine (M.out _ (H1.out.below hHeld.1.1 (Nat.le_refl _)) (H2.out.below hHeld.1.1 (Nat.le_refl _))).mono ?_); rintro e w9 ⟨rfl, hb⟩; rw [E.out])
                   | (go_at_call 11; (with_reducible refine (Sm.out _ (H1.out.below hHeld.1.1 (Nat.le_refl _)) (H2.out.below hHeld.1.1 (Nat.le_refl _))).mono ?_); rintro e w9 ⟨rfl, hb⟩; rw [T.out])
                 try go_wp2_with fail
                 refine hK.out _ _ (by (first | (exact Four.drew HQ.out) | (exact Four.call hHeld hb))) (fun hHeld => ?_)
                 clear hK K
                 try simp only [Act.put, List.setIfInBounds_toArray, List.set_cons_zero, List.set_cons_succ])
            first
              | (refine wpAnyH_take (i := 8) (v := undef) (by simp only [List.getElem?_toArray, List.getElem?_cons_succ, List.getElem?_cons_zero]; rfl) (by kernel_rfl) (by kernel_rfl) (by kernel_rfl) (fun _ _ _ h => h) (Or.inr ⟨by rfl, rfl⟩) (by assumption) ?_; try simp only [Act.put, List.setIfInBounds_toArray, List.set_cons_zero, List.set_cons_succ])
              | (refine wpAnyH_take (i := 8) (v := ?_) (by simp only [List.getElem?_toArray, List.getElem?_cons_succ, List.getElem?_cons_zero]; rfl) (by kernel_rfl) (by kernel_rfl) (by kernel_rfl) (fun _ _ _ h => h) (Or.inl ⟨by rfl, ?_⟩) (by assumption) ?_
                 rotate_left
                 · (intro ww hSw; (try dsimp only at hSw); go_simp; (try with_reducible rfl))
                 try simp only [Act.put, List.setIfInBounds_toArray, List.set_cons_zero, List.set_cons_succ])
              | (refine wpAnyH_ready (rs := [8]) (by kernel_rfl) (by simp) (AllReadyH.cons (by simp only [List.getElem?_toArray, List.getElem?_cons_succ, List.getElem?_cons_zero]; rfl) (fun K hK => ?_) AllReadyH.nil)
                 go_simp
                 first
                   | (go_at_call 9; (with_reducible refine (M.out _ (H1.out.below hHeld.1.1 (Nat.le_refl _)) (H2.out.below hHeld.1.1 (Nat.le_refl _))).mono ?_); rintro e w9 ⟨rfl, hb⟩; rw [E.out])
                   | (go_at_call 11; (with_reducible refine (Sm.out _ (H1.out.below hHeld.1.1 (Nat.le_refl _)) (H2.out.below hHeld.1.1 (Nat.le_refl _))).mono ?_); rintro e w9 ⟨rfl, hb⟩; rw [T.out])
                 try go_wp2_with fail
                 refine hK.out _ _ (by (first | (exact Four.drew HQ.out) | (exact Four.call hHeld hb))) (fun hHeld => ?_)
                 clear hK K
                 try simp only [Act.put, List.setIfInBounds_toArray, List.set_cons_zero, List.set_cons_succ])
            first
              | (refine wpAnyH_take (i := 4) (v := undef) (by simp only [List.getElem?_toArray, List.getElem?_cons_succ, List.getElem?_cons_zero]; rfl) (by kernel_rfl) (by kernel_rfl) (by kernel_rfl) (fun _ _ _ h => h) (Or.inr ⟨by rfl, rfl⟩) (by assumption) ?_; try simp only [Act.put, List.setIfInBounds_toArray, List.set_cons_zero, List.set_cons_succ])
              | (refine wpAnyH_take (i := 4) (v := ?_) (by simp only [List.getElem?_toArray, List.getElem?_cons_succ, List.getElem?_cons_zero]; rfl) (by kernel_rfl) (by kernel_rfl) (by kernel_rfl) (fun _ _ _ h => h) (Or.inl ⟨by rfl, ?_⟩) (by assumption) ?_
                 rotate_left
                 · (intro ww hSw; (try dsimp only at hSw); go_simp; (try with_reducible rfl))
                 try simp only [Act.put, List.setIfInBounds_toArray, List.set_cons_zero, List.set_cons_succ])
              | (refine wpAnyH_ready (rs := [4]) (by kernel_rfl) (by simp) (AllReadyH.cons (by simp only [List.getElem?_toArray, List.getElem?_cons_succ, List.getElem?_cons_zero]; rfl) (fun K hK => ?_) AllReadyH.nil)
                 go_simp
                 first
                   | (go_at_call 9; (with_reducible refine (M.out _ (H1.out.below hHeld.1.1 (Nat.le_refl _)) (H2.out.below hHeld.1.1 (Nat.le_refl _))).mono ?_); rintro e w9 ⟨rfl, hb⟩; rw [E.out])
                   | (go_at_call 11; (with_reducible refine (Sm.out _ (H1.out.below hHeld.1.1 (Nat.le_refl _)) (H2.out.below hHeld.1.1 (Nat.le_refl _))).mono ?_); rintro e w9 ⟨rfl, hb⟩; rw [T.out])
                 try go_wp2_with fail
                 refine hK.out _ _ (by (first | (exact Four.drew HQ.out) | (exact Four.call hHeld hb))) (fun hHeld => ?_)
                 clear hK K
                 try simp only [Act.put, List.setIfInBounds_toArray, List.set_cons_zero, List.set_cons_succ])
            first
              | (refine wpAnyH_take (i := 9) (v := undef) (by simp only [List.getElem?_toArray, List.getElem?_cons_succ, List.getElem?_cons_zero]; rfl) (by kernel_rfl) (by kernel_rfl) (by kernel_rfl) (fun _ _ _ h => h) (Or.inr ⟨by rfl, rfl⟩) (by assumption) ?_; try simp only [Act.put, List.setIfInBounds_toArray, List.set_cons_zero, List.set_cons_succ])
              | (refine wpAnyH_take (i := 9) (v := ?_) (by simp only [List.getElem?_toArray, List.getElem?_cons_succ, List.getElem?_cons_zero]; rfl) (by kernel_rfl) (by kernel_rfl) (by kernel_rfl) (fun _ _ _ h => h) (Or.inl ⟨by rfl, ?_⟩) (by assumption) ?_
                 rotate_left
                 · (intro ww hSw; (try dsimp only at hSw); go_simp; (try with_reducible rfl))
                 try simp only [Act.put, List.setIfInBounds_toArray, List.set_cons_zero, List.set_cons_succ])
              | (refine wpAnyH_ready (rs := [9]) (by kernel_rfl) (by simp) (AllReadyH.cons (by simp only [List.getElem?_toArray, List.getElem?_cons_succ, List.getElem?_cons_zero]; rfl) (fun K hK => ?_) AllReadyH.nil)
                 go_simp
                 first
                   | (go_at_call 9; (with_reducible refine (M.out _ (H1.out.below hHeld.1.1 (Nat.le_refl _)) (H2.out.below hHeld.1.1 (Nat.le_refl _))).mono ?_); rintro e w9 ⟨rfl, hb⟩; rw [E.out])
                   | (go_at_call 11; (with_reducible refine (Sm.out _ (H1.out.below hHeld.1.1 (Nat.le_refl _)) (H2.out.below hHeld.1.1 (Nat.le_refl _))).mono ?_); rintro e w9 ⟨rfl, hb⟩; rw [T.out])
                 try go_wp2_with fail
                 refine hK.out _ _ (by (first | (exact Four.drew HQ.out) | (exact Four.call hHeld hb))) (fun hHeld => ?_)
                 clear hK K
                 try simp only [Act.put, List.setIfInBounds_toArray, List.set_cons_zero, List.set_cons_succ])
            first
              | (refine wpAnyH_take (i := 10) (v := undef) (by simp only [List.getElem?_toArray, List.getElem?_cons_succ, List.getElem?_cons_zero]; rfl) (by kernel_rfl) (by kernel_rfl) (by kernel_rfl) (fun _ _ _ h => h) (Or.inr ⟨by rfl, rfl⟩) (by assumption) ?_; try simp only [Act.put, List.setIfInBounds_toArray, List.set_cons_zero, List.set_cons_succ])
              | (refine wpAnyH_take (i := 10) (v := ?_) (by simp only [List.getElem?_toArray, List.getElem?_cons_succ, List.getElem?_cons_zero]; rfl) (by kernel_rfl) (by kernel_rfl) (by kernel_rfl) (fun _ _ _ h => h) (Or.inl ⟨by rfl, ?_⟩) (by assumption) ?_
                 rotate_left
                 · (intro ww hSw; (try dsimp only at hSw); go_simp; (try with_reducible rfl))
                 try simp only [Act.put, List.setIfInBounds_toArray, List.set_cons_zero, List.set_cons_succ])
              | (refine wpAnyH_ready (rs := [10]) (by kernel_rfl) (by simp) (AllReadyH.cons (by simp only [List.getElem?_toArray, List.getElem?_cons_succ, List.getElem?_cons_zero]; rfl) (fun K hK => ?_) AllReadyH.nil)
                 go_simp
                 first
                   | (go_at_call 9; (with_reducible refine (M.out _ (H1.out.below hHeld.1.1 (Nat.le_refl _)) (H2.out.below hHeld.1.1 (Nat.le_refl _))).mono ?_); rintro e w9 ⟨rfl, hb⟩; rw [E.out])
                   | (go_at_call 11; (with_reducible refine (Sm.out _ (H1.out.below hHeld.1.1 (Nat.le_refl _)) (H2.out.below hHeld.1.1 (Nat.le_refl _))).mono ?_); rintro e w9 ⟨rfl, hb⟩; rw [T.out])
                 try go_wp2_with fail
                 refine hK.out _ _ (by (first | (exact Four.drew HQ.out) | (exact Four.call hHeld hb))) (fun hHeld => ?_)
                 clear hK K
                 try simp only [Act.put, List.setIfInBounds_toArray, List.set_cons_zero, List.set_cons_succ])
            first
              | (refine wpAnyH_take (i := 11) (v := undef) (by simp only [List.getElem?_toArray, List.getElem?_cons_succ, List.getElem?_cons_zero]; rfl) (by kernel_rfl) (by kernel_rfl) (by kernel_rfl) (fun _ _ _ h => h) (Or.inr ⟨by rfl, rfl⟩) (by assumption) ?_; try simp only [Act.put, List.setIfInBounds_toArray, List.set_cons_zero, List.set_cons_succ])
              | (refine wpAnyH_take (i := 11) (v := ?_) (by simp only [List.getElem?_toArray, List.getElem?_cons_succ, List.getElem?_cons_zero]; rfl) (by kernel_rfl) (by kernel_rfl) (by kernel_rfl) (fun _ _ _ h => h) (Or.inl ⟨by rfl, ?_⟩) (by assumption) ?_
                 rotate_left
                 · (intro ww hSw; (try dsimp only at hSw); go_simp; (try with_reducible rfl))
                 try simp only [Act.put, List.setIfInBounds_toArray, List.set_cons_zero, List.set_cons_succ])
              | (refine wpAnyH_ready (rs := [11]) (by kernel_rfl) (by simp) (AllReadyH.cons (by simp only [List.getElem?_toArray, List.getElem?_cons_succ, List.getElem?_cons_zero]; rfl) (fun K hK => ?_) AllReadyH.nil)
                 go_simp
                 first
                   | (go_at_call 9; (with_reducible refine (M.out _ (H1.out.below hHeld.1.1 (Nat.le_refl _)) (H2.out.below hHeld.1.1 (Nat.le_refl _))).mono ?_); rintro e w9 ⟨rfl, hb⟩; rw [E.out])
                   | (go_at_call 11; (with_reducible refine (Sm.out _ (H1.out.below hHeld.1.1 (Nat.le_refl _)) (H2.out.below hHeld.1.1 (Nat.le_refl _))).mono ?_); rintro e w9 ⟨rfl, hb⟩; rw [T.out])
                 try go_wp2_with fail
                 refine hK.out _ _ (by (first | (exact Four.drew HQ.out) | (exact Four.call hHeld hb))) (fun hHeld => ?_)
                 clear hK K
                 try simp only [Act.put, List.setIfInBounds_toArray, List.set_cons_zero, List.set_cons_succ])
            first
              | (refine wpAnyH_take (i := 12) (v := undef) (by simp only [List.getElem?_toArray, List.getElem?_cons_succ, List.getElem?_cons_zero]; rfl) (by kernel_rfl) (by kernel_rfl) (by kernel_rfl) (fun _ _ _ h => h) (Or.inr ⟨by rfl, rfl⟩) (by assumption) ?_; try simp only [Act.put, List.setIfInBounds_toArray, List.set_cons_zero, List.set_cons_succ])
              | (refine wpAnyH_take (i := 12) (v := ?_) (by simp only [List.getElem?_toArray, List.getElem?_cons_succ, List.getElem?_cons_zero]; rfl) (by kernel_rfl) (by kernel_rfl) (by kernel_rfl) (fun _ _ _ h => h) (Or.inl ⟨by rfl, ?_⟩) (by assumption) ?_
                 rotate_left
                 · (intro ww hSw; (try dsimp only at hSw); go_simp; (try with_reducible rfl))
                 try simp only [Act.put, List.setIfInBounds_toArray, List.set_cons_zero, List.set_cons_succ])
              | (refine wpAnyH_ready (rs := [12]) (by kernel_rfl) (by simp) (AllReadyH.cons (by simp only [List.getElem?_toArray, List.getElem?_cons_succ, List.getElem?_cons_zero]; rfl) (fun K hK => ?_) AllReadyH.nil)
                 go_simp
                 first
                   | (go_at_call 9; (with_reducible refine (M.out _ (H1.out.below hHeld.1.1 (Nat.le_refl _)) (H2.out.below hHeld.1.1 (Nat.le_refl _))).mono ?_); rintro e w9 ⟨rfl, hb⟩; rw [E.out])
                   | (go_at_call 11; (with_reducible refine (Sm.out _ (H1.out.below hHeld.1.1 (Nat.le_refl _)) (H2.out.below hHeld.1.1 (Nat.le_refl _))).mono ?_); rintro e w9 ⟨rfl, hb⟩; rw [T.out])
                 try go_wp2_with fail
                 refine hK.out _ _ (by (first | (exact Four.drew HQ.out) | (exact Four.call hHeld hb))) (fun hHeld => ?_)
                 clear hK K
                 try simp only [Act.put, List.setIfInBounds_toArray, List.set_cons_zero, List.set_cons_succ])
            first
              | (refine wpAnyH_take (i := 13) (v := undef) (by simp only [List.getElem?_toArray, List.getElem?_cons_succ, List.getElem?_cons_zero]; rfl) (by kernel_rfl) (by kernel_rfl) (by kernel_rfl) (fun _ _ _ h => h) (Or.inr ⟨by rfl, rfl⟩) (by assumption) ?_; try simp only [Act.put, List.setIfInBounds_toArray, List.set_cons_zero, List.set_cons_succ])
              | (refine wpAnyH_take (i := 13) (v := ?_) (by simp only [List.getElem?_toArray, List.getElem?_cons_succ, List.getElem?_cons_zero]; rfl) (by kernel_rfl) (by kernel_rfl) (by kernel_rfl) (fun _ _ _ h => h) (Or.inl ⟨by rfl, ?_⟩) (by assumption) ?_
                 rotate_left
                 · (intro ww hSw; (try dsimp only at hSw); go_simp; (try with_reducible rfl))
                 try simp only [Act.put, List.setIfInBounds_toArray, List.set_cons_zero, List.set_cons_succ])
              | (refine wpAnyH_ready (rs := [13]) (by kernel_rfl) (by simp) (AllReadyH.cons (by simp only [List.getElem?_toArray, List.getElem?_cons_succ, List.getElem?_cons_zero]; rfl) (fun K hK => ?_) AllReadyH.nil)
                 go_simp
                 first
                   | (go_at_call 9; (with_reducible refine (M.out _ (H1.out.below hHeld.1.1 (Nat.le_refl _)) (H2.out.below hHeld.1.1 (Nat.le_refl _))).mono ?_); rintro e w9 ⟨rfl, hb⟩; rw [E.out])
                   | (go_at_call 11; (with_reducible refine (Sm.out _ (H1.out.below hHeld.1.1 (Nat.le_refl _)) (H2.out.below hHeld.1.1 (Nat.le_refl _))).mono ?_); rintro e w9 ⟨rfl, hb⟩; rw [T.out])
                 try go_wp2_with fail
                 refine hK.out _ _ (by (first | (exact Four.drew HQ.out) | (exact Four.call hHeld hb))) (fun hHeld => ?_)
                 clear hK K
                 try simp only [Act.put, List.setIfInBounds_toArray, List.set_cons_zero, List.set_cons_succ])
            first
              | (refine wpAnyH_take (i := 14) (v := undef) (by simp only [List.getElem?_toArray, List.getElem?_cons_succ, List.getElem?_cons_zero]; rfl) (by kernel_rfl) (by kernel_rfl) (by kernel_rfl) (fun _ _ _ h => h) (Or.inr ⟨by rfl, rfl⟩) (by assumption) ?_; try simp only [Act.put, List.setIfInBounds_toArray, List.set_cons_zero, List.set_cons_succ])
              | (refine wpAnyH_take (i := 14) (v := ?_) (by simp only [List.getElem?_toArray, List.getElem?_cons_succ, List.getElem?_cons_zero]; rfl) (by kernel_rfl) (by kernel_rfl) (by kernel_rfl) (fun _ _ _ h => h) (Or.inl ⟨by rfl, ?_⟩) (by assumption) ?_
                 rotate_left
                 · (intro ww hSw; (try dsimp only at hSw); go_simp; (try with_reducible rfl))
                 try simp only [Act.put, List.setIfInBounds_toArray, List.set_cons_zero, List.set_cons_succ])
              | (refine wpAnyH_ready (rs := [14]) (by kernel_rfl) (by simp) (AllReadyH.cons (by simp only [List.getElem?_toArray, List.getElem?_cons_succ, List.getElem?_cons_zero]; rfl) (fun K hK => ?_) AllReadyH.nil)
                 go_simp
                 first
                   | (go_at_call 9; (with_reducible refine (M.out _ (H1.out.below hHeld.1.1 (Nat.le_refl _)) (H2.out.below hHeld.1.1 (Nat.le_refl _))).mono ?_); rintro e w9 ⟨rfl, hb⟩; rw [E.out])
                   | (go_at_call 11; (with_reducible refine (Sm.out _ (H1.out.below hHeld.1.1 (Nat.le_refl _)) (H2.out.below hHeld.1.1 (Nat.le_refl _))).mono ?_); rintro e w9 ⟨rfl, hb⟩; rw [T.out])
                 try go_wp2_with fail
                 refine hK.out _ _ (by (first | (exact Four.drew HQ.out) | (exact Four.call hHeld hb))) (fun hHeld => ?_)
                 clear hK K
                 try simp only [Act.put, List.setIfInBounds_toArray, List.set_cons_zero, List.set_cons_succ])
            first
              | (refine wpAnyH_take (i := 15) (v := undef) (by simp only [List.getElem?_toArray, List.getElem?_cons_succ, List.getElem?_cons_zero]; rfl) (by kernel_rfl) (by kernel_rfl) (by kernel_rfl) (fun _ _ _ h => h) (Or.inr ⟨by rfl, rfl⟩) (by assumption) ?_; try simp only [Act.put, List.setIfInBounds_toArray, List.set_cons_zero, List.set_cons_succ])
              | (refine wpAnyH_take (i := 15) (v := ?_) (by simp only [List.getElem?_toArray, List.getElem?_cons_succ, List.getElem?_cons_zero]; rfl) (by kernel_rfl) (by kernel_rfl) (by kernel_rfl) (fun _ _ _ h => h) (Or.inl ⟨by rfl, ?_⟩) (by assumption) ?_
                 rotate_left
                 · (intro ww hSw; (try dsimp only at hSw); go_simp; (try with_reducible rfl))
                 try simp only [Act.put, List.setIfInBounds_toArray, List.set_cons_zero, List.set_cons_succ])
              | (refine wpAnyH_ready (rs := [15]) (by kernel_rfl) (by simp) (AllReadyH.cons (by simp only [List.getElem?_toArray, List.getElem?_cons_succ, List.getElem?_cons_zero]; rfl) (fun K hK => ?_) AllReadyH.nil)
                 go_simp
                 first
                   | (go_at_call 9; (with_reducible refine (M.out _ (H1.out.below hHeld.1.1 (Nat.le_refl _)) (H2.out.below hHeld.1.1 (Nat.le_refl _))).mono ?_); rintro e w9 ⟨rfl, hb⟩; rw [E.out])
                   | (go_at_call 11; (with_reducible refine (Sm.out _ (H1.out.below hHeld.1.1 (Nat.le_refl _)) (H2.out.below hHeld.1.1 (Nat.le_refl _))).mono ?_); rintro e w9 ⟨rfl, hb⟩; rw [T.out])
                 try go_wp2_with fail
                 refine hK.out _ _ (by (first | (exact Four.drew HQ.out) | (exact Four.call hHeld hb))) (fun hHeld => ?_)
                 clear hK K
                 try simp only [Act.put, List.setIfInBounds_toArray, List.set_cons_zero, List.set_cons_succ])
            first
              | (refine wpAnyH_take (i := 16) (v := undef) (by simp only [List.getElem?_toArray, List.getElem?_cons_succ, List.getElem?_cons_zero]; rfl) (by kernel_rfl) (by kernel_rfl) (by kernel_rfl) (fun _ _ _ h => h) (Or.inr ⟨by rfl, rfl⟩) (by assumption) ?_; try simp only [Act.put, List.setIfInBounds_toArray, List.set_cons_zero, List.set_cons_succ])
              | (refine wpAnyH_take (i := 16) (v := ?_) (by simp only [List.getElem?_toArray, List.getElem?_cons_succ, List.getElem?_cons_zero]; rfl) (by kernel_rfl) (by kernel_rfl) (by kernel_rfl) (fun _ _ _ h => h) (Or.inl ⟨by rfl, ?_⟩) (by assumption) ?_
                 rotate_left
                 · (intro ww hSw; (try dsimp only at hSw); go_simp; (try with_reducible rfl))
                 try simp only [Act.put, List.setIfInBounds_toArray, List.set_cons_zero, List.set_cons_succ])
              | (refine wpAnyH_ready (rs := [16]) (by kernel_rfl) (by simp) (AllReadyH.cons (by simp only [List.getElem?_toArray, List.getElem?_cons_succ, List.getElem?_cons_zero]; rfl) (fun K hK => ?_) AllReadyH.nil)
                 go_simp
                 first
                   | (go_at_call 9; (with_reducible refine (M.out _ (H1.out.below hHeld.1.1 (Nat.le_refl _)) (H2.out.below hHeld.1.1 (Nat.le_refl _))).mono ?_); rintro e w9 ⟨rfl, hb⟩; rw [E.out])
                   | (go_at_call 11; (with_reducible refine (Sm.out _ (H1.out.below hHeld.1.1 (Nat.le_refl _)) (H2.out.below hHeld.1.1 (Nat.le_refl _))).mono ?_); rintro e w9 ⟨rfl, hb⟩; rw [T.out])
                 try go_wp2_with fail
                 refine hK.out _ _ (by (first | (exact Four.drew HQ.out) | (exact Four.call hHeld hb))) (fun hHeld => ?_)
                 clear hK K
                 try simp only [Act.put, List.setIfInBounds_toArray, List.set_cons_zero, List.set_cons_succ])
            first
              | (refine wpAnyH_take (i := 17) (v := undef) (by simp only [List.getElem?_toArray, List.getElem?_cons_succ, List.getElem?_cons_zero]; rfl) (by kernel_rfl) (by kernel_rfl) (by kernel_rfl) (fun _ _ _ h => h) (Or.inr ⟨by rfl, rfl⟩) (by assumption) ?_; try simp only [Act.put, List.setIfInBounds_toArray, List.set_cons_zero, List.set_cons_succ])
              | (refine wpAnyH_take (i := 17) (v := ?_) (by simp only [List.getElem?_toArray, List.getElem?_cons_succ, List.getElem?_cons_zero]; rfl) (by kernel_rfl) (by kernel_rfl) (by kernel_rfl) (fun _ _ _ h => h) (Or.inl ⟨by rfl, ?_⟩) (by assumption) ?_
                 rotate_left
                 · (intro ww hSw; (try dsimp only at hSw); go_simp; (try with_reducible rfl))
                 try simp only [Act.put, List.setIfInBounds_toArray, List.set_cons_zero, List.set_cons_succ])
              | (refine wpAnyH_ready (rs := [17]) (by kernel_rfl) (by simp) (AllReadyH.cons (by simp only [List.getElem?_toArray, List.getElem?_cons_succ, List.getElem?_cons_zero]; rfl) (fun K hK => ?_) AllReadyH.nil)
                 go_simp
                 first
                   | (go_at_call 9; (with_reducible refine (M.out _ (H1.out.below hHeld.1.1 (Nat.le_refl _)) (H2.out.below hHeld.1.1 (Nat.le_refl _))).mono ?_); rintro e w9 ⟨rfl, hb⟩; rw [E.out])
                   | (go_at_call 11; (with_reducible refine (Sm.out _ (H1.out.below hHeld.1.1 (Nat.le_refl _)) (H2.out.below hHeld.1.1 (Nat.le_refl _))).mono ?_); rintro e w9 ⟨rfl, hb⟩; rw [T.out])
                 try go_wp2_with fail
                 refine hK.out _ _ (by (first | (exact Four.drew HQ.out) | (exact Four.call hHeld hb))) (fun hHeld => ?_)
                 clear hK K
                 try simp only [Act.put, List.setIfInBounds_toArray, List.set_cons_zero, List.set_cons_succ])
            first
              | (refine wpAnyH_take (i := 18) (v := undef) (by simp only [List.getElem?_toArray, List.getElem?_cons_succ, List.getElem?_cons_zero]; rfl) (by kernel_rfl) (by kernel_rfl) (by kernel_rfl) (fun _ _ _ h => h) (Or.inr ⟨by rfl, rfl⟩) (by assumption) ?_; try simp only [Act.put, List.setIfInBounds_toArray, List.set_cons_zero, List.set_cons_succ])
              | (refine wpAnyH_take (i := 18) (v := ?_) (by simp only [List.getElem?_toArray, List.getElem?_cons_succ, List.getElem?_cons_zero]; rfl) (by kernel_rfl) (by kernel_rfl) (by kernel_rfl) (fun _ _ _ h => h) (Or.inl ⟨by rfl, ?_⟩) (by assumption) ?_
                 rotate_left
                 · (intro ww hSw; (try dsimp only at hSw); go_simp; (try with_reducible rfl))
                 try simp only [Act.put, List.setIfInBounds_toArray, List.set_cons_zero, List.set_cons_succ])
              | (refine wpAnyH_ready (rs := [18]) (by kernel_rfl) (by simp) (AllReadyH.cons (by simp only [List.getElem?_toArray, List.getElem?_cons_succ, List.getElem?_cons_zero]; rfl) (fun K hK => ?_) AllReadyH.nil)
                 go_simp
                 first
                   | (go_at_call 9; (with_reducible refine (M.out _ (H1.out.below hHeld.1.1 (Nat.le_refl _)) (H2.out.below hHeld.1.1 (Nat.le_refl _))).mono ?_); rintro e w9 ⟨rfl, hb⟩; rw [E.out])
                   | (go_at_call 11; (with_reducible refine (Sm.out _ (H1.out.below hHeld.1.1 (Nat.le_refl _)) (H2.out.below hHeld.1.1 (Nat.le_refl _))).mono ?_); rintro e w9 ⟨rfl, hb⟩; rw [T.out])
                 try go_wp2_with fail
                 refine hK.out _ _ (by (first | (exact Four.drew HQ.out) | (exact Four.call hHeld hb))) (fun hHeld => ?_)
                 clear hK K
                 try simp only [Act.put, List.setIfInBounds_toArray, List.set_cons_zero, List.set_cons_succ])
            first
              | (refine wpAnyH_take (i := 19) (v := undef) (by simp only [List.getElem?_toArray, List.getElem?_cons_succ, List.getElem?_cons_zero]; rfl) (by kernel_rfl) (by kernel_rfl) (by kernel_rfl) (fun _ _ _ h => h) (Or.inr ⟨by rfl, rfl⟩) (by assumption) ?_; try simp only [Act.put, List.setIfInBounds_toArray, List.set_cons_zero, List.set_cons_succ])
              | (refine wpAnyH_take (i := 19) (v := ?_) (by simp only [List.getElem?_toArray, List.getElem?_cons_succ, List.getElem?_cons_zero]; rfl) (by kernel_rfl) (by kernel_rfl) (by kernel_rfl) (fun _ _ _ h => h) (Or.inl ⟨by rfl, ?_⟩) (by assumption) ?_
                 rotate_left
                 · (intro ww hSw; (try dsimp only at hSw); go_simp; (try with_reducible rfl))
                 try simp only [Act.put, List.setIfInBounds_toArray, List.set_cons_zero, List.set_cons_succ])
              | (refine wpAnyH_ready (rs := [19]) (by kernel_rfl) (by simp) (AllReadyH.cons (by simp only [List.getElem?_toArray, List.getElem?_cons_succ, List.getElem?_cons_zero]; rfl) (fun K hK => ?_) AllReadyH.nil)
                 go_simp
                 first
                   | (go_at_call 9; (with_reducible refine (M.out _ (H1.out.below hHeld.1.1 (Nat.le_refl _)) (H2.out.below hHeld.1.1 (Nat.le_refl _))).mono ?_); rintro e w9 ⟨rfl, hb⟩; rw [E.out])
                   | (go_at_call 11; (with_reducible refine (Sm.out _ (H1.out.below hHeld.1.1 (Nat.le_refl _)) (H2.out.below hHeld.1.1 (Nat.le_refl _))).mono ?_); rintro e w9 ⟨rfl, hb⟩; rw [T.out])
                 try go_wp2_with fail
                 refine hK.out _ _ (by (first | (exact Four.drew HQ.out) | (exact Four.call hHeld hb))) (fun hHeld => ?_)
                 clear hK K
                 try simp only [Act.put, List.setIfInBounds_toArray, List.set_cons_zero, List.set_cons_succ])
            first
              | (refine wpAnyH_take (i := 21) (v := undef) (by simp only [List.getElem?_toArray, List.getElem?_cons_succ, List.getElem?_cons_zero]; rfl) (by kernel_rfl) (by kernel_rfl) (by kernel_rfl) (fun _ _ _ h => h) (Or.inr ⟨by rfl, rfl⟩) (by assumption) ?_; try simp only [Act.put, List.setIfInBounds_toArray, List.set_cons_zero, List.set_cons_succ])
              | (refine wpAnyH_take (i := 21) (v := ?_) (by simp only [List.getElem?_toArray, List.getElem?_cons_succ, List.getElem?_cons_zero]; rfl) (by kernel_rfl) (by kernel_rfl) (by kernel_rfl) (fun _ _ _ h => h) (Or.inl ⟨by rfl, ?_⟩) (by assumption) ?_
                 rotate_left
                 · (intro ww hSw; (try dsimp only at hSw); go_simp; (try with_reducible rfl))
                 try simp only [Act.put, List.setIfInBounds_toArray, List.set_cons_zero, List.set_cons_succ])
              | (refine wpAnyH_ready (rs := [21]) (by kernel_rfl) (by simp) (AllReadyH.cons (by simp only [List.getElem?_toArray, List.getElem?_cons_succ, List.getElem?_cons_zero]; rfl) (fun K hK => ?_) AllReadyH.nil)
                 go_simp
                 first
                   | (go_at_call 9; (with_reducible refine (M.out _ (H1.out.below hHeld.1.1 (Nat.le_refl _)) (H2.out.below hHeld.1.1 (Nat.le_refl _))).mono ?_); rintro e w9 ⟨rfl, hb⟩; rw [E.out])
                   | (go_at_call 11; (with_reducible refine (Sm.out _ (H1.out.below hHeld.1.1 (Nat.le_refl _)) (H2.out.below hHeld.1.1 (Nat.le_refl _))).mono ?_); rintro e w9 ⟨rfl, hb⟩; rw [T.out])
                 try go_wp2_with fail
                 refine hK.out _ _ (by (first | (exact Four.drew HQ.out) | (exact Four.call hHeld hb))) (fun hHeld => ?_)
                 clear hK K
                 try simp only [Act.put, List.setIfInBounds_toArray, List.set_cons_zero, List.set_cons_succ])
            first
              | (refine wpAnyH_take (i := 22) (v := undef) (by simp only [List.getElem?_toArray, List.getElem?_cons_succ, List.getElem?_cons_zero]; rfl) (by kernel_rfl) (by kernel_rfl) (by kernel_rfl) (fun _ _ _ h => h) (Or.inr ⟨by rfl, rfl⟩) (by assumption) ?_; try simp only [Act.put, List.setIfInBounds_toArray, List.set_cons_zero, List.set_cons_succ])
              | (refine wpAnyH_take (i := 22) (v := ?_) (by simp only [List.getElem?_toArray, List.getElem?_cons_succ, List.getElem?_cons_zero]; rfl) (by kernel_rfl) (by kernel_rfl) (by kernel_rfl) (fun _ _ _ h => h) (Or.inl ⟨by rfl, ?_⟩) (by assumption) ?_
                 rotate_left
                 · (intro ww hSw; (try dsimp only at hSw); go_simp; (try with_reducible rfl))
                 try simp only [Act.put, List.setIfInBounds_toArray, List.set_cons_zero, List.set_cons_succ])
              | (refine wpAnyH_ready (rs := [22]) (by kernel_rfl) (by simp) (AllReadyH.cons (by simp only [List.getElem?_toArray, List.getElem?_cons_succ, List.getElem?_cons_zero]; rfl) (fun K hK => ?_) AllReadyH.nil)
                 go_simp
                 first
                   | (go_at_call 9; (with_reducible refine (M.out _ (H1.out.below hHeld.1.1 (Nat.le_refl _)) (H2.out.below hHeld.1.1 (Nat.le_refl _))).mono ?_); rintro e w9 ⟨rfl, hb⟩; rw [E.out])
                   | (go_at_call 11; (with_reducible refine (Sm.out _ (H1.out.below hHeld.1.1 (Nat.le_refl _)) (H2.out.below hHeld.1.1 (Nat.le_refl _))).mono ?_); rintro e w9 ⟨rfl, hb⟩; rw [T.out])
                 try go_wp2_with fail
                 refine hK.out _ _ (by (first | (exact Four.drew HQ.out) | (exact Four.call hHeld hb))) (fun hHeld => ?_)
                 clear hK K
                 try simp only [Act.put, List.setIfInBounds_toArray, List.set_cons_zero, List.set_cons_succ])
            first
              | (refine wpAnyH_take (i := 23) (v := undef) (by simp only [List.getElem?_toArray, List.getElem?_cons_succ, List.getElem?_cons_zero]; rfl) (by kernel_rfl) (by kernel_rfl) (by kernel_rfl) (fun _ _ _ h => h) (Or.inr ⟨by rfl, rfl⟩) (by assumption) ?_; try simp only [Act.put, List.setIfInBounds_toArray, List.set_cons_zero, List.set_cons_succ])
              | (refine wpAnyH_take (i := 23) (v := ?_) (by simp only [List.getElem?_toArray, List.getElem?_cons_succ, List.getElem?_cons_zero]; rfl) (by kernel_rfl) (by kernel_rfl) (by kernel_rfl) (fun _ _ _ h => h) (Or.inl ⟨by rfl, ?_⟩) (by assumption) ?_
                 rotate_left
                 · (intro ww hSw; (try dsimp only at hSw); go_simp; (try with_reducible rfl))
                 try simp only [Act.put, List.setIfInBounds_toArray, List.set_cons_zero, List.set_cons_succ])
              | (refine wpAnyH_ready (rs := [23]) (by kernel_rfl) (by simp) (AllReadyH.cons (by simp only [List.getElem?_toArray, List.getElem?_cons_succ, List.getElem?_cons_zero]; rfl) (fun K hK => ?_) AllReadyH.nil)
                 go_simp
                 first
                   | (go_at_call 9; (with_reducible refine (M.out _ (H1.out.below hHeld.1.1 (Nat.le_refl _)) (H2.out.below hHeld.1.1 (Nat.le_refl _))).mono ?_); rintro e w9 ⟨rfl, hb⟩; rw [E.out])
                   | (go_at_call 11; (with_reducible refine (Sm.out _ (H1.out.below hHeld.1.1 (Nat.le_refl _)) (H2.out.below hHeld.1.1 (Nat.le_refl _))).mono ?_); rintro e w9 ⟨rfl, hb⟩; rw [T.out])
                 try go_wp2_with fail
                 refine hK.out _ _ (by (first | (exact Four.drew HQ.out) | (exact Four.call hHeld hb))) (fun hHeld => ?_)
                 clear hK K
                 try simp only [Act.put, List.setIfInBounds_toArray, List.set_cons_zero, List.set_cons_succ])
            first
              | (refine wpAnyH_take (i := 24) (v := undef) (by simp only [List.getElem?_toArray, List.getElem?_cons_succ, List.getElem?_cons_zero]; rfl) (by kernel_rfl) (by kernel_rfl) (by kernel_rfl) (fun _ _ _ h => h) (Or.inr ⟨by rfl, rfl⟩) (by assumption) ?_; try simp only [Act.put, List.setIfInBounds_toArray, List.set_cons_zero, List.set_cons_succ])
              | (refine wpAnyH_take (i := 24) (v := ?_) (by simp only [List.getElem?_toArray, List.getElem?_cons_succ, List.getElem?_cons_zero]; rfl) (by kernel_rfl) (by kernel_rfl) (by kernel_rfl) (fun _ _ _ h => h) (Or.inl ⟨by rfl, ?_⟩) (by assumption) ?_
                 rotate_left
                 · (intro ww hSw; (try dsimp only at hSw); go_simp; (try with_reducible rfl))
                 try simp only [Act.put, List.setIfInBounds_toArray, List.set_cons_zero, List.set_cons_succ])
              | (refine wpAnyH_ready (rs := [24]) (by kernel_rfl) (by simp) (AllReadyH.cons (by simp only [List.getElem?_toArray, List.getElem?_cons_succ, List.getElem?_cons_zero]; rfl) (fun K hK => ?_) AllReadyH.nil)
                 go_simp
                 first
                   | (go_at_call 9; (with_reducible refine (M.out _ (H1.out.below hHeld.1.1 (Nat.le_refl _)) (H2.out.below hHeld.1.1 (Nat.le_refl _))).mono ?_); rintro e w9 ⟨rfl, hb⟩; rw [E.out])
                   | (go_at_call 11; (with_reducible refine (Sm.out _ (H1.out.below hHeld.1.1 (Nat.le_refl _)) (H2.out.below hHeld.1.1 (Nat.le_refl _))).mono ?_); rintro e w9 ⟨rfl, hb⟩; rw [T.out])
                 try go_wp2_with fail
                 refine hK.out _ _ (by (first | (exact Four.drew HQ.out) | (exact Four.call hHeld hb))) (fun hHeld => ?_)
                 clear hK K
                 try simp only [Act.put, List.setIfInBounds_toArray, List.set_cons_zero, List.set_cons_succ])
            first
              | (refine wpAnyH_take (i := 25) (v := undef) (by simp only [List.getElem?_toArray, List.getElem?_cons_succ, List.getElem?_cons_zero]; rfl) (by kernel_rfl) (by kernel_rfl) (by kernel_rfl) (fun _ _ _ h => h) (Or.inr ⟨by rfl, rfl⟩) (by assumption) ?_; try simp only [Act.put, List.setIfInBounds_toArray, List.set_cons_zero, List.set_cons_succ])
              | (refine wpAnyH_take (i := 25) (v := ?_) (by simp only [List.getElem?_toArray, List.getElem?_cons_succ, List.getElem?_cons_zero]; rfl) (by kernel_rfl) (by kernel_rfl) (by kernel_rfl) (fun _ _ _ h => h) (Or.inl ⟨by rfl, ?_⟩) (by assumption) ?_
                 rotate_left
                 · (intro ww hSw; (try dsimp only at hSw); go_simp; (try with_reducible rfl))
                 try simp only [Act.put, List.setIfInBounds_toArray, List.set_cons_zero, List.set_cons_succ])
              | (refine wpAnyH_ready (rs := [25]) (by kernel_rfl) (by simp) (AllReadyH.cons (by simp only [List.getElem?_toArray, List.getElem?_cons_succ, List.getElem?_cons_zero]; rfl) (fun K hK => ?_) AllReadyH.nil)
                 go_simp
                 first
                   | (go_at_call 9; (with_reducible refine (M.out _ (H1.out.below hHeld.1.1 (Nat.le_refl _)) (H2.out.below hHeld.1.1 (Nat.le_refl _))).mono ?_); rintro e w9 ⟨rfl, hb⟩; rw [E.out])
                   | (go_at_call 11; (with_reducible refine (Sm.out _ (H1.out.below hHeld.1.1 (Nat.le_refl _)) (H2.out.below hHeld.1.1 (Nat.le_refl _))).mono ?_); rintro e w9 ⟨rfl, hb⟩; rw [T.out])
                 try go_wp2_with fail
                 refine hK.out _ _ (by (first | (exact Four.drew HQ.out) | (exact Four.call hHeld hb))) (fun hHeld => ?_)
                 clear hK K
                 try simp only [Act.put, List.setIfInBounds_toArray, List.set_cons_zero, List.set_cons_succ])
            first
              | (refine wpAnyH_take (i := 26) (v := undef) (by simp only [List.getElem?_toArray, List.getElem?_cons_succ, List.getElem?_cons_zero]; rfl) (by kernel_rfl) (by kernel_rfl) (by kernel_rfl) (fun _ _ _ h => h) (Or.inr ⟨by rfl, rfl⟩) (by assumption) ?_; try simp only [Act.put, List.setIfInBounds_toArray, List.set_cons_zero, List.set_cons_succ])
              | (refine wpAnyH_take (i := 26) (v := ?_) (by simp only [List.getElem?_toArray, List.getElem?_cons_succ, List.getElem?_cons_zero]; rfl) (by kernel_rfl) (by kernel_rfl) (by kernel_rfl) (fun _ _ _ h => h) (Or.inl ⟨by rfl, ?_⟩) (by assumption) ?_
                 rotate_left
                 · (intro ww hSw; (try dsimp only at hSw); go_simp; (try with_reducible rfl))
                 try simp only [Act.put, List.setIfInBounds_toArray, List.set_cons_zero, List.set_cons_succ])
              | (refine wpAnyH_ready (rs := [26]) (by kernel_rfl) (by simp) (AllReadyH.cons (by simp only [List.getElem?_toArray, List.getElem?_cons_succ, List.getElem?_cons_zero]; rfl) (fun K hK => ?_) AllReadyH.nil)
                 go_simp
                 first
                   | (go_at_call 9; (with_reducible refine (M.out _ (H1.out.below hHeld.1.1 (Nat.le_refl _)) (H2.out.below hHeld.1.1 (Nat.le_refl _))).mono ?_); rintro e w9 ⟨rfl, hb⟩; rw [E.out])
                   | (go_at_call 11; (with_reducible refine (Sm.out _ (H1.out.below hHeld.1.1 (Nat.le_refl _)) (H2.out.below hHeld.1.1 (Nat.le_refl _))).mono ?_); rintro e w9 ⟨rfl, hb⟩; rw [T.out])
                 try go_wp2_with fail
                 refine hK.out _ _ (by (first | (exact Four.drew HQ.out) | (exact Four.call hHeld hb))) (fun hHeld => ?_)
                 clear hK K
                 try simp only [Act.put, List.setIfInBounds_toArray, List.set_cons_zero, List.set_cons_succ])
            first
              | (refine wpAnyH_take (i := 20) (v := undef) (by simp only [List.getElem?_toArray, List.getElem?_cons_succ, List.getElem?_cons_zero]; rfl) (by kernel_rfl) (by kernel_rfl) (by kernel_rfl) (fun _ _ _ h => h) (Or.inr ⟨by rfl, rfl⟩) (by assumption) ?_; try simp only [Act.put, List.setIfInBounds_toArray, List.set_cons_zero, List.set_cons_succ])
              | (refine wpAnyH_take (i := 20) (v := ?_) (by simp only [List.getElem?_toArray, List.getElem?_cons_succ, List.getElem?_cons_zero]; rfl) (by kernel_rfl) (by kernel_rfl) (by kernel_rfl) (fun _ _ _ h => h) (Or.inl ⟨by rfl, ?_⟩) (by assumption) ?_
                 rotate_left
                 · (intro ww hSw; (try dsimp only at hSw); go_simp; (try with_reducible rfl))
                 try simp only [Act.put, List.setIfInBounds_toArray, List.set_cons_zero, List.set_cons_succ])
              | (refine wpAnyH_ready (rs := [20]) (by kernel_rfl) (by simp) (AllReadyH.cons (by simp only [List.getElem?_toArray, List.getElem?_cons_succ, List.getElem?_cons_zero]; rfl) (fun K hK => ?_) AllReadyH.nil)
                 go_simp
                 first
                   | (go_at_call 9; (with_reducible refine (M.out _ (H1.out.below hHeld.1.1 (Nat.le_refl _)) (H2.out.below hHeld.1.1 (Nat.le_refl _))).mono ?_); rintro e w9 ⟨rfl, hb⟩; rw [E.out])
                   | (go_at_call 11; (with_reducible refine (Sm.out _ (H1.out.below hHeld.1.1 (Nat.le_refl _)) (H2.out.below hHeld.1.1 (Nat.le_refl _))).mono ?_); rintro e w9 ⟨rfl, hb⟩; rw [T.out])
                 try go_wp2_with fail
                 refine hK.out _ _ (by (first | (exact Four.drew HQ.out) | (exact Four.call hHeld hb))) (fun hHeld => ?_)
                 clear hK K
                 try simp only [Act.put, List.setIfInBounds_toArray, List.set_cons_zero, List.set_cons_succ])
            first
              | (refine wpAnyH_take (i := 27) (v := undef) (by simp only [List.getElem?_toArray, List.getElem?_cons_succ, List.getElem?_cons_zero]; rfl) (by kernel_rfl) (by kernel_rfl) (by kernel_rfl) (fun _ _ _ h => h) (Or.inr ⟨by rfl, rfl⟩) (by assumption) ?_; try simp only [Act.put, List.setIfInBounds_toArray, List.set_cons_zero, List.set_cons_succ])
              | (refine wpAnyH_take (i := 27) (v := ?_) (by simp only [List.getElem?_toArray, List.getElem?_cons_succ, List.getElem?_cons_zero]; rfl) (by kernel_rfl) (by kernel_rfl) (by kernel_rfl) (fun _ _ _ h => h) (Or.inl ⟨by rfl, ?_⟩) (by assumption) ?_
                 rotate_left
                 · (intro ww hSw; (try dsimp only at hSw); go_simp; (try with_reducible rfl))
                 try simp only [Act.put, List.setIfInBounds_toArray, List.set_cons_zero, List.set_cons_succ])
              | (refine wpAnyH_ready (rs := [27]) (by kernel_rfl) (by simp) (AllReadyH.cons (by simp only [List.getElem?_toArray, List.getElem?_cons_succ, List.getElem?_cons_zero]; rfl) (fun K hK => ?_) AllReadyH.nil)
                 go_simp
                 first
                   | (go_at_call 9; (with_reducible refine (M.out _ (H1.out.below hHeld.1.1 (Nat.le_refl _)) (H2.out.below hHeld.1.1 (Nat.le_refl _))).mono ?_); rintro e w9 ⟨rfl, hb⟩; rw [E.out])
                   | (go_at_call 11; (with_reducible refine (Sm.out _ (H1.out.below hHeld.1.1 (Nat.le_refl _)) (H2.out.below hHeld.1.1 (Nat.le_refl _))).mono ?_); rintro e w9 ⟨rfl, hb⟩; rw [T.out])
                 try go_wp2_with fail
                 refine hK.out _ _ (by (first | (exact Four.drew HQ.out) | (exact Four.call hHeld hb))) (fun hHeld => ?_)
                 clear hK K
                 try simp only [Act.put, List.setIfInBounds_toArray, List.set_cons_zero, List.set_cons_succ])
            first
              | (refine wpAnyH_take (i := 28) (v := undef) (by simp only [List.getElem?_toArray, List.getElem?_cons_succ, List.getElem?_cons_zero]; rfl) (by kernel_rfl) (by kernel_rfl) (by kernel_rfl) (fun _ _ _ h => h) (Or.inr ⟨by rfl, rfl⟩) (by assumption) ?_; try simp only [Act.put, List.setIfInBounds_toArray, List.set_cons_zero, List.set_cons_succ])
              | (refine wpAnyH_take (i := 28) (v := ?_) (by simp only [List.getElem?_toArray, List.getElem?_cons_succ, List.getElem?_cons_zero]; rfl) (by kernel_rfl) (by kernel_rfl) (by kernel_rfl) (fun _ _ _ h => h) (Or.inl ⟨by rfl, ?_⟩) (by assumption) ?_
                 rotate_left
                 · (intro ww hSw; (try dsimp only at hSw); go_simp; (try with_reducible rfl))
                 try simp only [Act.put, List.setIfInBounds_toArray, List.set_cons_zero, List.set_cons_succ])
              | (refine wpAnyH_ready (rs := [28]) (by kernel_rfl) (by simp) (AllReadyH.cons (by simp only [List.getElem?_toArray, List.getElem?_cons_succ, List.getElem?_cons_zero]; rfl) (fun K hK => ?_) AllReadyH.nil)
                 go_simp
                 first
                   | (go_at_call 9; (with_reducible refine (M.out _ (H1.out.below hHeld.1.1 (Nat.le_refl _)) (H2.out.below hHeld.1.1 (Nat.le_refl _))).mono ?_); rintro e w9 ⟨rfl, hb⟩; rw [E.out])
                   | (go_at_call 11; (with_reducible refine (Sm.out _ (H1.out.below hHeld.1.1 (Nat.le_refl _)) (H2.out.below hHeld.1.1 (Nat.le_refl _))).mono ?_); rintro e w9 ⟨rfl, hb⟩; rw [T.out])
                 try go_wp2_with fail
                 refine hK.out _ _ (by (first | (exact Four.drew HQ.out) | (exact Four.call hHeld hb))) (fun hHeld => ?_)
                 clear hK K
                 try simp only [Act.put, List.setIfInBounds_toArray, List.set_cons_zero, List.set_cons_succ])
            refine wpAnyH_done (by kernel_rfl) ?_ _
            refine NoPanic.normal ?_
            go_wp2_with fail
            go_roundw
            case rel => exact ⟨_, by omega, by omega, rfl, hHeld⟩
            case measure => simp [intOf]
        · have hx := Bool.eq_false_or_eq_true x1
          have M := M1
          have Sm := S1
          have E := E1
          have T := T1
          clear hj j0 j5 M0 M1 M2 M3 M4 S0 S1 S2 S3 S4 E0 E1 E2 E3 E4 T0 T1 T2 T3 T4
          rcases hx with hx | hx
          all_goals
            go_wp2_with fail
            refine wp_region_noPanic ?_
            refine wp_region_held_drew (S := (fun w' => (Below w.heap.size w w' ∧ w.heap.size < w'.heap.size ∧ ∀ j, w'.cell? ⟨w.heap.size, j, none⟩ = (#[.int .i64 k, .int .i64 d, .int .i64 i, .int .i64 b, .int .i64 h, .slice ga gs.length gn, .int .i64 p, .slice wa ws.length wn, .int .i64 f][j]? : Option Value)) ∧ (Below w.heap.size w w' ∧ w3.heap.size < w'.heap.size ∧ ∀ j, w'.cell? ⟨w3.heap.size, j, none⟩ = (#[.int .i64 k, .int .i64 d, .int .i64 ((n : Int) % 1073741824), .int .i64 b, .int .i64 h, .slice ga gs.length gn, .int .i64 p, .slice wa ws.length wn, .int .i64 f, .int .i64 k, .int .i64 d, .int .i64 i, .int .i64 ((n : Int) % 1073741824), .int .i64 h, .slice ga gs.length gn, .int .i64 p, .slice wa ws.length wn, .int .i64 f, .int .i64 k, .int .i64 d, .int .i64 i, .int .i64 b, .int .i64 ((n : Int) % 1073741824), .slice ga gs.length gn, .int .i64 p, .slice wa ws.length wn, .int .i64 f, .int .i64 k, .int .i64 d, .int .i64 i, .int .i64 b, .int .i64 h, .slice ga gs.length gn, .int .i64 ((n : Int) % 1073741824), .slice wa ws.length wn, .int .i64 f, .int .i64 k, .int .i64 d, .int .i64 i, .int .i64 b, .int .i64 h, .slice ga gs.length gn, .int .i64 p, .slice wa ws.length wn, .int .i64 ((n : Int) % 1073741824)][j]? : Option Value)) ∧ (Below w.heap.size w w' ∧ r < w'.heap.size ∧ ∀ j, w'.cell? ⟨r, j, none⟩ = (#[.bool x0, .bool x1, .bool x2, .bool x3, .bool x4][j]? : Option Value)) ∧ (Below w.heap.size w w' ∧ wc.heap.size < w'.heap.size ∧ ∀ j, w'.cell? ⟨wc.heap.size, j, none⟩ = (#[.int .i64 i, .int .i64 b, .int .i64 h, .int .i64 p, .int .i64 f][j]? : Option Value)))) (by kernel_rfl) (by (first | (exact Four.drew HQ.out) | (exact Four.call hHeld hb))) (fun hHeld => ?_)
            first
              | (refine wpAnyH_take (i := 0) (v := undef) (by simp only [List.getElem?_toArray, List.getElem?_cons_succ, List.getElem?_cons_zero]; rfl) (by kernel_rfl) (by kernel_rfl) (by kernel_rfl) (fun _ _ _ h => h) (Or.inr ⟨by rfl, rfl⟩) (by assumption) ?_; try simp only [Act.put, List.setIfInBounds_toArray, List.set_cons_zero, List.set_cons_succ])
              | (refine wpAnyH_take (i := 0) (v := ?_) (by simp only [List.getElem?_toArray, List.getElem?_cons_succ, List.getElem?_cons_zero]; rfl) (by kernel_rfl) (by kernel_rfl) (by kernel_rfl) (fun _ _ _ h => h) (Or.inl ⟨by rfl, ?_⟩) (by assumption) ?_
                 rotate_left
                 · (intro ww hSw; (try dsimp only at hSw); go_simp; (try with_reducible rfl))
                 try simp only [Act.put, List.setIfInBounds_toArray, List.set_cons_zero, List.set_cons_succ])
              | (refine wpAnyH_ready (rs := [0]) (by kernel_rfl) (by simp) (AllReadyH.cons (by simp only [List.getElem?_toArray, List.getElem?_cons_succ, List.getElem?_cons_zero]; rfl) (fun K hK => ?_) AllReadyH.nil)
                 go_simp
                 first
                   | (go_at_call 9; (with_reducible refine (M.out _ (H1.out.below hHeld.1.1 (Nat.le_refl _)) (H2.out.below hHeld.1.1 (Nat.le_refl _))).mono ?_); rintro e w9 ⟨rfl, hb⟩; rw [E.out])
                   | (go_at_call 11; (with_reducible refine (Sm.out _ (H1.out.below hHeld.1.1 (Nat.le_refl _)) (H2.out.below hHeld.1.1 (Nat.le_refl _))).mono ?_); rintro e w9 ⟨rfl, hb⟩; rw [T.out])
                 try go_wp2_with fail
                 refine hK.out _ _ (by (first | (exact Four.drew HQ.out) | (exact Four.call hHeld hb))) (fun hHeld => ?_)
                 clear hK K
                 try simp only [Act.put, List.setIfInBounds_toArray, List.set_cons_zero, List.set_cons_succ])
            first
              | (refine wpAnyH_take (i := 1) (v := undef) (by simp only [List.getElem?_toArray, List.getElem?_cons_succ, List.getElem?_cons_zero]; rfl) (by kernel_rfl) (by kernel_rfl) (by kernel_rfl) (fun _ _ _ h => h) (Or.inr ⟨by rfl, rfl⟩) (by assumption) ?_; try simp only [Act.put, List.setIfInBounds_toArray, List.set_cons_zero, List.set_cons_succ])
              | (refine wpAnyH_take (i := 1) (v := ?_) (by simp only [List.getElem?_toArray, List.getElem?_cons_succ, List.getElem?_cons_zero]; rfl) (by kernel_rfl) (by kernel_rfl) (by kernel_rfl) (fun _ _ _ h => h) (Or.inl ⟨by rfl, ?_⟩) (by assumption) ?_
                 rotate_left
                 · (intro ww hSw; (try dsimp only at hSw); go_simp; (try with_reducible rfl))
                 try simp only [Act.put, List.setIfInBounds_toArray, List.set_cons_zero, List.set_cons_succ])
              | (refine wpAnyH_ready (rs := [1]) (by kernel_rfl) (by simp) (AllReadyH.cons (by simp only [List.getElem?_toArray, List.getElem?_cons_succ, List.getElem?_cons_zero]; rfl) (fun K hK => ?_) AllReadyH.nil)
                 go_simp
                 first
                   | (go_at_call 9; (with_reducible refine (M.out _ (H1.out.below hHeld.1.1 (Nat.le_refl _)) (H2.out.below hHeld.1.1 (Nat.le_refl _))).mono ?_); rintro e w9 ⟨rfl, hb⟩; rw [E.out])
                   | (go_at_call 11; (with_reducible refine (Sm.out _ (H1.out.below hHeld.1.1 (Nat.le_refl _)) (H2.out.below hHeld.1.1 (Nat.le_refl _))).mono ?_); rintro e w9 ⟨rfl, hb⟩; rw [T.out])
                 try go_wp2_with fail
                 refine hK.out _ _ (by (first | (exact Four.drew HQ.out) | (exact Four.call hHeld hb))) (fun hHeld => ?_)
                 clear hK K
                 try simp only [Act.put, List.setIfInBounds_toArray, List.set_cons_zero, List.set_cons_succ])
            first
              | (refine wpAnyH_take (i := 2) (v := undef) (by simp only [List.getElem?_toArray, List.getElem?_cons_succ, List.getElem?_cons_zero]; rfl) (by kernel_rfl) (by kernel_rfl) (by kernel_rfl) (fun _ _ _ h => h) (Or.inr ⟨by rfl, rfl⟩) (by assumption) ?_; try simp only [Act.put, List.setIfInBounds_toArray, List.set_cons_zero, List.set_cons_succ])
              | (refine wpAnyH_take (i := 2) (v := ?_) (by simp only [List.getElem?_toArray, List.getElem?_cons_succ, List.getElem?_cons_zero]; rfl) (by kernel_rfl) (by kernel_rfl) (by kernel_rfl) (fun _ _ _ h => h) (Or.inl ⟨by rfl, ?_⟩) (by assumption) ?_
                 rotate_left
                 · (intro ww hSw; (try dsimp only at hSw); go_simp; (try with_reducible rfl))
                 try simp only [Act.put, List.setIfInBounds_toArray, List.set_cons_zero, List.set_cons_succ])
              | (refine wpAnyH_ready (rs := [2]) (by kernel_rfl) (by simp) (AllReadyH.cons (by simp only [List.getElem?_toArray, List.getElem?_cons_succ, List.getElem?_cons_zero]; rfl) (fun K hK => ?_) AllReadyH.nil)
                 go_simp
                 first
                   | (go_at_call 9; (with_reducible refine (M.out _ (H1.out.below hHeld.1.1 (Nat.le_refl _)) (H2.out.below hHeld.1.1 (Nat.le_refl _))).mono ?_); rintro e w9 ⟨rfl, hb⟩; rw [E.out])
                   | (go_at_call 11; (with_reducible refine (Sm.out _ (H1.out.below hHeld.1.1 (Nat.le_refl _)) (H2.out.below hHeld.1.1 (Nat.le_refl _))).mono ?_); rintro e w9 ⟨rfl, hb⟩; rw [T.out])
                 try go_wp2_with fail
                 refine hK.out _ _ (by (first | (exact Four.drew HQ.out) | (exact Four.call hHeld hb))) (fun hHeld => ?_)
                 clear hK K
                 try simp only [Act.put, List.setIfInBounds_toArray, List.set_cons_zero, List.set_cons_succ])
            first
              | (refine wpAnyH_take (i := 3) (v := undef) (by simp only [List.getElem?_toArray, List.getElem?_cons_succ, List.getElem?_cons_zero]; rfl) (by kernel_rfl) (by kernel_rfl) (by kernel_rfl) (fun _ _ _ h => h) (Or.inr ⟨by rfl, rfl⟩) (by assumption) ?_; try simp only [Act.put, List.setIfInBounds_toArray, List.set_cons_zero, List.set_cons_succ])
              | (refine wpAnyH_take (i := 3) (v := ?_) (by simp only [List.getElem?_toArray, List.getElem?_cons_succ, List.getElem?_cons_zero]; rfl) (by kernel_rfl) (by kernel_rfl) (by kernel_rfl) (fun _ _ _ h => h) (Or.inl ⟨by rfl, ?_⟩) (by assumption) ?_
                 rotate_left
                 · (intro ww hSw; (try dsimp only at hSw); go_simp; (try with_reducible rfl))
                 try simp only [Act.put, List.setIfInBounds_toArray, List.set_cons_zero, List.set_cons_succ])
              | (refine wpAnyH_ready (rs := [3]) (by kernel_rfl) (by simp) (AllReadyH.cons (by simp only [List.getElem?_toArray, List.getElem?_cons_succ, List.getElem?_cons_zero]; rfl) (fun K hK => ?_) AllReadyH.nil)
                 go_simp
                 first
                   | (go_at_call 9; (with_reducible refine (M.out _ (H1.out.below hHeld.1.1 (Nat.le_refl _)) (H2.out.below hHeld.1.1 (Nat.le_refl _))).mono ?_); rintro e w9 ⟨rfl, hb⟩; rw [E.out])
                   | (go_at_call 11; (with_reducible refine (Sm.out _ (H1.out.below hHeld.1.1 (Nat.le_refl _)) (H2.out.below hHeld.1.1 (Nat.le_refl _))).mono ?_); rintro e w9 ⟨rfl, hb⟩; rw [T.out])
                 try go_wp2_with fail
                 refine hK.out _ _ (by (first | (exact Four.drew HQ.out) | (exact Four.call hHeld hb))) (fun hHeld => ?_)
                 clear hK K
                 try simp only [Act.put, List.setIfInBounds_toArray, List.set_cons_zero, List.set_cons_succ])
            first
              | (refine wpAnyH_take (i := 5) (v := undef) (by simp only [List.getElem?_toArray, List.getElem?_cons_succ, List.getElem?_cons_zero]; rfl) (by kernel_rfl) (by kernel_rfl) (by kernel_rfl) (fun _ _ _ h => h) (Or.inr ⟨by rfl, rfl⟩) (by assumption) ?_; try simp only [Act.put, List.setIfInBounds_toArray, List.set_cons_zero, List.set_cons_succ])
              | (refine wpAnyH_take (i := 5) (v := ?_) (by simp only [List.getElem?_toArray, List.getElem?_cons_succ, List.getElem?_cons_zero]; rfl) (by kernel_rfl) (by kernel_rfl) (by kernel_rfl) (fun _ _ _ h => h) (Or.inl ⟨by rfl, ?_⟩) (by assumption) ?_
                 rotate_left
                 · (intro ww hSw; (try dsimp only at hSw); go_simp; (try with_reducible rfl))
                 try simp only [Act.put, List.setIfInBounds_toArray, List.set_cons_zero, List.set_cons_succ])
              | (refine wpAnyH_ready (rs := [5]) (by kernel_rfl) (by simp) (AllReadyH.cons (by simp only [List.getElem?_toArray, List.getElem?_cons_succ, List.getElem?_cons_zero]; rfl) (fun K hK => ?_) AllReadyH.nil)
                 go_simp
                 first
                   | (go_at_call 9; (with_reducible refine (M.out _ (H1.out.below hHeld.1.1 (Nat.le_refl _)) (H2.out.below hHeld.1.1 (Nat.le_refl _))).mono ?_); rintro e w9 ⟨rfl, hb⟩; rw [E.out])
                   | (go_at_call 11; (with_reducible refine (Sm.out _ (H1.out.below hHeld.1.1 (Nat.le_refl _)) (H2.out.below hHeld.1.1 (Nat.le_refl _))).mono ?_); rintro e w9 ⟨rfl, hb⟩; rw [T.out])
                 try go_wp2_with fail
                 refine hK.out _ _ (by (first | (exact Four.drew HQ.out) | (exact Four.call hHeld hb))) (fun hHeld => ?_)
                 clear hK K
                 try simp only [Act.put, List.setIfInBounds_toArray, List.set_cons_zero, List.set_cons_succ])
            first
              | (refine wpAnyH_take (i := 6) (v := undef) (by simp only [List.getElem?_toArray, List.getElem?_cons_succ, List.getElem?_cons_zero]; rfl) (by kernel_rfl) (by kernel_rfl) (by kernel_rfl) (fun _ _ _ h => h) (Or.inr ⟨by rfl, rfl⟩) (by assumption) ?_; try simp only [Act.put, List.setIfInBounds_toArray, List.set_cons_zero, List.set_cons_succ])
              | (refine wpAnyH_take (i := 6) (v := ?_) (by simp only [List.getElem?_toArray, List.getElem?_cons_succ, List.getElem?_cons_zero]; rfl) (by kernel_rfl) (by kernel_rfl) (by kernel_rfl) (fun _ _ _ h => h) (Or.inl ⟨by rfl, ?_⟩) (by assumption) ?_
                 rotate_left
                 · (intro ww hSw; (try dsimp only at hSw); go_simp; (try with_reducible rfl))
                 try simp only [Act.put, List.setIfInBounds_toArray, List.set_cons_zero, List.set_cons_succ])
              | (refine wpAnyH_ready (rs := [6]) (by kernel_rfl) (by simp) (AllReadyH.cons (by simp only [List.getElem?_toArray, List.getElem?_cons_succ, List.getElem?_cons_zero]; rfl) (fun K hK => ?_) AllReadyH.nil)
                 go_simp
                 first
                   | (go_at_call 9; (with_reducible refine (M.out _ (H1.out.below hHeld.1.1 (Nat.le_refl _)) (H2.out.below hHeld.1.1 (Nat.le_refl _))).mono ?_); rintro e w9 ⟨rfl, hb⟩; rw [E.out])
                   | (go_at_call 11; (with_reducible refine (Sm.out _ (H1.out.below hHeld.1.1 (Nat.le_refl _)) (H2.out.below hHeld.1.1 (Nat.le_refl _))).mono ?_); rintro e w9 ⟨rfl, hb⟩; rw [T.out])
                 try go_wp2_with fail
                 refine hK.out _ _ (by (first | (exact Four.drew HQ.out) | (exact Four.call hHeld hb))) (fun hHeld => ?_)
                 clear hK K
                 try simp only [Act.put, List.setIfInBounds_toArray, List.set_cons_zero, List.set_cons_succ])
            first
              | (refine wpAnyH_take (i := 7) (v := undef) (by simp only [List.getElem?_toArray, List.getElem?_cons_succ, List.getElem?_cons_zero]; rfl) (by kernel_rfl) (by kernel_rfl) (by kernel_rfl) (fun _ _ _ h => h) (Or.inr ⟨by rfl, rfl⟩) (by assumption) ?_; try simp only [Act.put, List.setIfInBounds_toArray, List.set_cons_zero, List.set_cons_succ])
              | (refine wpAnyH_take (i := 7) (v := ?_) (by simp only [List.getElem?_toArray, List.getElem?_cons_succ, List.getElem?_cons_zero]; rfl) (by kernel_rfl) (by kernel_rfl) (by kernel_rfl) (fun _ _ _ h => h) (Or.inl ⟨by rfl, ?_⟩) (by assumption) ?_
                 rotate_left
                 · (intro ww hSw; (try dsimp only at hSw); go_simp; (try with_reducible rfl))
                 try simp only [Act.put, List.setIfInBounds_toArray, List.set_cons_zero, List.set_cons_succ])
              | (refine wpAnyH_ready (rs := [7]) (by kernel_rfl) (by simp) (AllReadyH.cons (by simp only [List.getElem?_toArray, List.getElem?_cons_succ, List.getElem?_cons_zero]; rfl) (fun K hK => ?_) AllReadyH.nil)
                 go_simp
                 first
                   | (go_at_call 9; (with_reducible refine (M.out _ (H1.out.below hHeld.1.1 (Nat.le_refl _)) (H2.out.below hHeld.1.1 (Nat.le_refl _))).mono ?_); rintro e w9 ⟨rfl, hb⟩; rw [E.out])
                   | (go_at_call 11; (with_reducible refine (Sm.out _ (H1.out.below hHeld.1.1 (Nat.le_refl _)) (H2.out.below hHeld.1.1 (Nat.le_refl _))).mono ?_); rintro e w9 ⟨rfl, hb⟩; rw [T.out])
                 try go_wp2_with fail
                 refine hK.out _ _ (by (first | (exact Four.drew HQ.out) | (exact Four.call hHeld hb))) (fun hHeld => ?_)
                 clear hK K
                 try simp only [Act.put, List.setIfInBounds_toArray, List.set_cons_zero, List.set_cons_succ])
            first
              | (refine wpAnyH_take (i := 8) (v := undef) (by simp only [List.getElem?_toArray, List.getElem?_cons_succ, List.getElem?_cons_zero]; rfl) (by kernel_rfl) (by kernel_rfl) (by kernel_rfl) (fun _ _ _ h => h) (Or.inr ⟨by rfl, rfl⟩) (by assumption) ?_; try simp only [Act.put, List.setIfInBounds_toArray, List.set_cons_zero, List.set_cons_succ])
              | (refine wpAnyH_take (i := 8) (v := ?_) (by simp only [List.getElem?_toArray, List.getElem?_cons_succ, List.getElem?_cons_zero]; rfl) (by kernel_rfl) (by kernel_rfl) (by kernel_rfl) (fun _ _ _ h => h) (Or.inl ⟨by rfl, ?_⟩) (by assumption) ?_
                 rotate_left
                 · (intro ww hSw; (try dsimp only at hSw); go_simp; (try with_reducible rfl))
                 try simp only [Act.put, List.setIfInBounds_toArray, List.set_cons_zero, List.set_cons_succ])
              | (refine wpAnyH_ready (rs := [8]) (by kernel_rfl) (by simp) (AllReadyH.cons (by simp only [List.getElem?_toArray, List.getElem?_cons_succ, List.getElem?_cons_zero]; rfl) (fun K hK => ?_) AllReadyH.nil)
                 go_simp
                 first
                   | (go_at_call 9; (with_reducible refine (M.out _ (H1.out.below hHeld.1.1 (Nat.le_refl _)) (H2.out.below hHeld.1.1 (Nat.le_refl _))).mono ?_); rintro e w9 ⟨rfl, hb⟩; rw [E.out])
                   | (go_at_call 11; (with_reducible refine (Sm.out _ (H1.out.below hHeld.1.1 (Nat.le_refl _)) (H2.out.below hHeld.1.1 (Nat.le_refl _))).mono ?_); rintro e w9 ⟨rfl, hb⟩; rw [T.out])
                 try go_wp2_with fail
                 refine hK.out _ _ (by (first | (exact Four.drew HQ.out) | (exact Four.call hHeld hb))) (fun hHeld => ?_)
                 clear hK K
                 try simp only [Act.put, List.setIfInBounds_toArray, List.set_cons_zero, List.set_cons_succ])
            first
              | (refine wpAnyH_take (i := 4) (v := undef) (by simp only [List.getElem?_toArray, List.getElem?_cons_succ, List.getElem?_cons_zero]; rfl) (by kernel_rfl) (by kernel_rfl) (by kernel_rfl) (fun _ _ _ h => h) (Or.inr ⟨by rfl, rfl⟩) (by assumption) ?_; try simp only [Act.put, List.setIfInBounds_toArray, List.set_cons_zero, List.set_cons_succ])
              | (refine wpAnyH_take (i := 4) (v := ?_) (by simp only [List.getElem?_toArray, List.getElem?_cons_succ, List.getElem?_cons_zero]; rfl) (by kernel_rfl) (by kernel_rfl) (by kernel_rfl) (fun _ _ _ h => h) (Or.inl ⟨by rfl, ?_⟩) (by assumption) ?_
                 rotate_left
                 · (intro ww hSw; (try dsimp only at hSw); go_simp; (try with_reducible rfl))
                 try simp only [Act.put, List.setIfInBounds_toArray, List.set_cons_zero, List.set_cons_succ])
              | (refine wpAnyH_ready (rs := [4]) (by kernel_rfl) (by simp) (AllReadyH.cons (by simp only [List.getElem?_toArray, List.getElem?_cons_succ, List.getElem?_cons_zero]; rfl) (fun K hK => ?_) AllReadyH.nil)
                 go_simp
                 first
                   | (go_at_call 9; (with_reducible refine (M.out _ (H1.out.below hHeld.1.1 (Nat.le_refl _)) (H2.out.below hHeld.1.1 (Nat.le_refl _))).mono ?_); rintro e w9 ⟨rfl, hb⟩; rw [E.out])
                   | (go_at_call 11; (with_reducible refine (Sm.out _ (H1.out.below hHeld.1.1 (Nat.le_refl _)) (H2.out.below hHeld.1.1 (Nat.le_refl _))).mono ?_); rintro e w9 ⟨rfl, hb⟩; rw [T.out])
                 try go_wp2_with fail
                 refine hK.out _ _ (by (first | (exact Four.drew HQ.out) | (exact Four.call hHeld hb))) (fun hHeld => ?_)
                 clear hK K
                 try simp only [Act.put, List.setIfInBounds_toArray, List.set_cons_zero, List.set_cons_succ])
            first
              | (refine wpAnyH_take (i := 9) (v := undef) (by simp only [List.getElem?_toArray, List.getElem?_cons_succ, List.getElem?_cons_zero]; rfl) (by kernel_rfl) (by kernel_rfl) (by kernel_rfl) (fun _ _ _ h => h) (Or.inr ⟨by rfl, rfl⟩) (by assumption) ?_; try simp only [Act.put, List.setIfInBounds_toArray, List.set_cons_zero, List.set_cons_succ])
              | (refine wpAnyH_take (i := 9) (v := ?_) (by simp only [List.getElem?_toArray, List.getElem?_cons_succ, List.getElem?_cons_zero]; rfl) (by kernel_rfl) (by kernel_rfl) (by kernel_rfl) (fun _ _ _ h => h) (Or.inl ⟨by rfl, ?_⟩) (by assumption) ?_
                 rotate_left
                 · (intro ww hSw; (try dsimp only at hSw); go_simp; (try with_reducible rfl))
                 try simp only [Act.put, List.setIfInBounds_toArray, List.set_cons_zero, List.set_cons_succ])
              | (refine wpAnyH_ready (rs := [9]) (by kernel_rfl) (by simp) (AllReadyH.cons (by simp only [List.getElem?_toArray, List.getElem?_cons_succ, List.getElem?_cons_zero]; rfl) (fun K hK => ?_) AllReadyH.nil)
                 go_simp
                 first
                   | (go_at_call 9; (with_reducible refine (M.out _ (H1.out.below hHeld.1.1 (Nat.le_refl _)) (H2.out.below hHeld.1.1 (Nat.le_refl _))).mono ?_); rintro e w9 ⟨rfl, hb⟩; rw [E.out])
                   | (go_at_call 11; (with_reducible refine (Sm.out _ (H1.out.below hHeld.1.1 (Nat.le_refl _)) (H2.out.below hHeld.1.1 (Nat.le_refl _))).mono ?_); rintro e w9 ⟨rfl, hb⟩; rw [T.out])
                 try go_wp2_with fail
                 refine hK.out _ _ (by (first | (exact Four.drew HQ.out) | (exact Four.call hHeld hb))) (fun hHeld => ?_)
                 clear hK K
                 try simp only [Act.put, List.setIfInBounds_toArray, List.set_cons_zero, List.set_cons_succ])
            first
              | (refine wpAnyH_take (i := 10) (v := undef) (by simp only [List.getElem?_toArray, List.getElem?_cons_succ, List.getElem?_cons_zero]; rfl) (by kernel_rfl) (by kernel_rfl) (by kernel_rfl) (fun _ _ _ h => h) (Or.inr ⟨by rfl, rfl⟩) (by assumption) ?_; try simp only [Act.put, List.setIfInBounds_toArray, List.set_cons_zero, List.set_cons_succ])
              | (refine wpAnyH_take (i := 10) (v := ?_) (by simp only [List.getElem?_toArray, List.getElem?_cons_succ, List.getElem?_cons_zero]; rfl) (by kernel_rfl) (by kernel_rfl) (by kernel_rfl) (fun _ _ _ h => h) (Or.inl ⟨by rfl, ?_⟩) (by assumption) ?_
                 rotate_left
                 · (intro ww hSw; (try dsimp only at hSw); go_simp; (try with_reducible rfl))
                 try simp only [Act.put, List.setIfInBounds_toArray, List.set_cons_zero, List.set_cons_succ])
              | (refine wpAnyH_ready (rs := [10]) (by kernel_rfl) (by simp) (AllReadyH.cons (by simp only [List.getElem?_toArray, List.getElem?_cons_succ, List.getElem?_cons_zero]; rfl) (fun K hK => ?_) AllReadyH.nil)
                 go_simp
                 first
                   | (go_at_call 9; (with_reducible refine (M.out _ (H1.out.below hHeld.1.1 (Nat.le_refl _)) (H2.out.below hHeld.1.1 (Nat.le_refl _))).mono ?_); rintro e w9 ⟨rfl, hb⟩; rw [E.out])
                   | (go_at_call 11; (with_reducible refine (Sm.out _ (H1.out.below hHeld.1.1 (Nat.le_refl _)) (H2.out.below hHeld.1.1 (Nat.le_refl _))).mono ?_); rintro e w9 ⟨rfl, hb⟩; rw [T.out])
                 try go_wp2_with fail
                 refine hK.out _ _ (by (first | (exact Four.drew HQ.out) | (exact Four.call hHeld hb))) (fun hHeld => ?_)
                 clear hK K
                 try simp only [Act.put, List.setIfInBounds_toArray, List.set_cons_zero, List.set_cons_succ])
            first
              | (refine wpAnyH_take (i := 11) (v := undef) (by simp only [List.getElem?_toArray, List.getElem?_cons_succ, List.getElem?_cons_zero]; rfl) (by kernel_rfl) (by kernel_rfl) (by kernel_rfl) (fun _ _ _ h => h) (Or.inr ⟨by rfl, rfl⟩) (by assumption) ?_; try simp only [Act.put, List.setIfInBounds_toArray, List.set_cons_zero, List.set_cons_succ])
              | (refine wpAnyH_take (i := 11) (v := ?_) (by simp only [List.getElem?_toArray, List.getElem?_cons_succ, List.getElem?_cons_zero]; rfl) (by kernel_rfl) (by kernel_rfl) (by kernel_rfl) (fun _ _ _ h => h) (Or.inl ⟨by rfl, ?_⟩) (by assumption) ?_
                 rotate_left
                 · (intro ww hSw; (try dsimp only at hSw); go_simp; (try with_reducible rfl))
                 try simp only [Act.put, List.setIfInBounds_toArray, List.set_cons_zero, List.set_cons_succ])
              | (refine wpAnyH_ready (rs := [11]) (by kernel_rfl) (by simp) (AllReadyH.cons (by simp only [List.getElem?_toArray, List.getElem?_cons_succ, List.getElem?_cons_zero]; rfl) (fun K hK => ?_) AllReadyH.nil)
                 go_simp
                 first
                   | (go_at_call 9; (with_reducible refine (M.out _ (H1.out.below hHeld.1.1 (Nat.le_refl _)) (H2.out.below hHeld.1.1 (Nat.le_refl _))).mono ?_); rintro e w9 ⟨rfl, hb⟩; rw [E.out])
                   | (go_at_call 11; (with_reducible refine (Sm.out _ (H1.out.below hHeld.1.1 (Nat.le_refl _)) (H2.out.below hHeld.1.1 (Nat.le_refl _))).mono ?_); rintro e w9 ⟨rfl, hb⟩; rw [T.out])
                 try go_wp2_with fail
                 refine hK.out _ _ (by (first | (exact Four.drew HQ.out) | (exact Four.call hHeld hb))) (fun hHeld => ?_)
                 clear hK K
                 try simp only [Act.put, List.setIfInBounds_toArray, List.set_cons_zero, List.set_cons_succ])
            first
              | (refine wpAnyH_take (i := 12) (v := undef) (by simp only [List.getElem?_toArray, List.getElem?_cons_succ, List.getElem?_cons_zero]; rfl) (by kernel_rfl) (by kernel_rfl) (by kernel_rfl) (fun _ _ _ h => h) (Or.inr ⟨by rfl, rfl⟩) (by assumption) ?_; try simp only [Act.put, List.setIfInBounds_toArray, List.set_cons_zero, List.set_cons_succ])
              | (refine wpAnyH_take (i := 12) (v := ?_) (by simp only [List.getElem?_toArray, List.getElem?_cons_succ, List.getElem?_cons_zero]; rfl) (by kernel_rfl) (by kernel_rfl) (by kernel_rfl) (fun _ _ _ h => h) (Or.inl ⟨by rfl, ?_⟩) (by assumption) ?_
                 rotate_left
                 · (intro ww hSw; (try dsimp only at hSw); go_simp; (try with_reducible rfl))
                 try simp only [Act.put, List.setIfInBounds_toArray, List.set_cons_zero, List.set_cons_succ])
              | (refine wpAnyH_ready (rs := [12]) (by kernel_rfl) (by simp) (AllReadyH.cons (by simp only [List.getElem?_toArray, List.getElem?_cons_succ, List.getElem?_cons_zero]; rfl) (fun K hK => ?_) AllReadyH.nil)
                 go_simp
                 first
                   | (go_at_call 9; (with_reducible refine (M.out _ (H1.out.below hHeld.1.1 (Nat.le_refl _)) (H2.out.below hHeld.1.1 (Nat.le_refl _))).mono ?_); rintro e w9 ⟨rfl, hb⟩; rw [E.out])
                   | (go_at_call 11; (with_reducible refine (Sm.out _ (H1.out.below hHeld.1.1 (Nat.le_refl _)) (H2.out.below hHeld.1.1 (Nat.le_refl _))).mono ?_); rintro e w9 ⟨rfl, hb⟩; rw [T.out])
                 try go_wp2_with fail
                 refine hK.out _ _ (by (first | (exact Four.drew HQ.out) | (exact Four.call hHeld hb))) (fun hHeld => ?_)
                 clear hK K
                 try simp only [Act.put, List.setIfInBounds_toArray, List.set_cons_zero, List.set_cons_succ])
            first
              | (refine wpAnyH_take (i := 13) (v := undef) (by simp only [List.getElem?_toArray, List.getElem?_cons_succ, List.getElem?_cons_zero]; rfl) (by kernel_rfl) (by kernel_rfl) (by kernel_rfl) (fun _ _ _ h => h) (Or.inr ⟨by rfl, rfl⟩) (by assumption) ?_; try simp only [Act.put, List.setIfInBounds_toArray, List.set_cons_zero, List.set_cons_succ])
              | (refine wpAnyH_take (i := 13) (v := ?_) (by simp only [List.getElem?_toArray, List.getElem?_cons_succ, List.getElem?_cons_zero]; rfl) (by kernel_rfl) (by kernel_rfl) (by kernel_rfl) (fun _ _ _ h => h) (Or.inl ⟨by rfl, ?_⟩) (by assumption) ?_
                 rotate_left
                 · (intro ww hSw; (try dsimp only at hSw); go_simp; (try with_reducible rfl))
                 try simp only [Act.put, List.setIfInBounds_toArray, List.set_cons_zero, List.set_cons_succ])
              | (refine wpAnyH_ready (rs := [13]) (by kernel_rfl) (by simp) (AllReadyH.cons (by simp only [List.getElem?_toArray, List.getElem?_cons_succ, List.getElem?_cons_zero]; rfl) (fun K hK => ?_) AllReadyH.nil)
                 go_simp
                 first
                   | (go_at_call 9; (with_reducible refine (M.out _ (H1.out.below hHeld.1.1 (Nat.le_refl _)) (H2.out.below hHeld.1.1 (Nat.le_refl _))).mono ?_); rintro e w9 ⟨rfl, hb⟩; rw [E.out])
                   | (go_at_call 11; (with_reducible refine (Sm.out _ (H1.out.below hHeld.1.1 (Nat.le_refl _)) (H2.out.below hHeld.1.1 (Nat.le_refl _))).mono ?_); rintro e w9 ⟨rfl, hb⟩; rw [T.out])
                 try go_wp2_with fail
                 refine hK.out _ _ (by (first | (exact Four.drew HQ.out) | (exact Four.call hHeld hb))) (fun hHeld => ?_)
                 clear hK K
                 try simp only [Act.put, List.setIfInBounds_toArray, List.set_cons_zero, List.set_cons_succ])
            first
              | (refine wpAnyH_take (i := 14) (v := undef) (by simp only [List.getElem?_toArray, List.getElem?_cons_succ, List.getElem?_cons_zero]; rfl) (by kernel_rfl) (by kernel_rfl) (by kernel_rfl) (fun _ _ _ h => h) (Or.inr ⟨by rfl, rfl⟩) (by assumption) ?_; try simp only [Act.put, List.setIfInBounds_toArray, List.set_cons_zero, List.set_cons_succ])
              | (refine wpAnyH_take (i := 14) (v := ?_) (by simp only [List.getElem?_toArray, List.getElem?_cons_succ, List.getElem?_cons_zero]; rfl) (by kernel_rfl) (by kernel_rfl) (by kernel_rfl) (fun _ _ _ h => h) (Or.inl ⟨by rfl, ?_⟩) (by assumption) ?_
                 rotate_left
                 · (intro ww hSw; (try dsimp only at hSw); go_simp; (try with_reducible rfl))
                 try simp only [Act.put, List.setIfInBounds_toArray, List.set_cons_zero, List.set_cons_succ])
              | (refine wpAnyH_ready (rs := [14]) (by kernel_rfl) (by simp) (AllReadyH.cons (by simp only [List.getElem?_toArray, List.getElem?_cons_succ, List.getElem?_cons_zero]; rfl) (fun K hK => ?_) AllReadyH.nil)
                 go_simp
                 first
                   | (go_at_call 9; (with_reducible refine (M.out _ (H1.out.below hHeld.1.1 (Nat.le_refl _)) (H2.out.below hHeld.1.1 (Nat.le_refl _))).mono ?_); rintro e w9 ⟨rfl, hb⟩; rw [E.out])
                   | (go_at_call 11; (with_reducible refine (Sm.out _ (H1.out.below hHeld.1.1 (Nat.le_refl _)) (H2.out.below hHeld.1.1 (Nat.le_refl _))).mono ?_); rintro e w9 ⟨rfl, hb⟩; rw [T.out])
                 try go_wp2_with fail
                 refine hK.out _ _ (by (first | (exact Four.drew HQ.out) | (exact Four.call hHeld hb))) (fun hHeld => ?_)
                 clear hK K
                 try simp only [Act.put, List.setIfInBounds_toArray, List.set_cons_zero, List.set_cons_succ])
            first
              | (refine wpAnyH_take (i := 15) (v := undef) (by simp only [List.getElem?_toArray, List.getElem?_cons_succ, List.getElem?_cons_zero]; rfl) (by kernel_rfl) (by kernel_rfl) (by kernel_rfl) (fun _ _ _ h => h) (Or.inr ⟨by rfl, rfl⟩) (by assumption) ?_; try simp only [Act.put, List.setIfInBounds_toArray, List.set_cons_zero, List.set_cons_succ])
              | (refine wpAnyH_take (i := 15) (v := ?_) (by simp only [List.getElem?_toArray, List.getElem?_cons_succ, List.getElem?_cons_zero]; rfl) (by kernel_rfl) (by kernel_rfl) (by kernel_rfl) (fun _ _ _ h => h) (Or.inl ⟨by rfl, ?_⟩) (by assumption) ?_
                 rotate_left
                 · (intro ww hSw; (try dsimp only at hSw); go_simp; (try with_reducible rfl))
                 try simp only [Act.put, List.setIfInBounds_toArray, List.set_cons_zero, List.set_cons_succ])
              | (refine wpAnyH_ready (rs := [15]) (by kernel_rfl) (by simp) (AllReadyH.cons (by simp only [List.getElem?_toArray, List.getElem?_cons_succ, List.getElem?_cons_zero]; rfl) (fun K hK => ?_) AllReadyH.nil)
                 go_simp
                 first
                   | (go_at_call 9; (with_reducible refine (M.out _ (H1.out.below hHeld.1.1 (Nat.le_refl _)) (H2.out.below hHeld.1.1 (Nat.le_refl _))).mono ?_); rintro e w9 ⟨rfl, hb⟩; rw [E.out])
                   | (go_at_call 11; (with_reducible refine (Sm.out _ (H1.out.below hHeld.1.1 (Nat.le_refl _)) (H2.out.below hHeld.1.1 (Nat.le_refl _))).mono ?_); rintro e w9 ⟨rfl, hb⟩; rw [T.out])
                 try go_wp2_with fail
                 refine hK.out _ _ (by (first | (exact Four.drew HQ.out) | (exact Four.call hHeld hb))) (fun hHeld => ?_)
                 clear hK K
                 try simp only [Act.put, List.setIfInBounds_toArray, List.set_cons_zero, List.set_cons_succ])
            first
              | (refine wpAnyH_take (i := 16) (v := undef) (by simp only [List.getElem?_toArray, List.getElem?_cons_succ, List.getElem?_cons_zero]; rfl) (by kernel_rfl) (by kernel_rfl) (by kernel_rfl) (fun _ _ _ h => h) (Or.inr ⟨by rfl, rfl⟩) (by assumption) ?_; try simp only [Act.put, List.setIfInBounds_toArray, List.set_cons_zero, List.set_cons_succ])
              | (refine wpAnyH_take (i := 16) (v := ?_) (by simp only [List.getElem?_toArray, List.getElem?_cons_succ, List.getElem?_cons_zero]; rfl) (by kernel_rfl) (by kernel_rfl) (by kernel_rfl) (fun _ _ _ h => h) (Or.inl ⟨by rfl, ?_⟩) (by assumption) ?_
                 rotate_left
                 · (intro ww hSw; (try dsimp only at hSw); go_simp; (try with_reducible rfl))
                 try simp only [Act.put, List.setIfInBounds_toArray, List.set_cons_zero, List.set_cons_succ])
              | (refine wpAnyH_ready (rs := [16]) (by kernel_rfl) (by simp) (AllReadyH.cons (by simp only [List.getElem?_toArray, List.getElem?_cons_succ, List.getElem?_cons_zero]; rfl) (fun K hK => ?_) AllReadyH.nil)
                 go_simp
                 first
                   | (go_at_call 9; (with_reducible refine (M.out _ (H1.out.below hHeld.1.1 (Nat.le_refl _)) (H2.out.below hHeld.1.1 (Nat.le_refl _))).mono ?_); rintro e w9 ⟨rfl, hb⟩; rw [E.out])
                   | (go_at_call 11; (with_reducible refine (Sm.out _ (H1.out.below hHeld.1.1 (Nat.le_refl _)) (H2.out.below hHeld.1.1 (Nat.le_refl _))).mono ?_); rintro e w9 ⟨rfl, hb⟩; rw [T.out])
                 try go_wp2_with fail
                 refine hK.out _ _ (by (first | (exact Four.drew HQ.out) | (exact Four.call hHeld hb))) (fun hHeld => ?_)
                 clear hK K
                 try simp only [Act.put, List.setIfInBounds_toArray, List.set_cons_zero, List.set_cons_succ])
            first
              | (refine wpAnyH_take (i := 17) (v := undef) (by simp only [List.getElem?_toArray, List.getElem?_cons_succ, List.getElem?_cons_zero]; rfl) (by kernel_rfl) (by kernel_rfl) (by kernel_rfl) (fun _ _ _ h => h) (Or.inr ⟨by rfl, rfl⟩) (by assumption) ?_; try simp only [Act.put, List.setIfInBounds_toArray, List.set_cons_zero, List.set_cons_succ])
              | (refine wpAnyH_take (i := 17) (v := ?_) (by simp only [List.getElem?_toArray, List.getElem?_cons_succ, List.getElem?_cons_zero]; rfl) (by kernel_rfl) (by kernel_rfl) (by kernel_rfl) (fun _ _ _ h => h) (Or.inl ⟨by rfl, ?_⟩) (by assumption) ?_
                 rotate_left
                 · (intro ww hSw; (try dsimp only at hSw); go_simp; (try with_reducible rfl))
                 try simp only [Act.put, List.setIfInBounds_toArray, List.set_cons_zero, List.set_cons_succ])
              | (refine wpAnyH_ready (rs := [17]) (by kernel_rfl) (by simp) (AllReadyH.cons (by simp only [List.getElem?_toArray, List.getElem?_cons_succ, List.getElem?_cons_zero]; rfl) (fun K hK => ?_) AllReadyH.nil)
                 go_simp
                 first
                   | (go_at_call 9; (with_reducible refine (M.out _ (H1.out.below hHeld.1.1 (Nat.le_refl _)) (H2.out.below hHeld.1.1 (Nat.le_refl _))).mono ?_); rintro e w9 ⟨rfl, hb⟩; rw [E.out])
                   | (go_at_call 11; (with_reducible refine (Sm.out _ (H1.out.below hHeld.1.1 (Nat.le_refl _)) (H2.out.below hHeld.1.1 (Nat.le_refl _))).mono ?_); rintro e w9 ⟨rfl, hb⟩; rw [T.out])
                 try go_wp2_with fail
                 refine hK.out _ _ (by (first | (exact Four.drew HQ.out) | (exact Four.call hHeld hb))) (fun hHeld => ?_)
                 clear hK K
                 try simp only [Act.put, List.setIfInBounds_toArray, List.set_cons_zero, List.set_cons_succ])
            first
              | (refine wpAnyH_take (i := 18) (v := undef) (by simp only [List.getElem?_toArray, List.getElem?_cons_succ, List.getElem?_cons_zero]; rfl) (by kernel_rfl) (by kernel_rfl) (by kernel_rfl) (fun _ _ _ h => h) (Or.inr ⟨by rfl, rfl⟩) (by assumption) ?_; try simp only [Act.put, List.setIfInBounds_toArray, List.set_cons_zero, List.set_cons_succ])
              | (refine wpAnyH_take (i := 18) (v := ?_) (by simp only [List.getElem?_toArray, List.getElem?_cons_succ, List.getElem?_cons_zero]; rfl) (by kernel_rfl) (by kernel_rfl) (by kernel_rfl) (fun _ _ _ h => h) (Or.inl ⟨by rfl, ?_⟩) (by assumption) ?_
                 rotate_left
                 · (intro ww hSw; (try dsimp only at hSw); go_simp; (try with_reducible rfl))
                 try simp only [Act.put, List.setIfInBounds_toArray, List.set_cons_zero, List.set_cons_succ])
              | (refine wpAnyH_ready (rs := [18]) (by kernel_rfl) (by simp) (AllReadyH.cons (by simp only [List.getElem?_toArray, List.getElem?_cons_succ, List.getElem?_cons_zero]; rfl) (fun K hK => ?_) AllReadyH.nil)
                 go_simp
                 first
                   | (go_at_call 9; (with_reducible refine (M.out _ (H1.out.below hHeld.1.1 (Nat.le_refl _)) (H2.out.below hHeld.1.1 (Nat.le_refl _))).mono ?_); rintro e w9 ⟨rfl, hb⟩; rw [E.out])
                   | (go_at_call 11; (with_reducible refine (Sm.out _ (H1.out.below hHeld.1.1 (Nat.le_refl _)) (H2.out.below hHeld.1.1 (Nat.le_refl _))).mono ?_); rintro e w9 ⟨rfl, hb⟩; rw [T.out])
                 try go_wp2_with fail
                 refine hK.out _ _ (by (first | (exact Four.drew HQ.out) | (exact Four.call hHeld hb))) (fun hHeld => ?_)
                 clear hK K
                 try simp only [Act.put, List.setIfInBounds_toArray, List.set_cons_zero, List.set_cons_succ])
            first
              | (refine wpAnyH_take (i := 19) (v := undef) (by simp only [List.getElem?_toArray, List.getElem?_cons_succ, List.getElem?_cons_zero]; rfl) (by kernel_rfl) (by kernel_rfl) (by kernel_rfl) (fun _ _ _ h => h) (Or.inr ⟨by rfl, rfl⟩) (by assumption) ?_; try simp only [Act.put, List.setIfInBounds_toArray, List.set_cons_zero, List.set_cons_succ])
              | (refine wpAnyH_take (i := 19) (v := ?_) (by simp only [List.getElem?_toArray, List.getElem?_cons_succ, List.getElem?_cons_zero]; rfl) (by kernel_rfl) (by kernel_rfl) (by kernel_rfl) (fun _ _ _ h => h) (Or.inl ⟨by rfl, ?_⟩) (by assumption) ?_
                 rotate_left
                 · (intro ww hSw; (try dsimp only at hSw); go_simp; (try with_reducible rfl))
                 try simp only [Act.put, List.setIfInBounds_toArray, List.set_cons_zero, List.set_cons_succ])
              | (refine wpAnyH_ready (rs := [19]) (by kernel_rfl) (by simp) (AllReadyH.cons (by simp only [List.getElem?_toArray, List.getElem?_cons_succ, List.getElem?_cons_zero]; rfl) (fun K hK => ?_) AllReadyH.nil)
                 go_simp
                 first
                   | (go_at_call 9; (with_reducible refine (M.out _ (H1.out.below hHeld.1.1 (Nat.le_refl _)) (H2.out.below hHeld.1.1 (Nat.le_refl _))).mono ?_); rintro e w9 ⟨rfl, hb⟩; rw [E.out])
                   | (go_at_call 11; (with_reducible refine (Sm.out _ (H1.out.below hHeld.1.1 (Nat.le_refl _)) (H2.out.below hHeld.1.1 (Nat.le_refl _))).mono ?_); rintro e w9 ⟨rfl, hb⟩; rw [T.out])
                 try go_wp2_with fail
                 refine hK.out _ _ (by (first | (exact Four.drew HQ.out) | (exact Four.call hHeld hb))) (fun hHeld => ?_)
                 clear hK K
                 try simp only [Act.put, List.setIfInBounds_toArray, List.set_cons_zero, List.set_cons_succ])
            first
              | (refine wpAnyH_take (i := 21) (v := undef) (by simp only [List.getElem?_toArray, List.getElem?_cons_succ, List.getElem?_cons_zero]; rfl) (by kernel_rfl) (by kernel_rfl) (by kernel_rfl) (fun _ _ _ h => h) (Or.inr ⟨by rfl, rfl⟩) (by assumption) ?_; try simp only [Act.put, List.setIfInBounds_toArray, List.set_cons_zero, List.set_cons_succ])
              | (refine wpAnyH_take (i := 21) (v := ?_) (by simp only [List.getElem?_toArray, List.getElem?_cons_succ, List.getElem?_cons_zero]; rfl) (by kernel_rfl) (by kernel_rfl) (by kernel_rfl) (fun _ _ _ h => h) (Or.inl ⟨by rfl, ?_⟩) (by assumption) ?_
                 rotate_left
                 · (intro ww hSw; (try dsimp only at hSw); go_simp; (try with_reducible rfl))
                 try simp only [Act.put, List.setIfInBounds_toArray, List.set_cons_zero, List.set_cons_succ])
              | (refine wpAnyH_ready (rs := [21]) (by kernel_rfl) (by simp) (AllReadyH.cons (by simp only [List.getElem?_toArray, List.getElem?_cons_succ, List.getElem?_cons_zero]; rfl) (fun K hK => ?_) AllReadyH.nil)
                 go_simp
                 first
                   | (go_at_call 9; (with_reducible refine (M.out _ (H1.out.below hHeld.1.1 (Nat.le_refl _)) (H2.out.below hHeld.1.1 (Nat.le_refl _))).mono ?_); rintro e w9 ⟨rfl, hb⟩; rw [E.out])
                   | (go_at_call 11; (with_reducible refine (Sm.out _ (H1.out.below hHeld.1.1 (Nat.le_refl _)) (H2.out.below hHeld.1.1 (Nat.le_refl _))).mono ?_); rintro e w9 ⟨rfl, hb⟩; rw [T.out])
                 try go_wp2_with fail
                 refine hK.out _ _ (by (first | (exact Four.drew HQ.out) | (exact Four.call hHeld hb))) (fun hHeld => ?_)
                 clear hK K
                 try simp only [Act.put, List.setIfInBounds_toArray, List.set_cons_zero, List.set_cons_succ])
            first
              | (refine wpAnyH_take (i := 22) (v := undef) (by simp only [List.getElem?_toArray, List.getElem?_cons_succ, List.getElem?_cons_zero]; rfl) (by kernel_rfl) (by kernel_rfl) (by kernel_rfl) (fun _ _ _ h => h) (Or.inr ⟨by rfl, rfl⟩) (by assumption) ?_; try simp only [Act.put, List.setIfInBounds_toArray, List.set_cons_zero, List.set_cons_succ])
              | (refine wpAnyH_take (i := 22) (v := ?_) (by simp only [List.getElem?_toArray, List.getElem?_cons_succ, List.getElem?_cons_zero]; rfl) (by kernel_rfl) (by kernel_rfl) (by kernel_rfl) (fun _ _ _ h => h) (Or.inl ⟨by rfl, ?_⟩) (by assumption) ?_
                 rotate_left
                 · (intro ww hSw; (try dsimp only at hSw); go_simp; (try with_reducible rfl))
                 try simp only [Act.put, List.setIfInBounds_toArray, List.set_cons_zero, List.set_cons_succ])
              | (refine wpAnyH_ready (rs := [22]) (by kernel_rfl) (by simp) (AllReadyH.cons (by simp only [List.getElem?_toArray, List.getElem?_cons_succ, List.getElem?_cons_zero]; rfl) (fun K hK => ?_) AllReadyH.nil)
                 go_simp
                 first
                   | (go_at_call 9; (with_reducible refine (M.out _ (H1.out.below hHeld.1.1 (Nat.le_refl _)) (H2.out.below hHeld.1.1 (Nat.le_refl _))).mono ?_); rintro e w9 ⟨rfl, hb⟩; rw [E.out])
                   | (go_at_call 11; (with_reducible refine (Sm.out _ (H1.out.below hHeld.1.1 (Nat.le_refl _)) (H2.out.below hHeld.1.1 (Nat.le_refl _))).mono ?_); rintro e w9 ⟨rfl, hb⟩; rw [T.out])
                 try go_wp2_with fail
                 refine hK.out _ _ (by (first | (exact Four.drew HQ.out) | (exact Four.call hHeld hb))) (fun hHeld => ?_)
                 clear hK K
                 try simp only [Act.put, List.setIfInBounds_toArray, List.set_cons_zero, List.set_cons_succ])
            first
              | (refine wpAnyH_take (i := 23) (v := undef) (by simp only [List.getElem?_toArray, List.getElem?_cons_succ, List.getElem?_cons_zero]; rfl) (by kernel_rfl) (by kernel_rfl) (by kernel_rfl) (fun _ _ _ h => h) (Or.inr ⟨by rfl, rfl⟩) (by assumption) ?_; try simp only [Act.put, List.setIfInBounds_toArray, List.set_cons_zero, List.set_cons_succ])
              | (refine wpAnyH_take (i := 23) (v := ?_) (by simp only [List.getElem?_toArray, List.getElem?_cons_succ, List.getElem?_cons_zero]; rfl) (by kernel_rfl) (by kernel_rfl) (by kernel_rfl) (fun _ _ _ h => h) (Or.inl ⟨by rfl, ?_⟩) (by assumption) ?_
                 rotate_left
                 · (intro ww hSw; (try dsimp only at hSw); go_simp; (try with_reducible rfl))
                 try simp only [Act.put, List.setIfInBounds_toArray, List.set_cons_zero, List.set_cons_succ])
              | (refine wpAnyH_ready (rs := [23]) (by kernel_rfl) (by simp) (AllReadyH.cons (by simp only [List.getElem?_toArray, List.getElem?_cons_succ, List.getElem?_cons_zero]; rfl) (fun K hK => ?_) AllReadyH.nil)
                 go_simp
                 first
                   | (go_at_call 9; (with_reducible refine (M.out _ (H1.out.below hHeld.1.1 (Nat.le_refl _)) (H2.out.below hHeld.1.1 (Nat.le_refl _))).mono ?_); rintro e w9 ⟨rfl, hb⟩; rw [E.out])
                   | (go_at_call 11; (with_reducible refine (Sm.out _ (H1.out.below hHeld.1.1 (Nat.le_refl _)) (H2.out.below hHeld.1.1 (Nat.le_refl _))).mono ?_); rintro e w9 ⟨rfl, hb⟩; rw [T.out])
                 try go_wp2_with fail
                 refine hK.out _ _ (by (first | (exact Four.drew HQ.out) | (exact Four.call hHeld hb))) (fun hHeld => ?_)
                 clear hK K
                 try simp only [Act.put, List.setIfInBounds_toArray, List.set_cons_zero, List.set_cons_succ])
            first
              | (refine wpAnyH_take (i := 24) (v := undef) (by simp only [List.getElem?_toArray, List.getElem?_cons_succ, List.getElem?_cons_zero]; rfl) (by kernel_rfl) (by kernel_rfl) (by kernel_rfl) (fun _ _ _ h => h) (Or.inr ⟨by rfl, rfl⟩) (by assumption) ?_; try simp only [Act.put, List.setIfInBounds_toArray, List.set_cons_zero, List.set_cons_succ])
              | (refine wpAnyH_take (i := 24) (v := ?_) (by simp only [List.getElem?_toArray, List.getElem?_cons_succ, List.getElem?_cons_zero]; rfl) (by kernel_rfl) (by kernel_rfl) (by kernel_rfl) (fun _ _ _ h => h) (Or.inl ⟨by rfl, ?_⟩) (by assumption) ?_
                 rotate_left
                 · (intro ww hSw; (try dsimp only at hSw); go_simp; (try with_reducible rfl))
                 try simp only [Act.put, List.setIfInBounds_toArray, List.set_cons_zero, List.set_cons_succ])
              | (refine wpAnyH_ready (rs := [24]) (by kernel_rfl) (by simp) (AllReadyH.cons (by simp only [List.getElem?_toArray, List.getElem?_cons_succ, List.getElem?_cons_zero]; rfl) (fun K hK => ?_) AllReadyH.nil)
                 go_simp
                 first
                   | (go_at_call 9; (with_reducible refine (M.out _ (H1.out.below hHeld.1.1 (Nat.le_refl _)) (H2.out.below hHeld.1.1 (Nat.le_refl _))).mono ?_); rintro e w9 ⟨rfl, hb⟩; rw [E.out])
                   | (go_at_call 11; (with_reducible refine (Sm.out _ (H1.out.below hHeld.1.1 (Nat.le_refl _)) (H2.out.below hHeld.1.1 (Nat.le_refl _))).mono ?_); rintro e w9 ⟨rfl, hb⟩; rw [T.out])
                 try go_wp2_with fail
                 refine hK.out _ _ (by (first | (exact Four.drew HQ.out) | (exact Four.call hHeld hb))) (fun hHeld => ?_)
                 clear hK K
                 try simp only [Act.put, List.setIfInBounds_toArray, List.set_cons_zero, List.set_cons_succ])
            first
              | (refine wpAnyH_take (i := 25) (v := undef) (by simp only [List.getElem?_toArray, List.getElem?_cons_succ, List.getElem?_cons_zero]; rfl) (by kernel_rfl) (by kernel_rfl) (by kernel_rfl) (fun _ _ _ h => h) (Or.inr ⟨by rfl, rfl⟩) (by assumption) ?_; try simp only [Act.put, List.setIfInBounds_toArray, List.set_cons_zero, List.set_cons_succ])
              | (refine wpAnyH_take (i := 25) (v := ?_) (by simp only [List.getElem?_toArray, List.getElem?_cons_succ, List.getElem?_cons_zero]; rfl) (by kernel_rfl) (by kernel_rfl) (by kernel_rfl) (fun _ _ _ h => h) (Or.inl ⟨by rfl, ?_⟩) (by assumption) ?_
                 rotate_left
                 · (intro ww hSw; (try dsimp only at hSw); go_simp; (try with_reducible rfl))
                 try simp only [Act.put, List.setIfInBounds_toArray, List.set_cons_zero, List.set_cons_succ])
              | (refine wpAnyH_ready (rs := [25]) (by kernel_rfl) (by simp) (AllReadyH.cons (by simp only [List.getElem?_toArray, List.getElem?_cons_succ, List.getElem?_cons_zero]; rfl) (fun K hK => ?_) AllReadyH.nil)
                 go_simp
                 first
                   | (go_at_call 9; (with_reducible refine (M.out _ (H1.out.below hHeld.1.1 (Nat.le_refl _)) (H2.out.below hHeld.1.1 (Nat.le_refl _))).mono ?_); rintro e w9 ⟨rfl, hb⟩; rw [E.out])
                   | (go_at_call 11; (with_reducible refine (Sm.out _ (H1.out.below hHeld.1.1 (Nat.le_refl _)) (H2.out.below hHeld.1.1 (Nat.le_refl _))).mono ?_); rintro e w9 ⟨rfl, hb⟩; rw [T.out])
                 try go_wp2_with fail
                 refine hK.out _ _ (by (first | (exact Four.drew HQ.out) | (exact Four.call hHeld hb))) (fun hHeld => ?_)
                 clear hK K
                 try simp only [Act.put, List.setIfInBounds_toArray, List.set_cons_zero, List.set_cons_succ])
            first
              | (refine wpAnyH_take (i := 26) (v := undef) (by simp only [List.getElem?_toArray, List.getElem?_cons_succ, List.getElem?_cons_zero]; rfl) (by kernel_rfl) (by kernel_rfl) (by kernel_rfl) (fun _ _ _ h => h) (Or.inr ⟨by rfl, rfl⟩) (by assumption) ?_; try simp only [Act.put, List.setIfInBounds_toArray, List.set_cons_zero, List.set_cons_succ])
              | (refine wpAnyH_take (i := 26) (v := ?_) (by simp only [List.getElem?_toArray, List.getElem?_cons_succ, List.getElem?_cons_zero]; rfl) (by kernel_rfl) (by kernel_rfl) (by kernel_rfl) (fun _ _ _ h => h) (Or.inl ⟨by rfl, ?_⟩) (by assumption) ?_
                 rotate_left
                 · (intro ww hSw; (try dsimp only at hSw); go_simp; (try with_reducible rfl))
                 try simp only [Act.put, List.setIfInBounds_toArray, List.set_cons_zero, List.set_cons_succ])
              | (refine wpAnyH_ready (rs := [26]) (by kernel_rfl) (by simp) (AllReadyH.cons (by simp only [List.getElem?_toArray, List.getElem?_cons_succ, List.getElem?_cons_zero]; rfl) (fun K hK => ?_) AllReadyH.nil)
                 go_simp
                 first
                   | (go_at_call 9; (with_reducible refine (M.out _ (H1.out.below hHeld.1.1 (Nat.le_refl _)) (H2.out.below hHeld.1.1 (Nat.le_refl _))).mono ?_); rintro e w9 ⟨rfl, hb⟩; rw [E.out])
                   | (go_at_call 11; (with_reducible refine (Sm.out _ (H1.out.below hHeld.1.1 (Nat.le_refl _)) (H2.out.below hHeld.1.1 (Nat.le_refl _))).mono ?_); rintro e w9 ⟨rfl, hb⟩; rw [T.out])
                 try go_wp2_with fail
                 refine hK.out _ _ (by (first | (exact Four.drew HQ.out) | (exact Four.call hHeld hb))) (fun hHeld => ?_)
                 clear hK K
                 try simp only [Act.put, List.setIfInBounds_toArray, List.set_cons_zero, List.set_cons_succ])
            first
              | (refine wpAnyH_take (i := 20) (v := undef) (by simp only [List.getElem?_toArray, List.getElem?_cons_succ, List.getElem?_cons_zero]; rfl) (by kernel_rfl) (by kernel_rfl) (by kernel_rfl) (fun _ _ _ h => h) (Or.inr ⟨by rfl, rfl⟩) (by assumption) ?_; try simp only [Act.put, List.setIfInBounds_toArray, List.set_cons_zero, List.set_cons_succ])
              | (refine wpAnyH_take (i := 20) (v := ?_) (by simp only [List.getElem?_toArray, List.getElem?_cons_succ, List.getElem?_cons_zero]; rfl) (by kernel_rfl) (by kernel_rfl) (by kernel_rfl) (fun _ _ _ h => h) (Or.inl ⟨by rfl, ?_⟩) (by assumption) ?_
                 rotate_left
                 · (intro ww hSw; (try dsimp only at hSw); go_simp; (try with_reducible rfl))
                 try simp only [Act.put, List.setIfInBounds_toArray, List.set_cons_zero, List.set_cons_succ])
              | (refine wpAnyH_ready (rs := [20]) (by kernel_rfl) (by simp) (AllReadyH.cons (by simp only [List.getElem?_toArray, List.getElem?_cons_succ, List.getElem?_cons_zero]; rfl) (fun K hK => ?_) AllReadyH.nil)
                 go_simp
                 first
                   | (go_at_call 9; (with_reducible refine (M.out _ (H1.out.below hHeld.1.1 (Nat.le_refl _)) (H2.out.below hHeld.1.1 (Nat.le_refl _))).mono ?_); rintro e w9 ⟨rfl, hb⟩; rw [E.out])
                   | (go_at_call 11; (with_reducible refine (Sm.out _ (H1.out.below hHeld.1.1 (Nat.le_refl _)) (H2.out.below hHeld.1.1 (Nat.le_refl _))).mono ?_); rintro e w9 ⟨rfl, hb⟩; rw [T.out])
                 try go_wp2_with fail
                 refine hK.out _ _ (by (first | (exact Four.drew HQ.out) | (exact Four.call hHeld hb))) (fun hHeld => ?_)
                 clear hK K
                 try simp only [Act.put, List.setIfInBounds_toArray, List.set_cons_zero, List.set_cons_succ])
            first
              | (refine wpAnyH_take (i := 27) (v := undef) (by simp only [List.getElem?_toArray, List.getElem?_cons_succ, List.getElem?_cons_zero]; rfl) (by kernel_rfl) (by kernel_rfl) (by kernel_rfl) (fun _ _ _ h => h) (Or.inr ⟨by rfl, rfl⟩) (by assumption) ?_; try simp only [Act.put, List.setIfInBounds_toArray, List.set_cons_zero, List.set_cons_succ])
              | (refine wpAnyH_take (i := 27) (v := ?_) (by simp only [List.getElem?_toArray, List.getElem?_cons_succ, List.getElem?_cons_zero]; rfl) (by kernel_rfl) (by kernel_rfl) (by kernel_rfl) (fun _ _ _ h => h) (Or.inl ⟨by rfl, ?_⟩) (by assumption) ?_
                 rotate_left
                 · (intro ww hSw; (try dsimp only at hSw); go_simp; (try with_reducible rfl))
                 try simp only [Act.put, List.setIfInBounds_toArray, List.set_cons_zero, List.set_cons_succ])
              | (refine wpAnyH_ready (rs := [27]) (by kernel_rfl) (by simp) (AllReadyH.cons (by simp only [List.getElem?_toArray, List.getElem?_cons_succ, List.getElem?_cons_zero]; rfl) (fun K hK => ?_) AllReadyH.nil)
                 go_simp
                 first
                   | (go_at_call 9; (with_reducible refine (M.out _ (H1.out.below hHeld.1.1 (Nat.le_refl _)) (H2.out.below hHeld.1.1 (Nat.le_refl _))).mono ?_); rintro e w9 ⟨rfl, hb⟩; rw [E.out])
                   | (go_at_call 11; (with_reducible refine (Sm.out _ (H1.out.below hHeld.1.1 (Nat.le_refl _)) (H2.out.below hHeld.1.1 (Nat.le_refl _))).mono ?_); rintro e w9 ⟨rfl, hb⟩; rw [T.out])
                 try go_wp2_with fail
                 refine hK.out _ _ (by (first | (exact Four.drew HQ.out) | (exact Four.call hHeld hb))) (fun hHeld => ?_)
                 clear hK K
                 try simp only [Act.put, List.setIfInBounds_toArray, List.set_cons_zero, List.set_cons_succ])
            first
              | (refine wpAnyH_take (i := 28) (v := undef) (by simp only [List.getElem?_toArray, List.getElem?_cons_succ, List.getElem?_cons_zero]; rfl) (by kernel_rfl) (by kernel_rfl) (by kernel_rfl) (fun _ _ _ h => h) (Or.inr ⟨by rfl, rfl⟩) (by assumption) ?_; try simp only [Act.put, List.setIfInBounds_toArray, List.set_cons_zero, List.set_cons_succ])
              | (refine wpAnyH_take (i := 28) (v := ?_) (by simp only [List.getElem?_toArray, List.getElem?_cons_succ, List.getElem?_cons_zero]; rfl) (by kernel_rfl) (by kernel_rfl) (by kernel_rfl) (fun _ _ _ h => h) (Or.inl ⟨by rfl, ?_⟩) (by assumption) ?_
                 rotate_left
                 · (intro ww hSw; (try dsimp only at hSw); go_simp; (try with_reducible rfl))
                 try simp only [Act.put, List.setIfInBounds_toArray, List.set_cons_zero, List.set_cons_succ])
              | (refine wpAnyH_ready (rs := [28]) (by kernel_rfl) (by simp) (AllReadyH.cons (by simp only [List.getElem?_toArray, List.getElem?_cons_succ, List.getElem?_cons_zero]; rfl) (fun K hK => ?_) AllReadyH.nil)
                 go_simp
                 first
                   | (go_at_call 9; (with_reducible refine (M.out _ (H1.out.below hHeld.1.1 (Nat.le_refl _)) (H2.out.below hHeld.1.1 (Nat.le_refl _))).mono ?_); rintro e w9 ⟨rfl, hb⟩; rw [E.out])
                   | (go_at_call 11; (with_reducible refine (Sm.out _ (H1.out.below hHeld.1.1 (Nat.le_refl _)) (H2.out.below hHeld.1.1 (Nat.le_refl _))).mono ?_); rintro e w9 ⟨rfl, hb⟩; rw [T.out])
                 try go_wp2_with fail
                 refine hK.out _ _ (by (first | (exact Four.drew HQ.out) | (exact Four.call hHeld hb))) (fun hHeld => ?_)
                 clear hK K
                 try simp only [Act.put, List.setIfInBounds_toArray, List.set_cons_zero, List.set_cons_succ])
            refine wpAnyH_done (by kernel_rfl) ?_ _
            refine NoPanic.normal ?_
            go_wp2_with fail
            go_roundw
            case rel => exact ⟨_, by omega, by omega, rfl, hHeld⟩
            case measure => simp [intOf]
        · have hx := Bool.eq_false_or_eq_true x2
          have M := M2
          have Sm := S2
          have E := E2
          have T := T2
          clear hj j0 j5 M0 M1 M2 M3 M4 S0 S1 S2 S3 S4 E0 E1 E2 E3 E4 T0 T1 T2 T3 T4
          rcases hx with hx | hx
          all_goals
            go_wp2_with fail
            refine wp_region_noPanic ?_
            refine wp_region_held_drew (S := (fun w' => (Below w.heap.size w w' ∧ w.heap.size < w'.heap.size ∧ ∀ j, w'.cell? ⟨w.heap.size, j, none⟩ = (#[.int .i64 k, .int .i64 d, .int .i64 i, .int .i64 b, .int .i64 h, .slice ga gs.length gn, .int .i64 p, .slice wa ws.length wn, .int .i64 f][j]? : Option Value)) ∧ (Below w.heap.size w w' ∧ w3.heap.size < w'.heap.size ∧ ∀ j, w'.cell? ⟨w3.heap.size, j, none⟩ = (#[.int .i64 k, .int .i64 d, .int .i64 ((n : Int) % 1073741824), .int .i64 b, .int .i64 h, .slice ga gs.length gn, .int .i64 p, .slice wa ws.length wn, .int .i64 f, .int .i64 k, .int .i64 d, .int .i64 i, .int .i64 ((n : Int) % 1073741824), .int .i64 h, .slice ga gs.length gn, .int .i64 p, .slice wa ws.length wn, .int .i64 f, .int .i64 k, .int .i64 d, .int .i64 i, .int .i64 b, .int .i64 ((n : Int) % 1073741824), .slice ga gs.length gn, .int .i64 p, .slice wa ws.length wn, .int .i64 f, .int .i64 k, .int .i64 d, .int .i64 i, .int .i64 b, .int .i64 h, .slice ga gs.length gn, .int .i64 ((n : Int) % 1073741824), .slice wa ws.length wn, .int .i64 f, .int .i64 k, .int .i64 d, .int .i64 i, .int .i64 b, .int .i64 h, .slice ga gs.length gn, .int .i64 p, .slice wa ws.length wn, .int .i64 ((n : Int) % 1073741824)][j]? : Option Value)) ∧ (Below w.heap.size w w' ∧ r < w'.heap.size ∧ ∀ j, w'.cell? ⟨r, j, none⟩ = (#[.bool x0, .bool x1, .bool x2, .bool x3, .bool x4][j]? : Option Value)) ∧ (Below w.heap.size w w' ∧ wc.heap.size < w'.heap.size ∧ ∀ j, w'.cell? ⟨wc.heap.size, j, none⟩ = (#[.int .i64 i, .int .i64 b, .int .i64 h, .int .i64 p, .int .i64 f][j]? : Option Value)))) (by kernel_rfl) (by (first | (exact Four.drew HQ.out) | (exact Four.call hHeld hb))) (fun hHeld => ?_)
            first
              | (refine wpAnyH_take (i := 0) (v := undef) (by simp only [List.getElem?_toArray, List.getElem?_cons_succ, List.getElem?_cons_zero]; rfl) (by kernel_rfl) (by kernel_rfl) (by kernel_rfl) (fun _ _ _ h => h) (Or.inr ⟨by rfl, rfl⟩) (by assumption) ?_; try simp only [Act.put, List.setIfInBounds_toArray, List.set_cons_zero, List.set_cons_succ])
              | (refine wpAnyH_take (i := 0) (v := ?_) (by simp only [List.getElem?_toArray, List.getElem?_cons_succ, List.getElem?_cons_zero]; rfl) (by kernel_rfl) (by kernel_rfl) (by kernel_rfl) (fun _ _ _ h => h) (Or.inl ⟨by rfl, ?_⟩) (by assumption) ?_
                 rotate_left
                 · (intro ww hSw; (try dsimp only at hSw); go_simp; (try with_reducible rfl))
                 try simp only [Act.put, List.setIfInBounds_toArray, List.set_cons_zero, List.set_cons_succ])
              | (refine wpAnyH_ready (rs := [0]) (by kernel_rfl) (by simp) (AllReadyH.cons (by simp only [List.getElem?_toArray, List.getElem?_cons_succ, List.getElem?_cons_zero]; rfl) (fun K hK => ?_) AllReadyH.nil)
                 go_simp
                 first
                   | (go_at_call 9; (with_reducible refine (M.out _ (H1.out.below hHeld.1.1 (Nat.le_refl _)) (H2.out.below hHeld.1.1 (Nat.le_refl _))).mono ?_); rintro e w9 ⟨rfl, hb⟩; rw [E.out])
                   | (go_at_call 11; (with_reducible refine (Sm.out _ (H1.out.below hHeld.1.1 (Nat.le_refl _)) (H2.out.below hHeld.1.1 (Nat.le_refl _))).mono ?_); rintro e w9 ⟨rfl, hb⟩; rw [T.out])
                 try go_wp2_with fail
                 refine hK.out _ _ (by (first | (exact Four.drew HQ.out) | (exact Four.call hHeld hb))) (fun hHeld => ?_)
                 clear hK K
                 try simp only [Act.put, List.setIfInBounds_toArray, List.set_cons_zero, List.set_cons_succ])
            first
              | (refine wpAnyH_take (i := 1) (v := undef) (by simp only [List.getElem?_toArray, List.getElem?_cons_succ, List.getElem?_cons_zero]; rfl) (by kernel_rfl) (by kernel_rfl) (by kernel_rfl) (fun _ _ _ h => h) (Or.inr ⟨by rfl, rfl⟩) (by assumption) ?_; try simp only [Act.put, List.setIfInBounds_toArray, List.set_cons_zero, List.set_cons_succ])
              | (refine wpAnyH_take (i := 1) (v := ?_) (by simp only [List.getElem?_toArray, List.getElem?_cons_succ, List.getElem?_cons_zero]; rfl) (by kernel_rfl) (by kernel_rfl) (by kernel_rfl) (fun _ _ _ h => h) (Or.inl ⟨by rfl, ?_⟩) (by assumption) ?_
                 rotate_left
                 · (intro ww hSw; (try dsimp only at hSw); go_simp; (try with_reducible rfl))
                 try simp only [Act.put, List.setIfInBounds_toArray, List.set_cons_zero, List.set_cons_succ])
              | (refine wpAnyH_ready (rs := [1]) (by kernel_rfl) (by simp) (AllReadyH.cons (by simp only [List.getElem?_toArray, List.getElem?_cons_succ, List.getElem?_cons_zero]; rfl) (fun K hK => ?_) AllReadyH.nil)
                 go_simp
                 first
                   | (go_at_call 9; (with_reducible refine (M.out _ (H1.out.below hHeld.1.1 (Nat.le_refl _)) (H2.out.below hHeld.1.1 (Nat.le_refl _))).mono ?_); rintro e w9 ⟨rfl, hb⟩; rw [E.out])
                   | (go_at_call 11; (with_reducible refine (Sm.out _ (H1.out.below hHeld.1.1 (Nat.le_refl _)) (H2.out.below hHeld.1.1 (Nat.le_refl _))).mono ?_); rintro e w9 ⟨rfl, hb⟩; rw [T.out])
                 try go_wp2_with fail
                 refine hK.out _ _ (by (first | (exact Four.drew HQ.out) | (exact Four.call hHeld hb))) (fun hHeld => ?_)
                 clear hK K
                 try simp only [Act.put, List.setIfInBounds_toArray, List.set_cons_zero, List.set_cons_succ])
            first
              | (refine wpAnyH_take (i := 2) (v := undef) (by simp only [List.getElem?_toArray, List.getElem?_cons_succ, List.getElem?_cons_zero]; rfl) (by kernel_rfl) (by kernel_rfl) (by kernel_rfl) (fun _ _ _ h => h) (Or.inr ⟨by rfl, rfl⟩) (by assumption) ?_; try simp only [Act.put, List.setIfInBounds_toArray, List.set_cons_zero, List.set_cons_succ])
              | (refine wpAnyH_take (i := 2) (v := ?_) (by simp only [List.getElem?_toArray, List.getElem?_cons_succ, List.getElem?_cons_zero]; rfl) (by kernel_rfl) (by kernel_rfl) (by kernel_rfl) (fun _ _ _ h => h) (Or.inl ⟨by rfl, ?_⟩) (by assumption) ?_
                 rotate_left
                 · (intro ww hSw; (try dsimp only at hSw); go_simp; (try with_reducible rfl))
                 try simp only [Act.put, List.setIfInBounds_toArray, List.set_cons_zero, List.set_cons_succ])
              | (refine wpAnyH_ready (rs := [2]) (by kernel_rfl) (by simp) (AllReadyH.cons (by simp only [List.getElem?_toArray, List.getElem?_cons_succ, List.getElem?_cons_zero]; rfl) (fun K hK => ?_) AllReadyH.nil)
                 go_simp
                 first
                   | (go_at_call 9; (with_reducible refine (M.out _ (H1.out.below hHeld.1.1 (Nat.le_refl _)) (H2.out.below hHeld.1.1 (Nat.le_refl _))).mono ?_); rintro e w9 ⟨rfl, hb⟩; rw [E.out])
                   | (go_at_call 11; (with_reducible refine (Sm.out _ (H1.out.below hHeld.1.1 (Nat.le_refl _)) (H2.out.below hHeld.1.1 (Nat.le_refl _))).mono ?_); rintro e w9 ⟨rfl, hb⟩; rw [T.out])
                 try go_wp2_with fail
                 refine hK.out _ _ (by (first | (exact Four.drew HQ.out) | (exact Four.call hHeld hb))) (fun hHeld => ?_)
                 clear hK K
                 try simp only [Act.put, List.setIfInBounds_toArray, List.set_cons_zero, List.set_cons_succ])
            first
              | (refine wpAnyH_take (i := 3) (v := undef) (by simp only [List.getElem?_toArray, List.getElem?_cons_succ, List.getElem?_cons_zero]; rfl) (by kernel_rfl) (by kernel_rfl) (by kernel_rfl) (fun _ _ _ h => h) (Or.inr ⟨by rfl, rfl⟩) (by assumption) ?_; try simp only [Act.put, List.setIfInBounds_toArray, List.set_cons_zero, List.set_cons_succ])
              | (refine wpAnyH_take (i := 3) (v := ?_) (by simp only [List.getElem?_toArray, List.getElem?_cons_succ, List.getElem?_cons_zero]; rfl) (by kernel_rfl) (by kernel_rfl) (by kernel_rfl) (fun _ _ _ h => h) (Or.inl ⟨by rfl, ?_⟩) (by assumption) ?_
                 rotate_left
                 · (intro ww hSw; (try dsimp only at hSw); go_simp; (try with_reducible rfl))
                 try simp only [Act.put, List.setIfInBounds_toArray, List.set_cons_zero, List.set_cons_succ])
              | (refine wpAnyH_ready (rs := [3]) (by kernel_rfl) (by simp) (AllReadyH.cons (by simp only [List.getElem?_toArray, List.getElem?_cons_succ, List.getElem?_cons_zero]; rfl) (fun K hK => ?_) AllReadyH.nil)
                 go_simp
                 first
                   | (go_at_call 9; (with_reducible refine (M.out _ (H1.out.below hHeld.1.1 (Nat.le_refl _)) (H2.out.below hHeld.1.1 (Nat.le_refl _))).mono ?_); rintro e w9 ⟨rfl, hb⟩; rw [E.out])
                   | (go_at_call 11; (with_reducible refine (Sm.out _ (H1.out.below hHeld.1.1 (Nat.le_refl _)) (H2.out.below hHeld.1.1 (Nat.le_refl _))).mono ?_); rintro e w9 ⟨rfl, hb⟩; rw [T.out])
                 try go_wp2_with fail
                 refine hK.out _ _ (by (first | (exact Four.drew HQ.out) | (exact Four.call hHeld hb))) (fun hHeld => ?_)
                 clear hK K
                 try simp only [Act.put, List.setIfInBounds_toArray, List.set_cons_zero, List.set_cons_succ])
            first
              | (refine wpAnyH_take (i := 5) (v := undef) (by simp only [List.getElem?_toArray, List.getElem?_cons_succ, List.getElem?_cons_zero]; rfl) (by kernel_rfl) (by kernel_rfl) (by kernel_rfl) (fun _ _ _ h => h) (Or.inr ⟨by rfl, rfl⟩) (by assumption) ?_; try simp only [Act.put, List.setIfInBounds_toArray, List.set_cons_zero, List.set_cons_succ])
              | (refine wpAnyH_take (i := 5) (v := ?_) (by simp only [List.getElem?_toArray, List.getElem?_cons_succ, List.getElem?_cons_zero]; rfl) (by kernel_rfl) (by kernel_rfl) (by kernel_rfl) (fun _ _ _ h => h) (Or.inl ⟨by rfl, ?_⟩) (by assumption) ?_
                 rotate_left
                 · (intro ww hSw; (try dsimp only at hSw); go_simp; (try with_reducible rfl))
                 try simp only [Act.put, List.setIfInBounds_toArray, List.set_cons_zero, List.set_cons_succ])
              | (refine wpAnyH_ready (rs := [5]) (by kernel_rfl) (by simp) (AllReadyH.cons (by simp only [List.getElem?_toArray, List.getElem?_cons_succ, List.getElem?_cons_zero]; rfl) (fun K hK => ?_) AllReadyH.nil)
                 go_simp
                 first
                   | (go_at_call 9; (with_reducible refine (M.out _ (H1.out.below hHeld.1.1 (Nat.le_refl _)) (H2.out.below hHeld.1.1 (Nat.le_refl _))).mono ?_); rintro e w9 ⟨rfl, hb⟩; rw [E.out])
                   | (go_at_call 11; (with_reducible refine (Sm.out _ (H1.out.below hHeld.1.1 (Nat.le_refl _)) (H2.out.below hHeld.1.1 (Nat.le_refl _))).mono ?_); rintro e w9 ⟨rfl, hb⟩; rw [T.out])
                 try go_wp2_with fail
                 refine hK.out _ _ (by (first | (exact Four.drew HQ.out) | (exact Four.call hHeld hb))) (fun hHeld => ?_)
                 clear hK K
                 try simp only [Act.put, List.setIfInBounds_toArray, List.set_cons_zero, List.set_cons_succ])
            first
              | (refine wpAnyH_take (i := 6) (v := undef) (by simp only [List.getElem?_toArray, List.getElem?_cons_succ, List.getElem?_cons_zero]; rfl) (by kernel_rfl) (by kernel_rfl) (by kernel_rfl) (fun _ _ _ h => h) (Or.inr ⟨by rfl, rfl⟩) (by assumption) ?_; try simp only [Act.put, List.setIfInBounds_toArray, List.set_cons_zero, List.set_cons_succ])
              | (refine wpAnyH_take (i := 6) (v := ?_) (by simp only [List.getElem?_toArray, List.getElem?_cons_succ, List.getElem?_cons_zero]; rfl) (by kernel_rfl) (by kernel_rfl) (by kernel_rfl) (fun _ _ _ h => h) (Or.inl ⟨by rfl, ?_⟩) (by assumption) ?_
                 rotate_left
                 · (intro ww hSw; (try dsimp only at hSw); go_simp; (try with_reducible rfl))
                 try simp only [Act.put, List.setIfInBounds_toArray, List.set_cons_zero, List.set_cons_succ])
              | (refine wpAnyH_ready (rs := [6]) (by kernel_rfl) (by simp) (AllReadyH.cons (by simp only [List.getElem?_toArray, List.getElem?_cons_succ, List.getElem?_cons_zero]; rfl) (fun K hK => ?_) AllReadyH.nil)
                 go_simp
                 first
                   | (go_at_call 9; (with_reducible refine (M.out _ (H1.out.below hHeld.1.1 (Nat.le_refl _)) (H2.out.below hHeld.1.1 (Nat.le_refl _))).mono ?_); rintro e w9 ⟨rfl, hb⟩; rw [E.out])
                   | (go_at_call 11; (with_reducible refine (Sm.out _ (H1.out.below hHeld.1.1 (Nat.le_refl _)) (H2.out.below hHeld.1.1 (Nat.le_refl _))).mono ?_); rintro e w9 ⟨rfl, hb⟩; rw [T.out])
                 try go_wp2_with fail
                 refine hK.out _ _ (by (first | (exact Four.drew HQ.out) | (exact Four.call hHeld hb))) (fun hHeld => ?_)
                 clear hK K
                 try simp only [Act.put, List.setIfInBounds_toArray, List.set_cons_zero, List.set_cons_succ])
            first
              | (refine wpAnyH_take (i := 7) (v := undef) (by simp only [List.getElem?_toArray, List.getElem?_cons_succ, List.getElem?_cons_zero]; rfl) (by kernel_rfl) (by kernel_rfl) (by kernel_rfl) (fun _ _ _ h => h) (Or.inr ⟨by rfl, rfl⟩) (by assumption) ?_; try simp only [Act.put, List.setIfInBounds_toArray, List.set_cons_zero, List.set_cons_succ])
              | (refine wpAnyH_take (i := 7) (v := ?_) (by simp only [List.getElem?_toArray, List.getElem?_cons_succ, List.getElem?_cons_zero]; rfl) (by kernel_rfl) (by kernel_rfl) (by kernel_rfl) (fun _ _ _ h => h) (Or.inl ⟨by rfl, ?_⟩) (by assumption) ?_
                 rotate_left
                 · (intro ww hSw; (try dsimp only at hSw); go_simp; (try with_reducible rfl))
                 try simp only [Act.put, List.setIfInBounds_toArray, List.set_cons_zero, List.set_cons_succ])
              | (refine wpAnyH_ready (rs := [7]) (by kernel_rfl) (by simp) (AllReadyH.cons (by simp only [List.getElem?_toArray, List.getElem?_cons_succ, List.getElem?_cons_zero]; rfl) (fun K hK => ?_) AllReadyH.nil)
                 go_simp
                 first
                   | (go_at_call 9; (with_reducible refine (M.out _ (H1.out.below hHeld.1.1 (Nat.le_refl _)) (H2.out.below hHeld.1.1 (Nat.le_refl _))).mono ?_); rintro e w9 ⟨rfl, hb⟩; rw [E.out])
                   | (go_at_call 11; (with_reducible refine (Sm.out _ (H1.out.below hHeld.1.1 (Nat.le_refl _)) (H2.out.below hHeld.1.1 (Nat.le_refl _))).mono ?_); rintro e w9 ⟨rfl, hb⟩; rw [T.out])
                 try go_wp2_with fail
                 refine hK.out _ _ (by (first | (exact Four.drew HQ.out) | (exact Four.call hHeld hb))) (fun hHeld => ?_)
                 clear hK K
                 try simp only [Act.put, List.setIfInBounds_toArray, List.set_cons_zero, List.set_cons_succ])
            first
              | (refine wpAnyH_take (i := 8) (v := undef) (by simp only [List.getElem?_toArray, List.getElem?_cons_succ, List.getElem?_cons_zero]; rfl) (by kernel_rfl) (by kernel_rfl) (by kernel_rfl) (fun _ _ _ h => h) (Or.inr ⟨by rfl, rfl⟩) (by assumption) ?_; try simp only [Act.put, List.setIfInBounds_toArray, List.set_cons_zero, List.set_cons_succ])
              | (refine wpAnyH_take (i := 8) (v := ?_) (by simp only [List.getElem?_toArray, List.getElem?_cons_succ, List.getElem?_cons_zero]; rfl) (by kernel_rfl) (by kernel_rfl) (by kernel_rfl) (fun _ _ _ h => h) (Or.inl ⟨by rfl, ?_⟩) (by assumption) ?_
                 rotate_left
                 · (intro ww hSw; (try dsimp only at hSw); go_simp; (try with_reducible rfl))
                 try simp only [Act.put, List.setIfInBounds_toArray, List.set_cons_zero, List.set_cons_succ])
              | (refine wpAnyH_ready (rs := [8]) (by kernel_rfl) (by simp) (AllReadyH.cons (by simp only [List.getElem?_toArray, List.getElem?_cons_succ, List.getElem?_cons_zero]; rfl) (fun K hK => ?_) AllReadyH.nil)
                 go_simp
                 first
                   | (go_at_call 9; (with_reducible refine (M.out _ (H1.out.below hHeld.1.1 (Nat.le_refl _)) (H2.out.below hHeld.1.1 (Nat.le_refl _))).mono ?_); rintro e w9 ⟨rfl, hb⟩; rw [E.out])
                   | (go_at_call 11; (with_reducible refine (Sm.out _ (H1.out.below hHeld.1.1 (Nat.le_refl _)) (H2.out.below hHeld.1.1 (Nat.le_refl _))).mono ?_); rintro e w9 ⟨rfl, hb⟩; rw [T.out])
                 try go_wp2_with fail
                 refine hK.out _ _ (by (first | (exact Four.drew HQ.out) | (exact Four.call hHeld hb))) (fun hHeld => ?_)
                 clear hK K
                 try simp only [Act.put, List.setIfInBounds_toArray, List.set_cons_zero, List.set_cons_succ])
            first
              | (refine wpAnyH_take (i := 4) (v := undef) (by simp only [List.getElem?_toArray, List.getElem?_cons_succ, List.getElem?_cons_zero]; rfl) (by kernel_rfl) (by kernel_rfl) (by kernel_rfl) (fun _ _ _ h => h) (Or.inr ⟨by rfl, rfl⟩) (by assumption) ?_; try simp only [Act.put, List.setIfInBounds_toArray, List.set_cons_zero, List.set_cons_succ])
              | (refine wpAnyH_take (i := 4) (v := ?_) (by simp only [List.getElem?_toArray, List.getElem?_cons_succ, List.getElem?_cons_zero]; rfl) (by kernel_rfl) (by kernel_rfl) (by kernel_rfl) (fun _ _ _ h => h) (Or.inl ⟨by rfl, ?_⟩) (by assumption) ?_
                 rotate_left
                 · (intro ww hSw; (try dsimp only at hSw); go_simp; (try with_reducible rfl))
                 try simp only [Act.put, List.setIfInBounds_toArray, List.set_cons_zero, List.set_cons_succ])
              | (refine wpAnyH_ready (rs := [4]) (by kernel_rfl) (by simp) (AllReadyH.cons (by simp only [List.getElem?_toArray, List.getElem?_cons_succ, List.getElem?_cons_zero]; rfl) (fun K hK => ?_) AllReadyH.nil)
                 go_simp
                 first
                   | (go_at_call 9; (with_reducible refine (M.out _ (H1.out.below hHeld.1.1 (Nat.le_refl _)) (H2.out.below hHeld.1.1 (Nat.le_refl _))).mono ?_); rintro e w9 ⟨rfl, hb⟩; rw [E.out])
                   | (go_at_call 11; (with_reducible refine (Sm.out _ (H1.out.below hHeld.1.1 (Nat.le_refl _)) (H2.out.below hHeld.1.1 (Nat.le_refl _))).mono ?_); rintro e w9 ⟨rfl, hb⟩; rw [T.out])
                 try go_wp2_with fail
                 refine hK.out _ _ (by (first | (exact Four.drew HQ.out) | (exact Four.call hHeld hb))) (fun hHeld => ?_)
                 clear hK K
                 try simp only [Act.put, List.setIfInBounds_toArray, List.set_cons_zero, List.set_cons_succ])
            first
              | (refine wpAnyH_take (i := 9) (v := undef) (by simp only [List.getElem?_toArray, List.getElem?_cons_succ, List.getElem?_cons_zero]; rfl) (by kernel_rfl) (by kernel_rfl) (by kernel_rfl) (fun _ _ _ h => h) (Or.inr ⟨by rfl, rfl⟩) (by assumption) ?_; try simp only [Act.put, List.setIfInBounds_toArray, List.set_cons_zero, List.set_cons_succ])
              | (refine wpAnyH_take (i := 9) (v := ?_) (by simp only [List.getElem?_toArray, List.getElem?_cons_succ, List.getElem?_cons_zero]; rfl) (by kernel_rfl) (by kernel_rfl) (by kernel_rfl) (fun _ _ _ h => h) (Or.inl ⟨by rfl, ?_⟩) (by assumption) ?_
                 rotate_left
                 · (intro ww hSw; (try dsimp only at hSw); go_simp; (try with_reducible rfl))
                 try simp only [Act.put, List.setIfInBounds_toArray, List.set_cons_zero, List.set_cons_succ])
              | (refine wpAnyH_ready (rs := [9]) (by kernel_rfl) (by simp) (AllReadyH.cons (by simp only [List.getElem?_toArray, List.getElem?_cons_succ, List.getElem?_cons_zero]; rfl) (fun K hK => ?_) AllReadyH.nil)
                 go_simp
                 first
                   | (go_at_call 9; (with_reducible refine (M.out _ (H1.out.below hHeld.1.1 (Nat.le_refl _)) (H2.out.below hHeld.1.1 (Nat.le_refl _))).mono ?_); rintro e w9 ⟨rfl, hb⟩; rw [E.out])
                   | (go_at_call 11; (with_reducible refine (Sm.out _ (H1.out.below hHeld.1.1 (Nat.le_refl _)) (H2.out.below hHeld.1.1 (Nat.le_refl _))).mono ?_); rintro e w9 ⟨rfl, hb⟩; rw [T.out])
                 try go_wp2_with fail
                 refine hK.out _ _ (by (first | (exact Four.drew HQ.out) | (exact Four.call hHeld hb))) (fun hHeld => ?_)
                 clear hK K
                 try simp only [Act.put, List.setIfInBounds_toArray, List.set_cons_zero, List.set_cons_succ])
            first
              | (refine wpAnyH_take (i := 10) (v := undef) (by simp only [List.getElem?_toArray, List.getElem?_cons_succ, List.getElem?_cons_zero]; rfl) (by kernel_rfl) (by kernel_rfl) (by kernel_rfl) (fun _ _ _ h => h) (Or.inr ⟨by rfl, rfl⟩) (by assumption) ?_; try simp only [Act.put, List.setIfInBounds_toArray, List.set_cons_zero, List.set_cons_succ])
              | (refine wpAnyH_take (i := 10) (v := ?_) (by simp only [List.getElem?_toArray, List.getElem?_cons_succ, List.getElem?_cons_zero]; rfl) (by kernel_rfl) (by kernel_rfl) (by kernel_rfl) (fun _ _ _ h => h) (Or.inl ⟨by rfl, ?_⟩) (by assumption) ?_
                 rotate_left
                 · (intro ww hSw; (try dsimp only at hSw); go_simp; (try with_reducible rfl))
                 try simp only [Act.put, List.setIfInBounds_toArray, List.set_cons_zero, List.set_cons_succ])
              | (refine wpAnyH_ready (rs := [10]) (by kernel_rfl) (by simp) (AllReadyH.cons (by simp only [List.getElem?_toArray, List.getElem?_cons_succ, List.getElem?_cons_zero]; rfl) (fun K hK => ?_) AllReadyH.nil)
                 go_simp
                 first
                   | (go_at_call 9; (with_reducible refine (M.out _ (H1.out.below hHeld.1.1 (Nat.le_refl _)) (H2.out.below hHeld.1.1 (Nat.le_refl _))).mono ?_); rintro e w9 ⟨rfl, hb⟩; rw [E.out])
                   | (go_at_call 11; (with_reducible refine (Sm.out _ (H1.out.below hHeld.1.1 (Nat.le_refl _)) (H2.out.below hHeld.1.1 (Nat.le_refl _))).mono ?_); rintro e w9 ⟨rfl, hb⟩; rw [T.out])
                 try go_wp2_with fail
                 refine hK.out _ _ (by (first | (exact Four.drew HQ.out) | (exact Four.call hHeld hb))) (fun hHeld => ?_)
                 clear hK K
                 try simp only [Act.put, List.setIfInBounds_toArray, List.set_cons_zero, List.set_cons_succ])
            first
              | (refine wpAnyH_take (i := 11) (v := undef) (by simp only [List.getElem?_toArray, List.getElem?_cons_succ, List.getElem?_cons_zero]; rfl) (by kernel_rfl) (by kernel_rfl) (by kernel_rfl) (fun _ _ _ h => h) (Or.inr ⟨by rfl, rfl⟩) (by assumption) ?_; try simp only [Act.put, List.setIfInBounds_toArray, List.set_cons_zero, List.set_cons_succ])
              | (refine wpAnyH_take (i := 11) (v := ?_) (by simp only [List.getElem?_toArray, List.getElem?_cons_succ, List.getElem?_cons_zero]; rfl) (by kernel_rfl) (by kernel_rfl) (by kernel_rfl) (fun _ _ _ h => h) (Or.inl ⟨by rfl, ?_⟩) (by assumption) ?_
                 rotate_left
                 · (intro ww hSw; (try dsimp only at hSw); go_simp; (try with_reducible rfl))
                 try simp only [Act.put, List.setIfInBounds_toArray, List.set_cons_zero, List.set_cons_succ])
              | (refine wpAnyH_ready (rs := [11]) (by kernel_rfl) (by simp) (AllReadyH.cons (by simp only [List.getElem?_toArray, List.getElem?_cons_succ, List.getElem?_cons_zero]; rfl) (fun K hK => ?_) AllReadyH.nil)
                 go_simp
                 first
                   | (go_at_call 9; (with_reducible refine (M.out _ (H1.out.below hHeld.1.1 (Nat.le_refl _)) (H2.out.below hHeld.1.1 (Nat.le_refl _))).mono ?_); rintro e w9 ⟨rfl, hb⟩; rw [E.out])
                   | (go_at_call 11; (with_reducible refine (Sm.out _ (H1.out.below hHeld.1.1 (Nat.le_refl _)) (H2.out.below hHeld.1.1 (Nat.le_refl _))).mono ?_); rintro e w9 ⟨rfl, hb⟩; rw [T.out])
                 try go_wp2_with fail
                 refine hK.out _ _ (by (first | (exact Four.drew HQ.out) | (exact Four.call hHeld hb))) (fun hHeld => ?_)
                 clear hK K
                 try simp only [Act.put, List.setIfInBounds_toArray, List.set_cons_zero, List.set_cons_succ])
            first
              | (refine wpAnyH_take (i := 12) (v := undef) (by simp only [List.getElem?_toArray, List.getElem?_cons_succ, List.getElem?_cons_zero]; rfl) (by kernel_rfl) (by kernel_rfl) (by kernel_rfl) (fun _ _ _ h => h) (Or.inr ⟨by rfl, rfl⟩) (by assumption) ?_; try simp only [Act.put, List.setIfInBounds_toArray, List.set_cons_zero, List.set_cons_succ])
              | (refine wpAnyH_take (i := 12) (v := ?_) (by simp only [List.getElem?_toArray, List.getElem?_cons_succ, List.getElem?_cons_zero]; rfl) (by kernel_rfl) (by kernel_rfl) (by kernel_rfl) (fun _ _ _ h => h) (Or.inl ⟨by rfl, ?_⟩) (by assumption) ?_
                 rotate_left
                 · (intro ww hSw; (try dsimp only at hSw); go_simp; (try with_reducible rfl))
                 try simp only [Act.put, List.setIfInBounds_toArray, List.set_cons_zero, List.set_cons_succ])
              | (refine wpAnyH_ready (rs := [12]) (by kernel_rfl) (by simp) (AllReadyH.cons (by simp only [List.getElem?_toArray, List.getElem?_cons_succ, List.getElem?_cons_zero]; rfl) (fun K hK => ?_) AllReadyH.nil)
                 go_simp
                 first
                   | (go_at_call 9; (with_reducible refine (M.out _ (H1.out.below hHeld.1.1 (Nat.le_refl _)) (H2.out.below hHeld.1.1 (Nat.le_refl _))).mono ?_); rintro e w9 ⟨rfl, hb⟩; rw [E.out])
                   | (go_at_call 11; (with_reducible refine (Sm.out _ (H1.out.below hHeld.1.1 (Nat.le_refl _)) (H2.out.below hHeld.1.1 (Nat.le_refl _))).mono ?_); rintro e w9 ⟨rfl, hb⟩; rw [T.out])
                 try go_wp2_with fail
                 refine hK.out _ _ (by (first | (exact Four.drew HQ.out) | (exact Four.call hHeld hb))) (fun hHeld => ?_)
                 clear hK K
                 try simp only [Act.put, List.setIfInBounds_toArray, List.set_cons_zero, List.set_cons_succ])
            first
              | (refine wpAnyH_take (i := 13) (v := undef) (by simp only [List.getElem?_toArray, List.getElem?_cons_succ, List.getElem?_cons_zero]; rfl) (by kernel_rfl) (by kernel_rfl) (by kernel_rfl) (fun _ _ _ h => h) (Or.inr ⟨by rfl, rfl⟩) (by assumption) ?_; try simp only [Act.put, List.setIfInBounds_toArray, List.set_cons_zero, List.set_cons_succ])
              | (refine wpAnyH_take (i := 13) (v := ?_) (by simp only [List.getElem?_toArray, List.getElem?_cons_succ, List.getElem?_cons_zero]; rfl) (by kernel_rfl) (by kernel_rfl) (by kernel_rfl) (fun _ _ _ h => h) (Or.inl ⟨by rfl, ?_⟩) (by assumption) ?_
                 rotate_left
                 · (intro ww hSw; (try dsimp only at hSw); go_simp; (try with_reducible rfl))
                 try simp only [Act.put, List.setIfInBounds_toArray, List.set_cons_zero, List.set_cons_succ])
              | (refine wpAnyH_ready (rs := [13]) (by kernel_rfl) (by simp) (AllReadyH.cons (by simp only [List.getElem?_toArray, List.getElem?_cons_succ, List.getElem?_cons_zero]; rfl) (fun K hK => ?_) AllReadyH.nil)
                 go_simp
                 first
                   | (go_at_call 9; (with_reducible refine (M.out _ (H1.out.below hHeld.1.1 (Nat.le_refl _)) (H2.out.below hHeld.1.1 (Nat.le_refl _))).mono ?_); rintro e w9 ⟨rfl, hb⟩; rw [E.out])
                   | (go_at_call 11; (with_reducible refine (Sm.out _ (H1.out.below hHeld.1.1 (Nat.le_refl _)) (H2.out.below hHeld.1.1 (Nat.le_refl _))).mono ?_); rintro e w9 ⟨rfl, hb⟩; rw [T.out])
                 try go_wp2_with fail
                 refine hK.out _ _ (by (first | (exact Four.drew HQ.out) | (exact Four.call hHeld hb))) (fun hHeld => ?_)
                 clear hK K
                 try simp only [Act.put, List.setIfInBounds_toArray, List.set_cons_zero, List.set_cons_succ])
            first
              | (refine wpAnyH_take (i := 14) (v := undef) (by simp only [List.getElem?_toArray, List.getElem?_cons_succ, List.getElem?_cons_zero]; rfl) (by kernel_rfl) (by kernel_rfl) (by kernel_rfl) (fun _ _ _ h => h) (Or.inr ⟨by rfl, rfl⟩) (by assumption) ?_; try simp only [Act.put, List.setIfInBounds_toArray, List.set_cons_zero, List.set_cons_succ])
              | (refine wpAnyH_take (i := 14) (v := ?_) (by simp only [List.getElem?_toArray, List.getElem?_cons_succ, List.getElem?_cons_zero]; rfl) (by kernel_rfl) (by kernel_rfl) (by kernel_rfl) (fun _ _ _ h => h) (Or.inl ⟨by rfl, ?_⟩) (by assumption) ?_
                 rotate_left
                 · (intro ww hSw; (try dsimp only at hSw); go_simp; (try with_reducible rfl))
                 try simp only [Act.put, List.setIfInBounds_toArray, List.set_cons_zero, List.set_cons_succ])
              | (refine wpAnyH_ready (rs := [14]) (by kernel_rfl) (by simp) (AllReadyH.cons (by simp only [List.getElem?_toArray, List.getElem?_cons_succ, List.getElem?_cons_zero]; rfl) (fun K hK => ?_) AllReadyH.nil)
                 go_simp
                 first
                   | (go_at_call 9; (with_reducible refine (M.out _ (H1.out.below hHeld.1.1 (Nat.le_refl _)) (H2.out.below hHeld.1.1 (Nat.le_refl _))).mono ?_); rintro e w9 ⟨rfl, hb⟩; rw [E.out])
                   | (go_at_call 11; (with_reducible refine (Sm.out _ (H1.out.below hHeld.1.1 (Nat.le_refl _)) (H2.out.below hHeld.1.1 (Nat.le_refl _))).mono ?_); rintro e w9 ⟨rfl, hb⟩; rw [T.out])
                 try go_wp2_with fail
                 refine hK.out _ _ (by (first | (exact Four.drew HQ.out) | (exact Four.call hHeld hb))) (fun hHeld => ?_)
                 clear hK K
                 try simp only [Act.put, List.setIfInBounds_toArray, List.set_cons_zero, List.set_cons_succ])
            first
              | (refine wpAnyH_take (i := 15) (v := undef) (by simp only [List.getElem?_toArray, List.getElem?_cons_succ, List.getElem?_cons_zero]; rfl) (by kernel_rfl) (by kernel_rfl) (by kernel_rfl) (fun _ _ _ h => h) (Or.inr ⟨by rfl, rfl⟩) (by assumption) ?_; try simp only [Act.put, List.setIfInBounds_toArray, List.set_cons_zero, List.set_cons_succ])
              | (refine wpAnyH_take (i := 15) (v := ?_) (by simp only [List.getElem?_toArray, List.getElem?_cons_succ, List.getElem?_cons_zero]; rfl) (by kernel_rfl) (by kernel_rfl) (by kernel_rfl) (fun _ _ _ h => h) (Or.inl ⟨by rfl, ?_⟩) (by assumption) ?_
                 rotate_left
                 · (intro ww hSw; (try dsimp only at hSw); go_simp; (try with_reducible rfl))
                 try simp only [Act.put, List.setIfInBounds_toArray, List.set_cons_zero, List.set_cons_succ])
              | (refine wpAnyH_ready (rs := [15]) (by kernel_rfl) (by simp) (AllReadyH.cons (by simp only [List.getElem?_toArray, List.getElem?_cons_succ, List.getElem?_cons_zero]; rfl) (fun K hK => ?_) AllReadyH.nil)
                 go_simp
                 first
                   | (go_at_call 9; (with_reducible refine (M.out _ (H1.out.below hHeld.1.1 (Nat.le_refl _)) (H2.out.below hHeld.1.1 (Nat.le_refl _))).mono ?_); rintro e w9 ⟨rfl, hb⟩; rw [E.out])
                   | (go_at_call 11; (with_reducible refine (Sm.out _ (H1.out.below hHeld.1.1 (Nat.le_refl _)) (H2.out.below hHeld.1.1 (Nat.le_refl _))).mono ?_); rintro e w9 ⟨rfl, hb⟩; rw [T.out])
                 try go_wp2_with fail
                 refine hK.out _ _ (by (first | (exact Four.drew HQ.out) | (exact Four.call hHeld hb))) (fun hHeld => ?_)
                 clear hK K
                 try simp only [Act.put, List.setIfInBounds_toArray, List.set_cons_zero, List.set_cons_succ])
            first
              | (refine wpAnyH_take (i := 16) (v := undef) (by simp only [List.getElem?_toArray, List.getElem?_cons_succ, List.getElem?_cons_zero]; rfl) (by kernel_rfl) (by kernel_rfl) (by kernel_rfl) (fun _ _ _ h => h) (Or.inr ⟨by rfl, rfl⟩) (by assumption) ?_; try simp only [Act.put, List.setIfInBounds_toArray, List.set_cons_zero, List.set_cons_succ])
              | (refine wpAnyH_take (i := 16) (v := ?_) (by simp only [List.getElem?_toArray, List.getElem?_cons_succ, List.getElem?_cons_zero]; rfl) (by kernel_rfl) (by kernel_rfl) (by kernel_rfl) (fun _ _ _ h => h) (Or.inl ⟨by rfl, ?_⟩) (by assumption) ?_
                 rotate_left
                 · (intro ww hSw; (try dsimp only at hSw); go_simp; (try with_reducible rfl))
                 try simp only [Act.put, List.setIfInBounds_toArray, List.set_cons_zero, List.set_cons_succ])
              | (refine wpAnyH_ready (rs := [16]) (by kernel_rfl) (by simp) (AllReadyH.cons (by simp only [List.getElem?_toArray, List.getElem?_cons_succ, List.getElem?_cons_zero]; rfl) (fun K hK => ?_) AllReadyH.nil)
                 go_simp
                 first
                   | (go_at_call 9; (with_reducible refine (M.out _ (H1.out.below hHeld.1.1 (Nat.le_refl _)) (H2.out.below hHeld.1.1 (Nat.le_refl _))).mono ?_); rintro e w9 ⟨rfl, hb⟩; rw [E.out])
                   | (go_at_call 11; (with_reducible refine (Sm.out _ (H1.out.below hHeld.1.1 (Nat.le_refl _)) (H2.out.below hHeld.1.1 (Nat.le_refl _))).mono ?_); rintro e w9 ⟨rfl, hb⟩; rw [T.out])
                 try go_wp2_with fail
                 refine hK.out _ _ (by (first | (exact Four.drew HQ.out) | (exact Four.call hHeld hb))) (fun hHeld => ?_)
                 clear hK K
                 try simp only [Act.put, List.setIfInBounds_toArray, List.set_cons_zero, List.set_cons_succ])
            first
              | (refine wpAnyH_take (i := 17) (v := undef) (by simp only [List.getElem?_toArray, List.getElem?_cons_succ, List.getElem?_cons_zero]; rfl) (by kernel_rfl) (by kernel_rfl) (by kernel_rfl) (fun _ _ _ h => h) (Or.inr ⟨by rfl, rfl⟩) (by assumption) ?_; try simp only [Act.put, List.setIfInBounds_toArray, List.set_cons_zero, List.set_cons_succ])
              | (refine wpAnyH_take (i := 17) (v := ?_) (by simp only [List.getElem?_toArray, List.getElem?_cons_succ, List.getElem?_cons_zero]; rfl) (by kernel_rfl) (by kernel_rfl) (by kernel_rfl) (fun _ _ _ h => h) (Or.inl ⟨by rfl, ?_⟩) (by assumption) ?_
                 rotate_left
                 · (intro ww hSw; (try dsimp only at hSw); go_simp; (try with_reducible rfl))
                 try simp only [Act.put, List.setIfInBounds_toArray, List.set_cons_zero, List.set_cons_succ])
              | (refine wpAnyH_ready (rs := [17]) (by kernel_rfl) (by simp) (AllReadyH.cons (by simp only [List.getElem?_toArray, List.getElem?_cons_succ, List.getElem?_cons_zero]; rfl) (fun K hK => ?_) AllReadyH.nil)
                 go_simp
                 first
                   | (go_at_call 9; (with_reducible refine (M.out _ (H1.out.below hHeld.1.1 (Nat.le_refl _)) (H2.out.below hHeld.1.1 (Nat.le_refl _))).mono ?_); rintro e w9 ⟨rfl, hb⟩; rw [E.out])
                   | (go_at_call 11; (with_reducible refine (Sm.out _ (H1.out.below hHeld.1.1 (Nat.le_refl _)) (H2.out.below hHeld.1.1 (Nat.le_refl _))).mono ?_); rintro e w9 ⟨rfl, hb⟩; rw [T.out])
                 try go_wp2_with fail
                 refine hK.out _ _ (by (first | (exact Four.drew HQ.out) | (exact Four.call hHeld hb))) (fun hHeld => ?_)
                 clear hK K
                 try simp only [Act.put, List.setIfInBounds_toArray, List.set_cons_zero, List.set_cons_succ])
            first
              | (refine wpAnyH_take (i := 18) (v := undef) (by simp only [List.getElem?_toArray, List.getElem?_cons_succ, List.getElem?_cons_zero]; rfl) (by kernel_rfl) (by kernel_rfl) (by kernel_rfl) (fun _ _ _ h => h) (Or.inr ⟨by rfl, rfl⟩) (by assumption) ?_; try simp only [Act.put, List.setIfInBounds_toArray, List.set_cons_zero, List.set_cons_succ])
              | (refine wpAnyH_take (i := 18) (v := ?_) (by simp only [List.getElem?_toArray, List.getElem?_cons_succ, List.getElem?_cons_zero]; rfl) (by kernel_rfl) (by kernel_rfl) (by kernel_rfl) (fun _ _ _ h => h) (Or.inl ⟨by rfl, ?_⟩) (by assumption) ?_
                 rotate_left
                 · (intro ww hSw; (try dsimp only at hSw); go_simp; (try with_reducible rfl))
                 try simp only [Act.put, List.setIfInBounds_toArray, List.set_cons_zero, List.set_cons_succ])
              | (refine wpAnyH_ready (rs := [18]) (by kernel_rfl) (by simp) (AllReadyH.cons (by simp only [List.getElem?_toArray, List.getElem?_cons_succ, List.getElem?_cons_zero]; rfl) (fun K hK => ?_) AllReadyH.nil)
                 go_simp
                 first
                   | (go_at_call 9; (with_reducible refine (M.out _ (H1.out.below hHeld.1.1 (Nat.le_refl _)) (H2.out.below hHeld.1.1 (Nat.le_refl _))).mono ?_); rintro e w9 ⟨rfl, hb⟩; rw [E.out])
                   | (go_at_call 11; (with_reducible refine (Sm.out _ (H1.out.below hHeld.1.1 (Nat.le_refl _)) (H2.out.below hHeld.1.1 (Nat.le_refl _))).mono ?_); rintro e w9 ⟨rfl, hb⟩; rw [T.out])
                 try go_wp2_with fail
                 refine hK.out _ _ (by (first | (exact Four.drew HQ.out) | (exact Four.call hHeld hb))) (fun hHeld => ?_)
                 clear hK K
                 try simp only [Act.put, List.setIfInBounds_toArray, List.set_cons_zero, List.set_cons_succ])
            first
              | (refine wpAnyH_take (i := 19) (v := undef) (by simp only [List.getElem?_toArray, List.getElem?_cons_succ, List.getElem?_cons_zero]; rfl) (by kernel_rfl) (by kernel_rfl) (by kernel_rfl) (fun _ _ _ h => h) (Or.inr ⟨by rfl, rfl⟩) (by assumption) ?_; try simp only [Act.put, List.setIfInBounds_toArray, List.set_cons_zero, List.set_cons_succ])
              | (refine wpAnyH_take (i := 19) (v := ?_) (by simp only [List.getElem?_toArray, List.getElem?_cons_succ, List.getElem?_cons_zero]; rfl) (by kernel_rfl) (by kernel_rfl) (by kernel_rfl) (fun _ _ _ h => h) (Or.inl ⟨by rfl, ?_⟩) (by assumption) ?_
                 rotate_left
                 · (intro ww hSw; (try dsimp only at hSw); go_simp; (try with_reducible rfl))
                 try simp only [Act.put, List.setIfInBounds_toArray, List.set_cons_zero, List.set_cons_succ])
              | (refine wpAnyH_ready (rs := [19]) (by kernel_rfl) (by simp) (AllReadyH.cons (by simp only [List.getElem?_toArray, List.getElem?_cons_succ, List.getElem?_cons_zero]; rfl) (fun K hK => ?_) AllReadyH.nil)
                 go_simp
                 first
                   | (go_at_call 9; (with_reducible refine (M.out _ (H1.out.below hHeld.1.1 (Nat.le_refl _)) (H2.out.below hHeld.1.1 (Nat.le_refl _))).mono ?_); rintro e w9 ⟨rfl, hb⟩; rw [E.out])
                   | (go_at_call 11; (with_reducible refine (Sm.out _ (H1.out.below hHeld.1.1 (Nat.le_refl _)) (H2.out.below hHeld.1.1 (Nat.le_refl _))).mono ?_); rintro e w9 ⟨rfl, hb⟩; rw [T.out])
                 try go_wp2_with fail
                 refine hK.out _ _ (by (first | (exact Four.drew HQ.out) | (exact Four.call hHeld hb))) (fun hHeld => ?_)
                 clear hK K
                 try simp only [Act.put, List.setIfInBounds_toArray, List.set_cons_zero, List.set_cons_succ])
            first
              | (refine wpAnyH_take (i := 21) (v := undef) (by simp only [List.getElem?_toArray, List.getElem?_cons_succ, List.getElem?_cons_zero]; rfl) (by kernel_rfl) (by kernel_rfl) (by kernel_rfl) (fun _ _ _ h => h) (Or.inr ⟨by rfl, rfl⟩) (by assumption) ?_; try simp only [Act.put, List.setIfInBounds_toArray, List.set_cons_zero, List.set_cons_succ])
              | (refine wpAnyH_take (i := 21) (v := ?_) (by simp only [List.getElem?_toArray, List.getElem?_cons_succ, List.getElem?_cons_zero]; rfl) (by kernel_rfl) (by kernel_rfl) (by kernel_rfl) (fun _ _ _ h => h) (Or.inl ⟨by rfl, ?_⟩) (by assumption) ?_
                 rotate_left
                 · (intro ww hSw; (try dsimp only at hSw); go_simp; (try with_reducible rfl))
                 try simp only [Act.put, List.setIfInBounds_toArray, List.set_cons_zero, List.set_cons_succ])
              | (refine wpAnyH_ready (rs := [21]) (by kernel_rfl) (by simp) (AllReadyH.cons (by simp only [List.getElem?_toArray, List.getElem?_cons_succ, List.getElem?_cons_zero]; rfl) (fun K hK => ?_) AllReadyH.nil)
                 go_simp
                 first
                   | (go_at_call 9; (with_reducible refine (M.out _ (H1.out.below hHeld.1.1 (Nat.le_refl _)) (H2.out.below hHeld.1.1 (Nat.le_refl _))).mono ?_); rintro e w9 ⟨rfl, hb⟩; rw [E.out])
                   | (go_at_call 11; (with_reducible refine (Sm.out _ (H1.out.below hHeld.1.1 (Nat.le_refl _)) (H2.out.below hHeld.1.1 (Nat.le_refl _))).mono ?_); rintro e w9 ⟨rfl, hb⟩; rw [T.out])
                 try go_wp2_with fail
                 refine hK.out _ _ (by (first | (exact Four.drew HQ.out) | (exact Four.call hHeld hb))) (fun hHeld => ?_)
                 clear hK K
                 try simp only [Act.put, List.setIfInBounds_toArray, List.set_cons_zero, List.set_cons_succ])
            first
              | (refine wpAnyH_take (i := 22) (v := undef) (by simp only [List.getElem?_toArray, List.getElem?_cons_succ, List.getElem?_cons_zero]; rfl) (by kernel_rfl) (by kernel_rfl) (by kernel_rfl) (fun _ _ _ h => h) (Or.inr ⟨by rfl, rfl⟩) (by assumption) ?_; try simp only [Act.put, List.setIfInBounds_toArray, List.set_cons_zero, List.set_cons_succ])
              | (refine wpAnyH_take (i := 22) (v := ?_) (by simp only [List.getElem?_toArray, List.getElem?_cons_succ, List.getElem?_cons_zero]; rfl) (by kernel_rfl) (by kernel_rfl) (by kernel_rfl) (fun _ _ _ h => h) (Or.inl ⟨by rfl, ?_⟩) (by assumption) ?_
                 rotate_left
                 · (intro ww hSw; (try dsimp only at hSw); go_simp; (try with_reducible rfl))
                 try simp only [Act.put, List.setIfInBounds_toArray, List.set_cons_zero, List.set_cons_succ])
              | (refine wpAnyH_ready (rs := [22]) (by kernel_rfl) (by simp) (AllReadyH.cons (by simp only [List.getElem?_toArray, List.getElem?_cons_succ, List.getElem?_cons_zero]; rfl) (fun K hK => ?_) AllReadyH.nil)
                 go_simp
                 first
                   | (go_at_call 9; (with_reducible refine (M.out _ (H1.out.below hHeld.1.1 (Nat.le_refl _)) (H2.out.below hHeld.1.1 (Nat.le_refl _))).mono ?_); rintro e w9 ⟨rfl, hb⟩; rw [E.out])
                   | (go_at_call 11; (with_reducible refine (Sm.out _ (H1.out.below hHeld.1.1 (Nat.le_refl _)) (H2.out.below hHeld.1.1 (Nat.le_refl _))).mono ?_); rintro e w9 ⟨rfl, hb⟩; rw [T.out])
                 try go_wp2_with fail
                 refine hK.out _ _ (by (first | (exact Four.drew HQ.out) | (exact Four.call hHeld hb))) (fun hHeld => ?_)
                 clear hK K
                 try simp only [Act.put, List.setIfInBounds_toArray, List.set_cons_zero, List.set_cons_succ])
            first
              | (refine wpAnyH_take (i := 23) (v := undef) (by simp only [List.getElem?_toArray, List.getElem?_cons_succ, List.getElem?_cons_zero]; rfl) (by kernel_rfl) (by kernel_rfl) (by kernel_rfl) (fun _ _ _ h => h) (Or.inr ⟨by rfl, rfl⟩) (by assumption) ?_; try simp only [Act.put, List.setIfInBounds_toArray, List.set_cons_zero, List.set_cons_succ])
              | (refine wpAnyH_take (i := 23) (v := ?_) (by simp only [List.getElem?_toArray, List.getElem?_cons_succ, List.getElem?_cons_zero]; rfl) (by kernel_rfl) (by kernel_rfl) (by kernel_rfl) (fun _ _ _ h => h) (Or.inl ⟨by rfl, ?_⟩) (by assumption) ?_
                 rotate_left
                 · (intro ww hSw; (try dsimp only at hSw); go_simp; (try with_reducible rfl))
                 try simp only [Act.put, List.setIfInBounds_toArray, List.set_cons_zero, List.set_cons_succ])
              | (refine wpAnyH_ready (rs := [23]) (by kernel_rfl) (by simp) (AllReadyH.cons (by simp only [List.getElem?_toArray, List.getElem?_cons_succ, List.getElem?_cons_zero]; rfl) (fun K hK => ?_) AllReadyH.nil)
                 go_simp
                 first
                   | (go_at_call 9; (with_reducible refine (M.out _ (H1.out.below hHeld.1.1 (Nat.le_refl _)) (H2.out.below hHeld.1.1 (Nat.le_refl _))).mono ?_); rintro e w9 ⟨rfl, hb⟩; rw [E.out])
                   | (go_at_call 11; (with_reducible refine (Sm.out _ (H1.out.below hHeld.1.1 (Nat.le_refl _)) (H2.out.below hHeld.1.1 (Nat.le_refl _))).mono ?_); rintro e w9 ⟨rfl, hb⟩; rw [T.out])
                 try go_wp2_with fail
                 refine hK.out _ _ (by (first | (exact Four.drew HQ.out) | (exact Four.call hHeld hb))) (fun hHeld => ?_)
                 clear hK K
                 try simp only [Act.put, List.setIfInBounds_toArray, List.set_cons_zero, List.set_cons_succ])
            first
              | (refine wpAnyH_take (i := 24) (v := undef) (by simp only [List.getElem?_toArray, List.getElem?_cons_succ, List.getElem?_cons_zero]; rfl) (by kernel_rfl) (by kernel_rfl) (by kernel_rfl) (fun _ _ _ h => h) (Or.inr ⟨by rfl, rfl⟩) (by assumption) ?_; try simp only [Act.put, List.setIfInBounds_toArray, List.set_cons_zero, List.set_cons_succ])
              | (refine wpAnyH_take (i := 24) (v := ?_) (by simp only [List.getElem?_toArray, List.getElem?_cons_succ, List.getElem?_cons_zero]; rfl) (by kernel_rfl) (by kernel_rfl) (by kernel_rfl) (fun _ _ _ h => h) (Or.inl ⟨by rfl, ?_⟩) (by assumption) ?_
                 rotate_left
                 · (intro ww hSw; (try dsimp only at hSw); go_simp; (try with_reducible rfl))
                 try simp only [Act.put, List.setIfInBounds_toArray, List.set_cons_zero, List.set_cons_succ])
              | (refine wpAnyH_ready (rs := [24]) (by kernel_rfl) (by simp) (AllReadyH.cons (by simp only [List.getElem?_toArray, List.getElem?_cons_succ, List.getElem?_cons_zero]; rfl) (fun K hK => ?_) AllReadyH.nil)
                 go_simp
                 first
                   | (go_at_call 9; (with_reducible refine (M.out _ (H1.out.below hHeld.1.1 (Nat.le_refl _)) (H2.out.below hHeld.1.1 (Nat.le_refl _))).mono ?_); rintro e w9 ⟨rfl, hb⟩; rw [E.out])
                   | (go_at_call 11; (with_reducible refine (Sm.out _ (H1.out.below hHeld.1.1 (Nat.le_refl _)) (H2.out.below hHeld.1.1 (Nat.le_refl _))).mono ?_); rintro e w9 ⟨rfl, hb⟩; rw [T.out])
                 try go_wp2_with fail
                 refine hK.out _ _ (by (first | (exact Four.drew HQ.out) | (exact Four.call hHeld hb))) (fun hHeld => ?_)
                 clear hK K
                 try simp only [Act.put, List.setIfInBounds_toArray, List.set_cons_zero, List.set_cons_succ])
            first
              | (refine wpAnyH_take (i := 25) (v := undef) (by simp only [List.getElem?_toArray, List.getElem?_cons_succ, List.getElem?_cons_zero]; rfl) (by kernel_rfl) (by kernel_rfl) (by kernel_rfl) (fun _ _ _ h => h) (Or.inr ⟨by rfl, rfl⟩) (by assumption) ?_; try simp only [Act.put, List.setIfInBounds_toArray, List.set_cons_zero, List.set_cons_succ])
              | (refine wpAnyH_take (i := 25) (v := ?_) (by simp only [List.getElem?_toArray, List.getElem?_cons_succ, List.getElem?_cons_zero]; rfl) (by kernel_rfl) (by kernel_rfl) (by kernel_rfl) (fun _ _ _ h => h) (Or.inl ⟨by rfl, ?_⟩) (by assumption) ?_
                 rotate_left
                 · (intro ww hSw; (try dsimp only at hSw); go_simp; (try with_reducible rfl))
                 try simp only [Act.put, List.setIfInBounds_toArray, List.set_cons_zero, List.set_cons_succ])
              | (refine wpAnyH_ready (rs := [25]) (by kernel_rfl) (by simp) (AllReadyH.cons (by simp only [List.getElem?_toArray, List.getElem?_cons_succ, List.getElem?_cons_zero]; rfl) (fun K hK => ?_) AllReadyH.nil)
                 go_simp
                 first
                   | (go_at_call 9; (with_reducible refine (M.out _ (H1.out.below hHeld.1.1 (Nat.le_refl _)) (H2.out.below hHeld.1.1 (Nat.le_refl _))).mono ?_); rintro e w9 ⟨rfl, hb⟩; rw [E.out])
                   | (go_at_call 11; (with_reducible refine (Sm.out _ (H1.out.below hHeld.1.1 (Nat.le_refl _)) (H2.out.below hHeld.1.1 (Nat.le_refl _))).mono ?_); rintro e w9 ⟨rfl, hb⟩; rw [T.out])
                 try go_wp2_with fail
                 refine hK.out _ _ (by (first | (exact Four.drew HQ.out) | (exact Four.call hHeld hb))) (fun hHeld => ?_)
                 clear hK K
                 try simp only [Act.put, List.setIfInBounds_toArray, List.set_cons_zero, List.set_cons_succ])
            first
              | (refine wpAnyH_take (i := 26) (v := undef) (by simp only [List.getElem?_toArray, List.getElem?_cons_succ, List.getElem?_cons_zero]; rfl) (by kernel_rfl) (by kernel_rfl) (by kernel_rfl) (fun _ _ _ h => h) (Or.inr ⟨by rfl, rfl⟩) (by assumption) ?_; try simp only [Act.put, List.setIfInBounds_toArray, List.set_cons_zero, List.set_cons_succ])
              | (refine wpAnyH_take (i := 26) (v := ?_) (by simp only [List.getElem?_toArray, List.getElem?_cons_succ, List.getElem?_cons_zero]; rfl) (by kernel_rfl) (by kernel_rfl) (by kernel_rfl) (fun _ _ _ h => h) (Or.inl ⟨by rfl, ?_⟩) (by assumption) ?_
                 rotate_left
                 · (intro ww hSw; (try dsimp only at hSw); go_simp; (try with_reducible rfl))
                 try simp only [Act.put, List.setIfInBounds_toArray, List.set_cons_zero, List.set_cons_succ])
              | (refine wpAnyH_ready (rs := [26]) (by kernel_rfl) (by simp) (AllReadyH.cons (by simp only [List.getElem?_toArray, List.getElem?_cons_succ, List.getElem?_cons_zero]; rfl) (fun K hK => ?_) AllReadyH.nil)
                 go_simp
                 first
                   | (go_at_call 9; (with_reducible refine (M.out _ (H1.out.below hHeld.1.1 (Nat.le_refl _)) (H2.out.below hHeld.1.1 (Nat.le_refl _))).mono ?_); rintro e w9 ⟨rfl, hb⟩; rw [E.out])
                   | (go_at_call 11; (with_reducible refine (Sm.out _ (H1.out.below hHeld.1.1 (Nat.le_refl _)) (H2.out.below hHeld.1.1 (Nat.le_refl _))).mono ?_); rintro e w9 ⟨rfl, hb⟩; rw [T.out])
                 try go_wp2_with fail
                 refine hK.out _ _ (by (first | (exact Four.drew HQ.out) | (exact Four.call hHeld hb))) (fun hHeld => ?_)
                 clear hK K
                 try simp only [Act.put, List.setIfInBounds_toArray, List.set_cons_zero, List.set_cons_succ])
            first
              | (refine wpAnyH_take (i := 20) (v := undef) (by simp only [List.getElem?_toArray, List.getElem?_cons_succ, List.getElem?_cons_zero]; rfl) (by kernel_rfl) (by kernel_rfl) (by kernel_rfl) (fun _ _ _ h => h) (Or.inr ⟨by rfl, rfl⟩) (by assumption) ?_; try simp only [Act.put, List.setIfInBounds_toArray, List.set_cons_zero, List.set_cons_succ])
              | (refine wpAnyH_take (i := 20) (v := ?_) (by simp only [List.getElem?_toArray, List.getElem?_cons_succ, List.getElem?_cons_zero]; rfl) (by kernel_rfl) (by kernel_rfl) (by kernel_rfl) (fun _ _ _ h => h) (Or.inl ⟨by rfl, ?_⟩) (by assumption) ?_
                 rotate_left
                 · (intro ww hSw; (try dsimp only at hSw); go_simp; (try with_reducible rfl))
                 try simp only [Act.put, List.setIfInBounds_toArray, List.set_cons_zero, List.set_cons_succ])
              | (refine wpAnyH_ready (rs := [20]) (by kernel_rfl) (by simp) (AllReadyH.cons (by simp only [List.getElem?_toArray, List.getElem?_cons_succ, List.getElem?_cons_zero]; rfl) (fun K hK => ?_) AllReadyH.nil)
                 go_simp
                 first
                   | (go_at_call 9; (with_reducible refine (M.out _ (H1.out.below hHeld.1.1 (Nat.le_refl _)) (H2.out.below hHeld.1.1 (Nat.le_refl _))).mono ?_); rintro e w9 ⟨rfl, hb⟩; rw [E.out])
                   | (go_at_call 11; (with_reducible refine (Sm.out _ (H1.out.below hHeld.1.1 (Nat.le_refl _)) (H2.out.below hHeld.1.1 (Nat.le_refl _))).mono ?_); rintro e w9 ⟨rfl, hb⟩; rw [T.out])
                 try go_wp2_with fail
                 refine hK.out _ _ (by (first | (exact Four.drew HQ.out) | (exact Four.call hHeld hb))) (fun hHeld => ?_)
                 clear hK K
                 try simp only [Act.put, List.setIfInBounds_toArray, List.set_cons_zero, List.set_cons_succ])
            first
              | (refine wpAnyH_take (i := 27) (v := undef) (by simp only [List.getElem?_toArray, List.getElem?_cons_succ, List.getElem?_cons_zero]; rfl) (by kernel_rfl) (by kernel_rfl) (by kernel_rfl) (fun _ _ _ h => h) (Or.inr ⟨by rfl, rfl⟩) (by assumption) ?_; try simp only [Act.put, List.setIfInBounds_toArray, List.set_cons_zero, List.set_cons_succ])
              | (refine wpAnyH_take (i := 27) (v := ?_) (by simp only [List.getElem?_toArray, List.getElem?_cons_succ, List.getElem?_cons_zero]; rfl) (by kernel_rfl) (by kernel_rfl) (by kernel_rfl) (fun _ _ _ h => h) (Or.inl ⟨by rfl, ?_⟩) (by assumption) ?_
                 rotate_left
                 · (intro ww hSw; (try dsimp only at hSw); go_simp; (try with_reducible rfl))
                 try simp only [Act.put, List.setIfInBounds_toArray, List.set_cons_zero, List.set_cons_succ])
              | (refine wpAnyH_ready (rs := [27]) (by kernel_rfl) (by simp) (AllReadyH.cons (by simp only [List.getElem?_toArray, List.getElem?_cons_succ, List.getElem?_cons_zero]; rfl) (fun K hK => ?_) AllReadyH.nil)
                 go_simp
                 first
                   | (go_at_call 9; (with_reducible refine (M.out _ (H1.out.below hHeld.1.1 (Nat.le_refl _)) (H2.out.below hHeld.1.1 (Nat.le_refl _))).mono ?_); rintro e w9 ⟨rfl, hb⟩; rw [E.out])
                   | (go_at_call 11; (with_reducible refine (Sm.out _ (H1.out.below hHeld.1.1 (Nat.le_refl _)) (H2.out.below hHeld.1.1 (Nat.le_refl _))).mono ?_); rintro e w9 ⟨rfl, hb⟩; rw [T.out])
                 try go_wp2_with fail
                 refine hK.out _ _ (by (first | (exact Four.drew HQ.out) | (exact Four.call hHeld hb))) (fun hHeld => ?_)
                 clear hK K
                 try simp only [Act.put, List.setIfInBounds_toArray, List.set_cons_zero, List.set_cons_succ])
            first
              | (refine wpAnyH_take (i := 28) (v := undef) (by simp only [List.getElem?_toArray, List.getElem?_cons_succ, List.getElem?_cons_zero]; rfl) (by kernel_rfl) (by kernel_rfl) (by kernel_rfl) (fun _ _ _ h => h) (Or.inr ⟨by rfl, rfl⟩) (by assumption) ?_; try simp only [Act.put, List.setIfInBounds_toArray, List.set_cons_zero, List.set_cons_succ])
              | (refine wpAnyH_take (i := 28) (v := ?_) (by simp only [List.getElem?_toArray, List.getElem?_cons_succ, List.getElem?_cons_zero]; rfl) (by kernel_rfl) (by kernel_rfl) (by kernel_rfl) (fun _ _ _ h => h) (Or.inl ⟨by rfl, ?_⟩) (by assumption) ?_
                 rotate_left
                 · (intro ww hSw; (try dsimp only at hSw); go_simp; (try with_reducible rfl))
                 try simp only [Act.put, List.setIfInBounds_toArray, List.set_cons_zero, List.set_cons_succ])
              | (refine wpAnyH_ready (rs := [28]) (by kernel_rfl) (by simp) (AllReadyH.cons (by simp only [List.getElem?_toArray, List.getElem?_cons_succ, List.getElem?_cons_zero]; rfl) (fun K hK => ?_) AllReadyH.nil)
                 go_simp
                 first
                   | (go_at_call 9; (with_reducible refine (M.out _ (H1.out.below hHeld.1.1 (Nat.le_refl _)) (H2.out.below hHeld.1.1 (Nat.le_refl _))).mono ?_); rintro e w9 ⟨rfl, hb⟩; rw [E.out])
                   | (go_at_call 11; (with_reducible refine (Sm.out _ (H1.out.below hHeld.1.1 (Nat.le_refl _)) (H2.out.below hHeld.1.1 (Nat.le_refl _))).mono ?_); rintro e w9 ⟨rfl, hb⟩; rw [T.out])
                 try go_wp2_with fail
                 refine hK.out _ _ (by (first | (exact Four.drew HQ.out) | (exact Four.call hHeld hb))) (fun hHeld => ?_)
                 clear hK K
                 try simp only [Act.put, List.setIfInBounds_toArray, List.set_cons_zero, List.set_cons_succ])
            refine wpAnyH_done (by kernel_rfl) ?_ _
            refine NoPanic.normal ?_
            go_wp2_with fail
            go_roundw
            case rel => exact ⟨_, by omega, by omega, rfl, hHeld⟩
            case measure => simp [intOf]
        · have hx := Bool.eq_false_or_eq_true x3
          have M := M3
          have Sm := S3
          have E := E3
          have T := T3
          clear hj j0 j5 M0 M1 M2 M3 M4 S0 S1 S2 S3 S4 E0 E1 E2 E3 E4 T0 T1 T2 T3 T4
          rcases hx with hx | hx
          all_goals
            go_wp2_with fail
            refine wp_region_noPanic ?_
            refine wp_region_held_drew (S := (fun w' => (Below w.heap.size w w' ∧ w.heap.size < w'.heap.size ∧ ∀ j, w'.cell? ⟨w.heap.size, j, none⟩ = (#[.int .i64 k, .int .i64 d, .int .i64 i, .int .i64 b, .int .i64 h, .slice ga gs.length gn, .int .i64 p, .slice wa ws.length wn, .int .i64 f][j]? : Option Value)) ∧ (Below w.heap.size w w' ∧ w3.heap.size < w'.heap.size ∧ ∀ j, w'.cell? ⟨w3.heap.size, j, none⟩ = (#[.int .i64 k, .int .i64 d, .int .i64 ((n : Int) % 1073741824), .int .i64 b, .int .i64 h, .slice ga gs.length gn, .int .i64 p, .slice wa ws.length wn, .int .i64 f, .int .i64 k, .int .i64 d, .int .i64 i, .int .i64 ((n : Int) % 1073741824), .int .i64 h, .slice ga gs.length gn, .int .i64 p, .slice wa ws.length wn, .int .i64 f, .int .i64 k, .int .i64 d, .int .i64 i, .int .i64 b, .int .i64 ((n : Int) % 1073741824), .slice ga gs.length gn, .int .i64 p, .slice wa ws.length wn, .int .i64 f, .int .i64 k, .int .i64 d, .int .i64 i, .int .i64 b, .int .i64 h, .slice ga gs.length gn, .int .i64 ((n : Int) % 1073741824), .slice wa ws.length wn, .int .i64 f, .int .i64 k, .int .i64 d, .int .i64 i, .int .i64 b, .int .i64 h, .slice ga gs.length gn, .int .i64 p, .slice wa ws.length wn, .int .i64 ((n : Int) % 1073741824)][j]? : Option Value)) ∧ (Below w.heap.size w w' ∧ r < w'.heap.size ∧ ∀ j, w'.cell? ⟨r, j, none⟩ = (#[.bool x0, .bool x1, .bool x2, .bool x3, .bool x4][j]? : Option Value)) ∧ (Below w.heap.size w w' ∧ wc.heap.size < w'.heap.size ∧ ∀ j, w'.cell? ⟨wc.heap.size, j, none⟩ = (#[.int .i64 i, .int .i64 b, .int .i64 h, .int .i64 p, .int .i64 f][j]? : Option Value)))) (by kernel_rfl) (by (first | (exact Four.drew HQ.out) | (exact Four.call hHeld hb))) (fun hHeld => ?_)
            first
              | (refine wpAnyH_take (i := 0) (v := undef) (by simp only [List.getElem?_toArray, List.getElem?_cons_succ, List.getElem?_cons_zero]; rfl) (by kernel_rfl) (by kernel_rfl) (by kernel_rfl) (fun _ _ _ h => h) (Or.inr ⟨by rfl, rfl⟩) (by assumption) ?_; try simp only [Act.put, List.setIfInBounds_toArray, List.set_cons_zero, List.set_cons_succ])
              | (refine wpAnyH_take (i := 0) (v := ?_) (by simp only [List.getElem?_toArray, List.getElem?_cons_succ, List.getElem?_cons_zero]; rfl) (by kernel_rfl) (by kernel_rfl) (by kernel_rfl) (fun _ _ _ h => h) (Or.inl ⟨by rfl, ?_⟩) (by assumption) ?_
                 rotate_left
                 · (intro ww hSw; (try dsimp only at hSw); go_simp; (try with_reducible rfl))
                 try simp only [Act.put, List.setIfInBounds_toArray, List.set_cons_zero, List.set_cons_succ])
              | (refine wpAnyH_ready (rs := [0]) (by kernel_rfl) (by simp) (AllReadyH.cons (by simp only [List.getElem?_toArray, List.getElem?_cons_succ, List.getElem?_cons_zero]; rfl) (fun K hK => ?_) AllReadyH.nil)
                 go_simp
                 first
                   | (go_at_call 9; (with_reducible refine (M.out _ (H1.out.below hHeld.1.1 (Nat.le_refl _)) (H2.out.below hHeld.1.1 (Nat.le_refl _))).mono ?_); rintro e w9 ⟨rfl, hb⟩; rw [E.out])
                   | (go_at_call 11; (with_reducible refine (Sm.out _ (H1.out.below hHeld.1.1 (Nat.le_refl _)) (H2.out.below hHeld.1.1 (Nat.le_refl _))).mono ?_); rintro e w9 ⟨rfl, hb⟩; rw [T.out])
                 try go_wp2_with fail
                 refine hK.out _ _ (by (first | (exact Four.drew HQ.out) | (exact Four.call hHeld hb))) (fun hHeld => ?_)
                 clear hK K
                 try simp only [Act.put, List.setIfInBounds_toArray, List.set_cons_zero, List.set_cons_succ])
            first
              | (refine wpAnyH_take (i := 1) (v := undef) (by simp only [List.getElem?_toArray, List.getElem?_cons_succ, List.getElem?_cons_zero]; rfl) (by kernel_rfl) (by kernel_rfl) (by kernel_rfl) (fun _ _ _ h => h) (Or.inr ⟨by rfl, rfl⟩) (by assumption) ?_; try simp only [Act.put, List.setIfInBounds_toArray, List.set_cons_zero, List.set_cons_succ])
              | (refine wpAnyH_take (i := 1) (v := ?_) (by simp only [List.getElem?_toArray, List.getElem?_cons_succ, List.getElem?_cons_zero]; rfl) (by kernel_rfl) (by kernel_rfl) (by kernel_rfl) (fun _ _ _ h => h) (Or.inl ⟨by rfl, ?_⟩) (by assumption) ?_
                 rotate_left
                 · (intro ww hSw; (try dsimp only at hSw); go_simp; (try with_reducible rfl))
                 try simp only [Act.put, List.setIfInBounds_toArray, List.set_cons_zero, List.set_cons_succ])
              | (refine wpAnyH_ready (rs := [1]) (by kernel_rfl) (by simp) (AllReadyH.cons (by simp only [List.getElem?_toArray, List.getElem?_cons_succ, List.getElem?_cons_zero]; rfl) (fun K hK => ?_) AllReadyH.nil)
                 go_simp
                 first
                   | (go_at_call 9; (with_reducible refine (M.out _ (H1.out.below hHeld.1.1 (Nat.le_refl _)) (H2.out.below hHeld.1.1 (Nat.le_refl _))).mono ?_); rintro e w9 ⟨rfl, hb⟩; rw [E.out])
                   | (go_at_call 11; (with_reducible refine (Sm.out _ (H1.out.below hHeld.1.1 (Nat.le_refl _)) (H2.out.below hHeld.1.1 (Nat.le_refl _))).mono ?_); rintro e w9 ⟨rfl, hb⟩; rw [T.out])
                 try go_wp2_with fail
                 refine hK.out _ _ (by (first | (exact Four.drew HQ.out) | (exact Four.call hHeld hb))) (fun hHeld => ?_)
                 clear hK K
                 try simp only [Act.put, List.setIfInBounds_toArray, List.set_cons_zero, List.set_cons_succ])
            first
              | (refine wpAnyH_take (i := 2) (v := undef) (by simp only [List.getElem?_toArray, List.getElem?_cons_succ, List.getElem?_cons_zero]; rfl) (by kernel_rfl) (by kernel_rfl) (by kernel_rfl) (fun _ _ _ h => h) (Or.inr ⟨by rfl, rfl⟩) (by assumption) ?_; try simp only [Act.put, List.setIfInBounds_toArray, List.set_cons_zero, List.set_cons_succ])
              | (refine wpAnyH_take (i := 2) (v := ?_) (by simp only [List.getElem?_toArray, List.getElem?_cons_succ, List.getElem?_cons_zero]; rfl) (by kernel_rfl) (by kernel_rfl) (by kernel_rfl) (fun _ _ _ h => h) (Or.inl ⟨by rfl, ?_⟩) (by assumption) ?_
                 rotate_left
                 · (intro ww hSw; (try dsimp only at hSw); go_simp; (try with_reducible rfl))
                 try simp only [Act.put, List.setIfInBounds_toArray, List.set_cons_zero, List.set_cons_succ])
              | (refine wpAnyH_ready (rs := [2]) (by kernel_rfl) (by simp) (AllReadyH.cons (by simp only [List.getElem?_toArray, List.getElem?_cons_succ, List.getElem?_cons_zero]; rfl) (fun K hK => ?_) AllReadyH.nil)
                 go_simp
                 first
                   | (go_at_call 9; (with_reducible refine (M.out _ (H1.out.below hHeld.1.1 (Nat.le_refl _)) (H2.out.below hHeld.1.1 (Nat.le_refl _))).mono ?_); rintro e w9 ⟨rfl, hb⟩; rw [E.out])
                   | (go_at_call 11; (with_reducible refine (Sm.out _ (H1.out.below hHeld.1.1 (Nat.le_refl _)) (H2.out.below hHeld.1.1 (Nat.le_refl _))).mono ?_); rintro e w9 ⟨rfl, hb⟩; rw [T.out])
                 try go_wp2_with fail
                 refine hK.out _ _ (by (first | (exact Four.drew HQ.out) | (exact Four.call hHeld hb))) (fun hHeld => ?_)
                 clear hK K
                 try simp only [Act.put, List.setIfInBounds_toArray, List.set_cons_zero, List.set_cons_succ])
            first
              | (refine wpAnyH_take (i := 3) (v := undef) (by simp only [List.getElem?_toArray, List.getElem?_cons_succ, List.getElem?_cons_zero]; rfl) (by kernel_rfl) (by kernel_rfl) (by kernel_rfl) (fun _ _ _ h => h) (Or.inr ⟨by rfl, rfl⟩) (by assumption) ?_; try simp only [Act.put, List.setIfInBounds_toArray, List.set_cons_zero, List.set_cons_succ])
              | (refine wpAnyH_take (i := 3) (v := ?_) (by simp only [List.getElem?_toArray, List.getElem?_cons_succ, List.getElem?_cons_zero]; rfl) (by kernel_rfl) (by kernel_rfl) (by kernel_rfl) (fun _ _ _ h => h) (Or.inl ⟨by rfl, ?_⟩) (by assumption) ?_
                 rotate_left
                 · (intro ww hSw; (try dsimp only at hSw); go_simp; (try with_reducible rfl))
                 try simp only [Act.put, List.setIfInBounds_toArray, List.set_cons_zero, List.set_cons_succ])
              | (refine wpAnyH_ready (rs := [3]) (by kernel_rfl) (by simp) (AllReadyH.cons (by simp only [List.getElem?_toArray, List.getElem?_cons_succ, List.getElem?_cons_zero]; rfl) (fun K hK => ?_) AllReadyH.nil)
                 go_simp
                 first
                   | (go_at_call 9; (with_reducible refine (M.out _ (H1.out.below hHeld.1.1 (Nat.le_refl _)) (H2.out.below hHeld.1.1 (Nat.le_refl _))).mono ?_); rintro e w9 ⟨rfl, hb⟩; rw [E.out])
                   | (go_at_call 11; (with_reducible refine (Sm.out _ (H1.out.below hHeld.1.1 (Nat.le_refl _)) (H2.out.below hHeld.1.1 (Nat.le_refl _))).mono ?_); rintro e w9 ⟨rfl, hb⟩; rw [T.out])
                 try go_wp2_with fail
                 refine hK.out _ _ (by (first | (exact Four.drew HQ.out) | (exact Four.call hHeld hb))) (fun hHeld => ?_)
                 clear hK K
                 try simp only [Act.put, List.setIfInBounds_toArray, List.set_cons_zero, List.set_cons_succ])
            first
              | (refine wpAnyH_take (i := 5) (v := undef) (by simp only [List.getElem?_toArray, List.getElem?_cons_succ, List.getElem?_cons_zero]; rfl) (by kernel_rfl) (by kernel_rfl) (by kernel_rfl) (fun _ _ _ h => h) (Or.inr ⟨by rfl, rfl⟩) (by assumption) ?_; try simp only [Act.put, List.setIfInBounds_toArray, List.set_cons_zero, List.set_cons_succ])
              | (refine wpAnyH_take (i := 5) (v := ?_) (by simp only [List.getElem?_toArray, List.getElem?_cons_succ, List.getElem?_cons_zero]; rfl) (by kernel_rfl) (by kernel_rfl) (by kernel_rfl) (fun _ _ _ h => h) (Or.inl ⟨by rfl, ?_⟩) (by assumption) ?_
                 rotate_left
                 · (intro ww hSw; (try dsimp only at hSw); go_simp; (try with_reducible rfl))
                 try simp only [Act.put, List.setIfInBounds_toArray, List.set_cons_zero, List.set_cons_succ])
              | (refine wpAnyH_ready (rs := [5]) (by kernel_rfl) (by simp) (AllReadyH.cons (by simp only [List.getElem?_toArray, List.getElem?_cons_succ, List.getElem?_cons_zero]; rfl) (fun K hK => ?_) AllReadyH.nil)
                 go_simp
                 first
                   | (go_at_call 9; (with_reducible refine (M.out _ (H1.out.below hHeld.1.1 (Nat.le_refl _)) (H2.out.below hHeld.1.1 (Nat.le_refl _))).mono ?_); rintro e w9 ⟨rfl, hb⟩; rw [E.out])
                   | (go_at_call 11; (with_reducible refine (Sm.out _ (H1.out.below hHeld.1.1 (Nat.le_refl _)) (H2.out.below hHeld.1.1 (Nat.le_refl _))).mono ?_); rintro e w9 ⟨rfl, hb⟩; rw [T.out])
                 try go_wp2_with fail
                 refine hK.out _ _ (by (first | (exact Four.drew HQ.out) | (exact Four.call hHeld hb))) (fun hHeld => ?_)
                 clear hK K
                 try simp only [Act.put, List.setIfInBounds_toArray, List.set_cons_zero, List.set_cons_succ])
            first
              | (refine wpAnyH_take (i := 6) (v := undef) (by simp only [List.getElem?_toArray, List.getElem?_cons_succ, List.getElem?_cons_zero]; rfl) (by kernel_rfl) (by kernel_rfl) (by kernel_rfl) (fun _ _ _ h => h) (Or.inr ⟨by rfl, rfl⟩) (by assumption) ?_; try simp only [Act.put, List.setIfInBounds_toArray, List.set_cons_zero, List.set_cons_succ])
              | (refine wpAnyH_take (i := 6) (v := ?_) (by simp only [List.getElem?_toArray, List.getElem?_cons_succ, List.getElem?_cons_zero]; rfl) (by kernel_rfl) (by kernel_rfl) (by kernel_rfl) (fun _ _ _ h => h) (Or.inl ⟨by rfl, ?_⟩) (by assumption) ?_
                 rotate_left
                 · (intro ww hSw; (try dsimp only at hSw); go_simp; (try with_reducible rfl))
                 try simp only [Act.put, List.setIfInBounds_toArray, List.set_cons_zero, List.set_cons_succ])
              | (refine wpAnyH_ready (rs := [6]) (by kernel_rfl) (by simp) (AllReadyH.cons (by simp only [List.getElem?_toArray, List.getElem?_cons_succ, List.getElem?_cons_zero]; rfl) (fun K hK => ?_) AllReadyH.nil)
                 go_simp
                 first
                   | (go_at_call 9; (with_reducible refine (M.out _ (H1.out.below hHeld.1.1 (Nat.le_refl _)) (H2.out.below hHeld.1.1 (Nat.le_refl _))).mono ?_); rintro e w9 ⟨rfl, hb⟩; rw [E.out])
                   | (go_at_call 11; (with_reducible refine (Sm.out _ (H1.out.below hHeld.1.1 (Nat.le_refl _)) (H2.out.below hHeld.1.1 (Nat.le_refl _))).mono ?_); rintro e w9 ⟨rfl, hb⟩; rw [T.out])
                 try go_wp2_with fail
                 refine hK.out _ _ (by (first | (exact Four.drew HQ.out) | (exact Four.call hHeld hb))) (fun hHeld => ?_)
                 clear hK K
                 try simp only [Act.put, List.setIfInBounds_toArray, List.set_cons_zero, List.set_cons_succ])
            first
              | (refine wpAnyH_take (i := 7) (v := undef) (by simp only [List.getElem?_toArray, List.getElem?_cons_succ, List.getElem?_cons_zero]; rfl) (by kernel_rfl) (by kernel_rfl) (by kernel_rfl) (fun _ _ _ h => h) (Or.inr ⟨by rfl, rfl⟩) (by assumption) ?_; try simp only [Act.put, List.setIfInBounds_toArray, List.set_cons_zero, List.set_cons_succ])
              | (refine wpAnyH_take (i := 7) (v := ?_) (by simp only [List.getElem?_toArray, List.getElem?_cons_succ, List.getElem?_cons_zero]; rfl) (by kernel_rfl) (by kernel_rfl) (by kernel_rfl) (fun _ _ _ h => h) (Or.inl ⟨by rfl, ?_⟩) (by assumption) ?_
                 rotate_left
                 · (intro ww hSw; (try dsimp only at hSw); go_simp; (try with_reducible rfl))
                 try simp only [Act.put, List.setIfInBounds_toArray, List.set_cons_zero, List.set_cons_succ])
              | (refine wpAnyH_ready (rs := [7]) (by kernel_rfl) (by simp) (AllReadyH.cons (by simp only [List.getElem?_toArray, List.getElem?_cons_succ, List.getElem?_cons_zero]; rfl) (fun K hK => ?_) AllReadyH.nil)
                 go_simp
                 first
                   | (go_at_call 9; (with_reducible refine (M.out _ (H1.out.below hHeld.1.1 (Nat.le_refl _)) (H2.out.below hHeld.1.1 (Nat.le_refl _))).mono ?_); rintro e w9 ⟨rfl, hb⟩; rw [E.out])
                   | (go_at_call 11; (with_reducible refine (Sm.out _ (H1.out.below hHeld.1.1 (Nat.le_refl _)) (H2.out.below hHeld.1.1 (Nat.le_refl _))).mono ?_); rintro e w9 ⟨rfl, hb⟩; rw [T.out])
                 try go_wp2_with fail
                 refine hK.out _ _ (by (first | (exact Four.drew HQ.out) | (exact Four.call hHeld hb))) (fun hHeld => ?_)
                 clear hK K
                 try simp only [Act.put, List.setIfInBounds_toArray, List.set_cons_zero, List.set_cons_succ])
            first
              | (refine wpAnyH_take (i := 8) (v := undef) (by simp only [List.getElem?_toArray, List.getElem?_cons_succ, List.getElem?_cons_zero]; rfl) (by kernel_rfl) (by kernel_rfl) (by kernel_rfl) (fun _ _ _ h => h) (Or.inr ⟨by rfl, rfl⟩) (by assumption) ?_; try simp only [Act.put, List.setIfInBounds_toArray, List.set_cons_zero, List.set_cons_succ])
              | (refine wpAnyH_take (i := 8) (v := ?_) (by simp only [List.getElem?_toArray, List.getElem?_cons_succ, List.getElem?_cons_zero]; rfl) (by kernel_rfl) (by kernel_rfl) (by kernel_rfl) (fun _ _ _ h => h) (Or.inl ⟨by rfl, ?_⟩) (by assumption) ?_
                 rotate_left
                 · (intro ww hSw; (try dsimp only at hSw); go_simp; (try with_reducible rfl))
                 try simp only [Act.put, List.setIfInBounds_toArray, List.set_cons_zero, List.set_cons_succ])
              | (refine wpAnyH_ready (rs := [8]) (by kernel_rfl) (by simp) (AllReadyH.cons (by simp only [List.getElem?_toArray, List.getElem?_cons_succ, List.getElem?_cons_zero]; rfl) (fun K hK => ?_) AllReadyH.nil)
                 go_simp
                 first
                   | (go_at_call 9; (with_reducible refine (M.out _ (H1.out.below hHeld.1.1 (Nat.le_refl _)) (H2.out.below hHeld.1.1 (Nat.le_refl _))).mono ?_); rintro e w9 ⟨rfl, hb⟩; rw [E.out])
                   | (go_at_call 11; (with_reducible refine (Sm.out _ (H1.out.below hHeld.1.1 (Nat.le_refl _)) (H2.out.below hHeld.1.1 (Nat.le_refl _))).mono ?_); rintro e w9 ⟨rfl, hb⟩; rw [T.out])
                 try go_wp2_with fail
                 refine hK.out _ _ (by (first | (exact Four.drew HQ.out) | (exact Four.call hHeld hb))) (fun hHeld => ?_)
                 clear hK K
                 try simp only [Act.put, List.setIfInBounds_toArray, List.set_cons_zero, List.set_cons_succ])
            first
              | (refine wpAnyH_take (i := 4) (v := undef) (by simp only [List.getElem?_toArray, List.getElem?_cons_succ, List.getElem?_cons_zero]; rfl) (by kernel_rfl) (by kernel_rfl) (by kernel_rfl) (fun _ _ _ h => h) (Or.inr ⟨by rfl, rfl⟩) (by assumption) ?_; try simp only [Act.put, List.setIfInBounds_toArray, List.set_cons_zero, List.set_cons_succ])
              | (refine wpAnyH_take (i := 4) (v := ?_) (by simp only [List.getElem?_toArray, List.getElem?_cons_succ, List.getElem?_cons_zero]; rfl) (by kernel_rfl) (by kernel_rfl) (by kernel_rfl) (fun _ _ _ h => h) (Or.inl ⟨by rfl, ?_⟩) (by assumption) ?_
                 rotate_left
                 · (intro ww hSw; (try dsimp only at hSw); go_simp; (try with_reducible rfl))
                 try simp only [Act.put, List.setIfInBounds_toArray, List.set_cons_zero, List.set_cons_succ])
              | (refine wpAnyH_ready (rs := [4]) (by kernel_rfl) (by simp) (AllReadyH.cons (by simp only [List.getElem?_toArray, List.getElem?_cons_succ, List.getElem?_cons_zero]; rfl) (fun K hK => ?_) AllReadyH.nil)
                 go_simp
                 first
                   | (go_at_call 9; (with_reducible refine (M.out _ (H1.out.below hHeld.1.1 (Nat.le_refl _)) (H2.out.below hHeld.1.1 (Nat.le_refl _))).mono ?_); rintro e w9 ⟨rfl, hb⟩; rw [E.out])
                   | (go_at_call 11; (with_reducible refine (Sm.out _ (H1.out.below hHeld.1.1 (Nat.le_refl _)) (H2.out.below hHeld.1.1 (Nat.le_refl _))).mono ?_); rintro e w9 ⟨rfl, hb⟩; rw [T.out])
                 try go_wp2_with fail
                 refine hK.out _ _ (by (first | (exact Four.drew HQ.out) | (exact Four.call hHeld hb))) (fun hHeld => ?_)
                 clear hK K
                 try simp only [Act.put, List.setIfInBounds_toArray, List.set_cons_zero, List.set_cons_succ])
            first
              | (refine wpAnyH_take (i := 9) (v := undef) (by simp only [List.getElem?_toArray, List.getElem?_cons_succ, List.getElem?_cons_zero]; rfl) (by kernel_rfl) (by kernel_rfl) (by kernel_rfl) (fun _ _ _ h => h) (Or.inr ⟨by rfl, rfl⟩) (by assumption) ?_; try simp only [Act.put, List.setIfInBounds_toArray, List.set_cons_zero, List.set_cons_succ])
              | (refine wpAnyH_take (i := 9) (v := ?_) (by simp only [List.getElem?_toArray, List.getElem?_cons_succ, List.getElem?_cons_zero]; rfl) (by kernel_rfl) (by kernel_rfl) (by kernel_rfl) (fun _ _ _ h => h) (Or.inl ⟨by rfl, ?_⟩) (by assumption) ?_
                 rotate_left
                 · (intro ww hSw; (try dsimp only at hSw); go_simp; (try with_reducible rfl))
                 try simp only [Act.put, List.setIfInBounds_toArray, List.set_cons_zero, List.set_cons_succ])
              | (refine wpAnyH_ready (rs := [9]) (by kernel_rfl) (by simp) (AllReadyH.cons (by simp only [List.getElem?_toArray, List.getElem?_cons_succ, List.getElem?_cons_zero]; rfl) (fun K hK => ?_) AllReadyH.nil)
                 go_simp
                 first
                   | (go_at_call 9; (with_reducible refine (M.out _ (H1.out.below hHeld.1.1 (Nat.le_refl _)) (H2.out.below hHeld.1.1 (Nat.le_refl _))).mono ?_); rintro e w9 ⟨rfl, hb⟩; rw [E.out])
                   | (go_at_call 11; (with_reducible refine (Sm.out _ (H1.out.below hHeld.1.1 (Nat.le_refl _)) (H2.out.below hHeld.1.1 (Nat.le_refl _))).mono ?_); rintro e w9 ⟨rfl, hb⟩; rw [T.out])
                 try go_wp2_with fail
                 refine hK.out _ _ (by (first | (exact Four.drew HQ.out) | (exact Four.call hHeld hb))) (fun hHeld => ?_)
                 clear hK K
                 try simp only [Act.put, List.setIfInBounds_toArray, List.set_cons_zero, List.set_cons_succ])
            first
              | (refine wpAnyH_take (i := 10) (v := undef) (by simp only [List.getElem?_toArray, List.getElem?_cons_succ, List.getElem?_cons_zero]; rfl) (by kernel_rfl) (by kernel_rfl) (by kernel_rfl) (fun _ _ _ h => h) (Or.inr ⟨by rfl, rfl⟩) (by assumption) ?_; try simp only [Act.put, List.setIfInBounds_toArray, List.set_cons_zero, List.set_cons_succ])
              | (refine wpAnyH_take (i := 10) (v := ?_) (by simp only [List.getElem?_toArray, List.getElem?_cons_succ, List.getElem?_cons_zero]; rfl) (by kernel_rfl) (by kernel_rfl) (by kernel_rfl) (fun _ _ _ h => h) (Or.inl ⟨by rfl, ?_⟩) (by assumption) ?_
                 rotate_left
                 · (intro ww hSw; (try dsimp only at hSw); go_simp; (try with_reducible rfl))
                 try simp only [Act.put, List.setIfInBounds_toArray, List.set_cons_zero, List.set_cons_succ])
              | (refine wpAnyH_ready (rs := [10]) (by kernel_rfl) (by simp) (AllReadyH.cons (by simp only [List.getElem?_toArray, List.getElem?_cons_succ, List.getElem?_cons_zero]; rfl) (fun K hK => ?_) AllReadyH.nil)
                 go_simp
                 first
                   | (go_at_call 9; (with_reducible refine (M.out _ (H1.out.below hHeld.1.1 (Nat.le_refl _)) (H2.out.below hHeld.1.1 (Nat.le_refl _))).mono ?_); rintro e w9 ⟨rfl, hb⟩; rw [E.out])
                   | (go_at_call 11; (with_reducible refine (Sm.out _ (H1.out.below hHeld.1.1 (Nat.le_refl _)) (H2.out.below hHeld.1.1 (Nat.le_refl _))).mono ?_); rintro e w9 ⟨rfl, hb⟩; rw [T.out])
                 try go_wp2_with fail
                 refine hK.out _ _ (by (first | (exact Four.drew HQ.out) | (exact Four.call hHeld hb))) (fun hHeld => ?_)
                 clear hK K
                 try simp only [Act.put, List.setIfInBounds_toArray, List.set_cons_zero, List.set_cons_succ])
            first
              | (refine wpAnyH_take (i := 11) (v := undef) (by simp only [List.getElem?_toArray, List.getElem?_cons_succ, List.getElem?_cons_zero]; rfl) (by kernel_rfl) (by kernel_rfl) (by kernel_rfl) (fun _ _ _ h => h) (Or.inr ⟨by rfl, rfl⟩) (by assumption) ?_; try simp only [Act.put, List.setIfInBounds_toArray, List.set_cons_zero, List.set_cons_succ])
              | (refine wpAnyH_take (i := 11) (v := ?_) (by simp only [List.getElem?_toArray, List.getElem?_cons_succ, List.getElem?_cons_zero]; rfl) (by kernel_rfl) (by kernel_rfl) (by kernel_rfl) (fun _ _ _ h => h) (Or.inl ⟨by rfl, ?_⟩) (by assumption) ?_
                 rotate_left
                 · (intro ww hSw; (try dsimp only at hSw); go_simp; (try with_reducible rfl))
                 try simp only [Act.put, List.setIfInBounds_toArray, List.set_cons_zero, List.set_cons_succ])
              | (refine wpAnyH_ready (rs := [11]) (by kernel_rfl) (by simp) (AllReadyH.cons (by simp only [List.getElem?_toArray, List.getElem?_cons_succ, List.getElem?_cons_zero]; rfl) (fun K hK => ?_) AllReadyH.nil)
                 go_simp
                 first
                   | (go_at_call 9; (with_reducible refine (M.out _ (H1.out.below hHeld.1.1 (Nat.le_refl _)) (H2.out.below hHeld.1.1 (Nat.le_refl _))).mono ?_); rintro e w9 ⟨rfl, hb⟩; rw [E.out])
                   | (go_at_call 11; (with_reducible refine (Sm.out _ (H1.out.below hHeld.1.1 (Nat.le_refl _)) (H2.out.below hHeld.1.1 (Nat.le_refl _))).mono ?_); rintro e w9 ⟨rfl, hb⟩; rw [T.out])
                 try go_wp2_with fail
                 refine hK.out _ _ (by (first | (exact Four.drew HQ.out) | (exact Four.call hHeld hb))) (fun hHeld => ?_)
                 clear hK K
                 try simp only [Act.put, List.setIfInBounds_toArray, List.set_cons_zero, List.set_cons_succ])
            first
              | (refine wpAnyH_take (i := 12) (v := undef) (by simp only [List.getElem?_toArray, List.getElem?_cons_succ, List.getElem?_cons_zero]; rfl) (by kernel_rfl) (by kernel_rfl) (by kernel_rfl) (fun _ _ _ h => h) (Or.inr ⟨by rfl, rfl⟩) (by assumption) ?_; try simp only [Act.put, List.setIfInBounds_toArray, List.set_cons_zero, List.set_cons_succ])
              | (refine wpAnyH_take (i := 12) (v := ?_) (by simp only [List.getElem?_toArray, List.getElem?_cons_succ, List.getElem?_cons_zero]; rfl) (by kernel_rfl) (by kernel_rfl) (by kernel_rfl) (fun _ _ _ h => h) (Or.inl ⟨by rfl, ?_⟩) (by assumption) ?_
                 rotate_left
                 · (intro ww hSw; (try dsimp only at hSw); go_simp; (try with_reducible rfl))
                 try simp only [Act.put, List.setIfInBounds_toArray, List.set_cons_zero, List.set_cons_succ])
              | (refine wpAnyH_ready (rs := [12]) (by kernel_rfl) (by simp) (AllReadyH.cons (by simp only [List.getElem?_toArray, List.getElem?_cons_succ, List.getElem?_cons_zero]; rfl) (fun K hK => ?_) AllReadyH.nil)
                 go_simp
                 first
                   | (go_at_call 9; (with_reducible refine (M.out _ (H1.out.below hHeld.1.1 (Nat.le_refl _)) (H2.out.below hHeld.1.1 (Nat.le_refl _))).mono ?_); rintro e w9 ⟨rfl, hb⟩; rw [E.out])
                   | (go_at_call 11; (with_reducible refine (Sm.out _ (H1.out.below hHeld.1.1 (Nat.le_refl _)) (H2.out.below hHeld.1.1 (Nat.le_refl _))).mono ?_); rintro e w9 ⟨rfl, hb⟩; rw [T.out])
                 try go_wp2_with fail
                 refine hK.out _ _ (by (first | (exact Four.drew HQ.out) | (exact Four.call hHeld hb))) (fun hHeld => ?_)
                 clear hK K
                 try simp only [Act.put, List.setIfInBounds_toArray, List.set_cons_zero, List.set_cons_succ])
            first
              | (refine wpAnyH_take (i := 13) (v := undef) (by simp only [List.getElem?_toArray, List.getElem?_cons_succ, List.getElem?_cons_zero]; rfl) (by kernel_rfl) (by kernel_rfl) (by kernel_rfl) (fun _ _ _ h => h) (Or.inr ⟨by rfl, rfl⟩) (by assumption) ?_; try simp only [Act.put, List.setIfInBounds_toArray, List.set_cons_zero, List.set_cons_succ])
              | (refine wpAnyH_take (i := 13) (v := ?_) (by simp only [List.getElem?_toArray, List.getElem?_cons_succ, List.getElem?_cons_zero]; rfl) (by kernel_rfl) (by kernel_rfl) (by kernel_rfl) (fun _ _ _ h => h) (Or.inl ⟨by rfl, ?_⟩) (by assumption) ?_
                 rotate_left
                 · (intro ww hSw; (try dsimp only at hSw); go_simp; (try with_reducible rfl))
                 try simp only [Act.put, List.setIfInBounds_toArray, List.set_cons_zero, List.set_cons_succ])
              | (refine wpAnyH_ready (rs := [13]) (by kernel_rfl) (by simp) (AllReadyH.cons (by simp only [List.getElem?_toArray, List.getElem?_cons_succ, List.getElem?_cons_zero]; rfl) (fun K hK => ?_) AllReadyH.nil)
                 go_simp
                 first
                   | (go_at_call 9; (with_reducible refine (M.out _ (H1.out.below hHeld.1.1 (Nat.le_refl _)) (H2.out.below hHeld.1.1 (Nat.le_refl _))).mono ?_); rintro e w9 ⟨rfl, hb⟩; rw [E.out])
                   | (go_at_call 11; (with_reducible refine (Sm.out _ (H1.out.below hHeld.1.1 (Nat.le_refl _)) (H2.out.below hHeld.1.1 (Nat.le_refl _))).mono ?_); rintro e w9 ⟨rfl, hb⟩; rw [T.out])
                 try go_wp2_with fail
                 refine hK.out _ _ (by (first | (exact Four.drew HQ.out) | (exact Four.call hHeld hb))) (fun hHeld => ?_)
                 clear hK K
                 try simp only [Act.put, List.setIfInBounds_toArray, List.set_cons_zero, List.set_cons_succ])
            first
              | (refine wpAnyH_take (i := 14) (v := undef) (by simp only [List.getElem?_toArray, List.getElem?_cons_succ, List.getElem?_cons_zero]; rfl) (by kernel_rfl) (by kernel_rfl) (by kernel_rfl) (fun _ _ _ h => h) (Or.inr ⟨by rfl, rfl⟩) (by assumption) ?_; try simp only [Act.put, List.setIfInBounds_toArray, List.set_cons_zero, List.set_cons_succ])
              | (refine wpAnyH_take (i := 14) (v := ?_) (by simp only [List.getElem?_toArray, List.getElem?_cons_succ, List.getElem?_cons_zero]; rfl) (by kernel_rfl) (by kernel_rfl) (by kernel_rfl) (fun _ _ _ h => h) (Or.inl ⟨by rfl, ?_⟩) (by assumption) ?_
                 rotate_left
                 · (intro ww hSw; (try dsimp only at hSw); go_simp; (try with_reducible rfl))
                 try simp only [Act.put, List.setIfInBounds_toArray, List.set_cons_zero, List.set_cons_succ])
              | (refine wpAnyH_ready (rs := [14]) (by kernel_rfl) (by simp) (AllReadyH.cons (by simp only [List.getElem?_toArray, List.getElem?_cons_succ, List.getElem?_cons_zero]; rfl) (fun K hK => ?_) AllReadyH.nil)
                 go_simp
                 first
                   | (go_at_call 9; (with_reducible refine (M.out _ (H1.out.below hHeld.1.1 (Nat.le_refl _)) (H2.out.below hHeld.1.1 (Nat.le_refl _))).mono ?_); rintro e w9 ⟨rfl, hb⟩; rw [E.out])
                   | (go_at_call 11; (with_reducible refine (Sm.out _ (H1.out.below hHeld.1.1 (Nat.le_refl _)) (H2.out.below hHeld.1.1 (Nat.le_refl _))).mono ?_); rintro e w9 ⟨rfl, hb⟩; rw [T.out])
                 try go_wp2_with fail
                 refine hK.out _ _ (by (first | (exact Four.drew HQ.out) | (exact Four.call hHeld hb))) (fun hHeld => ?_)
                 clear hK K
                 try simp only [Act.put, List.setIfInBounds_toArray, List.set_cons_zero, List.set_cons_succ])
            first
              | (refine wpAnyH_take (i := 15) (v := undef) (by simp only [List.getElem?_toArray, List.getElem?_cons_succ, List.getElem?_cons_zero]; rfl) (by kernel_rfl) (by kernel_rfl) (by kernel_rfl) (fun _ _ _ h => h) (Or.inr ⟨by rfl, rfl⟩) (by assumption) ?_; try simp only [Act.put, List.setIfInBounds_toArray, List.set_cons_zero, List.set_cons_succ])
              | (refine wpAnyH_take (i := 15) (v := ?_) (by simp only [List.getElem?_toArray, List.getElem?_cons_succ, List.getElem?_cons_zero]; rfl) (by kernel_rfl) (by kernel_rfl) (by kernel_rfl) (fun _ _ _ h => h) (Or.inl ⟨by rfl, ?_⟩) (by assumption) ?_
                 rotate_left
                 · (intro ww hSw; (try dsimp only at hSw); go_simp; (try with_reducible rfl))
                 try simp only [Act.put, List.setIfInBounds_toArray, List.set_cons_zero, List.set_cons_succ])
              | (refine wpAnyH_ready (rs := [15]) (by kernel_rfl) (by simp) (AllReadyH.cons (by simp only [List.getElem?_toArray, List.getElem?_cons_succ, List.getElem?_cons_zero]; rfl) (fun K hK => ?_) AllReadyH.nil)
                 go_simp
                 first
                   | (go_at_call 9; (with_reducible refine (M.out _ (H1.out.below hHeld.1.1 (Nat.le_refl _)) (H2.out.below hHeld.1.1 (Nat.le_refl _))).mono ?_); rintro e w9 ⟨rfl, hb⟩; rw [E.out])
                   | (go_at_call 11; (with_reducible refine (Sm.out _ (H1.out.below hHeld.1.1 (Nat.le_refl _)) (H2.out.below hHeld.1.1 (Nat.le_refl _))).mono ?_); rintro e w9 ⟨rfl, hb⟩; rw [T.out])
                 try go_wp2_with fail
                 refine hK.out _ _ (by (first | (exact Four.drew HQ.out) | (exact Four.call hHeld hb))) (fun hHeld => ?_)
                 clear hK K
                 try simp only [Act.put, List.setIfInBounds_toArray, List.set_cons_zero, List.set_cons_succ])
            first
              | (refine wpAnyH_take (i := 16) (v := undef) (by simp only [List.getElem?_toArray, List.getElem?_cons_succ, List.getElem?_cons_zero]; rfl) (by kernel_rfl) (by kernel_rfl) (by kernel_rfl) (fun _ _ _ h => h) (Or.inr ⟨by rfl, rfl⟩) (by assumption) ?_; try simp only [Act.put, List.setIfInBounds_toArray, List.set_cons_zero, List.set_cons_succ])
              | (refine wpAnyH_take (i := 16) (v := ?_) (by simp only [List.getElem?_toArray, List.getElem?_cons_succ, List.getElem?_cons_zero]; rfl) (by kernel_rfl) (by kernel_rfl) (by kernel_rfl) (fun _ _ _ h => h) (Or.inl ⟨by rfl, ?_⟩) (by assumption) ?_
                 rotate_left
                 · (intro ww hSw; (try dsimp only at hSw); go_simp; (try with_reducible rfl))
                 try simp only [Act.put, List.setIfInBounds_toArray, List.set_cons_zero, List.set_cons_succ])
              | (refine wpAnyH_ready (rs := [16]) (by kernel_rfl) (by simp) (AllReadyH.cons (by simp only [List.getElem?_toArray, List.getElem?_cons_succ, List.getElem?_cons_zero]; rfl) (fun K hK => ?_) AllReadyH.nil)
                 go_simp
                 first
                   | (go_at_call 9; (with_reducible refine (M.out _ (H1.out.below hHeld.1.1 (Nat.le_refl _)) (H2.out.below hHeld.1.1 (Nat.le_refl _))).mono ?_); rintro e w9 ⟨rfl, hb⟩; rw [E.out])
                   | (go_at_call 11; (with_reducible refine (Sm.out _ (H1.out.below hHeld.1.1 (Nat.le_refl _)) (H2.out.below hHeld.1.1 (Nat.le_refl _))).mono ?_); rintro e w9 ⟨rfl, hb⟩; rw [T.out])
                 try go_wp2_with fail
                 refine hK.out _ _ (by (first | (exact Four.drew HQ.out) | (exact Four.call hHeld hb))) (fun hHeld => ?_)
                 clear hK K
                 try simp only [Act.put, List.setIfInBounds_toArray, List.set_cons_zero, List.set_cons_succ])
            first
              | (refine wpAnyH_take (i := 17) (v := undef) (by simp only [List.getElem?_toArray, List.getElem?_cons_succ, List.getElem?_cons_zero]; rfl) (by kernel_rfl) (by kernel_rfl) (by kernel_rfl) (fun _ _ _ h => h) (Or.inr ⟨by rfl, rfl⟩) (by assumption) ?_; try simp only [Act.put, List.setIfInBounds_toArray, List.set_cons_zero, List.set_cons_succ])
              | (refine wpAnyH_take (i := 17) (v := ?_) (by simp only [List.getElem?_toArray, List.getElem?_cons_succ, List.getElem?_cons_zero]; rfl) (by kernel_rfl) (by kernel_rfl) (by kernel_rfl) (fun _ _ _ h => h) (Or.inl ⟨by rfl, ?_⟩) (by assumption) ?_
                 rotate_left
                 · (intro ww hSw; (try dsimp only at hSw); go_simp; (try with_reducible rfl))
                 try simp only [Act.put, List.setIfInBounds_toArray, List.set_cons_zero, List.set_cons_succ])
              | (refine wpAnyH_ready (rs := [17]) (by kernel_rfl) (by simp) (AllReadyH.cons (by simp only [List.getElem?_toArray, List.getElem?_cons_succ, List.getElem?_cons_zero]; rfl) (fun K hK => ?_) AllReadyH.nil)
                 go_simp
                 first
                   | (go_at_call 9; (with_reducible refine (M.out _ (H1.out.below hHeld.1.1 (Nat.le_refl _)) (H2.out.below hHeld.1.1 (Nat.le_refl _))).mono ?_); rintro e w9 ⟨rfl, hb⟩; rw [E.out])
                   | (go_at_call 11; (with_reducible refine (Sm.out _ (H1.out.below hHeld.1.1 (Nat.le_refl _)) (H2.out.below hHeld.1.1 (Nat.le_refl _))).mono ?_); rintro e w9 ⟨rfl, hb⟩; rw [T.out])
                 try go_wp2_with fail
                 refine hK.out _ _ (by (first | (exact Four.drew HQ.out) | (exact Four.call hHeld hb))) (fun hHeld => ?_)
                 clear hK K
                 try simp only [Act.put, List.setIfInBounds_toArray, List.set_cons_zero, List.set_cons_succ])
            first
              | (refine wpAnyH_take (i := 18) (v := undef) (by simp only [List.getElem?_toArray, List.getElem?_cons_succ, List.getElem?_cons_zero]; rfl) (by kernel_rfl) (by kernel_rfl) (by kernel_rfl) (fun _ _ _ h => h) (Or.inr ⟨by rfl, rfl⟩) (by assumption) ?_; try simp only [Act.put, List.setIfInBounds_toArray, List.set_cons_zero, List.set_cons_succ])
              | (refine wpAnyH_take (i := 18) (v := ?_) (by simp only [List.getElem?_toArray, List.getElem?_cons_succ, List.getElem?_cons_zero]; rfl) (by kernel_rfl) (by kernel_rfl) (by kernel_rfl) (fun _ _ _ h => h) (Or.inl ⟨by rfl, ?_⟩) (by assumption) ?_
                 rotate_left
                 · (intro ww hSw; (try dsimp only at hSw); go_simp; (try with_reducible rfl))
                 try simp only [Act.put, List.setIfInBounds_toArray, List.set_cons_zero, List.set_cons_succ])
              | (refine wpAnyH_ready (rs := [18]) (by kernel_rfl) (by simp) (AllReadyH.cons (by simp only [List.getElem?_toArray, List.getElem?_cons_succ, List.getElem?_cons_zero]; rfl) (fun K hK => ?_) AllReadyH.nil)
                 go_simp
                 first
                   | (go_at_call 9; (with_reducible refine (M.out _ (H1.out.below hHeld.1.1 (Nat.le_refl _)) (H2.out.below hHeld.1.1 (Nat.le_refl _))).mono ?_); rintro e w9 ⟨rfl, hb⟩; rw [E.out])
                   | (go_at_call 11; (with_reducible refine (Sm.out _ (H1.out.below hHeld.1.1 (Nat.le_refl _)) (H2.out.below hHeld.1.1 (Nat.le_refl _))).mono ?_); rintro e w9 ⟨rfl, hb⟩; rw [T.out])
                 try go_wp2_with fail
                 refine hK.out _ _ (by (first | (exact Four.drew HQ.out) | (exact Four.call hHeld hb))) (fun hHeld => ?_)
                 clear hK K
                 try simp only [Act.put, List.setIfInBounds_toArray, List.set_cons_zero, List.set_cons_succ])
            first
              | (refine wpAnyH_take (i := 19) (v := undef) (by simp only [List.getElem?_toArray, List.getElem?_cons_succ, List.getElem?_cons_zero]; rfl) (by kernel_rfl) (by kernel_rfl) (by kernel_rfl) (fun _ _ _ h => h) (Or.inr ⟨by rfl, rfl⟩) (by assumption) ?_; try simp only [Act.put, List.setIfInBounds_toArray, List.set_cons_zero, List.set_cons_succ])
              | (refine wpAnyH_take (i := 19) (v := ?_) (by simp only [List.getElem?_toArray, List.getElem?_cons_succ, List.getElem?_cons_zero]; rfl) (by kernel_rfl) (by kernel_rfl) (by kernel_rfl) (fun _ _ _ h => h) (Or.inl ⟨by rfl, ?_⟩) (by assumption) ?_
                 rotate_left
                 · (intro ww hSw; (try dsimp only at hSw); go_simp; (try with_reducible rfl))
                 try simp only [Act.put, List.setIfInBounds_toArray, List.set_cons_zero, List.set_cons_succ])
              | (refine wpAnyH_ready (rs := [19]) (by kernel_rfl) (by simp) (AllReadyH.cons (by simp only [List.getElem?_toArray, List.getElem?_cons_succ, List.getElem?_cons_zero]; rfl) (fun K hK => ?_) AllReadyH.nil)
                 go_simp
                 first
                   | (go_at_call 9; (with_reducible refine (M.out _ (H1.out.below hHeld.1.1 (Nat.le_refl _)) (H2.out.below hHeld.1.1 (Nat.le_refl _))).mono ?_); rintro e w9 ⟨rfl, hb⟩; rw [E.out])
                   | (go_at_call 11; (with_reducible refine (Sm.out _ (H1.out.below hHeld.1.1 (Nat.le_refl _)) (H2.out.below hHeld.1.1 (Nat.le_refl _))).mono ?_); rintro e w9 ⟨rfl, hb⟩; rw [T.out])
                 try go_wp2_with fail
                 refine hK.out _ _ (by (first | (exact Four.drew HQ.out) | (exact Four.call hHeld hb))) (fun hHeld => ?_)
                 clear hK K
                 try simp only [Act.put, List.setIfInBounds_toArray, List.set_cons_zero, List.set_cons_succ])
            first
              | (refine wpAnyH_take (i := 21) (v := undef) (by simp only [List.getElem?_toArray, List.getElem?_cons_succ, List.getElem?_cons_zero]; rfl) (by kernel_rfl) (by kernel_rfl) (by kernel_rfl) (fun _ _ _ h => h) (Or.inr ⟨by rfl, rfl⟩) (by assumption) ?_; try simp only [Act.put, List.setIfInBounds_toArray, List.set_cons_zero, List.set_cons_succ])
              | (refine wpAnyH_take (i := 21) (v := ?_) (by simp only [List.getElem?_toArray, List.getElem?_cons_succ, List.getElem?_cons_zero]; rfl) (by kernel_rfl) (by kernel_rfl) (by kernel_rfl) (fun _ _ _ h => h) (Or.inl ⟨by rfl, ?_⟩) (by assumption) ?_
                 rotate_left
                 · (intro ww hSw; (try dsimp only at hSw); go_simp; (try with_reducible rfl))
                 try simp only [Act.put, List.setIfInBounds_toArray, List.set_cons_zero, List.set_cons_succ])
              | (refine wpAnyH_ready (rs := [21]) (by kernel_rfl) (by simp) (AllReadyH.cons (by simp only [List.getElem?_toArray, List.getElem?_cons_succ, List.getElem?_cons_zero]; rfl) (fun K hK => ?_) AllReadyH.nil)
                 go_simp
                 first
                   | (go_at_call 9; (with_reducible refine (M.out _ (H1.out.below hHeld.1.1 (Nat.le_refl _)) (H2.out.below hHeld.1.1 (Nat.le_refl _))).mono ?_); rintro e w9 ⟨rfl, hb⟩; rw [E.out])
                   | (go_at_call 11; (with_reducible refine (Sm.out _ (H1.out.below hHeld.1.1 (Nat.le_refl _)) (H2.out.below hHeld.1.1 (Nat.le_refl _))).mono ?_); rintro e w9 ⟨rfl, hb⟩; rw [T.out])
                 try go_wp2_with fail
                 refine hK.out _ _ (by (first | (exact Four.drew HQ.out) | (exact Four.call hHeld hb))) (fun hHeld => ?_)
                 clear hK K
                 try simp only [Act.put, List.setIfInBounds_toArray, List.set_cons_zero, List.set_cons_succ])
            first
              | (refine wpAnyH_take (i := 22) (v := undef) (by simp only [List.getElem?_toArray, List.getElem?_cons_succ, List.getElem?_cons_zero]; rfl) (by kernel_rfl) (by kernel_rfl) (by kernel_rfl) (fun _ _ _ h => h) (Or.inr ⟨by rfl, rfl⟩) (by assumption) ?_; try simp only [Act.put, List.setIfInBounds_toArray, List.set_cons_zero, List.set_cons_succ])
              | (refine wpAnyH_take (i := 22) (v := ?_) (by simp only [List.getElem?_toArray, List.getElem?_cons_succ, List.getElem?_cons_zero]; rfl) (by kernel_rfl) (by kernel_rfl) (by kernel_rfl) (fun _ _ _ h => h) (Or.inl ⟨by rfl, ?_⟩) (by assumption) ?_
                 rotate_left
                 · (intro ww hSw; (try dsimp only at hSw); go_simp; (try with_reducible rfl))
                 try simp only [Act.put, List.setIfInBounds_toArray, List.set_cons_zero, List.set_cons_succ])
              | (refine wpAnyH_ready (rs := [22]) (by kernel_rfl) (by simp) (AllReadyH.cons (by simp only [List.getElem?_toArray, List.getElem?_cons_succ, List.getElem?_cons_zero]; rfl) (fun K hK => ?_) AllReadyH.nil)
                 go_simp
                 first
                   | (go_at_call 9; (with_reducible refine (M.out _ (H1.out.below hHeld.1.1 (Nat.le_refl _)) (H2.out.below hHeld.1.1 (Nat.le_refl _))).mono ?_); rintro e w9 ⟨rfl, hb⟩; rw [E.out])
                   | (go_at_call 11; (with_reducible refine (Sm.out _ (H1.out.below hHeld.1.1 (Nat.le_refl _)) (H2.out.below hHeld.1.1 (Nat.le_refl _))).mono ?_); rintro e w9 ⟨rfl, hb⟩; rw [T.out])
                 try go_wp2_with fail
                 refine hK.out _ _ (by (first | (exact Four.drew HQ.out) | (exact Four.call hHeld hb))) (fun hHeld => ?_)
                 clear hK K
                 try simp only [Act.put, List.setIfInBounds_toArray, List.set_cons_zero, List.set_cons_succ])
            first
              | (refine wpAnyH_take (i := 23) (v := undef) (by simp only [List.getElem?_toArray, List.getElem?_cons_succ, List.getElem?_cons_zero]; rfl) (by kernel_rfl) (by kernel_rfl) (by kernel_rfl) (fun _ _ _ h => h) (Or.inr ⟨by rfl, rfl⟩) (by assumption) ?_; try simp only [Act.put, List.setIfInBounds_toArray, List.set_cons_zero, List.set_cons_succ])
              | (refine wpAnyH_take (i := 23) (v := ?_) (by simp only [List.getElem?_toArray, List.getElem?_cons_succ, List.getElem?_cons_zero]; rfl) (by kernel_rfl) (by kernel_rfl) (by kernel_rfl) (fun _ _ _ h => h) (Or.inl ⟨by rfl, ?_⟩) (by assumption) ?_
                 rotate_left
                 · (intro ww hSw; (try dsimp only at hSw); go_simp; (try with_reducible rfl))
                 try simp only [Act.put, List.setIfInBounds_toArray, List.set_cons_zero, List.set_cons_succ])
              | (refine wpAnyH_ready (rs := [23]) (by kernel_rfl) (by simp) (AllReadyH.cons (by simp only [List.getElem?_toArray, List.getElem?_cons_succ, List.getElem?_cons_zero]; rfl) (fun K hK => ?_) AllReadyH.nil)
                 go_simp
                 first
                   | (go_at_call 9; (with_reducible refine (M.out _ (H1.out.below hHeld.1.1 (Nat.le_refl _)) (H2.out.below hHeld.1.1 (Nat.le_refl _))).mono ?_); rintro e w9 ⟨rfl, hb⟩; rw [E.out])
                   | (go_at_call 11; (with_reducible refine (Sm.out _ (H1.out.below hHeld.1.1 (Nat.le_refl _)) (H2.out.below hHeld.1.1 (Nat.le_refl _))).mono ?_); rintro e w9 ⟨rfl, hb⟩; rw [T.out])
                 try go_wp2_with fail
                 refine hK.out _ _ (by (first | (exact Four.drew HQ.out) | (exact Four.call hHeld hb))) (fun hHeld => ?_)
                 clear hK K
                 try simp only [Act.put, List.setIfInBounds_toArray, List.set_cons_zero, List.set_cons_succ])
            first
              | (refine wpAnyH_take (i := 24) (v := undef) (by simp only [List.getElem?_toArray, List.getElem?_cons_succ, List.getElem?_cons_zero]; rfl) (by kernel_rfl) (by kernel_rfl) (by kernel_rfl) (fun _ _ _ h => h) (Or.inr ⟨by rfl, rfl⟩) (by assumption) ?_; try simp only [Act.put, List.setIfInBounds_toArray, List.set_cons_zero, List.set_cons_succ])
              | (refine wpAnyH_take (i := 24) (v := ?_) (by simp only [List.getElem?_toArray, List.getElem?_cons_succ, List.getElem?_cons_zero]; rfl) (by kernel_rfl) (by kernel_rfl) (by kernel_rfl) (fun _ _ _ h => h) (Or.inl ⟨by rfl, ?_⟩) (by assumption) ?_
                 rotate_left
                 · (intro ww hSw; (try dsimp only at hSw); go_simp; (try with_reducible rfl))
                 try simp only [Act.put, List.setIfInBounds_toArray, List.set_cons_zero, List.set_cons_succ])
              | (refine wpAnyH_ready (rs := [24]) (by kernel_rfl) (by simp) (AllReadyH.cons (by simp only [List.getElem?_toArray, List.getElem?_cons_succ, List.getElem?_cons_zero]; rfl) (fun K hK => ?_) AllReadyH.nil)
                 go_simp
                 first
                   | (go_at_call 9; (with_reducible refine (M.out _ (H1.out.below hHeld.1.1 (Nat.le_refl _)) (H2.out.below hHeld.1.1 (Nat.le_refl _))).mono ?_); rintro e w9 ⟨rfl, hb⟩; rw [E.out])
                   | (go_at_call 11; (with_reducible refine (Sm.out _ (H1.out.below hHeld.1.1 (Nat.le_refl _)) (H2.out.below hHeld.1.1 (Nat.le_refl _))).mono ?_); rintro e w9 ⟨rfl, hb⟩; rw [T.out])
                 try go_wp2_with fail
                 refine hK.out _ _ (by (first | (exact Four.drew HQ.out) | (exact Four.call hHeld hb))) (fun hHeld => ?_)
                 clear hK K
                 try simp only [Act.put, List.setIfInBounds_toArray, List.set_cons_zero, List.set_cons_succ])
            first
              | (refine wpAnyH_take (i := 25) (v := undef) (by simp only [List.getElem?_toArray, List.getElem?_cons_succ, List.getElem?_cons_zero]; rfl) (by kernel_rfl) (by kernel_rfl) (by kernel_rfl) (fun _ _ _ h => h) (Or.inr ⟨by rfl, rfl⟩) (by assumption) ?_; try simp only [Act.put, List.setIfInBounds_toArray, List.set_cons_zero, List.set_cons_succ])
              | (refine wpAnyH_take (i := 25) (v := ?_) (by simp only [List.getElem?_toArray, List.getElem?_cons_succ, List.getElem?_cons_zero]; rfl) (by kernel_rfl) (by kernel_rfl) (by kernel_rfl) (fun _ _ _ h => h) (Or.inl ⟨by rfl, ?_⟩) (by assumption) ?_
                 rotate_left
                 · (intro ww hSw; (try dsimp only at hSw); go_simp; (try with_reducible rfl))
                 try simp only [Act.put, List.setIfInBounds_toArray, List.set_cons_zero, List.set_cons_succ])
              | (refine wpAnyH_ready (rs := [25]) (by kernel_rfl) (by simp) (AllReadyH.cons (by simp only [List.getElem?_toArray, List.getElem?_cons_succ, List.getElem?_cons_zero]; rfl) (fun K hK => ?_) AllReadyH.nil)
                 go_simp
                 first
                   | (go_at_call 9; (with_reducible refine (M.out _ (H1.out.below hHeld.1.1 (Nat.le_refl _)) (H2.out.below hHeld.1.1 (Nat.le_refl _))).mono ?_); rintro e w9 ⟨rfl, hb⟩; rw [E.out])
                   | (go_at_call 11; (with_reducible refine (Sm.out _ (H1.out.below hHeld.1.1 (Nat.le_refl _)) (H2.out.below hHeld.1.1 (Nat.le_refl _))).mono ?_); rintro e w9 ⟨rfl, hb⟩; rw [T.out])
                 try go_wp2_with fail
                 refine hK.out _ _ (by (first | (exact Four.drew HQ.out) | (exact Four.call hHeld hb))) (fun hHeld => ?_)
                 clear hK K
                 try simp only [Act.put, List.setIfInBounds_toArray, List.set_cons_zero, List.set_cons_succ])
            first
              | (refine wpAnyH_take (i := 26) (v := undef) (by simp only [List.getElem?_toArray, List.getElem?_cons_succ, List.getElem?_cons_zero]; rfl) (by kernel_rfl) (by kernel_rfl) (by kernel_rfl) (fun _ _ _ h => h) (Or.inr ⟨by rfl, rfl⟩) (by assumption) ?_; try simp only [Act.put, List.setIfInBounds_toArray, List.set_cons_zero, List.set_cons_succ])
              | (refine wpAnyH_take (i := 26) (v := ?_) (by simp only [List.getElem?_toArray, List.getElem?_cons_succ, List.getElem?_cons_zero]; rfl) (by kernel_rfl) (by kernel_rfl) (by kernel_rfl) (fun _ _ _ h => h) (Or.inl ⟨by rfl, ?_⟩) (by assumption) ?_
                 rotate_left
                 · (intro ww hSw; (try dsimp only at hSw); go_simp; (try with_reducible rfl))
                 try simp only [Act.put, List.setIfInBounds_toArray, List.set_cons_zero, List.set_cons_succ])
              | (refine wpAnyH_ready (rs := [26]) (by kernel_rfl) (by simp) (AllReadyH.cons (by simp only [List.getElem?_toArray, List.getElem?_cons_succ, List.getElem?_cons_zero]; rfl) (fun K hK => ?_) AllReadyH.nil)
                 go_simp
                 first
                   | (go_at_call 9; (with_reducible refine (M.out _ (H1.out.below hHeld.1.1 (Nat.le_refl _)) (H2.out.below hHeld.1.1 (Nat.le_refl _))).mono ?_); rintro e w9 ⟨rfl, hb⟩; rw [E.out])
                   | (go_at_call 11; (with_reducible refine (Sm.out _ (H1.out.below hHeld.1.1 (Nat.le_refl _)) (H2.out.below hHeld.1.1 (Nat.le_refl _))).mono ?_); rintro e w9 ⟨rfl, hb⟩; rw [T.out])
                 try go_wp2_with fail
                 refine hK.out _ _ (by (first | (exact Four.drew HQ.out) | (exact Four.call hHeld hb))) (fun hHeld => ?_)
                 clear hK K
                 try simp only [Act.put, List.setIfInBounds_toArray, List.set_cons_zero, List.set_cons_succ])
            first
              | (refine wpAnyH_take (i := 20) (v := undef) (by simp only [List.getElem?_toArray, List.getElem?_cons_succ, List.getElem?_cons_zero]; rfl) (by kernel_rfl) (by kernel_rfl) (by kernel_rfl) (fun _ _ _ h => h) (Or.inr ⟨by rfl, rfl⟩) (by assumption) ?_; try simp only [Act.put, List.setIfInBounds_toArray, List.set_cons_zero, List.set_cons_succ])
              | (refine wpAnyH_take (i := 20) (v := ?_) (by simp only [List.getElem?_toArray, List.getElem?_cons_succ, List.getElem?_cons_zero]; rfl) (by kernel_rfl) (by kernel_rfl) (by kernel_rfl) (fun _ _ _ h => h) (Or.inl ⟨by rfl, ?_⟩) (by assumption) ?_
                 rotate_left
                 · (intro ww hSw; (try dsimp only at hSw); go_simp; (try with_reducible rfl))
                 try simp only [Act.put, List.setIfInBounds_toArray, List.set_cons_zero, List.set_cons_succ])
              | (refine wpAnyH_ready (rs := [20]) (by kernel_rfl) (by simp) (AllReadyH.cons (by simp only [List.getElem?_toArray, List.getElem?_cons_succ, List.getElem?_cons_zero]; rfl) (fun K hK => ?_) AllReadyH.nil)
                 go_simp
                 first
                   | (go_at_call 9; (with_reducible refine (M.out _ (H1.out.below hHeld.1.1 (Nat.le_refl _)) (H2.out.below hHeld.1.1 (Nat.le_refl _))).mono ?_); rintro e w9 ⟨rfl, hb⟩; rw [E.out])
                   | (go_at_call 11; (with_reducible refine (Sm.out _ (H1.out.below hHeld.1.1 (Nat.le_refl _)) (H2.out.below hHeld.1.1 (Nat.le_refl _))).mono ?_); rintro e w9 ⟨rfl, hb⟩; rw [T.out])
                 try go_wp2_with fail
                 refine hK.out _ _ (by (first | (exact Four.drew HQ.out) | (exact Four.call hHeld hb))) (fun hHeld => ?_)
                 clear hK K
                 try simp only [Act.put, List.setIfInBounds_toArray, List.set_cons_zero, List.set_cons_succ])
            first
              | (refine wpAnyH_take (i := 27) (v := undef) (by simp only [List.getElem?_toArray, List.getElem?_cons_succ, List.getElem?_cons_zero]; rfl) (by kernel_rfl) (by kernel_rfl) (by kernel_rfl) (fun _ _ _ h => h) (Or.inr ⟨by rfl, rfl⟩) (by assumption) ?_; try simp only [Act.put, List.setIfInBounds_toArray, List.set_cons_zero, List.set_cons_succ])
              | (refine wpAnyH_take (i := 27) (v := ?_) (by simp only [List.getElem?_toArray, List.getElem?_cons_succ, List.getElem?_cons_zero]; rfl) (by kernel_rfl) (by kernel_rfl) (by kernel_rfl) (fun _ _ _ h => h) (Or.inl ⟨by rfl, ?_⟩) (by assumption) ?_
                 rotate_left
                 · (intro ww hSw; (try dsimp only at hSw); go_simp; (try with_reducible rfl))
                 try simp only [Act.put, List.setIfInBounds_toArray, List.set_cons_zero, List.set_cons_succ])
              | (refine wpAnyH_ready (rs := [27]) (by kernel_rfl) (by simp) (AllReadyH.cons (by simp only [List.getElem?_toArray, List.getElem?_cons_succ, List.getElem?_cons_zero]; rfl) (fun K hK => ?_) AllReadyH.nil)
                 go_simp
                 first
                   | (go_at_call 9; (with_reducible refine (M.out _ (H1.out.below hHeld.1.1 (Nat.le_refl _)) (H2.out.below hHeld.1.1 (Nat.le_refl _))).mono ?_); rintro e w9 ⟨rfl, hb⟩; rw [E.out])
                   | (go_at_call 11; (with_reducible refine (Sm.out _ (H1.out.below hHeld.1.1 (Nat.le_refl _)) (H2.out.below hHeld.1.1 (Nat.le_refl _))).mono ?_); rintro e w9 ⟨rfl, hb⟩; rw [T.out])
                 try go_wp2_with fail
                 refine hK.out _ _ (by (first | (exact Four.drew HQ.out) | (exact Four.call hHeld hb))) (fun hHeld => ?_)
                 clear hK K
                 try simp only [Act.put, List.setIfInBounds_toArray, List.set_cons_zero, List.set_cons_succ])
            first
              | (refine wpAnyH_take (i := 28) (v := undef) (by simp only [List.getElem?_toArray, List.getElem?_cons_succ, List.getElem?_cons_zero]; rfl) (by kernel_rfl) (by kernel_rfl) (by kernel_rfl) (fun _ _ _ h => h) (Or.inr ⟨by rfl, rfl⟩) (by assumption) ?_; try simp only [Act.put, List.setIfInBounds_toArray, List.set_cons_zero, List.set_cons_succ])
              | (refine wpAnyH_take (i := 28) (v := ?_) (by simp only [List.getElem?_toArray, List.getElem?_cons_succ, List.getElem?_cons_zero]; rfl) (by kernel_rfl) (by kernel_rfl) (by kernel_rfl) (fun _ _ _ h => h) (Or.inl ⟨by rfl, ?_⟩) (by assumption) ?_
                 rotate_left
                 · (intro ww hSw; (try dsimp only at hSw); go_simp; (try with_reducible rfl))
                 try simp only [Act.put, List.setIfInBounds_toArray, List.set_cons_zero, List.set_cons_succ])
              | (refine wpAnyH_ready (rs := [28]) (by kernel_rfl) (by simp) (AllReadyH.cons (by simp only [List.getElem?_toArray, List.getElem?_cons_succ, List.getElem?_cons_zero]; rfl) (fun K hK => ?_) AllReadyH.nil)
                 go_simp
                 first
                   | (go_at_call 9; (with_reducible refine (M.out _ (H1.out.below hHeld.1.1 (Nat.le_refl _)) (H2.out.below hHeld.1.1 (Nat.le_refl _))).mono ?_); rintro e w9 ⟨rfl, hb⟩; rw [E.out])
                   | (go_at_call 11; (with_reducible refine (Sm.out _ (H1.out.below hHeld.1.1 (Nat.le_refl _)) (H2.out.below hHeld.1.1 (Nat.le_refl _))).mono ?_); rintro e w9 ⟨rfl, hb⟩; rw [T.out])
                 try go_wp2_with fail
                 refine hK.out _ _ (by (first | (exact Four.drew HQ.out) | (exact Four.call hHeld hb))) (fun hHeld => ?_)
                 clear hK K
                 try simp only [Act.put, List.setIfInBounds_toArray, List.set_cons_zero, List.set_cons_succ])
            refine wpAnyH_done (by kernel_rfl) ?_ _
            refine NoPanic.normal ?_
            go_wp2_with fail
            go_roundw
            case rel => exact ⟨_, by omega, by omega, rfl, hHeld⟩
            case measure => simp [intOf]
        · have hx := Bool.eq_false_or_eq_true x4
          have M := M4
          have Sm := S4
          have E := E4
          have T := T4
          clear hj j0 j5 M0 M1 M2 M3 M4 S0 S1 S2 S3 S4 E0 E1 E2 E3 E4 T0 T1 T2 T3 T4
          rcases hx with hx | hx
          all_goals
            go_wp2_with fail
            refine wp_region_noPanic ?_
            refine wp_region_held_drew (S := (fun w' => (Below w.heap.size w w' ∧ w.heap.size < w'.heap.size ∧ ∀ j, w'.cell? ⟨w.heap.size, j, none⟩ = (#[.int .i64 k, .int .i64 d, .int .i64 i, .int .i64 b, .int .i64 h, .slice ga gs.length gn, .int .i64 p, .slice wa ws.length wn, .int .i64 f][j]? : Option Value)) ∧ (Below w.heap.size w w' ∧ w3.heap.size < w'.heap.size ∧ ∀ j, w'.cell? ⟨w3.heap.size, j, none⟩ = (#[.int .i64 k, .int .i64 d, .int .i64 ((n : Int) % 1073741824), .int .i64 b, .int .i64 h, .slice ga gs.length gn, .int .i64 p, .slice wa ws.length wn, .int .i64 f, .int .i64 k, .int .i64 d, .int .i64 i, .int .i64 ((n : Int) % 1073741824), .int .i64 h, .slice ga gs.length gn, .int .i64 p, .slice wa ws.length wn, .int .i64 f, .int .i64 k, .int .i64 d, .int .i64 i, .int .i64 b, .int .i64 ((n : Int) % 1073741824), .slice ga gs.length gn, .int .i64 p, .slice wa ws.length wn, .int .i64 f, .int .i64 k, .int .i64 d, .int .i64 i, .int .i64 b, .int .i64 h, .slice ga gs.length gn, .int .i64 ((n : Int) % 1073741824), .slice wa ws.length wn, .int .i64 f, .int .i64 k, .int .i64 d, .int .i64 i, .int .i64 b, .int .i64 h, .slice ga gs.length gn, .int .i64 p, .slice wa ws.length wn, .int .i64 ((n : Int) % 1073741824)][j]? : Option Value)) ∧ (Below w.heap.size w w' ∧ r < w'.heap.size ∧ ∀ j, w'.cell? ⟨r, j, none⟩ = (#[.bool x0, .bool x1, .bool x2, .bool x3, .bool x4][j]? : Option Value)) ∧ (Below w.heap.size w w' ∧ wc.heap.size < w'.heap.size ∧ ∀ j, w'.cell? ⟨wc.heap.size, j, none⟩ = (#[.int .i64 i, .int .i64 b, .int .i64 h, .int .i64 p, .int .i64 f][j]? : Option Value)))) (by kernel_rfl) (by (first | (exact Four.drew HQ.out) | (exact Four.call hHeld hb))) (fun hHeld => ?_)
            first
              | (refine wpAnyH_take (i := 0) (v := undef) (by simp only [List.getElem?_toArray, List.getElem?_cons_succ, List.getElem?_cons_zero]; rfl) (by kernel_rfl) (by kernel_rfl) (by kernel_rfl) (fun _ _ _ h => h) (Or.inr ⟨by rfl, rfl⟩) (by assumption) ?_; try simp only [Act.put, List.setIfInBounds_toArray, List.set_cons_zero, List.set_cons_succ])
              | (refine wpAnyH_take (i := 0) (v := ?_) (by simp only [List.getElem?_toArray, List.getElem?_cons_succ, List.getElem?_cons_zero]; rfl) (by kernel_rfl) (by kernel_rfl) (by kernel_rfl) (fun _ _ _ h => h) (Or.inl ⟨by rfl, ?_⟩) (by assumption) ?_
                 rotate_left
                 · (intro ww hSw; (try dsimp only at hSw); go_simp; (try with_reducible rfl))
                 try simp only [Act.put, List.setIfInBounds_toArray, List.set_cons_zero, List.set_cons_succ])
              | (refine wpAnyH_ready (rs := [0]) (by kernel_rfl) (by simp) (AllReadyH.cons (by simp only [List.getElem?_toArray, List.getElem?_cons_succ, List.getElem?_cons_zero]; rfl) (fun K hK => ?_) AllReadyH.nil)
                 go_simp
                 first
                   | (go_at_call 9; (with_reducible refine (M.out _ (H1.out.below hHeld.1.1 (Nat.le_refl _)) (H2.out.below hHeld.1.1 (Nat.le_refl _))).mono ?_); rintro e w9 ⟨rfl, hb⟩; rw [E.out])
                   | (go_at_call 11; (with_reducible refine (Sm.out _ (H1.out.below hHeld.1.1 (Nat.le_refl _)) (H2.out.below hHeld.1.1 (Nat.le_refl _))).mono ?_); rintro e w9 ⟨rfl, hb⟩; rw [T.out])
                 try go_wp2_with fail
                 refine hK.out _ _ (by (first | (exact Four.drew HQ.out) | (exact Four.call hHeld hb))) (fun hHeld => ?_)
                 clear hK K
                 try simp only [Act.put, List.setIfInBounds_toArray, List.set_cons_zero, List.set_cons_succ])
            first
              | (refine wpAnyH_take (i := 1) (v := undef) (by simp only [List.getElem?_toArray, List.getElem?_cons_succ, List.getElem?_cons_zero]; rfl) (by kernel_rfl) (by kernel_rfl) (by kernel_rfl) (fun _ _ _ h => h) (Or.inr ⟨by rfl, rfl⟩) (by assumption) ?_; try simp only [Act.put, List.setIfInBounds_toArray, List.set_cons_zero, List.set_cons_succ])
              | (refine wpAnyH_take (i := 1) (v := ?_) (by simp only [List.getElem?_toArray, List.getElem?_cons_succ, List.getElem?_cons_zero]; rfl) (by kernel_rfl) (by kernel_rfl) (by kernel_rfl) (fun _ _ _ h => h) (Or.inl ⟨by rfl, ?_⟩) (by assumption) ?_
                 rotate_left
                 · (intro ww hSw; (try dsimp only at hSw); go_simp; (try with_reducible rfl))
                 try simp only [Act.put, List.setIfInBounds_toArray, List.set_cons_zero, List.set_cons_succ])
              | (refine wpAnyH_ready (rs := [1]) (by kernel_rfl) (by simp) (AllReadyH.cons (by simp only [List.getElem?_toArray, List.getElem?_cons_succ, List.getElem?_cons_zero]; rfl) (fun K hK => ?_) AllReadyH.nil)
                 go_simp
                 first
                   | (go_at_call 9; (with_reducible refine (M.out _ (H1.out.below hHeld.1.1 (Nat.le_refl _)) (H2.out.below hHeld.1.1 (Nat.le_refl _))).mono ?_); rintro e w9 ⟨rfl, hb⟩; rw [E.out])
                   | (go_at_call 11; (with_reducible refine (Sm.out _ (H1.out.below hHeld.1.1 (Nat.le_refl _)) (H2.out.below hHeld.1.1 (Nat.le_refl _))).mono ?_); rintro e w9 ⟨rfl, hb⟩; rw [T.out])
                 try go_wp2_with fail
                 refine hK.out _ _ (by (first | (exact Four.drew HQ.out) | (exact Four.call hHeld hb))) (fun hHeld => ?_)
                 clear hK K
                 try simp only [Act.put, List.setIfInBounds_toArray, List.set_cons_zero, List.set_cons_succ])
            first
              | (refine wpAnyH_take (i := 2) (v := undef) (by simp only [List.getElem?_toArray, List.getElem?_cons_succ, List.getElem?_cons_zero]; rfl) (by kernel_rfl) (by kernel_rfl) (by kernel_rfl) (fun _ _ _ h => h) (Or.inr ⟨by rfl, rfl⟩) (by assumption) ?_; try simp only [Act.put, List.setIfInBounds_toArray, List.set_cons_zero, List.set_cons_succ])
              | (refine wpAnyH_take (i := 2) (v := ?_) (by simp only [List.getElem?_toArray, List.getElem?_cons_succ, List.getElem?_cons_zero]; rfl) (by kernel_rfl) (by kernel_rfl) (by kernel_rfl) (fun _ _ _ h => h) (Or.inl ⟨by rfl, ?_⟩) (by assumption) ?_
                 rotate_left
                 · (intro ww hSw; (try dsimp only at hSw); go_simp; (try with_reducible rfl))
                 try simp only [Act.put, List.setIfInBounds_toArray, List.set_cons_zero, List.set_cons_succ])
              | (refine wpAnyH_ready (rs := [2]) (by kernel_rfl) (by simp) (AllReadyH.cons (by simp only [List.getElem?_toArray, List.getElem?_cons_succ, List.getElem?_cons_zero]; rfl) (fun K hK => ?_) AllReadyH.nil)
                 go_simp
                 first
                   | (go_at_call 9; (with_reducible refine (M.out _ (H1.out.below hHeld.1.1 (Nat.le_refl _)) (H2.out.below hHeld.1.1 (Nat.le_refl _))).mono ?_); rintro e w9 ⟨rfl, hb⟩; rw [E.out])
                   | (go_at_call 11; (with_reducible refine (Sm.out _ (H1.out.below hHeld.1.1 (Nat.le_refl _)) (H2.out.below hHeld.1.1 (Nat.le_refl _))).mono ?_); rintro e w9 ⟨rfl, hb⟩; rw [T.out])
                 try go_wp2_with fail
                 refine hK.out _ _ (by (first | (exact Four.drew HQ.out) | (exact Four.call hHeld hb))) (fun hHeld => ?_)
                 clear hK K
                 try simp only [Act.put, List.setIfInBounds_toArray, List.set_cons_zero, List.set_cons_succ])
            first
              | (refine wpAnyH_take (i := 3) (v := undef) (by simp only [List.getElem?_toArray, List.getElem?_cons_succ, List.getElem?_cons_zero]; rfl) (by kernel_rfl) (by kernel_rfl) (by kernel_rfl) (fun _ _ _ h => h) (Or.inr ⟨by rfl, rfl⟩) (by assumption) ?_; try simp only [Act.put, List.setIfInBounds_toArray, List.set_cons_zero, List.set_cons_succ])
              | (refine wpAnyH_take (i := 3) (v := ?_) (by simp only [List.getElem?_toArray, List.getElem?_cons_succ, List.getElem?_cons_zero]; rfl) (by kernel_rfl) (by kernel_rfl) (by kernel_rfl) (fun _ _ _ h => h) (Or.inl ⟨by rfl, ?_⟩) (by assumption) ?_
                 rotate_left
                 · (intro ww hSw; (try dsimp only at hSw); go_simp; (try with_reducible rfl))
                 try simp only [Act.put, List.setIfInBounds_toArray, List.set_cons_zero, List.set_cons_succ])
              | (refine wpAnyH_ready (rs := [3]) (by kernel_rfl) (by simp) (AllReadyH.cons (by simp only [List.getElem?_toArray, List.getElem?_cons_succ, List.getElem?_cons_zero]; rfl) (fun K hK => ?_) AllReadyH.nil)
                 go_simp
                 first
                   | (go_at_call 9; (with_reducible refine (M.out _ (H1.out.below hHeld.1.1 (Nat.le_refl _)) (H2.out.below hHeld.1.1 (Nat.le_refl _))).mono ?_); rintro e w9 ⟨rfl, hb⟩; rw [E.out])
                   | (go_at_call 11; (with_reducible refine (Sm.out _ (H1.out.below hHeld.1.1 (Nat.le_refl _)) (H2.out.below hHeld.1.1 (Nat.le_refl _))).mono ?_); rintro e w9 ⟨rfl, hb⟩; rw [T.out])
                 try go_wp2_with fail
                 refine hK.out _ _ (by (first | (exact Four.drew HQ.out) | (exact Four.call hHeld hb))) (fun hHeld => ?_)
                 clear hK K
                 try simp only [Act.put, List.setIfInBounds_toArray, List.set_cons_zero, List.set_cons_succ])
            first
              | (refine wpAnyH_take (i := 5) (v := undef) (by simp only [List.getElem?_toArray, List.getElem?_cons_succ, List.getElem?_cons_zero]; rfl) (by kernel_rfl) (by kernel_rfl) (by kernel_rfl) (fun _ _ _ h => h) (Or.inr ⟨by rfl, rfl⟩) (by assumption) ?_; try simp only [Act.put, List.setIfInBounds_toArray, List.set_cons_zero, List.set_cons_succ])
              | (refine wpAnyH_take (i := 5) (v := ?_) (by simp only [List.getElem?_toArray, List.getElem?_cons_succ, List.getElem?_cons_zero]; rfl) (by kernel_rfl) (by kernel_rfl) (by kernel_rfl) (fun _ _ _ h => h) (Or.inl ⟨by rfl, ?_⟩) (by assumption) ?_
                 rotate_left
                 · (intro ww hSw; (try dsimp only at hSw); go_simp; (try with_reducible rfl))
                 try simp only [Act.put, List.setIfInBounds_toArray, List.set_cons_zero, List.set_cons_succ])
              | (refine wpAnyH_ready (rs := [5]) (by kernel_rfl) (by simp) (AllReadyH.cons (by simp only [List.getElem?_toArray, List.getElem?_cons_succ, List.getElem?_cons_zero]; rfl) (fun K hK => ?_) AllReadyH.nil)
                 go_simp
                 first
                   | (go_at_call 9; (with_reducible refine (M.out _ (H1.out.below hHeld.1.1 (Nat.le_refl _)) (H2.out.below hHeld.1.1 (Nat.le_refl _))).mono ?_); rintro e w9 ⟨rfl, hb⟩; rw [E.out])
                   | (go_at_call 11; (with_reducible refine (Sm.out _ (H1.out.below hHeld.1.1 (Nat.le_refl _)) (H2.out.below hHeld.1.1 (Nat.le_refl _))).mono ?_); rintro e w9 ⟨rfl, hb⟩; rw [T.out])
                 try go_wp2_with fail
                 refine hK.out _ _ (by (first | (exact Four.drew HQ.out) | (exact Four.call hHeld hb))) (fun hHeld => ?_)
                 clear hK K
                 try simp only [Act.put, List.setIfInBounds_toArray, List.set_cons_zero, List.set_cons_succ])
            first
              | (refine wpAnyH_take (i := 6) (v := undef) (by simp only [List.getElem?_toArray, List.getElem?_cons_succ, List.getElem?_cons_zero]; rfl) (by kernel_rfl) (by kernel_rfl) (by kernel_rfl) (fun _ _ _ h => h) (Or.inr ⟨by rfl, rfl⟩) (by assumption) ?_; try simp only [Act.put, List.setIfInBounds_toArray, List.set_cons_zero, List.set_cons_succ])
              | (refine wpAnyH_take (i := 6) (v := ?_) (by simp only [List.getElem?_toArray, List.getElem?_cons_succ, List.getElem?_cons_zero]; rfl) (by kernel_rfl) (by kernel_rfl) (by kernel_rfl) (fun _ _ _ h => h) (Or.inl ⟨by rfl, ?_⟩) (by assumption) ?_
                 rotate_left
                 · (intro ww hSw; (try dsimp only at hSw); go_simp; (try with_reducible rfl))
                 try simp only [Act.put, List.setIfInBounds_toArray, List.set_cons_zero, List.set_cons_succ])
              | (refine wpAnyH_ready (rs := [6]) (by kernel_rfl) (by simp) (AllReadyH.cons (by simp only [List.getElem?_toArray, List.getElem?_cons_succ, List.getElem?_cons_zero]; rfl) (fun K hK => ?_) AllReadyH.nil)
                 go_simp
                 first
                   | (go_at_call 9; (with_reducible refine (M.out _ (H1.out.below hHeld.1.1 (Nat.le_refl _)) (H2.out.below hHeld.1.1 (Nat.le_refl _))).mono ?_); rintro e w9 ⟨rfl, hb⟩; rw [E.out])
                   | (go_at_call 11; (with_reducible refine (Sm.out _ (H1.out.below hHeld.1.1 (Nat.le_refl _)) (H2.out.below hHeld.1.1 (Nat.le_refl _))).mono ?_); rintro e w9 ⟨rfl, hb⟩; rw [T.out])
                 try go_wp2_with fail
                 refine hK.out _ _ (by (first | (exact Four.drew HQ.out) | (exact Four.call hHeld hb))) (fun hHeld => ?_)
                 clear hK K
                 try simp only [Act.put, List.setIfInBounds_toArray, List.set_cons_zero, List.set_cons_succ])
            first
              | (refine wpAnyH_take (i := 7) (v := undef) (by simp only [List.getElem?_toArray, List.getElem?_cons_succ, List.getElem?_cons_zero]; rfl) (by kernel_rfl) (by kernel_rfl) (by kernel_rfl) (fun _ _ _ h => h) (Or.inr ⟨by rfl, rfl⟩) (by assumption) ?_; try simp only [Act.put, List.setIfInBounds_toArray, List.set_cons_zero, List.set_cons_succ])
              | (refine wpAnyH_take (i := 7) (v := ?_) (by simp only [List.getElem?_toArray, List.getElem?_cons_succ, List.getElem?_cons_zero]; rfl) (by kernel_rfl) (by kernel_rfl) (by kernel_rfl) (fun _ _ _ h => h) (Or.inl ⟨by rfl, ?_⟩) (by assumption) ?_
                 rotate_left
                 · (intro ww hSw; (try dsimp only at hSw); go_simp; (try with_reducible rfl))
                 try simp only [Act.put, List.setIfInBounds_toArray, List.set_cons_zero, List.set_cons_succ])
              | (refine wpAnyH_ready (rs := [7]) (by kernel_rfl) (by simp) (AllReadyH.cons (by simp only [List.getElem?_toArray, List.getElem?_cons_succ, List.getElem?_cons_zero]; rfl) (fun K hK => ?_) AllReadyH.nil)
                 go_simp
                 first
                   | (go_at_call 9; (with_reducible refine (M.out _ (H1.out.below hHeld.1.1 (Nat.le_refl _)) (H2.out.below hHeld.1.1 (Nat.le_refl _))).mono ?_); rintro e w9 ⟨rfl, hb⟩; rw [E.out])
                   | (go_at_call 11; (with_reducible refine (Sm.out _ (H1.out.below hHeld.1.1 (Nat.le_refl _)) (H2.out.below hHeld.1.1 (Nat.le_refl _))).mono ?_); rintro e w9 ⟨rfl, hb⟩; rw [T.out])
                 try go_wp2_with fail
                 refine hK.out _ _ (by (first | (exact Four.drew HQ.out) | (exact Four.call hHeld hb))) (fun hHeld => ?_)
                 clear hK K
                 try simp only [Act.put, List.setIfInBounds_toArray, List.set_cons_zero, List.set_cons_succ])
            first
              | (refine wpAnyH_take (i := 8) (v := undef) (by simp only [List.getElem?_toArray, List.getElem?_cons_succ, List.getElem?_cons_zero]; rfl) (by kernel_rfl) (by kernel_rfl) (by kernel_rfl) (fun _ _ _ h => h) (Or.inr ⟨by rfl, rfl⟩) (by assumption) ?_; try simp only [Act.put, List.setIfInBounds_toArray, List.set_cons_zero, List.set_cons_succ])
              | (refine wpAnyH_take (i := 8) (v := ?_) (by simp only [List.getElem?_toArray, List.getElem?_cons_succ, List.getElem?_cons_zero]; rfl) (by kernel_rfl) (by kernel_rfl) (by kernel_rfl) (fun _ _ _ h => h) (Or.inl ⟨by rfl, ?_⟩) (by assumption) ?_
                 rotate_left
                 · (intro ww hSw; (try dsimp only at hSw); go_simp; (try with_reducible rfl))
                 try simp only [Act.put, List.setIfInBounds_toArray, List.set_cons_zero, List.set_cons_succ])
              | (refine wpAnyH_ready (rs := [8]) (by kernel_rfl) (by simp) (AllReadyH.cons (by simp only [List.getElem?_toArray, List.getElem?_cons_succ, List.getElem?_cons_zero]; rfl) (fun K hK => ?_) AllReadyH.nil)
                 go_simp
                 first
                   | (go_at_call 9; (with_reducible refine (M.out _ (H1.out.below hHeld.1.1 (Nat.le_refl _)) (H2.out.below hHeld.1.1 (Nat.le_refl _))).mono ?_); rintro e w9 ⟨rfl, hb⟩; rw [E.out])
                   | (go_at_call 11; (with_reducible refine (Sm.out _ (H1.out.below hHeld.1.1 (Nat.le_refl _)) (H2.out.below hHeld.1.1 (Nat.le_refl _))).mono ?_); rintro e w9 ⟨rfl, hb⟩; rw [T.out])
                 try go_wp2_with fail
                 refine hK.out _ _ (by (first | (exact Four.drew HQ.out) | (exact Four.call hHeld hb))) (fun hHeld => ?_)
                 clear hK K
                 try simp only [Act.put, List.setIfInBounds_toArray, List.set_cons_zero, List.set_cons_succ])
            first
              | (refine wpAnyH_take (i := 4) (v := undef) (by simp only [List.getElem?_toArray, List.getElem?_cons_succ, List.getElem?_cons_zero]; rfl) (by kernel_rfl) (by kernel_rfl) (by kernel_rfl) (fun _ _ _ h => h) (Or.inr ⟨by rfl, rfl⟩) (by assumption) ?_; try simp only [Act.put, List.setIfInBounds_toArray, List.set_cons_zero, List.set_cons_succ])
              | (refine wpAnyH_take (i := 4) (v := ?_) (by simp only [List.getElem?_toArray, List.getElem?_cons_succ, List.getElem?_cons_zero]; rfl) (by kernel_rfl) (by kernel_rfl) (by kernel_rfl) (fun _ _ _ h => h) (Or.inl ⟨by rfl, ?_⟩) (by assumption) ?_
                 rotate_left
                 · (intro ww hSw; (try dsimp only at hSw); go_simp; (try with_reducible rfl))
                 try simp only [Act.put, List.setIfInBounds_toArray, List.set_cons_zero, List.set_cons_succ])
              | (refine wpAnyH_ready (rs := [4]) (by kernel_rfl) (by simp) (AllReadyH.cons (by simp only [List.getElem?_toArray, List.getElem?_cons_succ, List.getElem?_cons_zero]; rfl) (fun K hK => ?_) AllReadyH.nil)
                 go_simp
                 first
                   | (go_at_call 9; (with_reducible refine (M.out _ (H1.out.below hHeld.1.1 (Nat.le_refl _)) (H2.out.below hHeld.1.1 (Nat.le_refl _))).mono ?_); rintro e w9 ⟨rfl, hb⟩; rw [E.out])
                   | (go_at_call 11; (with_reducible refine (Sm.out _ (H1.out.below hHeld.1.1 (Nat.le_refl _)) (H2.out.below hHeld.1.1 (Nat.le_refl _))).mono ?_); rintro e w9 ⟨rfl, hb⟩; rw [T.out])
                 try go_wp2_with fail
                 refine hK.out _ _ (by (first | (exact Four.drew HQ.out) | (exact Four.call hHeld hb))) (fun hHeld => ?_)
                 clear hK K
                 try simp only [Act.put, List.setIfInBounds_toArray, List.set_cons_zero, List.set_cons_succ])
            first
              | (refine wpAnyH_take (i := 9) (v := undef) (by simp only [List.getElem?_toArray, List.getElem?_cons_succ, List.getElem?_cons_zero]; rfl) (by kernel_rfl) (by kernel_rfl) (by kernel_rfl) (fun _ _ _ h => h) (Or.inr ⟨by rfl, rfl⟩) (by assumption) ?_; try simp only [Act.put, List.setIfInBounds_toArray, List.set_cons_zero, List.set_cons_succ])
              | (refine wpAnyH_take (i := 9) (v := ?_) (by simp only [List.getElem?_toArray, List.getElem?_cons_succ, List.getElem?_cons_zero]; rfl) (by kernel_rfl) (by kernel_rfl) (by kernel_rfl) (fun _ _ _ h => h) (Or.inl ⟨by rfl, ?_⟩) (by assumption) ?_
                 rotate_left
                 · (intro ww hSw; (try dsimp only at hSw); go_simp; (try with_reducible rfl))
                 try simp only [Act.put, List.setIfInBounds_toArray, List.set_cons_zero, List.set_cons_succ])
              | (refine wpAnyH_ready (rs := [9]) (by kernel_rfl) (by simp) (AllReadyH.cons (by simp only [List.getElem?_toArray, List.getElem?_cons_succ, List.getElem?_cons_zero]; rfl) (fun K hK => ?_) AllReadyH.nil)
                 go_simp
                 first
                   | (go_at_call 9; (with_reducible refine (M.out _ (H1.out.below hHeld.1.1 (Nat.le_refl _)) (H2.out.below hHeld.1.1 (Nat.le_refl _))).mono ?_); rintro e w9 ⟨rfl, hb⟩; rw [E.out])
                   | (go_at_call 11; (with_reducible refine (Sm.out _ (H1.out.below hHeld.1.1 (Nat.le_refl _)) (H2.out.below hHeld.1.1 (Nat.le_refl _))).mono ?_); rintro e w9 ⟨rfl, hb⟩; rw [T.out])
                 try go_wp2_with fail
                 refine hK.out _ _ (by (first | (exact Four.drew HQ.out) | (exact Four.call hHeld hb))) (fun hHeld => ?_)
                 clear hK K
                 try simp only [Act.put, List.setIfInBounds_toArray, List.set_cons_zero, List.set_cons_succ])
            first
              | (refine wpAnyH_take (i := 10) (v := undef) (by simp only [List.getElem?_toArray, List.getElem?_cons_succ, List.getElem?_cons_zero]; rfl) (by kernel_rfl) (by kernel_rfl) (by kernel_rfl) (fun _ _ _ h => h) (Or.inr ⟨by rfl, rfl⟩) (by assumption) ?_; try simp only [Act.put, List.setIfInBounds_toArray, List.set_cons_zero, List.set_cons_succ])
              | (refine wpAnyH_take (i := 10) (v := ?_) (by simp only [List.getElem?_toArray, List.getElem?_cons_succ, List.getElem?_cons_zero]; rfl) (by kernel_rfl) (by kernel_rfl) (by kernel_rfl) (fun _ _ _ h => h) (Or.inl ⟨by rfl, ?_⟩) (by assumption) ?_
                 rotate_left
                 · (intro ww hSw; (try dsimp only at hSw); go_simp; (try with_reducible rfl))
                 try simp only [Act.put, List.setIfInBounds_toArray, List.set_cons_zero, List.set_cons_succ])
              | (refine wpAnyH_ready (rs := [10]) (by kernel_rfl) (by simp) (AllReadyH.cons (by simp only [List.getElem?_toArray, List.getElem?_cons_succ, List.getElem?_cons_zero]; rfl) (fun K hK => ?_) AllReadyH.nil)
                 go_simp
                 first
                   | (go_at_call 9; (with_reducible refine (M.out _ (H1.out.below hHeld.1.1 (Nat.le_refl _)) (H2.out.below hHeld.1.1 (Nat.le_refl _))).mono ?_); rintro e w9 ⟨rfl, hb⟩; rw [E.out])
                   | (go_at_call 11; (with_reducible refine (Sm.out _ (H1.out.below hHeld.1.1 (Nat.le_refl _)) (H2.out.below hHeld.1.1 (Nat.le_refl _))).mono ?_); rintro e w9 ⟨rfl, hb⟩; rw [T.out])
                 try go_wp2_with fail
                 refine hK.out _ _ (by (first | (exact Four.drew HQ.out) | (exact Four.call hHeld hb))) (fun hHeld => ?_)
                 clear hK K
                 try simp only [Act.put, List.setIfInBounds_toArray, List.set_cons_zero, List.set_cons_succ])
            first
              | (refine wpAnyH_take (i := 11) (v := undef) (by simp only [List.getElem?_toArray, List.getElem?_cons_succ, List.getElem?_cons_zero]; rfl) (by kernel_rfl) (by kernel_rfl) (by kernel_rfl) (fun _ _ _ h => h) (Or.inr ⟨by rfl, rfl⟩) (by assumption) ?_; try simp only [Act.put, List.setIfInBounds_toArray, List.set_cons_zero, List.set_cons_succ])
              | (refine wpAnyH_take (i := 11) (v := ?_) (by simp only [List.getElem?_toArray, List.getElem?_cons_succ, List.getElem?_cons_zero]; rfl) (by kernel_rfl) (by kernel_rfl) (by kernel_rfl) (fun _ _ _ h => h) (Or.inl ⟨by rfl, ?_⟩) (by assumption) ?_
                 rotate_left
                 · (intro ww hSw; (try dsimp only at hSw); go_simp; (try with_reducible rfl))
                 try simp only [Act.put, List.setIfInBounds_toArray, List.set_cons_zero, List.set_cons_succ])
              | (refine wpAnyH_ready (rs := [11]) (by kernel_rfl) (by simp) (AllReadyH.cons (by simp only [List.getElem?_toArray, List.getElem?_cons_succ, List.getElem?_cons_zero]; rfl) (fun K hK => ?_) AllReadyH.nil)
                 go_simp
                 first
                   | (go_at_call 9; (with_reducible refine (M.out _ (H1.out.below hHeld.1.1 (Nat.le_refl _)) (H2.out.below hHeld.1.1 (Nat.le_refl _))).mono ?_); rintro e w9 ⟨rfl, hb⟩; rw [E.out])
                   | (go_at_call 11; (with_reducible refine (Sm.out _ (H1.out.below hHeld.1.1 (Nat.le_refl _)) (H2.out.below hHeld.1.1 (Nat.le_refl _))).mono ?_); rintro e w9 ⟨rfl, hb⟩; rw [T.out])
                 try go_wp2_with fail
                 refine hK.out _ _ (by (first | (exact Four.drew HQ.out) | (exact Four.call hHeld hb))) (fun hHeld => ?_)
                 clear hK K
                 try simp only [Act.put, List.setIfInBounds_toArray, List.set_cons_zero, List.set_cons_succ])
            first
              | (refine wpAnyH_take (i := 12) (v := undef) (by simp only [List.getElem?_toArray, List.getElem?_cons_succ, List.getElem?_cons_zero]; rfl) (by kernel_rfl) (by kernel_rfl) (by kernel_rfl) (fun _ _ _ h => h) (Or.inr ⟨by rfl, rfl⟩) (by assumption) ?_; try simp only [Act.put, List.setIfInBounds_toArray, List.set_cons_zero, List.set_cons_succ])
              | (refine wpAnyH_take (i := 12) (v := ?_) (by simp only [List.getElem?_toArray, List.getElem?_cons_succ, List.getElem?_cons_zero]; rfl) (by kernel_rfl) (by kernel_rfl) (by kernel_rfl) (fun _ _ _ h => h) (Or.inl ⟨by rfl, ?_⟩) (by assumption) ?_
                 rotate_left
                 · (intro ww hSw; (try dsimp only at hSw); go_simp; (try with_reducible rfl))
                 try simp only [Act.put, List.setIfInBounds_toArray, List.set_cons_zero, List.set_cons_succ])
              | (refine wpAnyH_ready (rs := [12]) (by kernel_rfl) (by simp) (AllReadyH.cons (by simp only [List.getElem?_toArray, List.getElem?_cons_succ, List.getElem?_cons_zero]; rfl) (fun K hK => ?_) AllReadyH.nil)
                 go_simp
                 first
                   | (go_at_call 9; (with_reducible refine (M.out _ (H1.out.below hHeld.1.1 (Nat.le_refl _)) (H2.out.below hHeld.1.1 (Nat.le_refl _))).mono ?_); rintro e w9 ⟨rfl, hb⟩; rw [E.out])
                   | (go_at_call 11; (with_reducible refine (Sm.out _ (H1.out.below hHeld.1.1 (Nat.le_refl _)) (H2.out.below hHeld.1.1 (Nat.le_refl _))).mono ?_); rintro e w9 ⟨rfl, hb⟩; rw [T.out])
                 try go_wp2_with fail
                 refine hK.out _ _ (by (first | (exact Four.drew HQ.out) | (exact Four.call hHeld hb))) (fun hHeld => ?_)
                 clear hK K
                 try simp only [Act.put, List.setIfInBounds_toArray, List.set_cons_zero, List.set_cons_succ])
            first
              | (refine wpAnyH_take (i := 13) (v := undef) (by simp only [List.getElem?_toArray, List.getElem?_cons_succ, List.getElem?_cons_zero]; rfl) (by kernel_rfl) (by kernel_rfl) (by kernel_rfl) (fun _ _ _ h => h) (Or.inr ⟨by rfl, rfl⟩) (by assumption) ?_; try simp only [Act.put, List.setIfInBounds_toArray, List.set_cons_zero, List.set_cons_succ])
              | (refine wpAnyH_take (i := 13) (v := ?_) (by simp only [List.getElem?_toArray, List.getElem?_cons_succ, List.getElem?_cons_zero]; rfl) (by kernel_rfl) (by kernel_rfl) (by kernel_rfl) (fun _ _ _ h => h) (Or.inl ⟨by rfl, ?_⟩) (by assumption) ?_
                 rotate_left
                 · (intro ww hSw; (try dsimp only at hSw); go_simp; (try with_reducible rfl))
                 try simp only [Act.put, List.setIfInBounds_toArray, List.set_cons_zero, List.set_cons_succ])
              | (refine wpAnyH_ready (rs := [13]) (by kernel_rfl) (by simp) (AllReadyH.cons (by simp only [List.getElem?_toArray, List.getElem?_cons_succ, List.getElem?_cons_zero]; rfl) (fun K hK => ?_) AllReadyH.nil)
                 go_simp
                 first
                   | (go_at_call 9; (with_reducible refine (M.out _ (H1.out.below hHeld.1.1 (Nat.le_refl _)) (H2.out.below hHeld.1.1 (Nat.le_refl _))).mono ?_); rintro e w9 ⟨rfl, hb⟩; rw [E.out])
                   | (go_at_call 11; (with_reducible refine (Sm.out _ (H1.out.below hHeld.1.1 (Nat.le_refl _)) (H2.out.below hHeld.1.1 (Nat.le_refl _))).mono ?_); rintro e w9 ⟨rfl, hb⟩; rw [T.out])
                 try go_wp2_with fail
                 refine hK.out _ _ (by (first | (exact Four.drew HQ.out) | (exact Four.call hHeld hb))) (fun hHeld => ?_)
                 clear hK K
                 try simp only [Act.put, List.setIfInBounds_toArray, List.set_cons_zero, List.set_cons_succ])
            first
              | (refine wpAnyH_take (i := 14) (v := undef) (by simp only [List.getElem?_toArray, List.getElem?_cons_succ, List.getElem?_cons_zero]; rfl) (by kernel_rfl) (by kernel_rfl) (by kernel_rfl) (fun _ _ _ h => h) (Or.inr ⟨by rfl, rfl⟩) (by assumption) ?_; try simp only [Act.put, List.setIfInBounds_toArray, List.set_cons_zero, List.set_cons_succ])
              | (refine wpAnyH_take (i := 14) (v := ?_) (by simp only [List.getElem?_toArray, List.getElem?_cons_succ, List.getElem?_cons_zero]; rfl) (by kernel_rfl) (by kernel_rfl) (by kernel_rfl) (fun _ _ _ h => h) (Or.inl ⟨by rfl, ?_⟩) (by assumption) ?_
                 rotate_left
                 · (intro ww hSw; (try dsimp only at hSw); go_simp; (try with_reducible rfl))
                 try simp only [Act.put, List.setIfInBounds_toArray, List.set_cons_zero, List.set_cons_succ])
              | (refine wpAnyH_ready (rs := [14]) (by kernel_rfl) (by simp) (AllReadyH.cons (by simp only [List.getElem?_toArray, List.getElem?_cons_succ, List.getElem?_cons_zero]; rfl) (fun K hK => ?_) AllReadyH.nil)
                 go_simp
                 first
                   | (go_at_call 9; (with_reducible refine (M.out _ (H1.out.below hHeld.1.1 (Nat.le_refl _)) (H2.out.below hHeld.1.1 (Nat.le_refl _))).mono ?_); rintro e w9 ⟨rfl, hb⟩; rw [E.out])
                   | (go_at_call 11; (with_reducible refine (Sm.out _ (H1.out.below hHeld.1.1 (Nat.le_refl _)) (H2.out.below hHeld.1.1 (Nat.le_refl _))).mono ?_); rintro e w9 ⟨rfl, hb⟩; rw [T.out])
                 try go_wp2_with fail
                 refine hK.out _ _ (by (first | (exact Four.drew HQ.out) | (exact Four.call hHeld hb))) (fun hHeld => ?_)
                 clear hK K
                 try simp only [Act.put, List.setIfInBounds_toArray, List.set_cons_zero, List.set_cons_succ])
            first
              | (refine wpAnyH_take (i := 15) (v := undef) (by simp only [List.getElem?_toArray, List.getElem?_cons_succ, List.getElem?_cons_zero]; rfl) (by kernel_rfl) (by kernel_rfl) (by kernel_rfl) (fun _ _ _ h => h) (Or.inr ⟨by rfl, rfl⟩) (by assumption) ?_; try simp only [Act.put, List.setIfInBounds_toArray, List.set_cons_zero, List.set_cons_succ])
              | (refine wpAnyH_take (i := 15) (v := ?_) (by simp only [List.getElem?_toArray, List.getElem?_cons_succ, List.getElem?_cons_zero]; rfl) (by kernel_rfl) (by kernel_rfl) (by kernel_rfl) (fun _ _ _ h => h) (Or.inl ⟨by rfl, ?_⟩) (by assumption) ?_
                 rotate_left
                 · (intro ww hSw; (try dsimp only at hSw); go_simp; (try with_reducible rfl))
                 try simp only [Act.put, List.setIfInBounds_toArray, List.set_cons_zero, List.set_cons_succ])
              | (refine wpAnyH_ready (rs := [15]) (by kernel_rfl) (by simp) (AllReadyH.cons (by simp only [List.getElem?_toArray, List.getElem?_cons_succ, List.getElem?_cons_zero]; rfl) (fun K hK => ?_) AllReadyH.nil)
                 go_simp
                 first
                   | (go_at_call 9; (with_reducible refine (M.out _ (H1.out.below hHeld.1.1 (Nat.le_refl _)) (H2.out.below hHeld.1.1 (Nat.le_refl _))).mono ?_); rintro e w9 ⟨rfl, hb⟩; rw [E.out])
                   | (go_at_call 11; (with_reducible refine (Sm.out _ (H1.out.below hHeld.1.1 (Nat.le_refl _)) (H2.out.below hHeld.1.1 (Nat.le_refl _))).mono ?_); rintro e w9 ⟨rfl, hb⟩; rw [T.out])
                 try go_wp2_with fail
                 refine hK.out _ _ (by (first | (exact Four.drew HQ.out) | (exact Four.call hHeld hb))) (fun hHeld => ?_)
                 clear hK K
                 try simp only [Act.put, List.setIfInBounds_toArray, List.set_cons_zero, List.set_cons_succ])
            first
              | (refine wpAnyH_take (i := 16) (v := undef) (by simp only [List.getElem?_toArray, List.getElem?_cons_succ, List.getElem?_cons_zero]; rfl) (by kernel_rfl) (by kernel_rfl) (by kernel_rfl) (fun _ _ _ h => h) (Or.inr ⟨by rfl, rfl⟩) (by assumption) ?_; try simp only [Act.put, List.setIfInBounds_toArray, List.set_cons_zero, List.set_cons_succ])
              | (refine wpAnyH_take (i := 16) (v := ?_) (by simp only [List.getElem?_toArray, List.getElem?_cons_succ, List.getElem?_cons_zero]; rfl) (by kernel_rfl) (by kernel_rfl) (by kernel_rfl) (fun _ _ _ h => h) (Or.inl ⟨by rfl, ?_⟩) (by assumption) ?_
                 rotate_left
                 · (intro ww hSw; (try dsimp only at hSw); go_simp; (try with_reducible rfl))
                 try simp only [Act.put, List.setIfInBounds_toArray, List.set_cons_zero, List.set_cons_succ])
              | (refine wpAnyH_ready (rs := [16]) (by kernel_rfl) (by simp) (AllReadyH.cons (by simp only [List.getElem?_toArray, List.getElem?_cons_succ, List.getElem?_cons_zero]; rfl) (fun K hK => ?_) AllReadyH.nil)
                 go_simp
                 first
                   | (go_at_call 9; (with_reducible refine (M.out _ (H1.out.below hHeld.1.1 (Nat.le_refl _)) (H2.out.below hHeld.1.1 (Nat.le_refl _))).mono ?_); rintro e w9 ⟨rfl, hb⟩; rw [E.out])
                   | (go_at_call 11; (with_reducible refine (Sm.out _ (H1.out.below hHeld.1.1 (Nat.le_refl _)) (H2.out.below hHeld.1.1 (Nat.le_refl _))).mono ?_); rintro e w9 ⟨rfl, hb⟩; rw [T.out])
                 try go_wp2_with fail
                 refine hK.out _ _ (by (first | (exact Four.drew HQ.out) | (exact Four.call hHeld hb))) (fun hHeld => ?_)
                 clear hK K
                 try simp only [Act.put, List.setIfInBounds_toArray, List.set_cons_zero, List.set_cons_succ])
            first
              | (refine wpAnyH_take (i := 17) (v := undef) (by simp only [List.getElem?_toArray, List.getElem?_cons_succ, List.getElem?_cons_zero]; rfl) (by kernel_rfl) (by kernel_rfl) (by kernel_rfl) (fun _ _ _ h => h) (Or.inr ⟨by rfl, rfl⟩) (by assumption) ?_; try simp only [Act.put, List.setIfInBounds_toArray, List.set_cons_zero, List.set_cons_succ])
              | (refine wpAnyH_take (i := 17) (v := ?_) (by simp only [List.getElem?_toArray, List.getElem?_cons_succ, List.getElem?_cons_zero]; rfl) (by kernel_rfl) (by kernel_rfl) (by kernel_rfl) (fun _ _ _ h => h) (Or.inl ⟨by rfl, ?_⟩) (by assumption) ?_
                 rotate_left
                 · (intro ww hSw; (try dsimp only at hSw); go_simp; (try with_reducible rfl))
                 try simp only [Act.put, List.setIfInBounds_toArray, List.set_cons_zero, List.set_cons_succ])
              | (refine wpAnyH_ready (rs := [17]) (by kernel_rfl) (by simp) (AllReadyH.cons (by simp only [List.getElem?_toArray, List.getElem?_cons_succ, List.getElem?_cons_zero]; rfl) (fun K hK => ?_) AllReadyH.nil)
                 go_simp
                 first
                   | (go_at_call 9; (with_reducible refine (M.out _ (H1.out.below hHeld.1.1 (Nat.le_refl _)) (H2.out.below hHeld.1.1 (Nat.le_refl _))).mono ?_); rintro e w9 ⟨rfl, hb⟩; rw [E.out])
                   | (go_at_call 11; (with_reducible refine (Sm.out _ (H1.out.below hHeld.1.1 (Nat.le_refl _)) (H2.out.below hHeld.1.1 (Nat.le_refl _))).mono ?_); rintro e w9 ⟨rfl, hb⟩; rw [T.out])
                 try go_wp2_with fail
                 refine hK.out _ _ (by (first | (exact Four.drew HQ.out) | (exact Four.call hHeld hb))) (fun hHeld => ?_)
                 clear hK K
                 try simp only [Act.put, List.setIfInBounds_toArray, List.set_cons_zero, List.set_cons_succ])
            first
              | (refine wpAnyH_take (i := 18) (v := undef) (by simp only [List.getElem?_toArray, List.getElem?_cons_succ, List.getElem?_cons_zero]; rfl) (by kernel_rfl) (by kernel_rfl) (by kernel_rfl) (fun _ _ _ h => h) (Or.inr ⟨by rfl, rfl⟩) (by assumption) ?_; try simp only [Act.put, List.setIfInBounds_toArray, List.set_cons_zero, List.set_cons_succ])
              | (refine wpAnyH_take (i := 18) (v := ?_) (by simp only [List.getElem?_toArray, List.getElem?_cons_succ, List.getElem?_cons_zero]; rfl) (by kernel_rfl) (by kernel_rfl) (by kernel_rfl) (fun _ _ _ h => h) (Or.inl ⟨by rfl, ?_⟩) (by assumption) ?_
                 rotate_left
                 · (intro ww hSw; (try dsimp only at hSw); go_simp; (try with_reducible rfl))
                 try simp only [Act.put, List.setIfInBounds_toArray, List.set_cons_zero, List.set_cons_succ])
              | (refine wpAnyH_ready (rs := [18]) (by kernel_rfl) (by simp) (AllReadyH.cons (by simp only [List.getElem?_toArray, List.getElem?_cons_succ, List.getElem?_cons_zero]; rfl) (fun K hK => ?_) AllReadyH.nil)
                 go_simp
                 first
                   | (go_at_call 9; (with_reducible refine (M.out _ (H1.out.below hHeld.1.1 (Nat.le_refl _)) (H2.out.below hHeld.1.1 (Nat.le_refl _))).mono ?_); rintro e w9 ⟨rfl, hb⟩; rw [E.out])
                   | (go_at_call 11; (with_reducible refine (Sm.out _ (H1.out.below hHeld.1.1 (Nat.le_refl _)) (H2.out.below hHeld.1.1 (Nat.le_refl _))).mono ?_); rintro e w9 ⟨rfl, hb⟩; rw [T.out])
                 try go_wp2_with fail
                 refine hK.out _ _ (by (first | (exact Four.drew HQ.out) | (exact Four.call hHeld hb))) (fun hHeld => ?_)
                 clear hK K
                 try simp only [Act.put, List.setIfInBounds_toArray, List.set_cons_zero, List.set_cons_succ])
            first
              | (refine wpAnyH_take (i := 19) (v := undef) (by simp only [List.getElem?_toArray, List.getElem?_cons_succ, List.getElem?_cons_zero]; rfl) (by kernel_rfl) (by kernel_rfl) (by kernel_rfl) (fun _ _ _ h => h) (Or.inr ⟨by rfl, rfl⟩) (by assumption) ?_; try simp only [Act.put, List.setIfInBounds_toArray, List.set_cons_zero, List.set_cons_succ])
              | (refine wpAnyH_take (i := 19) (v := ?_) (by simp only [List.getElem?_toArray, List.getElem?_cons_succ, List.getElem?_cons_zero]; rfl) (by kernel_rfl) (by kernel_rfl) (by kernel_rfl) (fun _ _ _ h => h) (Or.inl ⟨by rfl, ?_⟩) (by assumption) ?_
                 rotate_left
                 · (intro ww hSw; (try dsimp only at hSw); go_simp; (try with_reducible rfl))
                 try simp only [Act.put, List.setIfInBounds_toArray, List.set_cons_zero, List.set_cons_succ])
              | (refine wpAnyH_ready (rs := [19]) (by kernel_rfl) (by simp) (AllReadyH.cons (by simp only [List.getElem?_toArray, List.getElem?_cons_succ, List.getElem?_cons_zero]; rfl) (fun K hK => ?_) AllReadyH.nil)
                 go_simp
                 first
                   | (go_at_call 9; (with_reducible refine (M.out _ (H1.out.below hHeld.1.1 (Nat.le_refl _)) (H2.out.below hHeld.1.1 (Nat.le_refl _))).mono ?_); rintro e w9 ⟨rfl, hb⟩; rw [E.out])
                   | (go_at_call 11; (with_reducible refine (Sm.out _ (H1.out.below hHeld.1.1 (Nat.le_refl _)) (H2.out.below hHeld.1.1 (Nat.le_refl _))).mono ?_); rintro e w9 ⟨rfl, hb⟩; rw [T.out])
                 try go_wp2_with fail
                 refine hK.out _ _ (by (first | (exact Four.drew HQ.out) | (exact Four.call hHeld hb))) (fun hHeld => ?_)
                 clear hK K
                 try simp only [Act.put, List.setIfInBounds_toArray, List.set_cons_zero, List.set_cons_succ])
            first
              | (refine wpAnyH_take (i := 21) (v := undef) (by simp only [List.getElem?_toArray, List.getElem?_cons_succ, List.getElem?_cons_zero]; rfl) (by kernel_rfl) (by kernel_rfl) (by kernel_rfl) (fun _ _ _ h => h) (Or.inr ⟨by rfl, rfl⟩) (by assumption) ?_; try simp only [Act.put, List.setIfInBounds_toArray, List.set_cons_zero, List.set_cons_succ])
              | (refine wpAnyH_take (i := 21) (v := ?_) (by simp only [List.getElem?_toArray, List.getElem?_cons_succ, List.getElem?_cons_zero]; rfl) (by kernel_rfl) (by kernel_rfl) (by kernel_rfl) (fun _ _ _ h => h) (Or.inl ⟨by rfl, ?_⟩) (by assumption) ?_
                 rotate_left
                 · (intro ww hSw; (try dsimp only at hSw); go_simp; (try with_reducible rfl))
                 try simp only [Act.put, List.setIfInBounds_toArray, List.set_cons_zero, List.set_cons_succ])
              | (refine wpAnyH_ready (rs := [21]) (by kernel_rfl) (by simp) (AllReadyH.cons (by simp only [List.getElem?_toArray, List.getElem?_cons_succ, List.getElem?_cons_zero]; rfl) (fun K hK => ?_) AllReadyH.nil)
                 go_simp
                 first
                   | (go_at_call 9; (with_reducible refine (M.out _ (H1.out.below hHeld.1.1 (Nat.le_refl _)) (H2.out.below hHeld.1.1 (Nat.le_refl _))).mono ?_); rintro e w9 ⟨rfl, hb⟩; rw [E.out])
                   | (go_at_call 11; (with_reducible refine (Sm.out _ (H1.out.below hHeld.1.1 (Nat.le_refl _)) (H2.out.below hHeld.1.1 (Nat.le_refl _))).mono ?_); rintro e w9 ⟨rfl, hb⟩; rw [T.out])
                 try go_wp2_with fail
                 refine hK.out _ _ (by (first | (exact Four.drew HQ.out) | (exact Four.call hHeld hb))) (fun hHeld => ?_)
                 clear hK K
                 try simp only [Act.put, List.setIfInBounds_toArray, List.set_cons_zero, List.set_cons_succ])
            first
              | (refine wpAnyH_take (i := 22) (v := undef) (by simp only [List.getElem?_toArray, List.getElem?_cons_succ, List.getElem?_cons_zero]; rfl) (by kernel_rfl) (by kernel_rfl) (by kernel_rfl) (fun _ _ _ h => h) (Or.inr ⟨by rfl, rfl⟩) (by assumption) ?_; try simp only [Act.put, List.setIfInBounds_toArray, List.set_cons_zero, List.set_cons_succ])
              | (refine wpAnyH_take (i := 22) (v := ?_) (by simp only [List.getElem?_toArray, List.getElem?_cons_succ, List.getElem?_cons_zero]; rfl) (by kernel_rfl) (by kernel_rfl) (by kernel_rfl) (fun _ _ _ h => h) (Or.inl ⟨by rfl, ?_⟩) (by assumption) ?_
                 rotate_left
                 · (intro ww hSw; (try dsimp only at hSw); go_simp; (try with_reducible rfl))
                 try simp only [Act.put, List.setIfInBounds_toArray, List.set_cons_zero, List.set_cons_succ])
              | (refine wpAnyH_ready (rs := [22]) (by kernel_rfl) (by simp) (AllReadyH.cons (by simp only [List.getElem?_toArray, List.getElem?_cons_succ, List.getElem?_cons_zero]; rfl) (fun K hK => ?_) AllReadyH.nil)
                 go_simp
                 first
                   | (go_at_call 9; (with_reducible refine (M.out _ (H1.out.below hHeld.1.1 (Nat.le_refl _)) (H2.out.below hHeld.1.1 (Nat.le_refl _))).mono ?_); rintro e w9 ⟨rfl, hb⟩; rw [E.out])
                   | (go_at_call 11; (with_reducible refine (Sm.out _ (H1.out.below hHeld.1.1 (Nat.le_refl _)) (H2.out.below hHeld.1.1 (Nat.le_refl _))).mono ?_); rintro e w9 ⟨rfl, hb⟩; rw [T.out])
                 try go_wp2_with fail
                 refine hK.out _ _ (by (first | (exact Four.drew HQ.out) | (exact Four.call hHeld hb))) (fun hHeld => ?_)
                 clear hK K
                 try simp only [Act.put, List.setIfInBounds_toArray, List.set_cons_zero, List.set_cons_succ])
            first
              | (refine wpAnyH_take (i := 23) (v := undef) (by simp only [List.getElem?_toArray, List.getElem?_cons_succ, List.getElem?_cons_zero]; rfl) (by kernel_rfl) (by kernel_rfl) (by kernel_rfl) (fun _ _ _ h => h) (Or.inr ⟨by rfl, rfl⟩) (by assumption) ?_; try simp only [Act.put, List.setIfInBounds_toArray, List.set_cons_zero, List.set_cons_succ])
              | (refine wpAnyH_take (i := 23) (v := ?_) (by simp only [List.getElem?_toArray, List.getElem?_cons_succ, List.getElem?_cons_zero]; rfl) (by kernel_rfl) (by kernel_rfl) (by kernel_rfl) (fun _ _ _ h => h) (Or.inl ⟨by rfl, ?_⟩) (by assumption) ?_
                 rotate_left
                 · (intro ww hSw; (try dsimp only at hSw); go_simp; (try with_reducible rfl))
                 try simp only [Act.put, List.setIfInBounds_toArray, List.set_cons_zero, List.set_cons_succ])
              | (refine wpAnyH_ready (rs := [23]) (by kernel_rfl) (by simp) (AllReadyH.cons (by simp only [List.getElem?_toArray, List.getElem?_cons_succ, List.getElem?_cons_zero]; rfl) (fun K hK => ?_) AllReadyH.nil)
                 go_simp
                 first
                   | (go_at_call 9; (with_reducible refine (M.out _ (H1.out.below hHeld.1.1 (Nat.le_refl _)) (H2.out.below hHeld.1.1 (Nat.le_refl _))).mono ?_); rintro e w9 ⟨rfl, hb⟩; rw [E.out])
                   | (go_at_call 11; (with_reducible refine (Sm.out _ (H1.out.below hHeld.1.1 (Nat.le_refl _)) (H2.out.below hHeld.1.1 (Nat.le_refl _))).mono ?_); rintro e w9 ⟨rfl, hb⟩; rw [T.out])
                 try go_wp2_with fail
                 refine hK.out _ _ (by (first | (exact Four.drew HQ.out) | (exact Four.call hHeld hb))) (fun hHeld => ?_)
                 clear hK K
                 try simp only [Act.put, List.setIfInBounds_toArray, List.set_cons_zero, List.set_cons_succ])
            first
              | (refine wpAnyH_take (i := 24) (v := undef) (by simp only [List.getElem?_toArray, List.getElem?_cons_succ, List.getElem?_cons_zero]; rfl) (by kernel_rfl) (by kernel_rfl) (by kernel_rfl) (fun _ _ _ h => h) (Or.inr ⟨by rfl, rfl⟩) (by assumption) ?_; try simp only [Act.put, List.setIfInBounds_toArray, List.set_cons_zero, List.set_cons_succ])
              | (refine wpAnyH_take (i := 24) (v := ?_) (by simp only [List.getElem?_toArray, List.getElem?_cons_succ, List.getElem?_cons_zero]; rfl) (by kernel_rfl) (by kernel_rfl) (by kernel_rfl) (fun _ _ _ h => h) (Or.inl ⟨by rfl, ?_⟩) (by assumption) ?_
                 rotate_left
                 · (intro ww hSw; (try dsimp only at hSw); go_simp; (try with_reducible rfl))
                 try simp only [Act.put, List.setIfInBounds_toArray, List.set_cons_zero, List.set_cons_succ])
              | (refine wpAnyH_ready (rs := [24]) (by kernel_rfl) (by simp) (AllReadyH.cons (by simp only [List.getElem?_toArray, List.getElem?_cons_succ, List.getElem?_cons_zero]; rfl) (fun K hK => ?_) AllReadyH.nil)
                 go_simp
                 first
                   | (go_at_call 9; (with_reducible refine (M.out _ (H1.out.below hHeld.1.1 (Nat.le_refl _)) (H2.out.below hHeld.1.1 (Nat.le_refl _))).mono ?_); rintro e w9 ⟨rfl, hb⟩; rw [E.out])
                   | (go_at_call 11; (with_reducible refine (Sm.out _ (H1.out.below hHeld.1.1 (Nat.le_refl _)) (H2.out.below hHeld.1.1 (Nat.le_refl _))).mono ?_); rintro e w9 ⟨rfl, hb⟩; rw [T.out])
                 try go_wp2_with fail
                 refine hK.out _ _ (by (first | (exact Four.drew HQ.out) | (exact Four.call hHeld hb))) (fun hHeld => ?_)
                 clear hK K
                 try simp only [Act.put, List.setIfInBounds_toArray, List.set_cons_zero, List.set_cons_succ])
            first
              | (refine wpAnyH_take (i := 25) (v := undef) (by simp only [List.getElem?_toArray, List.getElem?_cons_succ, List.getElem?_cons_zero]; rfl) (by kernel_rfl) (by kernel_rfl) (by kernel_rfl) (fun _ _ _ h => h) (Or.inr ⟨by rfl, rfl⟩) (by assumption) ?_; try simp only [Act.put, List.setIfInBounds_toArray, List.set_cons_zero, List.set_cons_succ])
              | (refine wpAnyH_take (i := 25) (v := ?_) (by simp only [List.getElem?_toArray, List.getElem?_cons_succ, List.getElem?_cons_zero]; rfl) (by kernel_rfl) (by kernel_rfl) (by kernel_rfl) (fun _ _ _ h => h) (Or.inl ⟨by rfl, ?_⟩) (by assumption) ?_
                 rotate_left
                 · (intro ww hSw; (try dsimp only at hSw); go_simp; (try with_reducible rfl))
                 try simp only [Act.put, List.setIfInBounds_toArray, List.set_cons_zero, List.set_cons_succ])
              | (refine wpAnyH_ready (rs := [25]) (by kernel_rfl) (by simp) (AllReadyH.cons (by simp only [List.getElem?_toArray, List.getElem?_cons_succ, List.getElem?_cons_zero]; rfl) (fun K hK => ?_) AllReadyH.nil)
                 go_simp
                 first
                   | (go_at_call 9; (with_reducible refine (M.out _ (H1.out.below hHeld.1.1 (Nat.le_refl _)) (H2.out.below hHeld.1.1 (Nat.le_refl _))).mono ?_); rintro e w9 ⟨rfl, hb⟩; rw [E.out])
                   | (go_at_call 11; (with_reducible refine (Sm.out _ (H1.out.below hHeld.1.1 (Nat.le_refl _)) (H2.out.below hHeld.1.1 (Nat.le_refl _))).mono ?_); rintro e w9 ⟨rfl, hb⟩; rw [T.out])
                 try go_wp2_with fail
                 refine hK.out _ _ (by (first | (exact Four.drew HQ.out) | (exact Four.call hHeld hb))) (fun hHeld => ?_)
                 clear hK K
                 try simp only [Act.put, List.setIfInBounds_toArray, List.set_cons_zero, List.set_cons_succ])
            first
              | (refine wpAnyH_take (i := 26) (v := undef) (by simp only [List.getElem?_toArray, List.getElem?_cons_succ, List.getElem?_cons_zero]; rfl) (by kernel_rfl) (by kernel_rfl) (by kernel_rfl) (fun _ _ _ h => h) (Or.inr ⟨by rfl, rfl⟩) (by assumption) ?_; try simp only [Act.put, List.setIfInBounds_toArray, List.set_cons_zero, List.set_cons_succ])
              | (refine wpAnyH_take (i := 26) (v := ?_) (by simp only [List.getElem?_toArray, List.getElem?_cons_succ, List.getElem?_cons_zero]; rfl) (by kernel_rfl) (by kernel_rfl) (by kernel_rfl) (fun _ _ _ h => h) (Or.inl ⟨by rfl, ?_⟩) (by assumption) ?_
                 rotate_left
                 · (intro ww hSw; (try dsimp only at hSw); go_simp; (try with_reducible rfl))
                 try simp only [Act.put, List.setIfInBounds_toArray, List.set_cons_zero, List.set_cons_succ])
              | (refine wpAnyH_ready (rs := [26]) (by kernel_rfl) (by simp) (AllReadyH.cons (by simp only [List.getElem?_toArray, List.getElem?_cons_succ, List.getElem?_cons_zero]; rfl) (fun K hK => ?_) AllReadyH.nil)
                 go_simp
                 first
                   | (go_at_call 9; (with_reducible refine (M.out _ (H1.out.below hHeld.1.1 (Nat.le_refl _)) (H2.out.below hHeld.1.1 (Nat.le_refl _))).mono ?_); rintro e w9 ⟨rfl, hb⟩; rw [E.out])
                   | (go_at_call 11; (with_reducible refine (Sm.out _ (H1.out.below hHeld.1.1 (Nat.le_refl _)) (H2.out.below hHeld.1.1 (Nat.le_refl _))).mono ?_); rintro e w9 ⟨rfl, hb⟩; rw [T.out])
                 try go_wp2_with fail
                 refine hK.out _ _ (by (first | (exact Four.drew HQ.out) | (exact Four.call hHeld hb))) (fun hHeld => ?_)
                 clear hK K
                 try simp only [Act.put, List.setIfInBounds_toArray, List.set_cons_zero, List.set_cons_succ])
            first
              | (refine wpAnyH_take (i := 20) (v := undef) (by simp only [List.getElem?_toArray, List.getElem?_cons_succ, List.getElem?_cons_zero]; rfl) (by kernel_rfl) (by kernel_rfl) (by kernel_rfl) (fun _ _ _ h => h) (Or.inr ⟨by rfl, rfl⟩) (by assumption) ?_; try simp only [Act.put, List.setIfInBounds_toArray, List.set_cons_zero, List.set_cons_succ])
              | (refine wpAnyH_take (i := 20) (v := ?_) (by simp only [List.getElem?_toArray, List.getElem?_cons_succ, List.getElem?_cons_zero]; rfl) (by kernel_rfl) (by kernel_rfl) (by kernel_rfl) (fun _ _ _ h => h) (Or.inl ⟨by rfl, ?_⟩) (by assumption) ?_
                 rotate_left
                 · (intro ww hSw; (try dsimp only at hSw); go_simp; (try with_reducible rfl))
                 try simp only [Act.put, List.setIfInBounds_toArray, List.set_cons_zero, List.set_cons_succ])
              | (refine wpAnyH_ready (rs := [20]) (by kernel_rfl) (by simp) (AllReadyH.cons (by simp only [List.getElem?_toArray, List.getElem?_cons_succ, List.getElem?_cons_zero]; rfl) (fun K hK => ?_) AllReadyH.nil)
                 go_simp
                 first
                   | (go_at_call 9; (with_reducible refine (M.out _ (H1.out.below hHeld.1.1 (Nat.le_refl _)) (H2.out.below hHeld.1.1 (Nat.le_refl _))).mono ?_); rintro e w9 ⟨rfl, hb⟩; rw [E.out])
                   | (go_at_call 11; (with_reducible refine (Sm.out _ (H1.out.below hHeld.1.1 (Nat.le_refl _)) (H2.out.below hHeld.1.1 (Nat.le_refl _))).mono ?_); rintro e w9 ⟨rfl, hb⟩; rw [T.out])
                 try go_wp2_with fail
                 refine hK.out _ _ (by (first | (exact Four.drew HQ.out) | (exact Four.call hHeld hb))) (fun hHeld => ?_)
                 clear hK K
                 try simp only [Act.put, List.setIfInBounds_toArray, List.set_cons_zero, List.set_cons_succ])
            first
              | (refine wpAnyH_take (i := 27) (v := undef) (by simp only [List.getElem?_toArray, List.getElem?_cons_succ, List.getElem?_cons_zero]; rfl) (by kernel_rfl) (by kernel_rfl) (by kernel_rfl) (fun _ _ _ h => h) (Or.inr ⟨by rfl, rfl⟩) (by assumption) ?_; try simp only [Act.put, List.setIfInBounds_toArray, List.set_cons_zero, List.set_cons_succ])
              | (refine wpAnyH_take (i := 27) (v := ?_) (by simp only [List.getElem?_toArray, List.getElem?_cons_succ, List.getElem?_cons_zero]; rfl) (by kernel_rfl) (by kernel_rfl) (by kernel_rfl) (fun _ _ _ h => h) (Or.inl ⟨by rfl, ?_⟩) (by assumption) ?_
                 rotate_left
                 · (intro ww hSw; (try dsimp only at hSw); go_simp; (try with_reducible rfl))
                 try simp only [Act.put, List.setIfInBounds_toArray, List.set_cons_zero, List.set_cons_succ])
              | (refine wpAnyH_ready (rs := [27]) (by kernel_rfl) (by simp) (AllReadyH.cons (by simp only [List.getElem?_toArray, List.getElem?_cons_succ, List.getElem?_cons_zero]; rfl) (fun K hK => ?_) AllReadyH.nil)
                 go_simp
                 first
                   | (go_at_call 9; (with_reducible refine (M.out _ (H1.out.below hHeld.1.1 (Nat.le_refl _)) (H2.out.below hHeld.1.1 (Nat.le_refl _))).mono ?_); rintro e w9 ⟨rfl, hb⟩; rw [E.out])
                   | (go_at_call 11; (with_reducible refine (Sm.out _ (H1.out.below hHeld.1.1 (Nat.le_refl _)) (H2.out.below hHeld.1.1 (Nat.le_refl _))).mono ?_); rintro e w9 ⟨rfl, hb⟩; rw [T.out])
                 try go_wp2_with fail
                 refine hK.out _ _ (by (first | (exact Four.drew HQ.out) | (exact Four.call hHeld hb))) (fun hHeld => ?_)
                 clear hK K
                 try simp only [Act.put, List.setIfInBounds_toArray, List.set_cons_zero, List.set_cons_succ])
            first
              | (refine wpAnyH_take (i := 28) (v := undef) (by simp only [List.getElem?_toArray, List.getElem?_cons_succ, List.getElem?_cons_zero]; rfl) (by kernel_rfl) (by kernel_rfl) (by kernel_rfl) (fun _ _ _ h => h) (Or.inr ⟨by rfl, rfl⟩) (by assumption) ?_; try simp only [Act.put, List.setIfInBounds_toArray, List.set_cons_zero, List.set_cons_succ])
              | (refine wpAnyH_take (i := 28) (v := ?_) (by simp only [List.getElem?_toArray, List.getElem?_cons_succ, List.getElem?_cons_zero]; rfl) (by kernel_rfl) (by kernel_rfl) (by kernel_rfl) (fun _ _ _ h => h) (Or.inl ⟨by rfl, ?_⟩) (by assumption) ?_
                 rotate_left
                 · (intro ww hSw; (try dsimp only at hSw); go_simp; (try with_reducible rfl))
                 try simp only [Act.put, List.setIfInBounds_toArray, List.set_cons_zero, List.set_cons_succ])
              | (refine wpAnyH_ready (rs := [28]) (by kernel_rfl) (by simp) (AllReadyH.cons (by simp only [List.getElem?_toArray, List.getElem?_cons_succ, List.getElem?_cons_zero]; rfl) (fun K hK => ?_) AllReadyH.nil)
                 go_simp
                 first
                   | (go_at_call 9; (with_reducible refine (M.out _ (H1.out.below hHeld.1.1 (Nat.le_refl _)) (H2.out.below hHeld.1.1 (Nat.le_refl _))).mono ?_); rintro e w9 ⟨rfl, hb⟩; rw [E.out])
                   | (go_at_call 11; (with_reducible refine (Sm.out _ (H1.out.below hHeld.1.1 (Nat.le_refl _)) (H2.out.below hHeld.1.1 (Nat.le_refl _))).mono ?_); rintro e w9 ⟨rfl, hb⟩; rw [T.out])
                 try go_wp2_with fail
                 refine hK.out _ _ (by (first | (exact Four.drew HQ.out) | (exact Four.call hHeld hb))) (fun hHeld => ?_)
                 clear hK K
                 try simp only [Act.put, List.setIfInBounds_toArray, List.set_cons_zero, List.set_cons_succ])
            refine wpAnyH_done (by kernel_rfl) ?_ _
            refine NoPanic.normal ?_
            go_wp2_with fail
            go_roundw
            case rel => exact ⟨_, by omega, by omega, rfl, hHeld⟩
            case measure => simp [intOf]
end Go.Proofs.YtdioigidilmbkaaDoor
