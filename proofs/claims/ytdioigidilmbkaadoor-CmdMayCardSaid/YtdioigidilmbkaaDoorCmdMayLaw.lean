/- CmdMay: for every two commands: whether the first may be, and whether they are the same, is answered as the document's own definitions answer it: the statement answers true. No condition but that the program's two tables lie as its text lays them (tied). -/
import Derived.Test.YtdioigidilmbkaaDoorRows
import Derived.Test.YtdioigidilmbkaaDoorKit
import Derived.Test.YtdioigidilmbkaaDoorStrs
import Derived.Test.YtdioigidilmbkaaDoorStrTab
import Derived.Test.YtdioigidilmbkaaDoorCmdMath
import Derived.Test.YtdioigidilmbkaaDoorCmdA
import Derived.Test.YtdioigidilmbkaaDoorNameMath
import Derived.Test.YtdioigidilmbkaaDoorCmdNames1
import Derived.Test.YtdioigidilmbkaaDoorCmdSame
import Derived.Test.YtdioigidilmbkaaDoorCmdMay
import Derived.Test.YtdioigidilmbkaaDoorCmdRefSame
import Derived.Test.YtdioigidilmbkaaDoorCmdRefMay
import Derived.Test.YtdioigidilmbkaaDoorCmdAwake
import Derived.Test.YtdioigidilmbkaaDoorCmdLaw
import Derived.Test.YtdioigidilmbkaaDoorHolds
import Derived.Deep.RegionHeld3
import Derived.WalkKit
import Derived.ProofKit
import Derived.OpenShut
import Derived.IntWalk
namespace Go.Proofs.YtdioigidilmbkaaDoor
open Go.ChangeShapes Go.WideShapes Go.ChangeAt Go.RowKit
set_option linter.unusedVariables false
open Go.RowKit
set_option maxRecDepth 100000 in
set_option maxHeartbeats 2000000 in
theorem may_few (a : Cm) (ga wa : Option Addr) (gca wca : Nat) (b : Cm) (gb wb : Option Addr) (gcb wcb : Nat) (w : World) (h1 : IntsAt w ga a.gives) (h2 : IntsAt w wa a.wants) (h3 : IntsAt w gb b.gives) (h4 : IntsAt w wb b.wants) (hk : KTab w) (hw : WTab w) (f1 : fewB a = true) (f2 : fewB b = true) :
    Calls Tryd.prog 3 #[.agg #[.int .i64 a.kind, .int .i64 a.dir, .int .i64 a.item, .int .i64 a.box, .int .i64 a.who, .slice ga a.gives.length gca, .int .i64 a.pay, .slice wa a.wants.length wca, .int .i64 a.fee], .agg #[.int .i64 b.kind, .int .i64 b.dir, .int .i64 b.item, .int .i64 b.box, .int .i64 b.who, .slice gb b.gives.length gcb, .int .i64 b.pay, .slice wb b.wants.length wcb, .int .i64 b.fee]] w fun e w' => e = .returned (.bool true) ∧ Below w.heap.size w w' := by
  have F1 := Lib.hid f1
  have F2 := Lib.hid f2
  have H1 := Lib.hid h1
  have H2 := Lib.hid h2
  have H3 := Lib.hid h3
  have H4 := Lib.hid h4
  have HK := Lib.hid hk
  have HW := Lib.hid hw
  have HR := Lib.hid (sameB_refl a)
  have HE := Lib.hid (may_eq a)
  clear f1 f2 h1 h2 h3 h4 hk hw
  go_enter Tryd.func3, Tryd.ntmps3
  go_wp2_with fail
  have P0 := Lib.hid (Holds.pair w #[.int .i64 a.kind, .int .i64 a.dir, .int .i64 a.item, .int .i64 a.box, .int .i64 a.who, .slice ga a.gives.length gca, .int .i64 a.pay, .slice wa a.wants.length wca, .int .i64 a.fee] #[.int .i64 b.kind, .int .i64 b.dir, .int .i64 b.item, .int .i64 b.box, .int .i64 b.who, .slice gb b.gives.length gcb, .int .i64 b.pay, .slice wb b.wants.length wcb, .int .i64 b.fee] 24 24)
  refine (awake_any _ (HK.out.below P0.out.1.1) (HW.out.below P0.out.1.1)).mono ?_
  rintro e w1 ⟨rfl, b1⟩
  have P1 := Lib.hid (Holds.call2 P0.out b1)
  have hA := P1.out.1.2.2
  have hB := P1.out.2.2.2
  clear b1
  go_wp2_with fail
  refine (few_any _ _ _ _ _ _ (H1.out.below P1.out.1.1 (Nat.le_refl _)) (H2.out.below P1.out.1.1 (Nat.le_refl _))).mono ?_
  rintro e w2 ⟨rfl, b2⟩
  rw [F1.out]
  have P2 := Lib.hid (Holds.call2 P1.out b2)
  clear b2 hA hB
  have hA := P2.out.1.2.2
  have hB := P2.out.2.2.2
  go_wp2_with fail
  refine (few_any _ _ _ _ _ _ (H3.out.below P2.out.1.1 (Nat.le_refl _)) (H4.out.below P2.out.1.1 (Nat.le_refl _))).mono ?_
  rintro e w3 ⟨rfl, b3⟩
  rw [F2.out]
  have P3 := Lib.hid (Holds.call2 P2.out b3)
  clear b3 hA hB
  go_wp2_with fail
  refine wp_region_noPanic ?_
  refine wp_region_held_drew (S := (fun w' => (Below w.heap.size w w' ∧ w.heap.size < w'.heap.size ∧ ∀ i, w'.cell? ⟨w.heap.size, i, none⟩ = (#[.int .i64 a.kind, .int .i64 a.dir, .int .i64 a.item, .int .i64 a.box, .int .i64 a.who, .slice ga a.gives.length gca, .int .i64 a.pay, .slice wa a.wants.length wca, .int .i64 a.fee][i]? : Option Value)) ∧ (Below w.heap.size w w' ∧ w.heap.size + 1 < w'.heap.size ∧ ∀ i, w'.cell? ⟨w.heap.size + 1, i, none⟩ = (#[.int .i64 b.kind, .int .i64 b.dir, .int .i64 b.item, .int .i64 b.box, .int .i64 b.who, .slice gb b.gives.length gcb, .int .i64 b.pay, .slice wb b.wants.length wcb, .int .i64 b.fee][i]? : Option Value)))) (by kernel_rfl) (by (first | (exact And.intro P3.out.1.drew P3.out.2.drew) | (exact Holds.call2 (by assumption) hb))) (fun hHeld => ?_)
  first
    | (refine wpAnyH_take (i := 0) (v := undef) (by simp only [List.getElem?_toArray, List.getElem?_cons_succ, List.getElem?_cons_zero]; rfl) (by kernel_rfl) (by kernel_rfl) (by kernel_rfl) (fun _ _ _ h => h) (Or.inr ⟨by rfl, rfl⟩) (by assumption) ?_; try simp only [Act.put, List.setIfInBounds_toArray, List.set_cons_zero, List.set_cons_succ])
    | (refine wpAnyH_take (i := 0) (v := ?_) (by simp only [List.getElem?_toArray, List.getElem?_cons_succ, List.getElem?_cons_zero]; rfl) (by kernel_rfl) (by kernel_rfl) (by kernel_rfl) (fun _ _ _ h => h) (Or.inl ⟨by rfl, ?_⟩) (by assumption) ?_
       rotate_left
       · (intro ww hSw; (try dsimp only at hSw); go_simp; (try with_reducible rfl))
       try simp only [Act.put, List.setIfInBounds_toArray, List.set_cons_zero, List.set_cons_succ])
    | (refine wpAnyH_ready (rs := [0]) (by kernel_rfl) (by simp) (AllReadyH.cons (by simp only [List.getElem?_toArray, List.getElem?_cons_succ, List.getElem?_cons_zero]; rfl) (fun K hK => ?_) AllReadyH.nil)
       go_simp
       first
         | (go_at_call 9; (with_reducible refine (may_any _ _ _ _ _ _ (H1.out.below hHeld.1.1 (Nat.le_refl _)) (H2.out.below hHeld.1.1 (Nat.le_refl _))).mono ?_); rintro e w1 ⟨rfl, hb⟩; rw [HE.out])
         | (go_at_call 10; (with_reducible refine (refmay_any _ _ _ _ _ _ (H1.out.below hHeld.1.1 (Nat.le_refl _)) (H2.out.below hHeld.1.1 (Nat.le_refl _))).mono ?_); rintro e w1 ⟨rfl, hb⟩)
         | (go_at_call 12; (with_reducible refine (refsame_any _ _ _ _ _ _ _ _ _ _ _ (H1.out.below hHeld.1.1 (Nat.le_refl _)) (H2.out.below hHeld.1.1 (Nat.le_refl _)) (H3.out.below hHeld.1.1 (Nat.le_refl _)) (H4.out.below hHeld.1.1 (Nat.le_refl _))).mono ?_); rintro e w1 ⟨rfl, hb⟩)
         | (go_at_call 11; (with_reducible refine (same_any _ _ _ _ _ _ _ _ _ _ _ (H1.out.below hHeld.1.1 (Nat.le_refl _)) (H2.out.below hHeld.1.1 (Nat.le_refl _)) (H3.out.below hHeld.1.1 (Nat.le_refl _)) (H4.out.below hHeld.1.1 (Nat.le_refl _))).mono ?_); rintro e w1 ⟨rfl, hb⟩)
         | (go_at_call 11; (with_reducible refine (same_any _ _ _ _ _ _ _ _ _ _ _ (H1.out.below hHeld.1.1 (Nat.le_refl _)) (H2.out.below hHeld.1.1 (Nat.le_refl _)) (H1.out.below hHeld.1.1 (Nat.le_refl _)) (H2.out.below hHeld.1.1 (Nat.le_refl _))).mono ?_); rintro e w1 ⟨rfl, hb⟩; rw [HR.out])
       try go_wp2_with fail
       refine hK.out _ _ (by (first | (exact And.intro P3.out.1.drew P3.out.2.drew) | (exact Holds.call2 (by assumption) hb))) (fun hHeld => ?_)
       clear hK K
       try simp only [Act.put, List.setIfInBounds_toArray, List.set_cons_zero, List.set_cons_succ])
  first
    | (refine wpAnyH_take (i := 2) (v := undef) (by simp only [List.getElem?_toArray, List.getElem?_cons_succ, List.getElem?_cons_zero]; rfl) (by kernel_rfl) (by kernel_rfl) (by kernel_rfl) (fun _ _ _ h => h) (Or.inr ⟨by rfl, rfl⟩) (by assumption) ?_; try simp only [Act.put, List.setIfInBounds_toArray, List.set_cons_zero, List.set_cons_succ])
    | (refine wpAnyH_take (i := 2) (v := ?_) (by simp only [List.getElem?_toArray, List.getElem?_cons_succ, List.getElem?_cons_zero]; rfl) (by kernel_rfl) (by kernel_rfl) (by kernel_rfl) (fun _ _ _ h => h) (Or.inl ⟨by rfl, ?_⟩) (by assumption) ?_
       rotate_left
       · (intro ww hSw; (try dsimp only at hSw); go_simp; (try with_reducible rfl))
       try simp only [Act.put, List.setIfInBounds_toArray, List.set_cons_zero, List.set_cons_succ])
    | (refine wpAnyH_ready (rs := [2]) (by kernel_rfl) (by simp) (AllReadyH.cons (by simp only [List.getElem?_toArray, List.getElem?_cons_succ, List.getElem?_cons_zero]; rfl) (fun K hK => ?_) AllReadyH.nil)
       go_simp
       first
         | (go_at_call 9; (with_reducible refine (may_any _ _ _ _ _ _ (H1.out.below hHeld.1.1 (Nat.le_refl _)) (H2.out.below hHeld.1.1 (Nat.le_refl _))).mono ?_); rintro e w1 ⟨rfl, hb⟩; rw [HE.out])
         | (go_at_call 10; (with_reducible refine (refmay_any _ _ _ _ _ _ (H1.out.below hHeld.1.1 (Nat.le_refl _)) (H2.out.below hHeld.1.1 (Nat.le_refl _))).mono ?_); rintro e w1 ⟨rfl, hb⟩)
         | (go_at_call 12; (with_reducible refine (refsame_any _ _ _ _ _ _ _ _ _ _ _ (H1.out.below hHeld.1.1 (Nat.le_refl _)) (H2.out.below hHeld.1.1 (Nat.le_refl _)) (H3.out.below hHeld.1.1 (Nat.le_refl _)) (H4.out.below hHeld.1.1 (Nat.le_refl _))).mono ?_); rintro e w1 ⟨rfl, hb⟩)
         | (go_at_call 11; (with_reducible refine (same_any _ _ _ _ _ _ _ _ _ _ _ (H1.out.below hHeld.1.1 (Nat.le_refl _)) (H2.out.below hHeld.1.1 (Nat.le_refl _)) (H3.out.below hHeld.1.1 (Nat.le_refl _)) (H4.out.below hHeld.1.1 (Nat.le_refl _))).mono ?_); rintro e w1 ⟨rfl, hb⟩)
         | (go_at_call 11; (with_reducible refine (same_any _ _ _ _ _ _ _ _ _ _ _ (H1.out.below hHeld.1.1 (Nat.le_refl _)) (H2.out.below hHeld.1.1 (Nat.le_refl _)) (H1.out.below hHeld.1.1 (Nat.le_refl _)) (H2.out.below hHeld.1.1 (Nat.le_refl _))).mono ?_); rintro e w1 ⟨rfl, hb⟩; rw [HR.out])
       try go_wp2_with fail
       refine hK.out _ _ (by (first | (exact And.intro P3.out.1.drew P3.out.2.drew) | (exact Holds.call2 (by assumption) hb))) (fun hHeld => ?_)
       clear hK K
       try simp only [Act.put, List.setIfInBounds_toArray, List.set_cons_zero, List.set_cons_succ])
  first
    | (refine wpAnyH_take (i := 1) (v := undef) (by simp only [List.getElem?_toArray, List.getElem?_cons_succ, List.getElem?_cons_zero]; rfl) (by kernel_rfl) (by kernel_rfl) (by kernel_rfl) (fun _ _ _ h => h) (Or.inr ⟨by rfl, rfl⟩) (by assumption) ?_; try simp only [Act.put, List.setIfInBounds_toArray, List.set_cons_zero, List.set_cons_succ])
    | (refine wpAnyH_take (i := 1) (v := ?_) (by simp only [List.getElem?_toArray, List.getElem?_cons_succ, List.getElem?_cons_zero]; rfl) (by kernel_rfl) (by kernel_rfl) (by kernel_rfl) (fun _ _ _ h => h) (Or.inl ⟨by rfl, ?_⟩) (by assumption) ?_
       rotate_left
       · (intro ww hSw; (try dsimp only at hSw); go_simp; (try with_reducible rfl))
       try simp only [Act.put, List.setIfInBounds_toArray, List.set_cons_zero, List.set_cons_succ])
    | (refine wpAnyH_ready (rs := [1]) (by kernel_rfl) (by simp) (AllReadyH.cons (by simp only [List.getElem?_toArray, List.getElem?_cons_succ, List.getElem?_cons_zero]; rfl) (fun K hK => ?_) AllReadyH.nil)
       go_simp
       first
         | (go_at_call 9; (with_reducible refine (may_any _ _ _ _ _ _ (H1.out.below hHeld.1.1 (Nat.le_refl _)) (H2.out.below hHeld.1.1 (Nat.le_refl _))).mono ?_); rintro e w1 ⟨rfl, hb⟩; rw [HE.out])
         | (go_at_call 10; (with_reducible refine (refmay_any _ _ _ _ _ _ (H1.out.below hHeld.1.1 (Nat.le_refl _)) (H2.out.below hHeld.1.1 (Nat.le_refl _))).mono ?_); rintro e w1 ⟨rfl, hb⟩)
         | (go_at_call 12; (with_reducible refine (refsame_any _ _ _ _ _ _ _ _ _ _ _ (H1.out.below hHeld.1.1 (Nat.le_refl _)) (H2.out.below hHeld.1.1 (Nat.le_refl _)) (H3.out.below hHeld.1.1 (Nat.le_refl _)) (H4.out.below hHeld.1.1 (Nat.le_refl _))).mono ?_); rintro e w1 ⟨rfl, hb⟩)
         | (go_at_call 11; (with_reducible refine (same_any _ _ _ _ _ _ _ _ _ _ _ (H1.out.below hHeld.1.1 (Nat.le_refl _)) (H2.out.below hHeld.1.1 (Nat.le_refl _)) (H3.out.below hHeld.1.1 (Nat.le_refl _)) (H4.out.below hHeld.1.1 (Nat.le_refl _))).mono ?_); rintro e w1 ⟨rfl, hb⟩)
         | (go_at_call 11; (with_reducible refine (same_any _ _ _ _ _ _ _ _ _ _ _ (H1.out.below hHeld.1.1 (Nat.le_refl _)) (H2.out.below hHeld.1.1 (Nat.le_refl _)) (H1.out.below hHeld.1.1 (Nat.le_refl _)) (H2.out.below hHeld.1.1 (Nat.le_refl _))).mono ?_); rintro e w1 ⟨rfl, hb⟩; rw [HR.out])
       try go_wp2_with fail
       refine hK.out _ _ (by (first | (exact And.intro P3.out.1.drew P3.out.2.drew) | (exact Holds.call2 (by assumption) hb))) (fun hHeld => ?_)
       clear hK K
       try simp only [Act.put, List.setIfInBounds_toArray, List.set_cons_zero, List.set_cons_succ])
  first
    | (refine wpAnyH_take (i := 3) (v := undef) (by simp only [List.getElem?_toArray, List.getElem?_cons_succ, List.getElem?_cons_zero]; rfl) (by kernel_rfl) (by kernel_rfl) (by kernel_rfl) (fun _ _ _ h => h) (Or.inr ⟨by rfl, rfl⟩) (by assumption) ?_; try simp only [Act.put, List.setIfInBounds_toArray, List.set_cons_zero, List.set_cons_succ])
    | (refine wpAnyH_take (i := 3) (v := ?_) (by simp only [List.getElem?_toArray, List.getElem?_cons_succ, List.getElem?_cons_zero]; rfl) (by kernel_rfl) (by kernel_rfl) (by kernel_rfl) (fun _ _ _ h => h) (Or.inl ⟨by rfl, ?_⟩) (by assumption) ?_
       rotate_left
       · (intro ww hSw; (try dsimp only at hSw); go_simp; (try with_reducible rfl))
       try simp only [Act.put, List.setIfInBounds_toArray, List.set_cons_zero, List.set_cons_succ])
    | (refine wpAnyH_ready (rs := [3]) (by kernel_rfl) (by simp) (AllReadyH.cons (by simp only [List.getElem?_toArray, List.getElem?_cons_succ, List.getElem?_cons_zero]; rfl) (fun K hK => ?_) AllReadyH.nil)
       go_simp
       first
         | (go_at_call 9; (with_reducible refine (may_any _ _ _ _ _ _ (H1.out.below hHeld.1.1 (Nat.le_refl _)) (H2.out.below hHeld.1.1 (Nat.le_refl _))).mono ?_); rintro e w1 ⟨rfl, hb⟩; rw [HE.out])
         | (go_at_call 10; (with_reducible refine (refmay_any _ _ _ _ _ _ (H1.out.below hHeld.1.1 (Nat.le_refl _)) (H2.out.below hHeld.1.1 (Nat.le_refl _))).mono ?_); rintro e w1 ⟨rfl, hb⟩)
         | (go_at_call 12; (with_reducible refine (refsame_any _ _ _ _ _ _ _ _ _ _ _ (H1.out.below hHeld.1.1 (Nat.le_refl _)) (H2.out.below hHeld.1.1 (Nat.le_refl _)) (H3.out.below hHeld.1.1 (Nat.le_refl _)) (H4.out.below hHeld.1.1 (Nat.le_refl _))).mono ?_); rintro e w1 ⟨rfl, hb⟩)
         | (go_at_call 11; (with_reducible refine (same_any _ _ _ _ _ _ _ _ _ _ _ (H1.out.below hHeld.1.1 (Nat.le_refl _)) (H2.out.below hHeld.1.1 (Nat.le_refl _)) (H3.out.below hHeld.1.1 (Nat.le_refl _)) (H4.out.below hHeld.1.1 (Nat.le_refl _))).mono ?_); rintro e w1 ⟨rfl, hb⟩)
         | (go_at_call 11; (with_reducible refine (same_any _ _ _ _ _ _ _ _ _ _ _ (H1.out.below hHeld.1.1 (Nat.le_refl _)) (H2.out.below hHeld.1.1 (Nat.le_refl _)) (H1.out.below hHeld.1.1 (Nat.le_refl _)) (H2.out.below hHeld.1.1 (Nat.le_refl _))).mono ?_); rintro e w1 ⟨rfl, hb⟩; rw [HR.out])
       try go_wp2_with fail
       refine hK.out _ _ (by (first | (exact And.intro P3.out.1.drew P3.out.2.drew) | (exact Holds.call2 (by assumption) hb))) (fun hHeld => ?_)
       clear hK K
       try simp only [Act.put, List.setIfInBounds_toArray, List.set_cons_zero, List.set_cons_succ])
  first
    | (refine wpAnyH_take (i := 4) (v := undef) (by simp only [List.getElem?_toArray, List.getElem?_cons_succ, List.getElem?_cons_zero]; rfl) (by kernel_rfl) (by kernel_rfl) (by kernel_rfl) (fun _ _ _ h => h) (Or.inr ⟨by rfl, rfl⟩) (by assumption) ?_; try simp only [Act.put, List.setIfInBounds_toArray, List.set_cons_zero, List.set_cons_succ])
    | (refine wpAnyH_take (i := 4) (v := ?_) (by simp only [List.getElem?_toArray, List.getElem?_cons_succ, List.getElem?_cons_zero]; rfl) (by kernel_rfl) (by kernel_rfl) (by kernel_rfl) (fun _ _ _ h => h) (Or.inl ⟨by rfl, ?_⟩) (by assumption) ?_
       rotate_left
       · (intro ww hSw; (try dsimp only at hSw); go_simp; (try with_reducible rfl))
       try simp only [Act.put, List.setIfInBounds_toArray, List.set_cons_zero, List.set_cons_succ])
    | (refine wpAnyH_ready (rs := [4]) (by kernel_rfl) (by simp) (AllReadyH.cons (by simp only [List.getElem?_toArray, List.getElem?_cons_succ, List.getElem?_cons_zero]; rfl) (fun K hK => ?_) AllReadyH.nil)
       go_simp
       first
         | (go_at_call 9; (with_reducible refine (may_any _ _ _ _ _ _ (H1.out.below hHeld.1.1 (Nat.le_refl _)) (H2.out.below hHeld.1.1 (Nat.le_refl _))).mono ?_); rintro e w1 ⟨rfl, hb⟩; rw [HE.out])
         | (go_at_call 10; (with_reducible refine (refmay_any _ _ _ _ _ _ (H1.out.below hHeld.1.1 (Nat.le_refl _)) (H2.out.below hHeld.1.1 (Nat.le_refl _))).mono ?_); rintro e w1 ⟨rfl, hb⟩)
         | (go_at_call 12; (with_reducible refine (refsame_any _ _ _ _ _ _ _ _ _ _ _ (H1.out.below hHeld.1.1 (Nat.le_refl _)) (H2.out.below hHeld.1.1 (Nat.le_refl _)) (H3.out.below hHeld.1.1 (Nat.le_refl _)) (H4.out.below hHeld.1.1 (Nat.le_refl _))).mono ?_); rintro e w1 ⟨rfl, hb⟩)
         | (go_at_call 11; (with_reducible refine (same_any _ _ _ _ _ _ _ _ _ _ _ (H1.out.below hHeld.1.1 (Nat.le_refl _)) (H2.out.below hHeld.1.1 (Nat.le_refl _)) (H3.out.below hHeld.1.1 (Nat.le_refl _)) (H4.out.below hHeld.1.1 (Nat.le_refl _))).mono ?_); rintro e w1 ⟨rfl, hb⟩)
         | (go_at_call 11; (with_reducible refine (same_any _ _ _ _ _ _ _ _ _ _ _ (H1.out.below hHeld.1.1 (Nat.le_refl _)) (H2.out.below hHeld.1.1 (Nat.le_refl _)) (H1.out.below hHeld.1.1 (Nat.le_refl _)) (H2.out.below hHeld.1.1 (Nat.le_refl _))).mono ?_); rintro e w1 ⟨rfl, hb⟩; rw [HR.out])
       try go_wp2_with fail
       refine hK.out _ _ (by (first | (exact And.intro P3.out.1.drew P3.out.2.drew) | (exact Holds.call2 (by assumption) hb))) (fun hHeld => ?_)
       clear hK K
       try simp only [Act.put, List.setIfInBounds_toArray, List.set_cons_zero, List.set_cons_succ])
  first
    | (refine wpAnyH_take (i := 5) (v := undef) (by simp only [List.getElem?_toArray, List.getElem?_cons_succ, List.getElem?_cons_zero]; rfl) (by kernel_rfl) (by kernel_rfl) (by kernel_rfl) (fun _ _ _ h => h) (Or.inr ⟨by rfl, rfl⟩) (by assumption) ?_; try simp only [Act.put, List.setIfInBounds_toArray, List.set_cons_zero, List.set_cons_succ])
    | (refine wpAnyH_take (i := 5) (v := ?_) (by simp only [List.getElem?_toArray, List.getElem?_cons_succ, List.getElem?_cons_zero]; rfl) (by kernel_rfl) (by kernel_rfl) (by kernel_rfl) (fun _ _ _ h => h) (Or.inl ⟨by rfl, ?_⟩) (by assumption) ?_
       rotate_left
       · (intro ww hSw; (try dsimp only at hSw); go_simp; (try with_reducible rfl))
       try simp only [Act.put, List.setIfInBounds_toArray, List.set_cons_zero, List.set_cons_succ])
    | (refine wpAnyH_ready (rs := [5]) (by kernel_rfl) (by simp) (AllReadyH.cons (by simp only [List.getElem?_toArray, List.getElem?_cons_succ, List.getElem?_cons_zero]; rfl) (fun K hK => ?_) AllReadyH.nil)
       go_simp
       first
         | (go_at_call 9; (with_reducible refine (may_any _ _ _ _ _ _ (H1.out.below hHeld.1.1 (Nat.le_refl _)) (H2.out.below hHeld.1.1 (Nat.le_refl _))).mono ?_); rintro e w1 ⟨rfl, hb⟩; rw [HE.out])
         | (go_at_call 10; (with_reducible refine (refmay_any _ _ _ _ _ _ (H1.out.below hHeld.1.1 (Nat.le_refl _)) (H2.out.below hHeld.1.1 (Nat.le_refl _))).mono ?_); rintro e w1 ⟨rfl, hb⟩)
         | (go_at_call 12; (with_reducible refine (refsame_any _ _ _ _ _ _ _ _ _ _ _ (H1.out.below hHeld.1.1 (Nat.le_refl _)) (H2.out.below hHeld.1.1 (Nat.le_refl _)) (H3.out.below hHeld.1.1 (Nat.le_refl _)) (H4.out.below hHeld.1.1 (Nat.le_refl _))).mono ?_); rintro e w1 ⟨rfl, hb⟩)
         | (go_at_call 11; (with_reducible refine (same_any _ _ _ _ _ _ _ _ _ _ _ (H1.out.below hHeld.1.1 (Nat.le_refl _)) (H2.out.below hHeld.1.1 (Nat.le_refl _)) (H3.out.below hHeld.1.1 (Nat.le_refl _)) (H4.out.below hHeld.1.1 (Nat.le_refl _))).mono ?_); rintro e w1 ⟨rfl, hb⟩)
         | (go_at_call 11; (with_reducible refine (same_any _ _ _ _ _ _ _ _ _ _ _ (H1.out.below hHeld.1.1 (Nat.le_refl _)) (H2.out.below hHeld.1.1 (Nat.le_refl _)) (H1.out.below hHeld.1.1 (Nat.le_refl _)) (H2.out.below hHeld.1.1 (Nat.le_refl _))).mono ?_); rintro e w1 ⟨rfl, hb⟩; rw [HR.out])
       try go_wp2_with fail
       refine hK.out _ _ (by (first | (exact And.intro P3.out.1.drew P3.out.2.drew) | (exact Holds.call2 (by assumption) hb))) (fun hHeld => ?_)
       clear hK K
       try simp only [Act.put, List.setIfInBounds_toArray, List.set_cons_zero, List.set_cons_succ])
  first
    | (refine wpAnyH_take (i := 6) (v := undef) (by simp only [List.getElem?_toArray, List.getElem?_cons_succ, List.getElem?_cons_zero]; rfl) (by kernel_rfl) (by kernel_rfl) (by kernel_rfl) (fun _ _ _ h => h) (Or.inr ⟨by rfl, rfl⟩) (by assumption) ?_; try simp only [Act.put, List.setIfInBounds_toArray, List.set_cons_zero, List.set_cons_succ])
    | (refine wpAnyH_take (i := 6) (v := ?_) (by simp only [List.getElem?_toArray, List.getElem?_cons_succ, List.getElem?_cons_zero]; rfl) (by kernel_rfl) (by kernel_rfl) (by kernel_rfl) (fun _ _ _ h => h) (Or.inl ⟨by rfl, ?_⟩) (by assumption) ?_
       rotate_left
       · (intro ww hSw; (try dsimp only at hSw); go_simp; (try with_reducible rfl))
       try simp only [Act.put, List.setIfInBounds_toArray, List.set_cons_zero, List.set_cons_succ])
    | (refine wpAnyH_ready (rs := [6]) (by kernel_rfl) (by simp) (AllReadyH.cons (by simp only [List.getElem?_toArray, List.getElem?_cons_succ, List.getElem?_cons_zero]; rfl) (fun K hK => ?_) AllReadyH.nil)
       go_simp
       first
         | (go_at_call 9; (with_reducible refine (may_any _ _ _ _ _ _ (H1.out.below hHeld.1.1 (Nat.le_refl _)) (H2.out.below hHeld.1.1 (Nat.le_refl _))).mono ?_); rintro e w1 ⟨rfl, hb⟩; rw [HE.out])
         | (go_at_call 10; (with_reducible refine (refmay_any _ _ _ _ _ _ (H1.out.below hHeld.1.1 (Nat.le_refl _)) (H2.out.below hHeld.1.1 (Nat.le_refl _))).mono ?_); rintro e w1 ⟨rfl, hb⟩)
         | (go_at_call 12; (with_reducible refine (refsame_any _ _ _ _ _ _ _ _ _ _ _ (H1.out.below hHeld.1.1 (Nat.le_refl _)) (H2.out.below hHeld.1.1 (Nat.le_refl _)) (H3.out.below hHeld.1.1 (Nat.le_refl _)) (H4.out.below hHeld.1.1 (Nat.le_refl _))).mono ?_); rintro e w1 ⟨rfl, hb⟩)
         | (go_at_call 11; (with_reducible refine (same_any _ _ _ _ _ _ _ _ _ _ _ (H1.out.below hHeld.1.1 (Nat.le_refl _)) (H2.out.below hHeld.1.1 (Nat.le_refl _)) (H3.out.below hHeld.1.1 (Nat.le_refl _)) (H4.out.below hHeld.1.1 (Nat.le_refl _))).mono ?_); rintro e w1 ⟨rfl, hb⟩)
         | (go_at_call 11; (with_reducible refine (same_any _ _ _ _ _ _ _ _ _ _ _ (H1.out.below hHeld.1.1 (Nat.le_refl _)) (H2.out.below hHeld.1.1 (Nat.le_refl _)) (H1.out.below hHeld.1.1 (Nat.le_refl _)) (H2.out.below hHeld.1.1 (Nat.le_refl _))).mono ?_); rintro e w1 ⟨rfl, hb⟩; rw [HR.out])
       try go_wp2_with fail
       refine hK.out _ _ (by (first | (exact And.intro P3.out.1.drew P3.out.2.drew) | (exact Holds.call2 (by assumption) hb))) (fun hHeld => ?_)
       clear hK K
       try simp only [Act.put, List.setIfInBounds_toArray, List.set_cons_zero, List.set_cons_succ])
  first
    | (refine wpAnyH_take (i := 7) (v := undef) (by simp only [List.getElem?_toArray, List.getElem?_cons_succ, List.getElem?_cons_zero]; rfl) (by kernel_rfl) (by kernel_rfl) (by kernel_rfl) (fun _ _ _ h => h) (Or.inr ⟨by rfl, rfl⟩) (by assumption) ?_; try simp only [Act.put, List.setIfInBounds_toArray, List.set_cons_zero, List.set_cons_succ])
    | (refine wpAnyH_take (i := 7) (v := ?_) (by simp only [List.getElem?_toArray, List.getElem?_cons_succ, List.getElem?_cons_zero]; rfl) (by kernel_rfl) (by kernel_rfl) (by kernel_rfl) (fun _ _ _ h => h) (Or.inl ⟨by rfl, ?_⟩) (by assumption) ?_
       rotate_left
       · (intro ww hSw; (try dsimp only at hSw); go_simp; (try with_reducible rfl))
       try simp only [Act.put, List.setIfInBounds_toArray, List.set_cons_zero, List.set_cons_succ])
    | (refine wpAnyH_ready (rs := [7]) (by kernel_rfl) (by simp) (AllReadyH.cons (by simp only [List.getElem?_toArray, List.getElem?_cons_succ, List.getElem?_cons_zero]; rfl) (fun K hK => ?_) AllReadyH.nil)
       go_simp
       first
         | (go_at_call 9; (with_reducible refine (may_any _ _ _ _ _ _ (H1.out.below hHeld.1.1 (Nat.le_refl _)) (H2.out.below hHeld.1.1 (Nat.le_refl _))).mono ?_); rintro e w1 ⟨rfl, hb⟩; rw [HE.out])
         | (go_at_call 10; (with_reducible refine (refmay_any _ _ _ _ _ _ (H1.out.below hHeld.1.1 (Nat.le_refl _)) (H2.out.below hHeld.1.1 (Nat.le_refl _))).mono ?_); rintro e w1 ⟨rfl, hb⟩)
         | (go_at_call 12; (with_reducible refine (refsame_any _ _ _ _ _ _ _ _ _ _ _ (H1.out.below hHeld.1.1 (Nat.le_refl _)) (H2.out.below hHeld.1.1 (Nat.le_refl _)) (H3.out.below hHeld.1.1 (Nat.le_refl _)) (H4.out.below hHeld.1.1 (Nat.le_refl _))).mono ?_); rintro e w1 ⟨rfl, hb⟩)
         | (go_at_call 11; (with_reducible refine (same_any _ _ _ _ _ _ _ _ _ _ _ (H1.out.below hHeld.1.1 (Nat.le_refl _)) (H2.out.below hHeld.1.1 (Nat.le_refl _)) (H3.out.below hHeld.1.1 (Nat.le_refl _)) (H4.out.below hHeld.1.1 (Nat.le_refl _))).mono ?_); rintro e w1 ⟨rfl, hb⟩)
         | (go_at_call 11; (with_reducible refine (same_any _ _ _ _ _ _ _ _ _ _ _ (H1.out.below hHeld.1.1 (Nat.le_refl _)) (H2.out.below hHeld.1.1 (Nat.le_refl _)) (H1.out.below hHeld.1.1 (Nat.le_refl _)) (H2.out.below hHeld.1.1 (Nat.le_refl _))).mono ?_); rintro e w1 ⟨rfl, hb⟩; rw [HR.out])
       try go_wp2_with fail
       refine hK.out _ _ (by (first | (exact And.intro P3.out.1.drew P3.out.2.drew) | (exact Holds.call2 (by assumption) hb))) (fun hHeld => ?_)
       clear hK K
       try simp only [Act.put, List.setIfInBounds_toArray, List.set_cons_zero, List.set_cons_succ])
  first
    | (refine wpAnyH_take (i := 9) (v := undef) (by simp only [List.getElem?_toArray, List.getElem?_cons_succ, List.getElem?_cons_zero]; rfl) (by kernel_rfl) (by kernel_rfl) (by kernel_rfl) (fun _ _ _ h => h) (Or.inr ⟨by rfl, rfl⟩) (by assumption) ?_; try simp only [Act.put, List.setIfInBounds_toArray, List.set_cons_zero, List.set_cons_succ])
    | (refine wpAnyH_take (i := 9) (v := ?_) (by simp only [List.getElem?_toArray, List.getElem?_cons_succ, List.getElem?_cons_zero]; rfl) (by kernel_rfl) (by kernel_rfl) (by kernel_rfl) (fun _ _ _ h => h) (Or.inl ⟨by rfl, ?_⟩) (by assumption) ?_
       rotate_left
       · (intro ww hSw; (try dsimp only at hSw); go_simp; (try with_reducible rfl))
       try simp only [Act.put, List.setIfInBounds_toArray, List.set_cons_zero, List.set_cons_succ])
    | (refine wpAnyH_ready (rs := [9]) (by kernel_rfl) (by simp) (AllReadyH.cons (by simp only [List.getElem?_toArray, List.getElem?_cons_succ, List.getElem?_cons_zero]; rfl) (fun K hK => ?_) AllReadyH.nil)
       go_simp
       first
         | (go_at_call 9; (with_reducible refine (may_any _ _ _ _ _ _ (H1.out.below hHeld.1.1 (Nat.le_refl _)) (H2.out.below hHeld.1.1 (Nat.le_refl _))).mono ?_); rintro e w1 ⟨rfl, hb⟩; rw [HE.out])
         | (go_at_call 10; (with_reducible refine (refmay_any _ _ _ _ _ _ (H1.out.below hHeld.1.1 (Nat.le_refl _)) (H2.out.below hHeld.1.1 (Nat.le_refl _))).mono ?_); rintro e w1 ⟨rfl, hb⟩)
         | (go_at_call 12; (with_reducible refine (refsame_any _ _ _ _ _ _ _ _ _ _ _ (H1.out.below hHeld.1.1 (Nat.le_refl _)) (H2.out.below hHeld.1.1 (Nat.le_refl _)) (H3.out.below hHeld.1.1 (Nat.le_refl _)) (H4.out.below hHeld.1.1 (Nat.le_refl _))).mono ?_); rintro e w1 ⟨rfl, hb⟩)
         | (go_at_call 11; (with_reducible refine (same_any _ _ _ _ _ _ _ _ _ _ _ (H1.out.below hHeld.1.1 (Nat.le_refl _)) (H2.out.below hHeld.1.1 (Nat.le_refl _)) (H3.out.below hHeld.1.1 (Nat.le_refl _)) (H4.out.below hHeld.1.1 (Nat.le_refl _))).mono ?_); rintro e w1 ⟨rfl, hb⟩)
         | (go_at_call 11; (with_reducible refine (same_any _ _ _ _ _ _ _ _ _ _ _ (H1.out.below hHeld.1.1 (Nat.le_refl _)) (H2.out.below hHeld.1.1 (Nat.le_refl _)) (H1.out.below hHeld.1.1 (Nat.le_refl _)) (H2.out.below hHeld.1.1 (Nat.le_refl _))).mono ?_); rintro e w1 ⟨rfl, hb⟩; rw [HR.out])
       try go_wp2_with fail
       refine hK.out _ _ (by (first | (exact And.intro P3.out.1.drew P3.out.2.drew) | (exact Holds.call2 (by assumption) hb))) (fun hHeld => ?_)
       clear hK K
       try simp only [Act.put, List.setIfInBounds_toArray, List.set_cons_zero, List.set_cons_succ])
  first
    | (refine wpAnyH_take (i := 10) (v := undef) (by simp only [List.getElem?_toArray, List.getElem?_cons_succ, List.getElem?_cons_zero]; rfl) (by kernel_rfl) (by kernel_rfl) (by kernel_rfl) (fun _ _ _ h => h) (Or.inr ⟨by rfl, rfl⟩) (by assumption) ?_; try simp only [Act.put, List.setIfInBounds_toArray, List.set_cons_zero, List.set_cons_succ])
    | (refine wpAnyH_take (i := 10) (v := ?_) (by simp only [List.getElem?_toArray, List.getElem?_cons_succ, List.getElem?_cons_zero]; rfl) (by kernel_rfl) (by kernel_rfl) (by kernel_rfl) (fun _ _ _ h => h) (Or.inl ⟨by rfl, ?_⟩) (by assumption) ?_
       rotate_left
       · (intro ww hSw; (try dsimp only at hSw); go_simp; (try with_reducible rfl))
       try simp only [Act.put, List.setIfInBounds_toArray, List.set_cons_zero, List.set_cons_succ])
    | (refine wpAnyH_ready (rs := [10]) (by kernel_rfl) (by simp) (AllReadyH.cons (by simp only [List.getElem?_toArray, List.getElem?_cons_succ, List.getElem?_cons_zero]; rfl) (fun K hK => ?_) AllReadyH.nil)
       go_simp
       first
         | (go_at_call 9; (with_reducible refine (may_any _ _ _ _ _ _ (H1.out.below hHeld.1.1 (Nat.le_refl _)) (H2.out.below hHeld.1.1 (Nat.le_refl _))).mono ?_); rintro e w1 ⟨rfl, hb⟩; rw [HE.out])
         | (go_at_call 10; (with_reducible refine (refmay_any _ _ _ _ _ _ (H1.out.below hHeld.1.1 (Nat.le_refl _)) (H2.out.below hHeld.1.1 (Nat.le_refl _))).mono ?_); rintro e w1 ⟨rfl, hb⟩)
         | (go_at_call 12; (with_reducible refine (refsame_any _ _ _ _ _ _ _ _ _ _ _ (H1.out.below hHeld.1.1 (Nat.le_refl _)) (H2.out.below hHeld.1.1 (Nat.le_refl _)) (H3.out.below hHeld.1.1 (Nat.le_refl _)) (H4.out.below hHeld.1.1 (Nat.le_refl _))).mono ?_); rintro e w1 ⟨rfl, hb⟩)
         | (go_at_call 11; (with_reducible refine (same_any _ _ _ _ _ _ _ _ _ _ _ (H1.out.below hHeld.1.1 (Nat.le_refl _)) (H2.out.below hHeld.1.1 (Nat.le_refl _)) (H3.out.below hHeld.1.1 (Nat.le_refl _)) (H4.out.below hHeld.1.1 (Nat.le_refl _))).mono ?_); rintro e w1 ⟨rfl, hb⟩)
         | (go_at_call 11; (with_reducible refine (same_any _ _ _ _ _ _ _ _ _ _ _ (H1.out.below hHeld.1.1 (Nat.le_refl _)) (H2.out.below hHeld.1.1 (Nat.le_refl _)) (H1.out.below hHeld.1.1 (Nat.le_refl _)) (H2.out.below hHeld.1.1 (Nat.le_refl _))).mono ?_); rintro e w1 ⟨rfl, hb⟩; rw [HR.out])
       try go_wp2_with fail
       refine hK.out _ _ (by (first | (exact And.intro P3.out.1.drew P3.out.2.drew) | (exact Holds.call2 (by assumption) hb))) (fun hHeld => ?_)
       clear hK K
       try simp only [Act.put, List.setIfInBounds_toArray, List.set_cons_zero, List.set_cons_succ])
  first
    | (refine wpAnyH_take (i := 8) (v := undef) (by simp only [List.getElem?_toArray, List.getElem?_cons_succ, List.getElem?_cons_zero]; rfl) (by kernel_rfl) (by kernel_rfl) (by kernel_rfl) (fun _ _ _ h => h) (Or.inr ⟨by rfl, rfl⟩) (by assumption) ?_; try simp only [Act.put, List.setIfInBounds_toArray, List.set_cons_zero, List.set_cons_succ])
    | (refine wpAnyH_take (i := 8) (v := ?_) (by simp only [List.getElem?_toArray, List.getElem?_cons_succ, List.getElem?_cons_zero]; rfl) (by kernel_rfl) (by kernel_rfl) (by kernel_rfl) (fun _ _ _ h => h) (Or.inl ⟨by rfl, ?_⟩) (by assumption) ?_
       rotate_left
       · (intro ww hSw; (try dsimp only at hSw); go_simp; (try with_reducible rfl))
       try simp only [Act.put, List.setIfInBounds_toArray, List.set_cons_zero, List.set_cons_succ])
    | (refine wpAnyH_ready (rs := [8]) (by kernel_rfl) (by simp) (AllReadyH.cons (by simp only [List.getElem?_toArray, List.getElem?_cons_succ, List.getElem?_cons_zero]; rfl) (fun K hK => ?_) AllReadyH.nil)
       go_simp
       first
         | (go_at_call 9; (with_reducible refine (may_any _ _ _ _ _ _ (H1.out.below hHeld.1.1 (Nat.le_refl _)) (H2.out.below hHeld.1.1 (Nat.le_refl _))).mono ?_); rintro e w1 ⟨rfl, hb⟩; rw [HE.out])
         | (go_at_call 10; (with_reducible refine (refmay_any _ _ _ _ _ _ (H1.out.below hHeld.1.1 (Nat.le_refl _)) (H2.out.below hHeld.1.1 (Nat.le_refl _))).mono ?_); rintro e w1 ⟨rfl, hb⟩)
         | (go_at_call 12; (with_reducible refine (refsame_any _ _ _ _ _ _ _ _ _ _ _ (H1.out.below hHeld.1.1 (Nat.le_refl _)) (H2.out.below hHeld.1.1 (Nat.le_refl _)) (H3.out.below hHeld.1.1 (Nat.le_refl _)) (H4.out.below hHeld.1.1 (Nat.le_refl _))).mono ?_); rintro e w1 ⟨rfl, hb⟩)
         | (go_at_call 11; (with_reducible refine (same_any _ _ _ _ _ _ _ _ _ _ _ (H1.out.below hHeld.1.1 (Nat.le_refl _)) (H2.out.below hHeld.1.1 (Nat.le_refl _)) (H3.out.below hHeld.1.1 (Nat.le_refl _)) (H4.out.below hHeld.1.1 (Nat.le_refl _))).mono ?_); rintro e w1 ⟨rfl, hb⟩)
         | (go_at_call 11; (with_reducible refine (same_any _ _ _ _ _ _ _ _ _ _ _ (H1.out.below hHeld.1.1 (Nat.le_refl _)) (H2.out.below hHeld.1.1 (Nat.le_refl _)) (H1.out.below hHeld.1.1 (Nat.le_refl _)) (H2.out.below hHeld.1.1 (Nat.le_refl _))).mono ?_); rintro e w1 ⟨rfl, hb⟩; rw [HR.out])
       try go_wp2_with fail
       refine hK.out _ _ (by (first | (exact And.intro P3.out.1.drew P3.out.2.drew) | (exact Holds.call2 (by assumption) hb))) (fun hHeld => ?_)
       clear hK K
       try simp only [Act.put, List.setIfInBounds_toArray, List.set_cons_zero, List.set_cons_succ])
  first
    | (refine wpAnyH_take (i := 11) (v := undef) (by simp only [List.getElem?_toArray, List.getElem?_cons_succ, List.getElem?_cons_zero]; rfl) (by kernel_rfl) (by kernel_rfl) (by kernel_rfl) (fun _ _ _ h => h) (Or.inr ⟨by rfl, rfl⟩) (by assumption) ?_; try simp only [Act.put, List.setIfInBounds_toArray, List.set_cons_zero, List.set_cons_succ])
    | (refine wpAnyH_take (i := 11) (v := ?_) (by simp only [List.getElem?_toArray, List.getElem?_cons_succ, List.getElem?_cons_zero]; rfl) (by kernel_rfl) (by kernel_rfl) (by kernel_rfl) (fun _ _ _ h => h) (Or.inl ⟨by rfl, ?_⟩) (by assumption) ?_
       rotate_left
       · (intro ww hSw; (try dsimp only at hSw); go_simp; (try with_reducible rfl))
       try simp only [Act.put, List.setIfInBounds_toArray, List.set_cons_zero, List.set_cons_succ])
    | (refine wpAnyH_ready (rs := [11]) (by kernel_rfl) (by simp) (AllReadyH.cons (by simp only [List.getElem?_toArray, List.getElem?_cons_succ, List.getElem?_cons_zero]; rfl) (fun K hK => ?_) AllReadyH.nil)
       go_simp
       first
         | (go_at_call 9; (with_reducible refine (may_any _ _ _ _ _ _ (H1.out.below hHeld.1.1 (Nat.le_refl _)) (H2.out.below hHeld.1.1 (Nat.le_refl _))).mono ?_); rintro e w1 ⟨rfl, hb⟩; rw [HE.out])
         | (go_at_call 10; (with_reducible refine (refmay_any _ _ _ _ _ _ (H1.out.below hHeld.1.1 (Nat.le_refl _)) (H2.out.below hHeld.1.1 (Nat.le_refl _))).mono ?_); rintro e w1 ⟨rfl, hb⟩)
         | (go_at_call 12; (with_reducible refine (refsame_any _ _ _ _ _ _ _ _ _ _ _ (H1.out.below hHeld.1.1 (Nat.le_refl _)) (H2.out.below hHeld.1.1 (Nat.le_refl _)) (H3.out.below hHeld.1.1 (Nat.le_refl _)) (H4.out.below hHeld.1.1 (Nat.le_refl _))).mono ?_); rintro e w1 ⟨rfl, hb⟩)
         | (go_at_call 11; (with_reducible refine (same_any _ _ _ _ _ _ _ _ _ _ _ (H1.out.below hHeld.1.1 (Nat.le_refl _)) (H2.out.below hHeld.1.1 (Nat.le_refl _)) (H3.out.below hHeld.1.1 (Nat.le_refl _)) (H4.out.below hHeld.1.1 (Nat.le_refl _))).mono ?_); rintro e w1 ⟨rfl, hb⟩)
         | (go_at_call 11; (with_reducible refine (same_any _ _ _ _ _ _ _ _ _ _ _ (H1.out.below hHeld.1.1 (Nat.le_refl _)) (H2.out.below hHeld.1.1 (Nat.le_refl _)) (H1.out.below hHeld.1.1 (Nat.le_refl _)) (H2.out.below hHeld.1.1 (Nat.le_refl _))).mono ?_); rintro e w1 ⟨rfl, hb⟩; rw [HR.out])
       try go_wp2_with fail
       refine hK.out _ _ (by (first | (exact And.intro P3.out.1.drew P3.out.2.drew) | (exact Holds.call2 (by assumption) hb))) (fun hHeld => ?_)
       clear hK K
       try simp only [Act.put, List.setIfInBounds_toArray, List.set_cons_zero, List.set_cons_succ])
  first
    | (refine wpAnyH_take (i := 12) (v := undef) (by simp only [List.getElem?_toArray, List.getElem?_cons_succ, List.getElem?_cons_zero]; rfl) (by kernel_rfl) (by kernel_rfl) (by kernel_rfl) (fun _ _ _ h => h) (Or.inr ⟨by rfl, rfl⟩) (by assumption) ?_; try simp only [Act.put, List.setIfInBounds_toArray, List.set_cons_zero, List.set_cons_succ])
    | (refine wpAnyH_take (i := 12) (v := ?_) (by simp only [List.getElem?_toArray, List.getElem?_cons_succ, List.getElem?_cons_zero]; rfl) (by kernel_rfl) (by kernel_rfl) (by kernel_rfl) (fun _ _ _ h => h) (Or.inl ⟨by rfl, ?_⟩) (by assumption) ?_
       rotate_left
       · (intro ww hSw; (try dsimp only at hSw); go_simp; (try with_reducible rfl))
       try simp only [Act.put, List.setIfInBounds_toArray, List.set_cons_zero, List.set_cons_succ])
    | (refine wpAnyH_ready (rs := [12]) (by kernel_rfl) (by simp) (AllReadyH.cons (by simp only [List.getElem?_toArray, List.getElem?_cons_succ, List.getElem?_cons_zero]; rfl) (fun K hK => ?_) AllReadyH.nil)
       go_simp
       first
         | (go_at_call 9; (with_reducible refine (may_any _ _ _ _ _ _ (H1.out.below hHeld.1.1 (Nat.le_refl _)) (H2.out.below hHeld.1.1 (Nat.le_refl _))).mono ?_); rintro e w1 ⟨rfl, hb⟩; rw [HE.out])
         | (go_at_call 10; (with_reducible refine (refmay_any _ _ _ _ _ _ (H1.out.below hHeld.1.1 (Nat.le_refl _)) (H2.out.below hHeld.1.1 (Nat.le_refl _))).mono ?_); rintro e w1 ⟨rfl, hb⟩)
         | (go_at_call 12; (with_reducible refine (refsame_any _ _ _ _ _ _ _ _ _ _ _ (H1.out.below hHeld.1.1 (Nat.le_refl _)) (H2.out.below hHeld.1.1 (Nat.le_refl _)) (H3.out.below hHeld.1.1 (Nat.le_refl _)) (H4.out.below hHeld.1.1 (Nat.le_refl _))).mono ?_); rintro e w1 ⟨rfl, hb⟩)
         | (go_at_call 11; (with_reducible refine (same_any _ _ _ _ _ _ _ _ _ _ _ (H1.out.below hHeld.1.1 (Nat.le_refl _)) (H2.out.below hHeld.1.1 (Nat.le_refl _)) (H3.out.below hHeld.1.1 (Nat.le_refl _)) (H4.out.below hHeld.1.1 (Nat.le_refl _))).mono ?_); rintro e w1 ⟨rfl, hb⟩)
         | (go_at_call 11; (with_reducible refine (same_any _ _ _ _ _ _ _ _ _ _ _ (H1.out.below hHeld.1.1 (Nat.le_refl _)) (H2.out.below hHeld.1.1 (Nat.le_refl _)) (H1.out.below hHeld.1.1 (Nat.le_refl _)) (H2.out.below hHeld.1.1 (Nat.le_refl _))).mono ?_); rintro e w1 ⟨rfl, hb⟩; rw [HR.out])
       try go_wp2_with fail
       refine hK.out _ _ (by (first | (exact And.intro P3.out.1.drew P3.out.2.drew) | (exact Holds.call2 (by assumption) hb))) (fun hHeld => ?_)
       clear hK K
       try simp only [Act.put, List.setIfInBounds_toArray, List.set_cons_zero, List.set_cons_succ])
  first
    | (refine wpAnyH_take (i := 13) (v := undef) (by simp only [List.getElem?_toArray, List.getElem?_cons_succ, List.getElem?_cons_zero]; rfl) (by kernel_rfl) (by kernel_rfl) (by kernel_rfl) (fun _ _ _ h => h) (Or.inr ⟨by rfl, rfl⟩) (by assumption) ?_; try simp only [Act.put, List.setIfInBounds_toArray, List.set_cons_zero, List.set_cons_succ])
    | (refine wpAnyH_take (i := 13) (v := ?_) (by simp only [List.getElem?_toArray, List.getElem?_cons_succ, List.getElem?_cons_zero]; rfl) (by kernel_rfl) (by kernel_rfl) (by kernel_rfl) (fun _ _ _ h => h) (Or.inl ⟨by rfl, ?_⟩) (by assumption) ?_
       rotate_left
       · (intro ww hSw; (try dsimp only at hSw); go_simp; (try with_reducible rfl))
       try simp only [Act.put, List.setIfInBounds_toArray, List.set_cons_zero, List.set_cons_succ])
    | (refine wpAnyH_ready (rs := [13]) (by kernel_rfl) (by simp) (AllReadyH.cons (by simp only [List.getElem?_toArray, List.getElem?_cons_succ, List.getElem?_cons_zero]; rfl) (fun K hK => ?_) AllReadyH.nil)
       go_simp
       first
         | (go_at_call 9; (with_reducible refine (may_any _ _ _ _ _ _ (H1.out.below hHeld.1.1 (Nat.le_refl _)) (H2.out.below hHeld.1.1 (Nat.le_refl _))).mono ?_); rintro e w1 ⟨rfl, hb⟩; rw [HE.out])
         | (go_at_call 10; (with_reducible refine (refmay_any _ _ _ _ _ _ (H1.out.below hHeld.1.1 (Nat.le_refl _)) (H2.out.below hHeld.1.1 (Nat.le_refl _))).mono ?_); rintro e w1 ⟨rfl, hb⟩)
         | (go_at_call 12; (with_reducible refine (refsame_any _ _ _ _ _ _ _ _ _ _ _ (H1.out.below hHeld.1.1 (Nat.le_refl _)) (H2.out.below hHeld.1.1 (Nat.le_refl _)) (H3.out.below hHeld.1.1 (Nat.le_refl _)) (H4.out.below hHeld.1.1 (Nat.le_refl _))).mono ?_); rintro e w1 ⟨rfl, hb⟩)
         | (go_at_call 11; (with_reducible refine (same_any _ _ _ _ _ _ _ _ _ _ _ (H1.out.below hHeld.1.1 (Nat.le_refl _)) (H2.out.below hHeld.1.1 (Nat.le_refl _)) (H3.out.below hHeld.1.1 (Nat.le_refl _)) (H4.out.below hHeld.1.1 (Nat.le_refl _))).mono ?_); rintro e w1 ⟨rfl, hb⟩)
         | (go_at_call 11; (with_reducible refine (same_any _ _ _ _ _ _ _ _ _ _ _ (H1.out.below hHeld.1.1 (Nat.le_refl _)) (H2.out.below hHeld.1.1 (Nat.le_refl _)) (H1.out.below hHeld.1.1 (Nat.le_refl _)) (H2.out.below hHeld.1.1 (Nat.le_refl _))).mono ?_); rintro e w1 ⟨rfl, hb⟩; rw [HR.out])
       try go_wp2_with fail
       refine hK.out _ _ (by (first | (exact And.intro P3.out.1.drew P3.out.2.drew) | (exact Holds.call2 (by assumption) hb))) (fun hHeld => ?_)
       clear hK K
       try simp only [Act.put, List.setIfInBounds_toArray, List.set_cons_zero, List.set_cons_succ])
  first
    | (refine wpAnyH_take (i := 14) (v := undef) (by simp only [List.getElem?_toArray, List.getElem?_cons_succ, List.getElem?_cons_zero]; rfl) (by kernel_rfl) (by kernel_rfl) (by kernel_rfl) (fun _ _ _ h => h) (Or.inr ⟨by rfl, rfl⟩) (by assumption) ?_; try simp only [Act.put, List.setIfInBounds_toArray, List.set_cons_zero, List.set_cons_succ])
    | (refine wpAnyH_take (i := 14) (v := ?_) (by simp only [List.getElem?_toArray, List.getElem?_cons_succ, List.getElem?_cons_zero]; rfl) (by kernel_rfl) (by kernel_rfl) (by kernel_rfl) (fun _ _ _ h => h) (Or.inl ⟨by rfl, ?_⟩) (by assumption) ?_
       rotate_left
       · (intro ww hSw; (try dsimp only at hSw); go_simp; (try with_reducible rfl))
       try simp only [Act.put, List.setIfInBounds_toArray, List.set_cons_zero, List.set_cons_succ])
    | (refine wpAnyH_ready (rs := [14]) (by kernel_rfl) (by simp) (AllReadyH.cons (by simp only [List.getElem?_toArray, List.getElem?_cons_succ, List.getElem?_cons_zero]; rfl) (fun K hK => ?_) AllReadyH.nil)
       go_simp
       first
         | (go_at_call 9; (with_reducible refine (may_any _ _ _ _ _ _ (H1.out.below hHeld.1.1 (Nat.le_refl _)) (H2.out.below hHeld.1.1 (Nat.le_refl _))).mono ?_); rintro e w1 ⟨rfl, hb⟩; rw [HE.out])
         | (go_at_call 10; (with_reducible refine (refmay_any _ _ _ _ _ _ (H1.out.below hHeld.1.1 (Nat.le_refl _)) (H2.out.below hHeld.1.1 (Nat.le_refl _))).mono ?_); rintro e w1 ⟨rfl, hb⟩)
         | (go_at_call 12; (with_reducible refine (refsame_any _ _ _ _ _ _ _ _ _ _ _ (H1.out.below hHeld.1.1 (Nat.le_refl _)) (H2.out.below hHeld.1.1 (Nat.le_refl _)) (H3.out.below hHeld.1.1 (Nat.le_refl _)) (H4.out.below hHeld.1.1 (Nat.le_refl _))).mono ?_); rintro e w1 ⟨rfl, hb⟩)
         | (go_at_call 11; (with_reducible refine (same_any _ _ _ _ _ _ _ _ _ _ _ (H1.out.below hHeld.1.1 (Nat.le_refl _)) (H2.out.below hHeld.1.1 (Nat.le_refl _)) (H3.out.below hHeld.1.1 (Nat.le_refl _)) (H4.out.below hHeld.1.1 (Nat.le_refl _))).mono ?_); rintro e w1 ⟨rfl, hb⟩)
         | (go_at_call 11; (with_reducible refine (same_any _ _ _ _ _ _ _ _ _ _ _ (H1.out.below hHeld.1.1 (Nat.le_refl _)) (H2.out.below hHeld.1.1 (Nat.le_refl _)) (H1.out.below hHeld.1.1 (Nat.le_refl _)) (H2.out.below hHeld.1.1 (Nat.le_refl _))).mono ?_); rintro e w1 ⟨rfl, hb⟩; rw [HR.out])
       try go_wp2_with fail
       refine hK.out _ _ (by (first | (exact And.intro P3.out.1.drew P3.out.2.drew) | (exact Holds.call2 (by assumption) hb))) (fun hHeld => ?_)
       clear hK K
       try simp only [Act.put, List.setIfInBounds_toArray, List.set_cons_zero, List.set_cons_succ])
  first
    | (refine wpAnyH_take (i := 15) (v := undef) (by simp only [List.getElem?_toArray, List.getElem?_cons_succ, List.getElem?_cons_zero]; rfl) (by kernel_rfl) (by kernel_rfl) (by kernel_rfl) (fun _ _ _ h => h) (Or.inr ⟨by rfl, rfl⟩) (by assumption) ?_; try simp only [Act.put, List.setIfInBounds_toArray, List.set_cons_zero, List.set_cons_succ])
    | (refine wpAnyH_take (i := 15) (v := ?_) (by simp only [List.getElem?_toArray, List.getElem?_cons_succ, List.getElem?_cons_zero]; rfl) (by kernel_rfl) (by kernel_rfl) (by kernel_rfl) (fun _ _ _ h => h) (Or.inl ⟨by rfl, ?_⟩) (by assumption) ?_
       rotate_left
       · (intro ww hSw; (try dsimp only at hSw); go_simp; (try with_reducible rfl))
       try simp only [Act.put, List.setIfInBounds_toArray, List.set_cons_zero, List.set_cons_succ])
    | (refine wpAnyH_ready (rs := [15]) (by kernel_rfl) (by simp) (AllReadyH.cons (by simp only [List.getElem?_toArray, List.getElem?_cons_succ, List.getElem?_cons_zero]; rfl) (fun K hK => ?_) AllReadyH.nil)
       go_simp
       first
         | (go_at_call 9; (with_reducible refine (may_any _ _ _ _ _ _ (H1.out.below hHeld.1.1 (Nat.le_refl _)) (H2.out.below hHeld.1.1 (Nat.le_refl _))).mono ?_); rintro e w1 ⟨rfl, hb⟩; rw [HE.out])
         | (go_at_call 10; (with_reducible refine (refmay_any _ _ _ _ _ _ (H1.out.below hHeld.1.1 (Nat.le_refl _)) (H2.out.below hHeld.1.1 (Nat.le_refl _))).mono ?_); rintro e w1 ⟨rfl, hb⟩)
         | (go_at_call 12; (with_reducible refine (refsame_any _ _ _ _ _ _ _ _ _ _ _ (H1.out.below hHeld.1.1 (Nat.le_refl _)) (H2.out.below hHeld.1.1 (Nat.le_refl _)) (H3.out.below hHeld.1.1 (Nat.le_refl _)) (H4.out.below hHeld.1.1 (Nat.le_refl _))).mono ?_); rintro e w1 ⟨rfl, hb⟩)
         | (go_at_call 11; (with_reducible refine (same_any _ _ _ _ _ _ _ _ _ _ _ (H1.out.below hHeld.1.1 (Nat.le_refl _)) (H2.out.below hHeld.1.1 (Nat.le_refl _)) (H3.out.below hHeld.1.1 (Nat.le_refl _)) (H4.out.below hHeld.1.1 (Nat.le_refl _))).mono ?_); rintro e w1 ⟨rfl, hb⟩)
         | (go_at_call 11; (with_reducible refine (same_any _ _ _ _ _ _ _ _ _ _ _ (H1.out.below hHeld.1.1 (Nat.le_refl _)) (H2.out.below hHeld.1.1 (Nat.le_refl _)) (H1.out.below hHeld.1.1 (Nat.le_refl _)) (H2.out.below hHeld.1.1 (Nat.le_refl _))).mono ?_); rintro e w1 ⟨rfl, hb⟩; rw [HR.out])
       try go_wp2_with fail
       refine hK.out _ _ (by (first | (exact And.intro P3.out.1.drew P3.out.2.drew) | (exact Holds.call2 (by assumption) hb))) (fun hHeld => ?_)
       clear hK K
       try simp only [Act.put, List.setIfInBounds_toArray, List.set_cons_zero, List.set_cons_succ])
  first
    | (refine wpAnyH_take (i := 16) (v := undef) (by simp only [List.getElem?_toArray, List.getElem?_cons_succ, List.getElem?_cons_zero]; rfl) (by kernel_rfl) (by kernel_rfl) (by kernel_rfl) (fun _ _ _ h => h) (Or.inr ⟨by rfl, rfl⟩) (by assumption) ?_; try simp only [Act.put, List.setIfInBounds_toArray, List.set_cons_zero, List.set_cons_succ])
    | (refine wpAnyH_take (i := 16) (v := ?_) (by simp only [List.getElem?_toArray, List.getElem?_cons_succ, List.getElem?_cons_zero]; rfl) (by kernel_rfl) (by kernel_rfl) (by kernel_rfl) (fun _ _ _ h => h) (Or.inl ⟨by rfl, ?_⟩) (by assumption) ?_
       rotate_left
       · (intro ww hSw; (try dsimp only at hSw); go_simp; (try with_reducible rfl))
       try simp only [Act.put, List.setIfInBounds_toArray, List.set_cons_zero, List.set_cons_succ])
    | (refine wpAnyH_ready (rs := [16]) (by kernel_rfl) (by simp) (AllReadyH.cons (by simp only [List.getElem?_toArray, List.getElem?_cons_succ, List.getElem?_cons_zero]; rfl) (fun K hK => ?_) AllReadyH.nil)
       go_simp
       first
         | (go_at_call 9; (with_reducible refine (may_any _ _ _ _ _ _ (H1.out.below hHeld.1.1 (Nat.le_refl _)) (H2.out.below hHeld.1.1 (Nat.le_refl _))).mono ?_); rintro e w1 ⟨rfl, hb⟩; rw [HE.out])
         | (go_at_call 10; (with_reducible refine (refmay_any _ _ _ _ _ _ (H1.out.below hHeld.1.1 (Nat.le_refl _)) (H2.out.below hHeld.1.1 (Nat.le_refl _))).mono ?_); rintro e w1 ⟨rfl, hb⟩)
         | (go_at_call 12; (with_reducible refine (refsame_any _ _ _ _ _ _ _ _ _ _ _ (H1.out.below hHeld.1.1 (Nat.le_refl _)) (H2.out.below hHeld.1.1 (Nat.le_refl _)) (H3.out.below hHeld.1.1 (Nat.le_refl _)) (H4.out.below hHeld.1.1 (Nat.le_refl _))).mono ?_); rintro e w1 ⟨rfl, hb⟩)
         | (go_at_call 11; (with_reducible refine (same_any _ _ _ _ _ _ _ _ _ _ _ (H1.out.below hHeld.1.1 (Nat.le_refl _)) (H2.out.below hHeld.1.1 (Nat.le_refl _)) (H3.out.below hHeld.1.1 (Nat.le_refl _)) (H4.out.below hHeld.1.1 (Nat.le_refl _))).mono ?_); rintro e w1 ⟨rfl, hb⟩)
         | (go_at_call 11; (with_reducible refine (same_any _ _ _ _ _ _ _ _ _ _ _ (H1.out.below hHeld.1.1 (Nat.le_refl _)) (H2.out.below hHeld.1.1 (Nat.le_refl _)) (H1.out.below hHeld.1.1 (Nat.le_refl _)) (H2.out.below hHeld.1.1 (Nat.le_refl _))).mono ?_); rintro e w1 ⟨rfl, hb⟩; rw [HR.out])
       try go_wp2_with fail
       refine hK.out _ _ (by (first | (exact And.intro P3.out.1.drew P3.out.2.drew) | (exact Holds.call2 (by assumption) hb))) (fun hHeld => ?_)
       clear hK K
       try simp only [Act.put, List.setIfInBounds_toArray, List.set_cons_zero, List.set_cons_succ])
  first
    | (refine wpAnyH_take (i := 17) (v := undef) (by simp only [List.getElem?_toArray, List.getElem?_cons_succ, List.getElem?_cons_zero]; rfl) (by kernel_rfl) (by kernel_rfl) (by kernel_rfl) (fun _ _ _ h => h) (Or.inr ⟨by rfl, rfl⟩) (by assumption) ?_; try simp only [Act.put, List.setIfInBounds_toArray, List.set_cons_zero, List.set_cons_succ])
    | (refine wpAnyH_take (i := 17) (v := ?_) (by simp only [List.getElem?_toArray, List.getElem?_cons_succ, List.getElem?_cons_zero]; rfl) (by kernel_rfl) (by kernel_rfl) (by kernel_rfl) (fun _ _ _ h => h) (Or.inl ⟨by rfl, ?_⟩) (by assumption) ?_
       rotate_left
       · (intro ww hSw; (try dsimp only at hSw); go_simp; (try with_reducible rfl))
       try simp only [Act.put, List.setIfInBounds_toArray, List.set_cons_zero, List.set_cons_succ])
    | (refine wpAnyH_ready (rs := [17]) (by kernel_rfl) (by simp) (AllReadyH.cons (by simp only [List.getElem?_toArray, List.getElem?_cons_succ, List.getElem?_cons_zero]; rfl) (fun K hK => ?_) AllReadyH.nil)
       go_simp
       first
         | (go_at_call 9; (with_reducible refine (may_any _ _ _ _ _ _ (H1.out.below hHeld.1.1 (Nat.le_refl _)) (H2.out.below hHeld.1.1 (Nat.le_refl _))).mono ?_); rintro e w1 ⟨rfl, hb⟩; rw [HE.out])
         | (go_at_call 10; (with_reducible refine (refmay_any _ _ _ _ _ _ (H1.out.below hHeld.1.1 (Nat.le_refl _)) (H2.out.below hHeld.1.1 (Nat.le_refl _))).mono ?_); rintro e w1 ⟨rfl, hb⟩)
         | (go_at_call 12; (with_reducible refine (refsame_any _ _ _ _ _ _ _ _ _ _ _ (H1.out.below hHeld.1.1 (Nat.le_refl _)) (H2.out.below hHeld.1.1 (Nat.le_refl _)) (H3.out.below hHeld.1.1 (Nat.le_refl _)) (H4.out.below hHeld.1.1 (Nat.le_refl _))).mono ?_); rintro e w1 ⟨rfl, hb⟩)
         | (go_at_call 11; (with_reducible refine (same_any _ _ _ _ _ _ _ _ _ _ _ (H1.out.below hHeld.1.1 (Nat.le_refl _)) (H2.out.below hHeld.1.1 (Nat.le_refl _)) (H3.out.below hHeld.1.1 (Nat.le_refl _)) (H4.out.below hHeld.1.1 (Nat.le_refl _))).mono ?_); rintro e w1 ⟨rfl, hb⟩)
         | (go_at_call 11; (with_reducible refine (same_any _ _ _ _ _ _ _ _ _ _ _ (H1.out.below hHeld.1.1 (Nat.le_refl _)) (H2.out.below hHeld.1.1 (Nat.le_refl _)) (H1.out.below hHeld.1.1 (Nat.le_refl _)) (H2.out.below hHeld.1.1 (Nat.le_refl _))).mono ?_); rintro e w1 ⟨rfl, hb⟩; rw [HR.out])
       try go_wp2_with fail
       refine hK.out _ _ (by (first | (exact And.intro P3.out.1.drew P3.out.2.drew) | (exact Holds.call2 (by assumption) hb))) (fun hHeld => ?_)
       clear hK K
       try simp only [Act.put, List.setIfInBounds_toArray, List.set_cons_zero, List.set_cons_succ])
  first
    | (refine wpAnyH_take (i := 18) (v := undef) (by simp only [List.getElem?_toArray, List.getElem?_cons_succ, List.getElem?_cons_zero]; rfl) (by kernel_rfl) (by kernel_rfl) (by kernel_rfl) (fun _ _ _ h => h) (Or.inr ⟨by rfl, rfl⟩) (by assumption) ?_; try simp only [Act.put, List.setIfInBounds_toArray, List.set_cons_zero, List.set_cons_succ])
    | (refine wpAnyH_take (i := 18) (v := ?_) (by simp only [List.getElem?_toArray, List.getElem?_cons_succ, List.getElem?_cons_zero]; rfl) (by kernel_rfl) (by kernel_rfl) (by kernel_rfl) (fun _ _ _ h => h) (Or.inl ⟨by rfl, ?_⟩) (by assumption) ?_
       rotate_left
       · (intro ww hSw; (try dsimp only at hSw); go_simp; (try with_reducible rfl))
       try simp only [Act.put, List.setIfInBounds_toArray, List.set_cons_zero, List.set_cons_succ])
    | (refine wpAnyH_ready (rs := [18]) (by kernel_rfl) (by simp) (AllReadyH.cons (by simp only [List.getElem?_toArray, List.getElem?_cons_succ, List.getElem?_cons_zero]; rfl) (fun K hK => ?_) AllReadyH.nil)
       go_simp
       first
         | (go_at_call 9; (with_reducible refine (may_any _ _ _ _ _ _ (H1.out.below hHeld.1.1 (Nat.le_refl _)) (H2.out.below hHeld.1.1 (Nat.le_refl _))).mono ?_); rintro e w1 ⟨rfl, hb⟩; rw [HE.out])
         | (go_at_call 10; (with_reducible refine (refmay_any _ _ _ _ _ _ (H1.out.below hHeld.1.1 (Nat.le_refl _)) (H2.out.below hHeld.1.1 (Nat.le_refl _))).mono ?_); rintro e w1 ⟨rfl, hb⟩)
         | (go_at_call 12; (with_reducible refine (refsame_any _ _ _ _ _ _ _ _ _ _ _ (H1.out.below hHeld.1.1 (Nat.le_refl _)) (H2.out.below hHeld.1.1 (Nat.le_refl _)) (H3.out.below hHeld.1.1 (Nat.le_refl _)) (H4.out.below hHeld.1.1 (Nat.le_refl _))).mono ?_); rintro e w1 ⟨rfl, hb⟩)
         | (go_at_call 11; (with_reducible refine (same_any _ _ _ _ _ _ _ _ _ _ _ (H1.out.below hHeld.1.1 (Nat.le_refl _)) (H2.out.below hHeld.1.1 (Nat.le_refl _)) (H3.out.below hHeld.1.1 (Nat.le_refl _)) (H4.out.below hHeld.1.1 (Nat.le_refl _))).mono ?_); rintro e w1 ⟨rfl, hb⟩)
         | (go_at_call 11; (with_reducible refine (same_any _ _ _ _ _ _ _ _ _ _ _ (H1.out.below hHeld.1.1 (Nat.le_refl _)) (H2.out.below hHeld.1.1 (Nat.le_refl _)) (H1.out.below hHeld.1.1 (Nat.le_refl _)) (H2.out.below hHeld.1.1 (Nat.le_refl _))).mono ?_); rintro e w1 ⟨rfl, hb⟩; rw [HR.out])
       try go_wp2_with fail
       refine hK.out _ _ (by (first | (exact And.intro P3.out.1.drew P3.out.2.drew) | (exact Holds.call2 (by assumption) hb))) (fun hHeld => ?_)
       clear hK K
       try simp only [Act.put, List.setIfInBounds_toArray, List.set_cons_zero, List.set_cons_succ])
  first
    | (refine wpAnyH_take (i := 19) (v := undef) (by simp only [List.getElem?_toArray, List.getElem?_cons_succ, List.getElem?_cons_zero]; rfl) (by kernel_rfl) (by kernel_rfl) (by kernel_rfl) (fun _ _ _ h => h) (Or.inr ⟨by rfl, rfl⟩) (by assumption) ?_; try simp only [Act.put, List.setIfInBounds_toArray, List.set_cons_zero, List.set_cons_succ])
    | (refine wpAnyH_take (i := 19) (v := ?_) (by simp only [List.getElem?_toArray, List.getElem?_cons_succ, List.getElem?_cons_zero]; rfl) (by kernel_rfl) (by kernel_rfl) (by kernel_rfl) (fun _ _ _ h => h) (Or.inl ⟨by rfl, ?_⟩) (by assumption) ?_
       rotate_left
       · (intro ww hSw; (try dsimp only at hSw); go_simp; (try with_reducible rfl))
       try simp only [Act.put, List.setIfInBounds_toArray, List.set_cons_zero, List.set_cons_succ])
    | (refine wpAnyH_ready (rs := [19]) (by kernel_rfl) (by simp) (AllReadyH.cons (by simp only [List.getElem?_toArray, List.getElem?_cons_succ, List.getElem?_cons_zero]; rfl) (fun K hK => ?_) AllReadyH.nil)
       go_simp
       first
         | (go_at_call 9; (with_reducible refine (may_any _ _ _ _ _ _ (H1.out.below hHeld.1.1 (Nat.le_refl _)) (H2.out.below hHeld.1.1 (Nat.le_refl _))).mono ?_); rintro e w1 ⟨rfl, hb⟩; rw [HE.out])
         | (go_at_call 10; (with_reducible refine (refmay_any _ _ _ _ _ _ (H1.out.below hHeld.1.1 (Nat.le_refl _)) (H2.out.below hHeld.1.1 (Nat.le_refl _))).mono ?_); rintro e w1 ⟨rfl, hb⟩)
         | (go_at_call 12; (with_reducible refine (refsame_any _ _ _ _ _ _ _ _ _ _ _ (H1.out.below hHeld.1.1 (Nat.le_refl _)) (H2.out.below hHeld.1.1 (Nat.le_refl _)) (H3.out.below hHeld.1.1 (Nat.le_refl _)) (H4.out.below hHeld.1.1 (Nat.le_refl _))).mono ?_); rintro e w1 ⟨rfl, hb⟩)
         | (go_at_call 11; (with_reducible refine (same_any _ _ _ _ _ _ _ _ _ _ _ (H1.out.below hHeld.1.1 (Nat.le_refl _)) (H2.out.below hHeld.1.1 (Nat.le_refl _)) (H3.out.below hHeld.1.1 (Nat.le_refl _)) (H4.out.below hHeld.1.1 (Nat.le_refl _))).mono ?_); rintro e w1 ⟨rfl, hb⟩)
         | (go_at_call 11; (with_reducible refine (same_any _ _ _ _ _ _ _ _ _ _ _ (H1.out.below hHeld.1.1 (Nat.le_refl _)) (H2.out.below hHeld.1.1 (Nat.le_refl _)) (H1.out.below hHeld.1.1 (Nat.le_refl _)) (H2.out.below hHeld.1.1 (Nat.le_refl _))).mono ?_); rintro e w1 ⟨rfl, hb⟩; rw [HR.out])
       try go_wp2_with fail
       refine hK.out _ _ (by (first | (exact And.intro P3.out.1.drew P3.out.2.drew) | (exact Holds.call2 (by assumption) hb))) (fun hHeld => ?_)
       clear hK K
       try simp only [Act.put, List.setIfInBounds_toArray, List.set_cons_zero, List.set_cons_succ])
  refine wpAnyH_done (by kernel_rfl) ?_ _
  refine NoPanic.normal ?_
  have hBl := Lib.hid (show Below w.heap.size w _ from (by assumption : Holds _ _ _ _ ∧ _).1.1)
  go_wp2_with fail
  go_ret
  exact ⟨ret_bool (by simp), hBl.out⟩

set_option maxHeartbeats 1000000 in
theorem may_many (a : Cm) (ga wa : Option Addr) (gca wca : Nat) (b : Cm) (gb wb : Option Addr) (gcb wcb : Nat) (w : World) (h1 : IntsAt w ga a.gives) (h2 : IntsAt w wa a.wants) (h3 : IntsAt w gb b.gives) (h4 : IntsAt w wb b.wants) (hk : KTab w) (hw : WTab w) (f : fewB a = false ∨ fewB b = false) :
    Calls Tryd.prog 3 #[.agg #[.int .i64 a.kind, .int .i64 a.dir, .int .i64 a.item, .int .i64 a.box, .int .i64 a.who, .slice ga a.gives.length gca, .int .i64 a.pay, .slice wa a.wants.length wca, .int .i64 a.fee], .agg #[.int .i64 b.kind, .int .i64 b.dir, .int .i64 b.item, .int .i64 b.box, .int .i64 b.who, .slice gb b.gives.length gcb, .int .i64 b.pay, .slice wb b.wants.length wcb, .int .i64 b.fee]] w fun e w' => e = .returned (.bool true) ∧ Below w.heap.size w w' := by
  have H1 := Lib.hid h1
  have H2 := Lib.hid h2
  have H3 := Lib.hid h3
  have H4 := Lib.hid h4
  have HK := Lib.hid hk
  have HW := Lib.hid hw
  clear h1 h2 h3 h4 hk hw
  cases f1 : fewB a
  · have F1 := Lib.hid f1
    clear f f1
    go_enter Tryd.func3, Tryd.ntmps3
    go_wp2_with fail
    have P0 := Lib.hid (Holds.pair w #[.int .i64 a.kind, .int .i64 a.dir, .int .i64 a.item, .int .i64 a.box, .int .i64 a.who, .slice ga a.gives.length gca, .int .i64 a.pay, .slice wa a.wants.length wca, .int .i64 a.fee] #[.int .i64 b.kind, .int .i64 b.dir, .int .i64 b.item, .int .i64 b.box, .int .i64 b.who, .slice gb b.gives.length gcb, .int .i64 b.pay, .slice wb b.wants.length wcb, .int .i64 b.fee] 24 24)
    refine (awake_any _ (HK.out.below P0.out.1.1) (HW.out.below P0.out.1.1)).mono ?_
    rintro e w1 ⟨rfl, b1⟩
    have P1 := Lib.hid (Holds.call2 P0.out b1)
    have hA := P1.out.1.2.2
    clear b1
    go_wp2_with fail
    refine (few_any _ _ _ _ _ _ (H1.out.below P1.out.1.1 (Nat.le_refl _)) (H2.out.below P1.out.1.1 (Nat.le_refl _))).mono ?_
    rintro e w2 ⟨rfl, b2⟩
    rw [F1.out]
    have P2 := Lib.hid (Holds.call2 P1.out b2)
    clear b2 hA
    go_wp2_with fail
    refine (awake_any _ (HK.out.below P2.out.1.1) (HW.out.below P2.out.1.1)).mono ?_
    rintro e w3 ⟨rfl, b3⟩
    have P3 := Lib.hid (Holds.call2 P2.out b3)
    clear b3
    go_wp2_with fail
    go_ret
    exact ⟨rfl, P3.out.1.1⟩
  · have F1 := Lib.hid f1
    have F2 := Lib.hid (show fewB b = false by rcases f with f | f; rw [f1] at f; cases f; exact f)
    clear f f1
    go_enter Tryd.func3, Tryd.ntmps3
    go_wp2_with fail
    have P0 := Lib.hid (Holds.pair w #[.int .i64 a.kind, .int .i64 a.dir, .int .i64 a.item, .int .i64 a.box, .int .i64 a.who, .slice ga a.gives.length gca, .int .i64 a.pay, .slice wa a.wants.length wca, .int .i64 a.fee] #[.int .i64 b.kind, .int .i64 b.dir, .int .i64 b.item, .int .i64 b.box, .int .i64 b.who, .slice gb b.gives.length gcb, .int .i64 b.pay, .slice wb b.wants.length wcb, .int .i64 b.fee] 24 24)
    refine (awake_any _ (HK.out.below P0.out.1.1) (HW.out.below P0.out.1.1)).mono ?_
    rintro e w1 ⟨rfl, b1⟩
    have P1 := Lib.hid (Holds.call2 P0.out b1)
    have hA := P1.out.1.2.2
    clear b1
    go_wp2_with fail
    refine (few_any _ _ _ _ _ _ (H1.out.below P1.out.1.1 (Nat.le_refl _)) (H2.out.below P1.out.1.1 (Nat.le_refl _))).mono ?_
    rintro e w2 ⟨rfl, b2⟩
    rw [F1.out]
    have P2 := Lib.hid (Holds.call2 P1.out b2)
    have hB := P2.out.2.2.2
    clear b2 hA
    go_wp2_with fail
    refine (few_any _ _ _ _ _ _ (H3.out.below P2.out.1.1 (Nat.le_refl _)) (H4.out.below P2.out.1.1 (Nat.le_refl _))).mono ?_
    rintro e w3 ⟨rfl, b3⟩
    rw [F2.out]
    have P3 := Lib.hid (Holds.call2 P2.out b3)
    clear b3 hB
    go_wp2_with fail
    refine (awake_any _ (HK.out.below P3.out.1.1) (HW.out.below P3.out.1.1)).mono ?_
    rintro e w4 ⟨rfl, b4⟩
    have P4 := Lib.hid (Holds.call2 P3.out b4)
    clear b4
    go_wp2_with fail
    go_ret
    exact ⟨rfl, P4.out.1.1⟩

theorem walk_cmdMay (a : Cm) (ga wa : Option Addr) (gca wca : Nat) (b : Cm) (gb wb : Option Addr) (gcb wcb : Nat) (w : World) (h1 : IntsAt w ga a.gives) (h2 : IntsAt w wa a.wants) (_ : a.Wf) (h3 : IntsAt w gb b.gives) (h4 : IntsAt w wb b.wants) (_ : b.Wf) (hk : KTab w) (hw : WTab w) :
    Calls Tryd.prog 3 #[.agg #[.int .i64 a.kind, .int .i64 a.dir, .int .i64 a.item, .int .i64 a.box, .int .i64 a.who, .slice ga a.gives.length gca, .int .i64 a.pay, .slice wa a.wants.length wca, .int .i64 a.fee], .agg #[.int .i64 b.kind, .int .i64 b.dir, .int .i64 b.item, .int .i64 b.box, .int .i64 b.who, .slice gb b.gives.length gcb, .int .i64 b.pay, .slice wb b.wants.length wcb, .int .i64 b.fee]] w fun e w' => e = .returned (.bool true) ∧ Below w.heap.size w w' := by
  cases f1 : fewB a
  · exact may_many a ga wa gca wca b gb wb gcb wcb w h1 h2 h3 h4 hk hw (.inl f1)
  · cases f2 : fewB b
    · exact may_many a ga wa gca wca b gb wb gcb wcb w h1 h2 h3 h4 hk hw (.inr f2)
    · exact may_few a ga wa gca wca b gb wb gcb wcb w h1 h2 h3 h4 hk hw f1 f2
set_option maxRecDepth 100000 in
theorem lifted_cmdMay (os : Os) (started : os.Started) (H : Type) (enc : TypeId × Value → H) :
    ReturnsInHanded {} Tryd.checked os 3 .any (fun w args => (Rows.cmdMaySpec.pre enc Tryd.prog Tryd.f3 [] false w args ∧ laidMetH Tryd.prog Rows.cmdMayRow.laid w) ∧ sizedMet enc Tryd.prog Tryd.f3 (OpenSpec.ofChange Rows.cmdMaySpec) false w args) (Rows.cmdMaySpec.post enc Tryd.prog Tryd.f3 false true false false) := by
  refine returnsInHanded_of_change_and (C := Tryd.checked) (X := fun w _ => laidMetH Tryd.prog Rows.cmdMayRow.laid w) (fun _ _ _ hh h => h.of_heap hh) (by kernel_rfl) started (by kernel_rfl) Tryd.func3
    (ChangeSpec.witness_shaped (enc := enc) (C := Tryd.checked) (os := os) (X := fun w _ => laidMetH Tryd.prog Rows.cmdMayRow.laid w) false (World.laidAll Tryd.prog os Rows.cmdMayRow.laid) #[.agg #[.int .i64 0, .int .i64 0, .int .i64 0, .int .i64 0, .int .i64 0, .slice none 0 0, .int .i64 0, .slice none 0 0, .int .i64 0], .agg #[.int .i64 0, .int .i64 0, .int .i64 0, .int .i64 0, .int .i64 0, .slice none 0 0, .int .i64 0, .slice none 0 0, .int .i64 0]] 8 (World.laidAll_os _ _ _)
      (World.shaped_of_ZipB (by kernel_rfl) (by kernel_rfl)) (by kernel_rfl) (by kernel_rfl) (by kernel_rfl)
      (by rw [MakeChecks.laidMetH_plain _ _ _ (by kernel_rfl)]; exact laidMet_laidAll _ (by kernel_rfl) (by kernel_rfl))) ?_
  intro W base args ds gs before hval0 hW hcnd hsized hL _
  have hval : ∀ (j : Nat) t v, Tryd.f3.params[j]? = some t → args[j]? = some v → Value.okWide Tryd.prog W .any base t v := hval0
  have hW' := hW
  obtain ⟨p, q, hA0, hV, rfl, hfz, hnd⟩ := hW
  have hA : DataW.TrodAll enc Tryd.prog W 0 (fun _ => true) true Tryd.f3.params.toList args.toList ds p := hA0
  rw [Tryd.params3] at hA hval
  obtain ⟨v0, vs0, d0, ds0, p0, q0, hargs, rfl, rfl, h0, r0⟩ := trodAll_cons hA
  obtain ⟨v1, vs1, d1, ds1, p1, q1, rfl, rfl, rfl, h1, r1⟩ := trodAll_cons r0
  obtain ⟨rfl, rfl, rfl⟩ := trodAll_nil r1
  obtain rfl : args = #[v0, v1] := by cases args; simp_all
  obtain ⟨rfl, rfl⟩ := trodVars_none hV
  obtain ⟨c0, ga0, wa0, gc0, wc0, rfl, m0, u0, g0⟩ := read_cmd (hval 0 24 v0 rfl rfl) h0
  obtain ⟨c1, ga1, wa1, gc1, wc1, rfl, m1, u1, g1⟩ := read_cmd (hval 1 24 v1 rfl rfl) h1
  clear hA0 hval0
  simp only [List.append_nil] at hW'
  rw [MakeChecks.laidMetH_plain _ _ _ (by kernel_rfl)] at hL
  have fKTab := KTab_laid W (hL)
  have fWTab := WTab_laid W (hL.tail)
  refine (walk_cmdMay c0 ga0 wa0 gc0 wc0 c1 ga1 wa1 gc1 wc1 W m0 u0 g0 m1 u1 g1 fKTab fWTab).mono fun e W' ⟨he, hg⟩ => ?_
  subst he
  exact ⟨_, rfl, law_post (by kernel_rfl) rfl (by rw [Tryd.params3]; decide +kernel) rfl rfl Tryd.underlying4 hW' hg⟩

theorem row_cmdMay : Rows.CmdMaySaid :=
  OpenClaim.holds_of_wide 3 Tryd.f3 rfl rfl rfl rfl rfl rfl rfl ⟨rfl, rfl, rfl, rfl, rfl⟩ rfl rfl rfl rfl rfl (by kernel_rfl) Tryd.func3 (by kernel_rfl)
    (of_decide_eq_true (by kernel_rfl)) (by unfold Func.isWrapper; first | (rw [if_pos (by decide +kernel)]; kernel_rfl) | (rw [if_neg (by decide +kernel)]; exact ⟨rfl, rfl⟩))
    (fun os started H enc _ => lifted_cmdMay os started H enc)
/-- ████ THE STATEMENT ████ -/
theorem proved_cmdMay : Rows.CmdMayCardSaid :=
  Claim7.holds_tied_plain_at .later [] Rows.cmdMayCard.laidKinds true Rows.cmdMayCard.stood.harness false row_cmdMay (fun _ h => by cases h) (by kernel_rfl) (fun _ h => by cases h) cmdMay_row_tie rfl ⟨rfl, rfl⟩ (by kernel_rfl) rfl
    (fun f fn hf hfn => by
      obtain rfl : f = 3 := Option.some.inj ((show Tryd.prog.funcNamed "innkeep/innkeeplaw03.CmdMay" = some 3 by kernel_rfl).symm.trans hf) |>.symm
      obtain rfl : fn = Tryd.f3 := (Option.some.inj (Tryd.func3.symm.trans hfn)).symm
      exact ⟨by kernel_rfl, fun j t ht => by
        rw [Tryd.params3] at ht
        have hm : t ∈ [24, 24] := by simpa using Array.mem_of_getElem? ht
        have hall : ([24, 24].all fun u => !Tryd.prog.wantsStandIn u) = true := by kernel_rfl
        exact (show Tryd.prog.wantsStandIn t = false by simpa using List.all_eq_true.1 hall t hm)⟩)
    (by kernel_rfl)
#print axioms proved_cmdMay
end Go.Proofs.YtdioigidilmbkaaDoor
