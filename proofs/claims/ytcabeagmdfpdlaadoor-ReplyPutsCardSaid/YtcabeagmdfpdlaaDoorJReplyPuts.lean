/- ReplyPuts: of whatever two answers: whether one may be, its text, and whether they are the same, are as the document's own definitions have it: the statement answers true. No condition but that the program's and the library's tables lie as their text lays them (tied). -/
import Derived.Test.YtcabeagmdfpdlaaDoorRows
import Derived.Test.YtcabeagmdfpdlaaDoorKit
import Derived.Test.YtcabeagmdfpdlaaDoorStrs
import Derived.Test.YtcabeagmdfpdlaaDoorJTab
import Derived.Test.YtcabeagmdfpdlaaDoorJBlk
import Derived.Test.YtcabeagmdfpdlaaDoorJMath
import Derived.Test.YtcabeagmdfpdlaaDoorJNum
import Derived.Test.YtcabeagmdfpdlaaDoorJTokWord
import Derived.Test.YtcabeagmdfpdlaaDoorJTokJoin
import Derived.Test.YtcabeagmdfpdlaaDoorJCmdNames1
import Derived.Test.YtcabeagmdfpdlaaDoorJRepMath
import Derived.Test.YtcabeagmdfpdlaaDoorJRepItems
import Derived.Test.YtcabeagmdfpdlaaDoorJRepSame
import Derived.Test.YtcabeagmdfpdlaaDoorJRepMay
import Derived.Test.YtcabeagmdfpdlaaDoorJRepRefMay
import Derived.Test.YtcabeagmdfpdlaaDoorJRepWords
import Derived.Test.YtcabeagmdfpdlaaDoorJRepPut
import Derived.Test.YtcabeagmdfpdlaaDoorJRepPut3
import Derived.Test.YtcabeagmdfpdlaaDoorJPut
import Derived.Test.YtcabeagmdfpdlaaDoorJRepRead1
import Derived.Test.YtcabeagmdfpdlaaDoorJRepGet
import Derived.Test.YtcabeagmdfpdlaaDoorJRepAwake
import Derived.Test.YtcabeagmdfpdlaaDoorJRepArg
import Derived.Test.YtcabeagmdfpdlaaDoorJRepLaw
import Derived.Test.YtcabeagmdfpdlaaDoorTie
import Derived.Test.YtcabeagmdfpdlaaDoorCards
import Derived.Lay
import Derived.SevenTiedAt
import Derived.MakeChecks
import Derived.Deep.RegionHeld3
import Derived.WalkKit
import Derived.ProofKit
import Derived.OpenShut
import Derived.IntWalk
namespace Go.Proofs.YtcabeagmdfpdlaaDoor
open Go.ChangeShapes Go.WideShapes Go.ChangeAt Go.RowKit
set_option linter.unusedVariables false
open Go.RowKit Go
def TwoS (w : World) (A B : Array Value) (w' : World) : Prop := Below w.heap.size w w' ∧ w.heap.size + 1 < w'.heap.size ∧ (∀ i, w'.cell? ⟨w.heap.size, i, none⟩ = A[i]?) ∧ (∀ i, w'.cell? ⟨w.heap.size + 1, i, none⟩ = B[i]?)
theorem TwoS.call {w w' w1 : World} {A B : Array Value} (h : TwoS w A B w') (hb : Below w'.heap.size w' w1) : TwoS w A B w1 :=
  ⟨bl h.1 hb, Nat.lt_of_lt_of_le h.2.1 hb.size, fun i => (hb.cell (p := ⟨w.heap.size, i, none⟩) (Nat.lt_of_succ_lt h.2.1)).trans (h.2.2.1 i), fun i => (hb.cell (p := ⟨w.heap.size + 1, i, none⟩) h.2.1).trans (h.2.2.2 i)⟩
theorem TwoR.held {w W : World} {c d : Rp} {ga wa gb wb : Option Addr} {gc wc gcb wcb : Nat} (h : TwoR w c d ga wa gb wb gc wc gcb wcb W) : TwoS w #[.int .i64 c.err, .int .i64 c.kind, .int .i64 c.room, .slice ga c.players.length gc, .slice wa c.items.length wc, .int .i64 c.coins] #[.int .i64 d.err, .int .i64 d.kind, .int .i64 d.room, .slice gb d.players.length gcb, .slice wb d.items.length wcb, .int .i64 d.coins] W.drew :=
  ⟨⟨h.1.os, h.1.tape, h.1.output, h.1.size, h.1.block⟩, h.2.2.1.lt, h.2.1.1.cell, h.2.2.1.cell⟩
set_option maxRecDepth 100000 in
set_option maxHeartbeats 4000000 in
theorem rputs_go (c d : Rp) (ga wa gb wb : Option Addr) (gc wc gcb wcb : Nat) (w : World) (h1 : IntsAt w ga c.players) (h2 : SnsAt w wa c.items) (h3 : IntsAt w gb d.players) (h4 : SnsAt w wb d.items)
    (ht : RTabs w) (f1 : rfewB c = true) (f2 : rfewB d = true) :
    Calls Tryd.prog 3 #[.agg #[.int .i64 c.err, .int .i64 c.kind, .int .i64 c.room, .slice ga c.players.length gc, .slice wa c.items.length wc, .int .i64 c.coins], .agg #[.int .i64 d.err, .int .i64 d.kind, .int .i64 d.room, .slice gb d.players.length gcb, .slice wb d.items.length wcb, .int .i64 d.coins]] w fun e w' => e = .returned (.bool true) ∧ Below w.heap.size w w' := by
  have F1 := Lib.hid f1
  have F2 := Lib.hid f2
  have H1 := Lib.hid h1
  have H2 := Lib.hid h2
  have H3 := Lib.hid h3
  have H4 := Lib.hid h4
  have HT := Lib.hid ht
  have P0 := Lib.hid (TwoR.start (gc := gc) (wc := wc) (gcb := gcb) (wcb := wcb) h1 h2 h3 h4)
  clear f1 f2 ht h1 h2 h3 h4
  obtain ⟨X, n, hX⟩ : ∃ X n, rputOut c = .tuple #[.string X, .int .i64 n] := ⟨_, _, rfl⟩
  have HX := Lib.hid hX
  clear hX
  go_enter Tryd.func3, Tryd.ntmps3
  go_wp2_with fail
  refine (rawake_any _ (HT.out.call P0.out.1)).mono ?_
  rintro e w1 ⟨rfl, b1⟩
  have P1 := Lib.hid (P0.out.call b1)
  have hA := P1.out.2.1.1.cell
  have hB := P1.out.2.2.1.cell
  clear b1 P0
  go_wp2_with fail
  refine (rfew_any _ _ _ _ _ _ P1.out.2.1.2.1 P1.out.2.1.2.2).mono ?_
  rintro e w2 ⟨rfl, b2⟩
  rw [F1.out]
  have P2 := Lib.hid (P1.out.call b2)
  clear b2 P1 hA hB
  have hA := P2.out.2.1.1.cell
  have hB := P2.out.2.2.1.cell
  go_wp2_with fail
  refine (rfew_any _ _ _ _ _ _ P2.out.2.2.2.1 P2.out.2.2.2.2).mono ?_
  rintro e w3 ⟨rfl, b3⟩
  rw [F2.out]
  have P3 := Lib.hid (P2.out.call b3)
  clear b3 P2 hA hB
  have hA := P3.out.2.1.1.cell
  go_wp2_with fail
  refine (rput_any _ _ _ _ _ _ P3.out.2.1.2.1 P3.out.2.1.2.2 (HT.out.call P3.out.1)).mono ?_
  rintro e w4 ⟨rfl, b4⟩
  rw [HX.out]
  have P4 := Lib.hid (P3.out.call b4)
  clear b4 P3 hA
  have hA := P4.out.2.1.1.cell
  go_wp2_with fail
  refine (rrefput_any _ _ _ _ _ _ P4.out.2.1.2.1 P4.out.2.1.2.2).mono ?_
  rintro e w5 ⟨rfl, b5⟩
  rw [HX.out]
  have P5 := Lib.hid (P4.out.call b5)
  clear b5 P4 hA
  have S5 := Lib.hid P5.out.held
  obtain ⟨v, hv⟩ : ∃ v, rmayB c = v := ⟨_, rfl⟩
  obtain ⟨u, hu⟩ : ∃ u, rsameB c d = u := ⟨_, rfl⟩
  have HV := Lib.hid hv
  have HU := Lib.hid hu
  clear hv hu
  go_wp2_with fail
  refine wp_region_noPanic ?_
  refine wp_region_held_drew (S := (fun w' => Below w.heap.size w w' ∧ w.heap.size + 1 < w'.heap.size ∧ (∀ i, w'.cell? ⟨w.heap.size, i, none⟩ = (#[.int .i64 c.err, .int .i64 c.kind, .int .i64 c.room, .slice ga c.players.length gc, .slice wa c.items.length wc, .int .i64 c.coins][i]? : Option Value)) ∧ (∀ i, w'.cell? ⟨w.heap.size + 1, i, none⟩ = (#[.int .i64 d.err, .int .i64 d.kind, .int .i64 d.room, .slice gb d.players.length gcb, .slice wb d.items.length wcb, .int .i64 d.coins][i]? : Option Value)))) (by kernel_rfl) (by (first | (exact S5.out) | (exact TwoS.call hHeld HCB.out))) (fun hHeld => ?_)
  first
    | (refine wpAnyH_take (i := 0) (v := undef) (by simp only [List.getElem?_toArray, List.getElem?_cons_zero]; rfl) (by kernel_rfl) (by kernel_rfl) (by kernel_rfl) (fun _ _ _ h => h) (Or.inr ⟨by rfl, rfl⟩) (by assumption) ?_; try simp only [Act.put, List.setIfInBounds_toArray, List.set_cons_zero, List.set_cons_succ])
    | (refine wpAnyH_take (i := 0) (v := ?_) (by simp only [List.getElem?_toArray, List.getElem?_cons_zero]; rfl) (by kernel_rfl) (by kernel_rfl) (by kernel_rfl) (fun _ _ _ h => h) (Or.inl ⟨by rfl, ?_⟩) (by assumption) ?_
       rotate_left
       · (intro ww hSw; (try dsimp only at hSw); go_simp; (try with_reducible rfl))
       try simp only [Act.put, List.setIfInBounds_toArray, List.set_cons_zero, List.set_cons_succ])
    | (refine wpAnyH_ready (rs := [0]) (by kernel_rfl) (by simp) (AllReadyH.cons (by simp only [List.getElem?_toArray, List.getElem?_cons_succ, List.getElem?_cons_zero]; rfl) (fun K hK => ?_) AllReadyH.nil)
       go_simp
       first
         | (go_at_call 12; (with_reducible refine (rmay_any _ _ _ _ _ _ (H1.out.below hHeld.1 (Nat.le_refl _)) (H2.out.below hHeld.1 (Nat.le_refl _))).mono ?_); rintro e w1 ⟨rfl, hb⟩; have HCB := Lib.hid hb; clear hb; rw [HV.out])
         | (go_at_call 13; (with_reducible refine (rrefmay_any _ _ _ _ _ _ (H1.out.below hHeld.1 (Nat.le_refl _)) (H2.out.below hHeld.1 (Nat.le_refl _))).mono ?_); rintro e w1 ⟨rfl, hb⟩; have HCB := Lib.hid hb; clear hb; rw [HV.out])
         | (go_at_call 14; (with_reducible refine (rsame_any _ _ _ _ _ _ _ _ _ _ _ (H1.out.below hHeld.1 (Nat.le_refl _)) (H2.out.below hHeld.1 (Nat.le_refl _)) (H3.out.below hHeld.1 (Nat.le_refl _)) (H4.out.below hHeld.1 (Nat.le_refl _))).mono ?_); rintro e w1 ⟨rfl, hb⟩; have HCB := Lib.hid hb; clear hb; rw [HU.out])
         | (go_at_call 15; (with_reducible refine (rrefsame_any _ _ _ _ _ _ _ _ _ _ _ (H1.out.below hHeld.1 (Nat.le_refl _)) (H2.out.below hHeld.1 (Nat.le_refl _)) (H3.out.below hHeld.1 (Nat.le_refl _)) (H4.out.below hHeld.1 (Nat.le_refl _))).mono ?_); rintro e w1 ⟨rfl, hb⟩; have HCB := Lib.hid hb; clear hb; rw [HU.out])
       try go_wp2_with fail
       refine hK.out _ _ (by (first | (exact S5.out) | (exact TwoS.call hHeld HCB.out))) (fun hHeld => ?_)
       clear hK K
       try simp only [Act.put, List.setIfInBounds_toArray, List.set_cons_zero, List.set_cons_succ])
  first
    | (refine wpAnyH_take (i := 2) (v := undef) (by simp only [List.getElem?_toArray, List.getElem?_cons_succ, List.getElem?_cons_zero]; rfl) (by kernel_rfl) (by kernel_rfl) (by kernel_rfl) (fun _ _ _ h => h) (Or.inr ⟨by rfl, rfl⟩) (by assumption) ?_; try simp only [Act.put, List.setIfInBounds_toArray, List.set_cons_zero, List.set_cons_succ])
    | (refine wpAnyH_take (i := 2) (v := ?_) (by simp only [List.getElem?_toArray, List.getElem?_cons_succ, List.getElem?_cons_zero]; rfl) (by kernel_rfl) (by kernel_rfl) (by kernel_rfl) (fun _ _ _ h => h) (Or.inl ⟨by rfl, ?_⟩) (by assumption) ?_
       rotate_left
       · (intro ww hSw; (try dsimp only at hSw); go_simp; (try with_reducible rfl))
       try simp only [Act.put, List.setIfInBounds_toArray, List.set_cons_zero, List.set_cons_succ])
    | (refine wpAnyH_ready (rs := [2]) (by kernel_rfl) (by simp) (AllReadyH.cons (by simp only [List.getElem?_toArray, List.getElem?_cons_succ, List.getElem?_cons_zero]; rfl) (fun K hK => ?_) AllReadyH.nil)
       go_simp
       first
         | (go_at_call 12; (with_reducible refine (rmay_any _ _ _ _ _ _ (H1.out.below hHeld.1 (Nat.le_refl _)) (H2.out.below hHeld.1 (Nat.le_refl _))).mono ?_); rintro e w1 ⟨rfl, hb⟩; have HCB := Lib.hid hb; clear hb; rw [HV.out])
         | (go_at_call 13; (with_reducible refine (rrefmay_any _ _ _ _ _ _ (H1.out.below hHeld.1 (Nat.le_refl _)) (H2.out.below hHeld.1 (Nat.le_refl _))).mono ?_); rintro e w1 ⟨rfl, hb⟩; have HCB := Lib.hid hb; clear hb; rw [HV.out])
         | (go_at_call 14; (with_reducible refine (rsame_any _ _ _ _ _ _ _ _ _ _ _ (H1.out.below hHeld.1 (Nat.le_refl _)) (H2.out.below hHeld.1 (Nat.le_refl _)) (H3.out.below hHeld.1 (Nat.le_refl _)) (H4.out.below hHeld.1 (Nat.le_refl _))).mono ?_); rintro e w1 ⟨rfl, hb⟩; have HCB := Lib.hid hb; clear hb; rw [HU.out])
         | (go_at_call 15; (with_reducible refine (rrefsame_any _ _ _ _ _ _ _ _ _ _ _ (H1.out.below hHeld.1 (Nat.le_refl _)) (H2.out.below hHeld.1 (Nat.le_refl _)) (H3.out.below hHeld.1 (Nat.le_refl _)) (H4.out.below hHeld.1 (Nat.le_refl _))).mono ?_); rintro e w1 ⟨rfl, hb⟩; have HCB := Lib.hid hb; clear hb; rw [HU.out])
       try go_wp2_with fail
       refine hK.out _ _ (by (first | (exact S5.out) | (exact TwoS.call hHeld HCB.out))) (fun hHeld => ?_)
       clear hK K
       try simp only [Act.put, List.setIfInBounds_toArray, List.set_cons_zero, List.set_cons_succ])
  first
    | (refine wpAnyH_take (i := 1) (v := undef) (by simp only [List.getElem?_toArray, List.getElem?_cons_succ, List.getElem?_cons_zero]; rfl) (by kernel_rfl) (by kernel_rfl) (by kernel_rfl) (fun _ _ _ h => h) (Or.inr ⟨by rfl, rfl⟩) (by assumption) ?_; try simp only [Act.put, List.setIfInBounds_toArray, List.set_cons_zero, List.set_cons_succ])
    | (refine wpAnyH_take (i := 1) (v := ?_) (by simp only [List.getElem?_toArray, List.getElem?_cons_succ, List.getElem?_cons_zero]; rfl) (by kernel_rfl) (by kernel_rfl) (by kernel_rfl) (fun _ _ _ h => h) (Or.inl ⟨by rfl, ?_⟩) (by assumption) ?_
       rotate_left
       · (intro ww hSw; (try dsimp only at hSw); go_simp; (try with_reducible rfl))
       try simp only [Act.put, List.setIfInBounds_toArray, List.set_cons_zero, List.set_cons_succ])
    | (refine wpAnyH_ready (rs := [1]) (by kernel_rfl) (by simp) (AllReadyH.cons (by simp only [List.getElem?_toArray, List.getElem?_cons_succ, List.getElem?_cons_zero]; rfl) (fun K hK => ?_) AllReadyH.nil)
       go_simp
       first
         | (go_at_call 12; (with_reducible refine (rmay_any _ _ _ _ _ _ (H1.out.below hHeld.1 (Nat.le_refl _)) (H2.out.below hHeld.1 (Nat.le_refl _))).mono ?_); rintro e w1 ⟨rfl, hb⟩; have HCB := Lib.hid hb; clear hb; rw [HV.out])
         | (go_at_call 13; (with_reducible refine (rrefmay_any _ _ _ _ _ _ (H1.out.below hHeld.1 (Nat.le_refl _)) (H2.out.below hHeld.1 (Nat.le_refl _))).mono ?_); rintro e w1 ⟨rfl, hb⟩; have HCB := Lib.hid hb; clear hb; rw [HV.out])
         | (go_at_call 14; (with_reducible refine (rsame_any _ _ _ _ _ _ _ _ _ _ _ (H1.out.below hHeld.1 (Nat.le_refl _)) (H2.out.below hHeld.1 (Nat.le_refl _)) (H3.out.below hHeld.1 (Nat.le_refl _)) (H4.out.below hHeld.1 (Nat.le_refl _))).mono ?_); rintro e w1 ⟨rfl, hb⟩; have HCB := Lib.hid hb; clear hb; rw [HU.out])
         | (go_at_call 15; (with_reducible refine (rrefsame_any _ _ _ _ _ _ _ _ _ _ _ (H1.out.below hHeld.1 (Nat.le_refl _)) (H2.out.below hHeld.1 (Nat.le_refl _)) (H3.out.below hHeld.1 (Nat.le_refl _)) (H4.out.below hHeld.1 (Nat.le_refl _))).mono ?_); rintro e w1 ⟨rfl, hb⟩; have HCB := Lib.hid hb; clear hb; rw [HU.out])
       try go_wp2_with fail
       refine hK.out _ _ (by (first | (exact S5.out) | (exact TwoS.call hHeld HCB.out))) (fun hHeld => ?_)
       clear hK K
       try simp only [Act.put, List.setIfInBounds_toArray, List.set_cons_zero, List.set_cons_succ])
  first
    | (refine wpAnyH_take (i := 3) (v := undef) (by simp only [List.getElem?_toArray, List.getElem?_cons_succ, List.getElem?_cons_zero]; rfl) (by kernel_rfl) (by kernel_rfl) (by kernel_rfl) (fun _ _ _ h => h) (Or.inr ⟨by rfl, rfl⟩) (by assumption) ?_; try simp only [Act.put, List.setIfInBounds_toArray, List.set_cons_zero, List.set_cons_succ])
    | (refine wpAnyH_take (i := 3) (v := ?_) (by simp only [List.getElem?_toArray, List.getElem?_cons_succ, List.getElem?_cons_zero]; rfl) (by kernel_rfl) (by kernel_rfl) (by kernel_rfl) (fun _ _ _ h => h) (Or.inl ⟨by rfl, ?_⟩) (by assumption) ?_
       rotate_left
       · (intro ww hSw; (try dsimp only at hSw); go_simp; (try with_reducible rfl))
       try simp only [Act.put, List.setIfInBounds_toArray, List.set_cons_zero, List.set_cons_succ])
    | (refine wpAnyH_ready (rs := [3]) (by kernel_rfl) (by simp) (AllReadyH.cons (by simp only [List.getElem?_toArray, List.getElem?_cons_succ, List.getElem?_cons_zero]; rfl) (fun K hK => ?_) AllReadyH.nil)
       go_simp
       first
         | (go_at_call 12; (with_reducible refine (rmay_any _ _ _ _ _ _ (H1.out.below hHeld.1 (Nat.le_refl _)) (H2.out.below hHeld.1 (Nat.le_refl _))).mono ?_); rintro e w1 ⟨rfl, hb⟩; have HCB := Lib.hid hb; clear hb; rw [HV.out])
         | (go_at_call 13; (with_reducible refine (rrefmay_any _ _ _ _ _ _ (H1.out.below hHeld.1 (Nat.le_refl _)) (H2.out.below hHeld.1 (Nat.le_refl _))).mono ?_); rintro e w1 ⟨rfl, hb⟩; have HCB := Lib.hid hb; clear hb; rw [HV.out])
         | (go_at_call 14; (with_reducible refine (rsame_any _ _ _ _ _ _ _ _ _ _ _ (H1.out.below hHeld.1 (Nat.le_refl _)) (H2.out.below hHeld.1 (Nat.le_refl _)) (H3.out.below hHeld.1 (Nat.le_refl _)) (H4.out.below hHeld.1 (Nat.le_refl _))).mono ?_); rintro e w1 ⟨rfl, hb⟩; have HCB := Lib.hid hb; clear hb; rw [HU.out])
         | (go_at_call 15; (with_reducible refine (rrefsame_any _ _ _ _ _ _ _ _ _ _ _ (H1.out.below hHeld.1 (Nat.le_refl _)) (H2.out.below hHeld.1 (Nat.le_refl _)) (H3.out.below hHeld.1 (Nat.le_refl _)) (H4.out.below hHeld.1 (Nat.le_refl _))).mono ?_); rintro e w1 ⟨rfl, hb⟩; have HCB := Lib.hid hb; clear hb; rw [HU.out])
       try go_wp2_with fail
       refine hK.out _ _ (by (first | (exact S5.out) | (exact TwoS.call hHeld HCB.out))) (fun hHeld => ?_)
       clear hK K
       try simp only [Act.put, List.setIfInBounds_toArray, List.set_cons_zero, List.set_cons_succ])
  first
    | (refine wpAnyH_take (i := 4) (v := undef) (by simp only [List.getElem?_toArray, List.getElem?_cons_succ, List.getElem?_cons_zero]; rfl) (by kernel_rfl) (by kernel_rfl) (by kernel_rfl) (fun _ _ _ h => h) (Or.inr ⟨by rfl, rfl⟩) (by assumption) ?_; try simp only [Act.put, List.setIfInBounds_toArray, List.set_cons_zero, List.set_cons_succ])
    | (refine wpAnyH_take (i := 4) (v := ?_) (by simp only [List.getElem?_toArray, List.getElem?_cons_succ, List.getElem?_cons_zero]; rfl) (by kernel_rfl) (by kernel_rfl) (by kernel_rfl) (fun _ _ _ h => h) (Or.inl ⟨by rfl, ?_⟩) (by assumption) ?_
       rotate_left
       · (intro ww hSw; (try dsimp only at hSw); go_simp; (try with_reducible rfl))
       try simp only [Act.put, List.setIfInBounds_toArray, List.set_cons_zero, List.set_cons_succ])
    | (refine wpAnyH_ready (rs := [4]) (by kernel_rfl) (by simp) (AllReadyH.cons (by simp only [List.getElem?_toArray, List.getElem?_cons_succ, List.getElem?_cons_zero]; rfl) (fun K hK => ?_) AllReadyH.nil)
       go_simp
       first
         | (go_at_call 12; (with_reducible refine (rmay_any _ _ _ _ _ _ (H1.out.below hHeld.1 (Nat.le_refl _)) (H2.out.below hHeld.1 (Nat.le_refl _))).mono ?_); rintro e w1 ⟨rfl, hb⟩; have HCB := Lib.hid hb; clear hb; rw [HV.out])
         | (go_at_call 13; (with_reducible refine (rrefmay_any _ _ _ _ _ _ (H1.out.below hHeld.1 (Nat.le_refl _)) (H2.out.below hHeld.1 (Nat.le_refl _))).mono ?_); rintro e w1 ⟨rfl, hb⟩; have HCB := Lib.hid hb; clear hb; rw [HV.out])
         | (go_at_call 14; (with_reducible refine (rsame_any _ _ _ _ _ _ _ _ _ _ _ (H1.out.below hHeld.1 (Nat.le_refl _)) (H2.out.below hHeld.1 (Nat.le_refl _)) (H3.out.below hHeld.1 (Nat.le_refl _)) (H4.out.below hHeld.1 (Nat.le_refl _))).mono ?_); rintro e w1 ⟨rfl, hb⟩; have HCB := Lib.hid hb; clear hb; rw [HU.out])
         | (go_at_call 15; (with_reducible refine (rrefsame_any _ _ _ _ _ _ _ _ _ _ _ (H1.out.below hHeld.1 (Nat.le_refl _)) (H2.out.below hHeld.1 (Nat.le_refl _)) (H3.out.below hHeld.1 (Nat.le_refl _)) (H4.out.below hHeld.1 (Nat.le_refl _))).mono ?_); rintro e w1 ⟨rfl, hb⟩; have HCB := Lib.hid hb; clear hb; rw [HU.out])
       try go_wp2_with fail
       refine hK.out _ _ (by (first | (exact S5.out) | (exact TwoS.call hHeld HCB.out))) (fun hHeld => ?_)
       clear hK K
       try simp only [Act.put, List.setIfInBounds_toArray, List.set_cons_zero, List.set_cons_succ])
  first
    | (refine wpAnyH_take (i := 5) (v := undef) (by simp only [List.getElem?_toArray, List.getElem?_cons_succ, List.getElem?_cons_zero]; rfl) (by kernel_rfl) (by kernel_rfl) (by kernel_rfl) (fun _ _ _ h => h) (Or.inr ⟨by rfl, rfl⟩) (by assumption) ?_; try simp only [Act.put, List.setIfInBounds_toArray, List.set_cons_zero, List.set_cons_succ])
    | (refine wpAnyH_take (i := 5) (v := ?_) (by simp only [List.getElem?_toArray, List.getElem?_cons_succ, List.getElem?_cons_zero]; rfl) (by kernel_rfl) (by kernel_rfl) (by kernel_rfl) (fun _ _ _ h => h) (Or.inl ⟨by rfl, ?_⟩) (by assumption) ?_
       rotate_left
       · (intro ww hSw; (try dsimp only at hSw); go_simp; (try with_reducible rfl))
       try simp only [Act.put, List.setIfInBounds_toArray, List.set_cons_zero, List.set_cons_succ])
    | (refine wpAnyH_ready (rs := [5]) (by kernel_rfl) (by simp) (AllReadyH.cons (by simp only [List.getElem?_toArray, List.getElem?_cons_succ, List.getElem?_cons_zero]; rfl) (fun K hK => ?_) AllReadyH.nil)
       go_simp
       first
         | (go_at_call 12; (with_reducible refine (rmay_any _ _ _ _ _ _ (H1.out.below hHeld.1 (Nat.le_refl _)) (H2.out.below hHeld.1 (Nat.le_refl _))).mono ?_); rintro e w1 ⟨rfl, hb⟩; have HCB := Lib.hid hb; clear hb; rw [HV.out])
         | (go_at_call 13; (with_reducible refine (rrefmay_any _ _ _ _ _ _ (H1.out.below hHeld.1 (Nat.le_refl _)) (H2.out.below hHeld.1 (Nat.le_refl _))).mono ?_); rintro e w1 ⟨rfl, hb⟩; have HCB := Lib.hid hb; clear hb; rw [HV.out])
         | (go_at_call 14; (with_reducible refine (rsame_any _ _ _ _ _ _ _ _ _ _ _ (H1.out.below hHeld.1 (Nat.le_refl _)) (H2.out.below hHeld.1 (Nat.le_refl _)) (H3.out.below hHeld.1 (Nat.le_refl _)) (H4.out.below hHeld.1 (Nat.le_refl _))).mono ?_); rintro e w1 ⟨rfl, hb⟩; have HCB := Lib.hid hb; clear hb; rw [HU.out])
         | (go_at_call 15; (with_reducible refine (rrefsame_any _ _ _ _ _ _ _ _ _ _ _ (H1.out.below hHeld.1 (Nat.le_refl _)) (H2.out.below hHeld.1 (Nat.le_refl _)) (H3.out.below hHeld.1 (Nat.le_refl _)) (H4.out.below hHeld.1 (Nat.le_refl _))).mono ?_); rintro e w1 ⟨rfl, hb⟩; have HCB := Lib.hid hb; clear hb; rw [HU.out])
       try go_wp2_with fail
       refine hK.out _ _ (by (first | (exact S5.out) | (exact TwoS.call hHeld HCB.out))) (fun hHeld => ?_)
       clear hK K
       try simp only [Act.put, List.setIfInBounds_toArray, List.set_cons_zero, List.set_cons_succ])
  first
    | (refine wpAnyH_take (i := 6) (v := undef) (by simp only [List.getElem?_toArray, List.getElem?_cons_succ, List.getElem?_cons_zero]; rfl) (by kernel_rfl) (by kernel_rfl) (by kernel_rfl) (fun _ _ _ h => h) (Or.inr ⟨by rfl, rfl⟩) (by assumption) ?_; try simp only [Act.put, List.setIfInBounds_toArray, List.set_cons_zero, List.set_cons_succ])
    | (refine wpAnyH_take (i := 6) (v := ?_) (by simp only [List.getElem?_toArray, List.getElem?_cons_succ, List.getElem?_cons_zero]; rfl) (by kernel_rfl) (by kernel_rfl) (by kernel_rfl) (fun _ _ _ h => h) (Or.inl ⟨by rfl, ?_⟩) (by assumption) ?_
       rotate_left
       · (intro ww hSw; (try dsimp only at hSw); go_simp; (try with_reducible rfl))
       try simp only [Act.put, List.setIfInBounds_toArray, List.set_cons_zero, List.set_cons_succ])
    | (refine wpAnyH_ready (rs := [6]) (by kernel_rfl) (by simp) (AllReadyH.cons (by simp only [List.getElem?_toArray, List.getElem?_cons_succ, List.getElem?_cons_zero]; rfl) (fun K hK => ?_) AllReadyH.nil)
       go_simp
       first
         | (go_at_call 12; (with_reducible refine (rmay_any _ _ _ _ _ _ (H1.out.below hHeld.1 (Nat.le_refl _)) (H2.out.below hHeld.1 (Nat.le_refl _))).mono ?_); rintro e w1 ⟨rfl, hb⟩; have HCB := Lib.hid hb; clear hb; rw [HV.out])
         | (go_at_call 13; (with_reducible refine (rrefmay_any _ _ _ _ _ _ (H1.out.below hHeld.1 (Nat.le_refl _)) (H2.out.below hHeld.1 (Nat.le_refl _))).mono ?_); rintro e w1 ⟨rfl, hb⟩; have HCB := Lib.hid hb; clear hb; rw [HV.out])
         | (go_at_call 14; (with_reducible refine (rsame_any _ _ _ _ _ _ _ _ _ _ _ (H1.out.below hHeld.1 (Nat.le_refl _)) (H2.out.below hHeld.1 (Nat.le_refl _)) (H3.out.below hHeld.1 (Nat.le_refl _)) (H4.out.below hHeld.1 (Nat.le_refl _))).mono ?_); rintro e w1 ⟨rfl, hb⟩; have HCB := Lib.hid hb; clear hb; rw [HU.out])
         | (go_at_call 15; (with_reducible refine (rrefsame_any _ _ _ _ _ _ _ _ _ _ _ (H1.out.below hHeld.1 (Nat.le_refl _)) (H2.out.below hHeld.1 (Nat.le_refl _)) (H3.out.below hHeld.1 (Nat.le_refl _)) (H4.out.below hHeld.1 (Nat.le_refl _))).mono ?_); rintro e w1 ⟨rfl, hb⟩; have HCB := Lib.hid hb; clear hb; rw [HU.out])
       try go_wp2_with fail
       refine hK.out _ _ (by (first | (exact S5.out) | (exact TwoS.call hHeld HCB.out))) (fun hHeld => ?_)
       clear hK K
       try simp only [Act.put, List.setIfInBounds_toArray, List.set_cons_zero, List.set_cons_succ])
  first
    | (refine wpAnyH_take (i := 7) (v := undef) (by simp only [List.getElem?_toArray, List.getElem?_cons_succ, List.getElem?_cons_zero]; rfl) (by kernel_rfl) (by kernel_rfl) (by kernel_rfl) (fun _ _ _ h => h) (Or.inr ⟨by rfl, rfl⟩) (by assumption) ?_; try simp only [Act.put, List.setIfInBounds_toArray, List.set_cons_zero, List.set_cons_succ])
    | (refine wpAnyH_take (i := 7) (v := ?_) (by simp only [List.getElem?_toArray, List.getElem?_cons_succ, List.getElem?_cons_zero]; rfl) (by kernel_rfl) (by kernel_rfl) (by kernel_rfl) (fun _ _ _ h => h) (Or.inl ⟨by rfl, ?_⟩) (by assumption) ?_
       rotate_left
       · (intro ww hSw; (try dsimp only at hSw); go_simp; (try with_reducible rfl))
       try simp only [Act.put, List.setIfInBounds_toArray, List.set_cons_zero, List.set_cons_succ])
    | (refine wpAnyH_ready (rs := [7]) (by kernel_rfl) (by simp) (AllReadyH.cons (by simp only [List.getElem?_toArray, List.getElem?_cons_succ, List.getElem?_cons_zero]; rfl) (fun K hK => ?_) AllReadyH.nil)
       go_simp
       first
         | (go_at_call 12; (with_reducible refine (rmay_any _ _ _ _ _ _ (H1.out.below hHeld.1 (Nat.le_refl _)) (H2.out.below hHeld.1 (Nat.le_refl _))).mono ?_); rintro e w1 ⟨rfl, hb⟩; have HCB := Lib.hid hb; clear hb; rw [HV.out])
         | (go_at_call 13; (with_reducible refine (rrefmay_any _ _ _ _ _ _ (H1.out.below hHeld.1 (Nat.le_refl _)) (H2.out.below hHeld.1 (Nat.le_refl _))).mono ?_); rintro e w1 ⟨rfl, hb⟩; have HCB := Lib.hid hb; clear hb; rw [HV.out])
         | (go_at_call 14; (with_reducible refine (rsame_any _ _ _ _ _ _ _ _ _ _ _ (H1.out.below hHeld.1 (Nat.le_refl _)) (H2.out.below hHeld.1 (Nat.le_refl _)) (H3.out.below hHeld.1 (Nat.le_refl _)) (H4.out.below hHeld.1 (Nat.le_refl _))).mono ?_); rintro e w1 ⟨rfl, hb⟩; have HCB := Lib.hid hb; clear hb; rw [HU.out])
         | (go_at_call 15; (with_reducible refine (rrefsame_any _ _ _ _ _ _ _ _ _ _ _ (H1.out.below hHeld.1 (Nat.le_refl _)) (H2.out.below hHeld.1 (Nat.le_refl _)) (H3.out.below hHeld.1 (Nat.le_refl _)) (H4.out.below hHeld.1 (Nat.le_refl _))).mono ?_); rintro e w1 ⟨rfl, hb⟩; have HCB := Lib.hid hb; clear hb; rw [HU.out])
       try go_wp2_with fail
       refine hK.out _ _ (by (first | (exact S5.out) | (exact TwoS.call hHeld HCB.out))) (fun hHeld => ?_)
       clear hK K
       try simp only [Act.put, List.setIfInBounds_toArray, List.set_cons_zero, List.set_cons_succ])
  first
    | (refine wpAnyH_take (i := 9) (v := undef) (by simp only [List.getElem?_toArray, List.getElem?_cons_succ, List.getElem?_cons_zero]; rfl) (by kernel_rfl) (by kernel_rfl) (by kernel_rfl) (fun _ _ _ h => h) (Or.inr ⟨by rfl, rfl⟩) (by assumption) ?_; try simp only [Act.put, List.setIfInBounds_toArray, List.set_cons_zero, List.set_cons_succ])
    | (refine wpAnyH_take (i := 9) (v := ?_) (by simp only [List.getElem?_toArray, List.getElem?_cons_succ, List.getElem?_cons_zero]; rfl) (by kernel_rfl) (by kernel_rfl) (by kernel_rfl) (fun _ _ _ h => h) (Or.inl ⟨by rfl, ?_⟩) (by assumption) ?_
       rotate_left
       · (intro ww hSw; (try dsimp only at hSw); go_simp; (try with_reducible rfl))
       try simp only [Act.put, List.setIfInBounds_toArray, List.set_cons_zero, List.set_cons_succ])
    | (refine wpAnyH_ready (rs := [9]) (by kernel_rfl) (by simp) (AllReadyH.cons (by simp only [List.getElem?_toArray, List.getElem?_cons_succ, List.getElem?_cons_zero]; rfl) (fun K hK => ?_) AllReadyH.nil)
       go_simp
       first
         | (go_at_call 12; (with_reducible refine (rmay_any _ _ _ _ _ _ (H1.out.below hHeld.1 (Nat.le_refl _)) (H2.out.below hHeld.1 (Nat.le_refl _))).mono ?_); rintro e w1 ⟨rfl, hb⟩; have HCB := Lib.hid hb; clear hb; rw [HV.out])
         | (go_at_call 13; (with_reducible refine (rrefmay_any _ _ _ _ _ _ (H1.out.below hHeld.1 (Nat.le_refl _)) (H2.out.below hHeld.1 (Nat.le_refl _))).mono ?_); rintro e w1 ⟨rfl, hb⟩; have HCB := Lib.hid hb; clear hb; rw [HV.out])
         | (go_at_call 14; (with_reducible refine (rsame_any _ _ _ _ _ _ _ _ _ _ _ (H1.out.below hHeld.1 (Nat.le_refl _)) (H2.out.below hHeld.1 (Nat.le_refl _)) (H3.out.below hHeld.1 (Nat.le_refl _)) (H4.out.below hHeld.1 (Nat.le_refl _))).mono ?_); rintro e w1 ⟨rfl, hb⟩; have HCB := Lib.hid hb; clear hb; rw [HU.out])
         | (go_at_call 15; (with_reducible refine (rrefsame_any _ _ _ _ _ _ _ _ _ _ _ (H1.out.below hHeld.1 (Nat.le_refl _)) (H2.out.below hHeld.1 (Nat.le_refl _)) (H3.out.below hHeld.1 (Nat.le_refl _)) (H4.out.below hHeld.1 (Nat.le_refl _))).mono ?_); rintro e w1 ⟨rfl, hb⟩; have HCB := Lib.hid hb; clear hb; rw [HU.out])
       try go_wp2_with fail
       refine hK.out _ _ (by (first | (exact S5.out) | (exact TwoS.call hHeld HCB.out))) (fun hHeld => ?_)
       clear hK K
       try simp only [Act.put, List.setIfInBounds_toArray, List.set_cons_zero, List.set_cons_succ])
  first
    | (refine wpAnyH_take (i := 10) (v := undef) (by simp only [List.getElem?_toArray, List.getElem?_cons_succ, List.getElem?_cons_zero]; rfl) (by kernel_rfl) (by kernel_rfl) (by kernel_rfl) (fun _ _ _ h => h) (Or.inr ⟨by rfl, rfl⟩) (by assumption) ?_; try simp only [Act.put, List.setIfInBounds_toArray, List.set_cons_zero, List.set_cons_succ])
    | (refine wpAnyH_take (i := 10) (v := ?_) (by simp only [List.getElem?_toArray, List.getElem?_cons_succ, List.getElem?_cons_zero]; rfl) (by kernel_rfl) (by kernel_rfl) (by kernel_rfl) (fun _ _ _ h => h) (Or.inl ⟨by rfl, ?_⟩) (by assumption) ?_
       rotate_left
       · (intro ww hSw; (try dsimp only at hSw); go_simp; (try with_reducible rfl))
       try simp only [Act.put, List.setIfInBounds_toArray, List.set_cons_zero, List.set_cons_succ])
    | (refine wpAnyH_ready (rs := [10]) (by kernel_rfl) (by simp) (AllReadyH.cons (by simp only [List.getElem?_toArray, List.getElem?_cons_succ, List.getElem?_cons_zero]; rfl) (fun K hK => ?_) AllReadyH.nil)
       go_simp
       first
         | (go_at_call 12; (with_reducible refine (rmay_any _ _ _ _ _ _ (H1.out.below hHeld.1 (Nat.le_refl _)) (H2.out.below hHeld.1 (Nat.le_refl _))).mono ?_); rintro e w1 ⟨rfl, hb⟩; have HCB := Lib.hid hb; clear hb; rw [HV.out])
         | (go_at_call 13; (with_reducible refine (rrefmay_any _ _ _ _ _ _ (H1.out.below hHeld.1 (Nat.le_refl _)) (H2.out.below hHeld.1 (Nat.le_refl _))).mono ?_); rintro e w1 ⟨rfl, hb⟩; have HCB := Lib.hid hb; clear hb; rw [HV.out])
         | (go_at_call 14; (with_reducible refine (rsame_any _ _ _ _ _ _ _ _ _ _ _ (H1.out.below hHeld.1 (Nat.le_refl _)) (H2.out.below hHeld.1 (Nat.le_refl _)) (H3.out.below hHeld.1 (Nat.le_refl _)) (H4.out.below hHeld.1 (Nat.le_refl _))).mono ?_); rintro e w1 ⟨rfl, hb⟩; have HCB := Lib.hid hb; clear hb; rw [HU.out])
         | (go_at_call 15; (with_reducible refine (rrefsame_any _ _ _ _ _ _ _ _ _ _ _ (H1.out.below hHeld.1 (Nat.le_refl _)) (H2.out.below hHeld.1 (Nat.le_refl _)) (H3.out.below hHeld.1 (Nat.le_refl _)) (H4.out.below hHeld.1 (Nat.le_refl _))).mono ?_); rintro e w1 ⟨rfl, hb⟩; have HCB := Lib.hid hb; clear hb; rw [HU.out])
       try go_wp2_with fail
       refine hK.out _ _ (by (first | (exact S5.out) | (exact TwoS.call hHeld HCB.out))) (fun hHeld => ?_)
       clear hK K
       try simp only [Act.put, List.setIfInBounds_toArray, List.set_cons_zero, List.set_cons_succ])
  first
    | (refine wpAnyH_take (i := 8) (v := undef) (by simp only [List.getElem?_toArray, List.getElem?_cons_succ, List.getElem?_cons_zero]; rfl) (by kernel_rfl) (by kernel_rfl) (by kernel_rfl) (fun _ _ _ h => h) (Or.inr ⟨by rfl, rfl⟩) (by assumption) ?_; try simp only [Act.put, List.setIfInBounds_toArray, List.set_cons_zero, List.set_cons_succ])
    | (refine wpAnyH_take (i := 8) (v := ?_) (by simp only [List.getElem?_toArray, List.getElem?_cons_succ, List.getElem?_cons_zero]; rfl) (by kernel_rfl) (by kernel_rfl) (by kernel_rfl) (fun _ _ _ h => h) (Or.inl ⟨by rfl, ?_⟩) (by assumption) ?_
       rotate_left
       · (intro ww hSw; (try dsimp only at hSw); go_simp; (try with_reducible rfl))
       try simp only [Act.put, List.setIfInBounds_toArray, List.set_cons_zero, List.set_cons_succ])
    | (refine wpAnyH_ready (rs := [8]) (by kernel_rfl) (by simp) (AllReadyH.cons (by simp only [List.getElem?_toArray, List.getElem?_cons_succ, List.getElem?_cons_zero]; rfl) (fun K hK => ?_) AllReadyH.nil)
       go_simp
       first
         | (go_at_call 12; (with_reducible refine (rmay_any _ _ _ _ _ _ (H1.out.below hHeld.1 (Nat.le_refl _)) (H2.out.below hHeld.1 (Nat.le_refl _))).mono ?_); rintro e w1 ⟨rfl, hb⟩; have HCB := Lib.hid hb; clear hb; rw [HV.out])
         | (go_at_call 13; (with_reducible refine (rrefmay_any _ _ _ _ _ _ (H1.out.below hHeld.1 (Nat.le_refl _)) (H2.out.below hHeld.1 (Nat.le_refl _))).mono ?_); rintro e w1 ⟨rfl, hb⟩; have HCB := Lib.hid hb; clear hb; rw [HV.out])
         | (go_at_call 14; (with_reducible refine (rsame_any _ _ _ _ _ _ _ _ _ _ _ (H1.out.below hHeld.1 (Nat.le_refl _)) (H2.out.below hHeld.1 (Nat.le_refl _)) (H3.out.below hHeld.1 (Nat.le_refl _)) (H4.out.below hHeld.1 (Nat.le_refl _))).mono ?_); rintro e w1 ⟨rfl, hb⟩; have HCB := Lib.hid hb; clear hb; rw [HU.out])
         | (go_at_call 15; (with_reducible refine (rrefsame_any _ _ _ _ _ _ _ _ _ _ _ (H1.out.below hHeld.1 (Nat.le_refl _)) (H2.out.below hHeld.1 (Nat.le_refl _)) (H3.out.below hHeld.1 (Nat.le_refl _)) (H4.out.below hHeld.1 (Nat.le_refl _))).mono ?_); rintro e w1 ⟨rfl, hb⟩; have HCB := Lib.hid hb; clear hb; rw [HU.out])
       try go_wp2_with fail
       refine hK.out _ _ (by (first | (exact S5.out) | (exact TwoS.call hHeld HCB.out))) (fun hHeld => ?_)
       clear hK K
       try simp only [Act.put, List.setIfInBounds_toArray, List.set_cons_zero, List.set_cons_succ])
  first
    | (refine wpAnyH_take (i := 11) (v := undef) (by simp only [List.getElem?_toArray, List.getElem?_cons_succ, List.getElem?_cons_zero]; rfl) (by kernel_rfl) (by kernel_rfl) (by kernel_rfl) (fun _ _ _ h => h) (Or.inr ⟨by rfl, rfl⟩) (by assumption) ?_; try simp only [Act.put, List.setIfInBounds_toArray, List.set_cons_zero, List.set_cons_succ])
    | (refine wpAnyH_take (i := 11) (v := ?_) (by simp only [List.getElem?_toArray, List.getElem?_cons_succ, List.getElem?_cons_zero]; rfl) (by kernel_rfl) (by kernel_rfl) (by kernel_rfl) (fun _ _ _ h => h) (Or.inl ⟨by rfl, ?_⟩) (by assumption) ?_
       rotate_left
       · (intro ww hSw; (try dsimp only at hSw); go_simp; (try with_reducible rfl))
       try simp only [Act.put, List.setIfInBounds_toArray, List.set_cons_zero, List.set_cons_succ])
    | (refine wpAnyH_ready (rs := [11]) (by kernel_rfl) (by simp) (AllReadyH.cons (by simp only [List.getElem?_toArray, List.getElem?_cons_succ, List.getElem?_cons_zero]; rfl) (fun K hK => ?_) AllReadyH.nil)
       go_simp
       first
         | (go_at_call 12; (with_reducible refine (rmay_any _ _ _ _ _ _ (H1.out.below hHeld.1 (Nat.le_refl _)) (H2.out.below hHeld.1 (Nat.le_refl _))).mono ?_); rintro e w1 ⟨rfl, hb⟩; have HCB := Lib.hid hb; clear hb; rw [HV.out])
         | (go_at_call 13; (with_reducible refine (rrefmay_any _ _ _ _ _ _ (H1.out.below hHeld.1 (Nat.le_refl _)) (H2.out.below hHeld.1 (Nat.le_refl _))).mono ?_); rintro e w1 ⟨rfl, hb⟩; have HCB := Lib.hid hb; clear hb; rw [HV.out])
         | (go_at_call 14; (with_reducible refine (rsame_any _ _ _ _ _ _ _ _ _ _ _ (H1.out.below hHeld.1 (Nat.le_refl _)) (H2.out.below hHeld.1 (Nat.le_refl _)) (H3.out.below hHeld.1 (Nat.le_refl _)) (H4.out.below hHeld.1 (Nat.le_refl _))).mono ?_); rintro e w1 ⟨rfl, hb⟩; have HCB := Lib.hid hb; clear hb; rw [HU.out])
         | (go_at_call 15; (with_reducible refine (rrefsame_any _ _ _ _ _ _ _ _ _ _ _ (H1.out.below hHeld.1 (Nat.le_refl _)) (H2.out.below hHeld.1 (Nat.le_refl _)) (H3.out.below hHeld.1 (Nat.le_refl _)) (H4.out.below hHeld.1 (Nat.le_refl _))).mono ?_); rintro e w1 ⟨rfl, hb⟩; have HCB := Lib.hid hb; clear hb; rw [HU.out])
       try go_wp2_with fail
       refine hK.out _ _ (by (first | (exact S5.out) | (exact TwoS.call hHeld HCB.out))) (fun hHeld => ?_)
       clear hK K
       try simp only [Act.put, List.setIfInBounds_toArray, List.set_cons_zero, List.set_cons_succ])
  first
    | (refine wpAnyH_take (i := 12) (v := undef) (by simp only [List.getElem?_toArray, List.getElem?_cons_succ, List.getElem?_cons_zero]; rfl) (by kernel_rfl) (by kernel_rfl) (by kernel_rfl) (fun _ _ _ h => h) (Or.inr ⟨by rfl, rfl⟩) (by assumption) ?_; try simp only [Act.put, List.setIfInBounds_toArray, List.set_cons_zero, List.set_cons_succ])
    | (refine wpAnyH_take (i := 12) (v := ?_) (by simp only [List.getElem?_toArray, List.getElem?_cons_succ, List.getElem?_cons_zero]; rfl) (by kernel_rfl) (by kernel_rfl) (by kernel_rfl) (fun _ _ _ h => h) (Or.inl ⟨by rfl, ?_⟩) (by assumption) ?_
       rotate_left
       · (intro ww hSw; (try dsimp only at hSw); go_simp; (try with_reducible rfl))
       try simp only [Act.put, List.setIfInBounds_toArray, List.set_cons_zero, List.set_cons_succ])
    | (refine wpAnyH_ready (rs := [12]) (by kernel_rfl) (by simp) (AllReadyH.cons (by simp only [List.getElem?_toArray, List.getElem?_cons_succ, List.getElem?_cons_zero]; rfl) (fun K hK => ?_) AllReadyH.nil)
       go_simp
       first
         | (go_at_call 12; (with_reducible refine (rmay_any _ _ _ _ _ _ (H1.out.below hHeld.1 (Nat.le_refl _)) (H2.out.below hHeld.1 (Nat.le_refl _))).mono ?_); rintro e w1 ⟨rfl, hb⟩; have HCB := Lib.hid hb; clear hb; rw [HV.out])
         | (go_at_call 13; (with_reducible refine (rrefmay_any _ _ _ _ _ _ (H1.out.below hHeld.1 (Nat.le_refl _)) (H2.out.below hHeld.1 (Nat.le_refl _))).mono ?_); rintro e w1 ⟨rfl, hb⟩; have HCB := Lib.hid hb; clear hb; rw [HV.out])
         | (go_at_call 14; (with_reducible refine (rsame_any _ _ _ _ _ _ _ _ _ _ _ (H1.out.below hHeld.1 (Nat.le_refl _)) (H2.out.below hHeld.1 (Nat.le_refl _)) (H3.out.below hHeld.1 (Nat.le_refl _)) (H4.out.below hHeld.1 (Nat.le_refl _))).mono ?_); rintro e w1 ⟨rfl, hb⟩; have HCB := Lib.hid hb; clear hb; rw [HU.out])
         | (go_at_call 15; (with_reducible refine (rrefsame_any _ _ _ _ _ _ _ _ _ _ _ (H1.out.below hHeld.1 (Nat.le_refl _)) (H2.out.below hHeld.1 (Nat.le_refl _)) (H3.out.below hHeld.1 (Nat.le_refl _)) (H4.out.below hHeld.1 (Nat.le_refl _))).mono ?_); rintro e w1 ⟨rfl, hb⟩; have HCB := Lib.hid hb; clear hb; rw [HU.out])
       try go_wp2_with fail
       refine hK.out _ _ (by (first | (exact S5.out) | (exact TwoS.call hHeld HCB.out))) (fun hHeld => ?_)
       clear hK K
       try simp only [Act.put, List.setIfInBounds_toArray, List.set_cons_zero, List.set_cons_succ])
  first
    | (refine wpAnyH_take (i := 13) (v := undef) (by simp only [List.getElem?_toArray, List.getElem?_cons_succ, List.getElem?_cons_zero]; rfl) (by kernel_rfl) (by kernel_rfl) (by kernel_rfl) (fun _ _ _ h => h) (Or.inr ⟨by rfl, rfl⟩) (by assumption) ?_; try simp only [Act.put, List.setIfInBounds_toArray, List.set_cons_zero, List.set_cons_succ])
    | (refine wpAnyH_take (i := 13) (v := ?_) (by simp only [List.getElem?_toArray, List.getElem?_cons_succ, List.getElem?_cons_zero]; rfl) (by kernel_rfl) (by kernel_rfl) (by kernel_rfl) (fun _ _ _ h => h) (Or.inl ⟨by rfl, ?_⟩) (by assumption) ?_
       rotate_left
       · (intro ww hSw; (try dsimp only at hSw); go_simp; (try with_reducible rfl))
       try simp only [Act.put, List.setIfInBounds_toArray, List.set_cons_zero, List.set_cons_succ])
    | (refine wpAnyH_ready (rs := [13]) (by kernel_rfl) (by simp) (AllReadyH.cons (by simp only [List.getElem?_toArray, List.getElem?_cons_succ, List.getElem?_cons_zero]; rfl) (fun K hK => ?_) AllReadyH.nil)
       go_simp
       first
         | (go_at_call 12; (with_reducible refine (rmay_any _ _ _ _ _ _ (H1.out.below hHeld.1 (Nat.le_refl _)) (H2.out.below hHeld.1 (Nat.le_refl _))).mono ?_); rintro e w1 ⟨rfl, hb⟩; have HCB := Lib.hid hb; clear hb; rw [HV.out])
         | (go_at_call 13; (with_reducible refine (rrefmay_any _ _ _ _ _ _ (H1.out.below hHeld.1 (Nat.le_refl _)) (H2.out.below hHeld.1 (Nat.le_refl _))).mono ?_); rintro e w1 ⟨rfl, hb⟩; have HCB := Lib.hid hb; clear hb; rw [HV.out])
         | (go_at_call 14; (with_reducible refine (rsame_any _ _ _ _ _ _ _ _ _ _ _ (H1.out.below hHeld.1 (Nat.le_refl _)) (H2.out.below hHeld.1 (Nat.le_refl _)) (H3.out.below hHeld.1 (Nat.le_refl _)) (H4.out.below hHeld.1 (Nat.le_refl _))).mono ?_); rintro e w1 ⟨rfl, hb⟩; have HCB := Lib.hid hb; clear hb; rw [HU.out])
         | (go_at_call 15; (with_reducible refine (rrefsame_any _ _ _ _ _ _ _ _ _ _ _ (H1.out.below hHeld.1 (Nat.le_refl _)) (H2.out.below hHeld.1 (Nat.le_refl _)) (H3.out.below hHeld.1 (Nat.le_refl _)) (H4.out.below hHeld.1 (Nat.le_refl _))).mono ?_); rintro e w1 ⟨rfl, hb⟩; have HCB := Lib.hid hb; clear hb; rw [HU.out])
       try go_wp2_with fail
       refine hK.out _ _ (by (first | (exact S5.out) | (exact TwoS.call hHeld HCB.out))) (fun hHeld => ?_)
       clear hK K
       try simp only [Act.put, List.setIfInBounds_toArray, List.set_cons_zero, List.set_cons_succ])
  first
    | (refine wpAnyH_take (i := 14) (v := undef) (by simp only [List.getElem?_toArray, List.getElem?_cons_succ, List.getElem?_cons_zero]; rfl) (by kernel_rfl) (by kernel_rfl) (by kernel_rfl) (fun _ _ _ h => h) (Or.inr ⟨by rfl, rfl⟩) (by assumption) ?_; try simp only [Act.put, List.setIfInBounds_toArray, List.set_cons_zero, List.set_cons_succ])
    | (refine wpAnyH_take (i := 14) (v := ?_) (by simp only [List.getElem?_toArray, List.getElem?_cons_succ, List.getElem?_cons_zero]; rfl) (by kernel_rfl) (by kernel_rfl) (by kernel_rfl) (fun _ _ _ h => h) (Or.inl ⟨by rfl, ?_⟩) (by assumption) ?_
       rotate_left
       · (intro ww hSw; (try dsimp only at hSw); go_simp; (try with_reducible rfl))
       try simp only [Act.put, List.setIfInBounds_toArray, List.set_cons_zero, List.set_cons_succ])
    | (refine wpAnyH_ready (rs := [14]) (by kernel_rfl) (by simp) (AllReadyH.cons (by simp only [List.getElem?_toArray, List.getElem?_cons_succ, List.getElem?_cons_zero]; rfl) (fun K hK => ?_) AllReadyH.nil)
       go_simp
       first
         | (go_at_call 12; (with_reducible refine (rmay_any _ _ _ _ _ _ (H1.out.below hHeld.1 (Nat.le_refl _)) (H2.out.below hHeld.1 (Nat.le_refl _))).mono ?_); rintro e w1 ⟨rfl, hb⟩; have HCB := Lib.hid hb; clear hb; rw [HV.out])
         | (go_at_call 13; (with_reducible refine (rrefmay_any _ _ _ _ _ _ (H1.out.below hHeld.1 (Nat.le_refl _)) (H2.out.below hHeld.1 (Nat.le_refl _))).mono ?_); rintro e w1 ⟨rfl, hb⟩; have HCB := Lib.hid hb; clear hb; rw [HV.out])
         | (go_at_call 14; (with_reducible refine (rsame_any _ _ _ _ _ _ _ _ _ _ _ (H1.out.below hHeld.1 (Nat.le_refl _)) (H2.out.below hHeld.1 (Nat.le_refl _)) (H3.out.below hHeld.1 (Nat.le_refl _)) (H4.out.below hHeld.1 (Nat.le_refl _))).mono ?_); rintro e w1 ⟨rfl, hb⟩; have HCB := Lib.hid hb; clear hb; rw [HU.out])
         | (go_at_call 15; (with_reducible refine (rrefsame_any _ _ _ _ _ _ _ _ _ _ _ (H1.out.below hHeld.1 (Nat.le_refl _)) (H2.out.below hHeld.1 (Nat.le_refl _)) (H3.out.below hHeld.1 (Nat.le_refl _)) (H4.out.below hHeld.1 (Nat.le_refl _))).mono ?_); rintro e w1 ⟨rfl, hb⟩; have HCB := Lib.hid hb; clear hb; rw [HU.out])
       try go_wp2_with fail
       refine hK.out _ _ (by (first | (exact S5.out) | (exact TwoS.call hHeld HCB.out))) (fun hHeld => ?_)
       clear hK K
       try simp only [Act.put, List.setIfInBounds_toArray, List.set_cons_zero, List.set_cons_succ])
  first
    | (refine wpAnyH_take (i := 15) (v := undef) (by simp only [List.getElem?_toArray, List.getElem?_cons_succ, List.getElem?_cons_zero]; rfl) (by kernel_rfl) (by kernel_rfl) (by kernel_rfl) (fun _ _ _ h => h) (Or.inr ⟨by rfl, rfl⟩) (by assumption) ?_; try simp only [Act.put, List.setIfInBounds_toArray, List.set_cons_zero, List.set_cons_succ])
    | (refine wpAnyH_take (i := 15) (v := ?_) (by simp only [List.getElem?_toArray, List.getElem?_cons_succ, List.getElem?_cons_zero]; rfl) (by kernel_rfl) (by kernel_rfl) (by kernel_rfl) (fun _ _ _ h => h) (Or.inl ⟨by rfl, ?_⟩) (by assumption) ?_
       rotate_left
       · (intro ww hSw; (try dsimp only at hSw); go_simp; (try with_reducible rfl))
       try simp only [Act.put, List.setIfInBounds_toArray, List.set_cons_zero, List.set_cons_succ])
    | (refine wpAnyH_ready (rs := [15]) (by kernel_rfl) (by simp) (AllReadyH.cons (by simp only [List.getElem?_toArray, List.getElem?_cons_succ, List.getElem?_cons_zero]; rfl) (fun K hK => ?_) AllReadyH.nil)
       go_simp
       first
         | (go_at_call 12; (with_reducible refine (rmay_any _ _ _ _ _ _ (H1.out.below hHeld.1 (Nat.le_refl _)) (H2.out.below hHeld.1 (Nat.le_refl _))).mono ?_); rintro e w1 ⟨rfl, hb⟩; have HCB := Lib.hid hb; clear hb; rw [HV.out])
         | (go_at_call 13; (with_reducible refine (rrefmay_any _ _ _ _ _ _ (H1.out.below hHeld.1 (Nat.le_refl _)) (H2.out.below hHeld.1 (Nat.le_refl _))).mono ?_); rintro e w1 ⟨rfl, hb⟩; have HCB := Lib.hid hb; clear hb; rw [HV.out])
         | (go_at_call 14; (with_reducible refine (rsame_any _ _ _ _ _ _ _ _ _ _ _ (H1.out.below hHeld.1 (Nat.le_refl _)) (H2.out.below hHeld.1 (Nat.le_refl _)) (H3.out.below hHeld.1 (Nat.le_refl _)) (H4.out.below hHeld.1 (Nat.le_refl _))).mono ?_); rintro e w1 ⟨rfl, hb⟩; have HCB := Lib.hid hb; clear hb; rw [HU.out])
         | (go_at_call 15; (with_reducible refine (rrefsame_any _ _ _ _ _ _ _ _ _ _ _ (H1.out.below hHeld.1 (Nat.le_refl _)) (H2.out.below hHeld.1 (Nat.le_refl _)) (H3.out.below hHeld.1 (Nat.le_refl _)) (H4.out.below hHeld.1 (Nat.le_refl _))).mono ?_); rintro e w1 ⟨rfl, hb⟩; have HCB := Lib.hid hb; clear hb; rw [HU.out])
       try go_wp2_with fail
       refine hK.out _ _ (by (first | (exact S5.out) | (exact TwoS.call hHeld HCB.out))) (fun hHeld => ?_)
       clear hK K
       try simp only [Act.put, List.setIfInBounds_toArray, List.set_cons_zero, List.set_cons_succ])
  first
    | (refine wpAnyH_take (i := 16) (v := undef) (by simp only [List.getElem?_toArray, List.getElem?_cons_succ, List.getElem?_cons_zero]; rfl) (by kernel_rfl) (by kernel_rfl) (by kernel_rfl) (fun _ _ _ h => h) (Or.inr ⟨by rfl, rfl⟩) (by assumption) ?_; try simp only [Act.put, List.setIfInBounds_toArray, List.set_cons_zero, List.set_cons_succ])
    | (refine wpAnyH_take (i := 16) (v := ?_) (by simp only [List.getElem?_toArray, List.getElem?_cons_succ, List.getElem?_cons_zero]; rfl) (by kernel_rfl) (by kernel_rfl) (by kernel_rfl) (fun _ _ _ h => h) (Or.inl ⟨by rfl, ?_⟩) (by assumption) ?_
       rotate_left
       · (intro ww hSw; (try dsimp only at hSw); go_simp; (try with_reducible rfl))
       try simp only [Act.put, List.setIfInBounds_toArray, List.set_cons_zero, List.set_cons_succ])
    | (refine wpAnyH_ready (rs := [16]) (by kernel_rfl) (by simp) (AllReadyH.cons (by simp only [List.getElem?_toArray, List.getElem?_cons_succ, List.getElem?_cons_zero]; rfl) (fun K hK => ?_) AllReadyH.nil)
       go_simp
       first
         | (go_at_call 12; (with_reducible refine (rmay_any _ _ _ _ _ _ (H1.out.below hHeld.1 (Nat.le_refl _)) (H2.out.below hHeld.1 (Nat.le_refl _))).mono ?_); rintro e w1 ⟨rfl, hb⟩; have HCB := Lib.hid hb; clear hb; rw [HV.out])
         | (go_at_call 13; (with_reducible refine (rrefmay_any _ _ _ _ _ _ (H1.out.below hHeld.1 (Nat.le_refl _)) (H2.out.below hHeld.1 (Nat.le_refl _))).mono ?_); rintro e w1 ⟨rfl, hb⟩; have HCB := Lib.hid hb; clear hb; rw [HV.out])
         | (go_at_call 14; (with_reducible refine (rsame_any _ _ _ _ _ _ _ _ _ _ _ (H1.out.below hHeld.1 (Nat.le_refl _)) (H2.out.below hHeld.1 (Nat.le_refl _)) (H3.out.below hHeld.1 (Nat.le_refl _)) (H4.out.below hHeld.1 (Nat.le_refl _))).mono ?_); rintro e w1 ⟨rfl, hb⟩; have HCB := Lib.hid hb; clear hb; rw [HU.out])
         | (go_at_call 15; (with_reducible refine (rrefsame_any _ _ _ _ _ _ _ _ _ _ _ (H1.out.below hHeld.1 (Nat.le_refl _)) (H2.out.below hHeld.1 (Nat.le_refl _)) (H3.out.below hHeld.1 (Nat.le_refl _)) (H4.out.below hHeld.1 (Nat.le_refl _))).mono ?_); rintro e w1 ⟨rfl, hb⟩; have HCB := Lib.hid hb; clear hb; rw [HU.out])
       try go_wp2_with fail
       refine hK.out _ _ (by (first | (exact S5.out) | (exact TwoS.call hHeld HCB.out))) (fun hHeld => ?_)
       clear hK K
       try simp only [Act.put, List.setIfInBounds_toArray, List.set_cons_zero, List.set_cons_succ])
  first
    | (refine wpAnyH_take (i := 17) (v := undef) (by simp only [List.getElem?_toArray, List.getElem?_cons_succ, List.getElem?_cons_zero]; rfl) (by kernel_rfl) (by kernel_rfl) (by kernel_rfl) (fun _ _ _ h => h) (Or.inr ⟨by rfl, rfl⟩) (by assumption) ?_; try simp only [Act.put, List.setIfInBounds_toArray, List.set_cons_zero, List.set_cons_succ])
    | (refine wpAnyH_take (i := 17) (v := ?_) (by simp only [List.getElem?_toArray, List.getElem?_cons_succ, List.getElem?_cons_zero]; rfl) (by kernel_rfl) (by kernel_rfl) (by kernel_rfl) (fun _ _ _ h => h) (Or.inl ⟨by rfl, ?_⟩) (by assumption) ?_
       rotate_left
       · (intro ww hSw; (try dsimp only at hSw); go_simp; (try with_reducible rfl))
       try simp only [Act.put, List.setIfInBounds_toArray, List.set_cons_zero, List.set_cons_succ])
    | (refine wpAnyH_ready (rs := [17]) (by kernel_rfl) (by simp) (AllReadyH.cons (by simp only [List.getElem?_toArray, List.getElem?_cons_succ, List.getElem?_cons_zero]; rfl) (fun K hK => ?_) AllReadyH.nil)
       go_simp
       first
         | (go_at_call 12; (with_reducible refine (rmay_any _ _ _ _ _ _ (H1.out.below hHeld.1 (Nat.le_refl _)) (H2.out.below hHeld.1 (Nat.le_refl _))).mono ?_); rintro e w1 ⟨rfl, hb⟩; have HCB := Lib.hid hb; clear hb; rw [HV.out])
         | (go_at_call 13; (with_reducible refine (rrefmay_any _ _ _ _ _ _ (H1.out.below hHeld.1 (Nat.le_refl _)) (H2.out.below hHeld.1 (Nat.le_refl _))).mono ?_); rintro e w1 ⟨rfl, hb⟩; have HCB := Lib.hid hb; clear hb; rw [HV.out])
         | (go_at_call 14; (with_reducible refine (rsame_any _ _ _ _ _ _ _ _ _ _ _ (H1.out.below hHeld.1 (Nat.le_refl _)) (H2.out.below hHeld.1 (Nat.le_refl _)) (H3.out.below hHeld.1 (Nat.le_refl _)) (H4.out.below hHeld.1 (Nat.le_refl _))).mono ?_); rintro e w1 ⟨rfl, hb⟩; have HCB := Lib.hid hb; clear hb; rw [HU.out])
         | (go_at_call 15; (with_reducible refine (rrefsame_any _ _ _ _ _ _ _ _ _ _ _ (H1.out.below hHeld.1 (Nat.le_refl _)) (H2.out.below hHeld.1 (Nat.le_refl _)) (H3.out.below hHeld.1 (Nat.le_refl _)) (H4.out.below hHeld.1 (Nat.le_refl _))).mono ?_); rintro e w1 ⟨rfl, hb⟩; have HCB := Lib.hid hb; clear hb; rw [HU.out])
       try go_wp2_with fail
       refine hK.out _ _ (by (first | (exact S5.out) | (exact TwoS.call hHeld HCB.out))) (fun hHeld => ?_)
       clear hK K
       try simp only [Act.put, List.setIfInBounds_toArray, List.set_cons_zero, List.set_cons_succ])
  first
    | (refine wpAnyH_take (i := 18) (v := undef) (by simp only [List.getElem?_toArray, List.getElem?_cons_succ, List.getElem?_cons_zero]; rfl) (by kernel_rfl) (by kernel_rfl) (by kernel_rfl) (fun _ _ _ h => h) (Or.inr ⟨by rfl, rfl⟩) (by assumption) ?_; try simp only [Act.put, List.setIfInBounds_toArray, List.set_cons_zero, List.set_cons_succ])
    | (refine wpAnyH_take (i := 18) (v := ?_) (by simp only [List.getElem?_toArray, List.getElem?_cons_succ, List.getElem?_cons_zero]; rfl) (by kernel_rfl) (by kernel_rfl) (by kernel_rfl) (fun _ _ _ h => h) (Or.inl ⟨by rfl, ?_⟩) (by assumption) ?_
       rotate_left
       · (intro ww hSw; (try dsimp only at hSw); go_simp; (try with_reducible rfl))
       try simp only [Act.put, List.setIfInBounds_toArray, List.set_cons_zero, List.set_cons_succ])
    | (refine wpAnyH_ready (rs := [18]) (by kernel_rfl) (by simp) (AllReadyH.cons (by simp only [List.getElem?_toArray, List.getElem?_cons_succ, List.getElem?_cons_zero]; rfl) (fun K hK => ?_) AllReadyH.nil)
       go_simp
       first
         | (go_at_call 12; (with_reducible refine (rmay_any _ _ _ _ _ _ (H1.out.below hHeld.1 (Nat.le_refl _)) (H2.out.below hHeld.1 (Nat.le_refl _))).mono ?_); rintro e w1 ⟨rfl, hb⟩; have HCB := Lib.hid hb; clear hb; rw [HV.out])
         | (go_at_call 13; (with_reducible refine (rrefmay_any _ _ _ _ _ _ (H1.out.below hHeld.1 (Nat.le_refl _)) (H2.out.below hHeld.1 (Nat.le_refl _))).mono ?_); rintro e w1 ⟨rfl, hb⟩; have HCB := Lib.hid hb; clear hb; rw [HV.out])
         | (go_at_call 14; (with_reducible refine (rsame_any _ _ _ _ _ _ _ _ _ _ _ (H1.out.below hHeld.1 (Nat.le_refl _)) (H2.out.below hHeld.1 (Nat.le_refl _)) (H3.out.below hHeld.1 (Nat.le_refl _)) (H4.out.below hHeld.1 (Nat.le_refl _))).mono ?_); rintro e w1 ⟨rfl, hb⟩; have HCB := Lib.hid hb; clear hb; rw [HU.out])
         | (go_at_call 15; (with_reducible refine (rrefsame_any _ _ _ _ _ _ _ _ _ _ _ (H1.out.below hHeld.1 (Nat.le_refl _)) (H2.out.below hHeld.1 (Nat.le_refl _)) (H3.out.below hHeld.1 (Nat.le_refl _)) (H4.out.below hHeld.1 (Nat.le_refl _))).mono ?_); rintro e w1 ⟨rfl, hb⟩; have HCB := Lib.hid hb; clear hb; rw [HU.out])
       try go_wp2_with fail
       refine hK.out _ _ (by (first | (exact S5.out) | (exact TwoS.call hHeld HCB.out))) (fun hHeld => ?_)
       clear hK K
       try simp only [Act.put, List.setIfInBounds_toArray, List.set_cons_zero, List.set_cons_succ])
  first
    | (refine wpAnyH_take (i := 19) (v := undef) (by simp only [List.getElem?_toArray, List.getElem?_cons_succ, List.getElem?_cons_zero]; rfl) (by kernel_rfl) (by kernel_rfl) (by kernel_rfl) (fun _ _ _ h => h) (Or.inr ⟨by rfl, rfl⟩) (by assumption) ?_; try simp only [Act.put, List.setIfInBounds_toArray, List.set_cons_zero, List.set_cons_succ])
    | (refine wpAnyH_take (i := 19) (v := ?_) (by simp only [List.getElem?_toArray, List.getElem?_cons_succ, List.getElem?_cons_zero]; rfl) (by kernel_rfl) (by kernel_rfl) (by kernel_rfl) (fun _ _ _ h => h) (Or.inl ⟨by rfl, ?_⟩) (by assumption) ?_
       rotate_left
       · (intro ww hSw; (try dsimp only at hSw); go_simp; (try with_reducible rfl))
       try simp only [Act.put, List.setIfInBounds_toArray, List.set_cons_zero, List.set_cons_succ])
    | (refine wpAnyH_ready (rs := [19]) (by kernel_rfl) (by simp) (AllReadyH.cons (by simp only [List.getElem?_toArray, List.getElem?_cons_succ, List.getElem?_cons_zero]; rfl) (fun K hK => ?_) AllReadyH.nil)
       go_simp
       first
         | (go_at_call 12; (with_reducible refine (rmay_any _ _ _ _ _ _ (H1.out.below hHeld.1 (Nat.le_refl _)) (H2.out.below hHeld.1 (Nat.le_refl _))).mono ?_); rintro e w1 ⟨rfl, hb⟩; have HCB := Lib.hid hb; clear hb; rw [HV.out])
         | (go_at_call 13; (with_reducible refine (rrefmay_any _ _ _ _ _ _ (H1.out.below hHeld.1 (Nat.le_refl _)) (H2.out.below hHeld.1 (Nat.le_refl _))).mono ?_); rintro e w1 ⟨rfl, hb⟩; have HCB := Lib.hid hb; clear hb; rw [HV.out])
         | (go_at_call 14; (with_reducible refine (rsame_any _ _ _ _ _ _ _ _ _ _ _ (H1.out.below hHeld.1 (Nat.le_refl _)) (H2.out.below hHeld.1 (Nat.le_refl _)) (H3.out.below hHeld.1 (Nat.le_refl _)) (H4.out.below hHeld.1 (Nat.le_refl _))).mono ?_); rintro e w1 ⟨rfl, hb⟩; have HCB := Lib.hid hb; clear hb; rw [HU.out])
         | (go_at_call 15; (with_reducible refine (rrefsame_any _ _ _ _ _ _ _ _ _ _ _ (H1.out.below hHeld.1 (Nat.le_refl _)) (H2.out.below hHeld.1 (Nat.le_refl _)) (H3.out.below hHeld.1 (Nat.le_refl _)) (H4.out.below hHeld.1 (Nat.le_refl _))).mono ?_); rintro e w1 ⟨rfl, hb⟩; have HCB := Lib.hid hb; clear hb; rw [HU.out])
       try go_wp2_with fail
       refine hK.out _ _ (by (first | (exact S5.out) | (exact TwoS.call hHeld HCB.out))) (fun hHeld => ?_)
       clear hK K
       try simp only [Act.put, List.setIfInBounds_toArray, List.set_cons_zero, List.set_cons_succ])
  first
    | (refine wpAnyH_take (i := 20) (v := undef) (by simp only [List.getElem?_toArray, List.getElem?_cons_succ, List.getElem?_cons_zero]; rfl) (by kernel_rfl) (by kernel_rfl) (by kernel_rfl) (fun _ _ _ h => h) (Or.inr ⟨by rfl, rfl⟩) (by assumption) ?_; try simp only [Act.put, List.setIfInBounds_toArray, List.set_cons_zero, List.set_cons_succ])
    | (refine wpAnyH_take (i := 20) (v := ?_) (by simp only [List.getElem?_toArray, List.getElem?_cons_succ, List.getElem?_cons_zero]; rfl) (by kernel_rfl) (by kernel_rfl) (by kernel_rfl) (fun _ _ _ h => h) (Or.inl ⟨by rfl, ?_⟩) (by assumption) ?_
       rotate_left
       · (intro ww hSw; (try dsimp only at hSw); go_simp; (try with_reducible rfl))
       try simp only [Act.put, List.setIfInBounds_toArray, List.set_cons_zero, List.set_cons_succ])
    | (refine wpAnyH_ready (rs := [20]) (by kernel_rfl) (by simp) (AllReadyH.cons (by simp only [List.getElem?_toArray, List.getElem?_cons_succ, List.getElem?_cons_zero]; rfl) (fun K hK => ?_) AllReadyH.nil)
       go_simp
       first
         | (go_at_call 12; (with_reducible refine (rmay_any _ _ _ _ _ _ (H1.out.below hHeld.1 (Nat.le_refl _)) (H2.out.below hHeld.1 (Nat.le_refl _))).mono ?_); rintro e w1 ⟨rfl, hb⟩; have HCB := Lib.hid hb; clear hb; rw [HV.out])
         | (go_at_call 13; (with_reducible refine (rrefmay_any _ _ _ _ _ _ (H1.out.below hHeld.1 (Nat.le_refl _)) (H2.out.below hHeld.1 (Nat.le_refl _))).mono ?_); rintro e w1 ⟨rfl, hb⟩; have HCB := Lib.hid hb; clear hb; rw [HV.out])
         | (go_at_call 14; (with_reducible refine (rsame_any _ _ _ _ _ _ _ _ _ _ _ (H1.out.below hHeld.1 (Nat.le_refl _)) (H2.out.below hHeld.1 (Nat.le_refl _)) (H3.out.below hHeld.1 (Nat.le_refl _)) (H4.out.below hHeld.1 (Nat.le_refl _))).mono ?_); rintro e w1 ⟨rfl, hb⟩; have HCB := Lib.hid hb; clear hb; rw [HU.out])
         | (go_at_call 15; (with_reducible refine (rrefsame_any _ _ _ _ _ _ _ _ _ _ _ (H1.out.below hHeld.1 (Nat.le_refl _)) (H2.out.below hHeld.1 (Nat.le_refl _)) (H3.out.below hHeld.1 (Nat.le_refl _)) (H4.out.below hHeld.1 (Nat.le_refl _))).mono ?_); rintro e w1 ⟨rfl, hb⟩; have HCB := Lib.hid hb; clear hb; rw [HU.out])
       try go_wp2_with fail
       refine hK.out _ _ (by (first | (exact S5.out) | (exact TwoS.call hHeld HCB.out))) (fun hHeld => ?_)
       clear hK K
       try simp only [Act.put, List.setIfInBounds_toArray, List.set_cons_zero, List.set_cons_succ])
  first
    | (refine wpAnyH_take (i := 21) (v := undef) (by simp only [List.getElem?_toArray, List.getElem?_cons_succ, List.getElem?_cons_zero]; rfl) (by kernel_rfl) (by kernel_rfl) (by kernel_rfl) (fun _ _ _ h => h) (Or.inr ⟨by rfl, rfl⟩) (by assumption) ?_; try simp only [Act.put, List.setIfInBounds_toArray, List.set_cons_zero, List.set_cons_succ])
    | (refine wpAnyH_take (i := 21) (v := ?_) (by simp only [List.getElem?_toArray, List.getElem?_cons_succ, List.getElem?_cons_zero]; rfl) (by kernel_rfl) (by kernel_rfl) (by kernel_rfl) (fun _ _ _ h => h) (Or.inl ⟨by rfl, ?_⟩) (by assumption) ?_
       rotate_left
       · (intro ww hSw; (try dsimp only at hSw); go_simp; (try with_reducible rfl))
       try simp only [Act.put, List.setIfInBounds_toArray, List.set_cons_zero, List.set_cons_succ])
    | (refine wpAnyH_ready (rs := [21]) (by kernel_rfl) (by simp) (AllReadyH.cons (by simp only [List.getElem?_toArray, List.getElem?_cons_succ, List.getElem?_cons_zero]; rfl) (fun K hK => ?_) AllReadyH.nil)
       go_simp
       first
         | (go_at_call 12; (with_reducible refine (rmay_any _ _ _ _ _ _ (H1.out.below hHeld.1 (Nat.le_refl _)) (H2.out.below hHeld.1 (Nat.le_refl _))).mono ?_); rintro e w1 ⟨rfl, hb⟩; have HCB := Lib.hid hb; clear hb; rw [HV.out])
         | (go_at_call 13; (with_reducible refine (rrefmay_any _ _ _ _ _ _ (H1.out.below hHeld.1 (Nat.le_refl _)) (H2.out.below hHeld.1 (Nat.le_refl _))).mono ?_); rintro e w1 ⟨rfl, hb⟩; have HCB := Lib.hid hb; clear hb; rw [HV.out])
         | (go_at_call 14; (with_reducible refine (rsame_any _ _ _ _ _ _ _ _ _ _ _ (H1.out.below hHeld.1 (Nat.le_refl _)) (H2.out.below hHeld.1 (Nat.le_refl _)) (H3.out.below hHeld.1 (Nat.le_refl _)) (H4.out.below hHeld.1 (Nat.le_refl _))).mono ?_); rintro e w1 ⟨rfl, hb⟩; have HCB := Lib.hid hb; clear hb; rw [HU.out])
         | (go_at_call 15; (with_reducible refine (rrefsame_any _ _ _ _ _ _ _ _ _ _ _ (H1.out.below hHeld.1 (Nat.le_refl _)) (H2.out.below hHeld.1 (Nat.le_refl _)) (H3.out.below hHeld.1 (Nat.le_refl _)) (H4.out.below hHeld.1 (Nat.le_refl _))).mono ?_); rintro e w1 ⟨rfl, hb⟩; have HCB := Lib.hid hb; clear hb; rw [HU.out])
       try go_wp2_with fail
       refine hK.out _ _ (by (first | (exact S5.out) | (exact TwoS.call hHeld HCB.out))) (fun hHeld => ?_)
       clear hK K
       try simp only [Act.put, List.setIfInBounds_toArray, List.set_cons_zero, List.set_cons_succ])
  first
    | (refine wpAnyH_take (i := 22) (v := undef) (by simp only [List.getElem?_toArray, List.getElem?_cons_succ, List.getElem?_cons_zero]; rfl) (by kernel_rfl) (by kernel_rfl) (by kernel_rfl) (fun _ _ _ h => h) (Or.inr ⟨by rfl, rfl⟩) (by assumption) ?_; try simp only [Act.put, List.setIfInBounds_toArray, List.set_cons_zero, List.set_cons_succ])
    | (refine wpAnyH_take (i := 22) (v := ?_) (by simp only [List.getElem?_toArray, List.getElem?_cons_succ, List.getElem?_cons_zero]; rfl) (by kernel_rfl) (by kernel_rfl) (by kernel_rfl) (fun _ _ _ h => h) (Or.inl ⟨by rfl, ?_⟩) (by assumption) ?_
       rotate_left
       · (intro ww hSw; (try dsimp only at hSw); go_simp; (try with_reducible rfl))
       try simp only [Act.put, List.setIfInBounds_toArray, List.set_cons_zero, List.set_cons_succ])
    | (refine wpAnyH_ready (rs := [22]) (by kernel_rfl) (by simp) (AllReadyH.cons (by simp only [List.getElem?_toArray, List.getElem?_cons_succ, List.getElem?_cons_zero]; rfl) (fun K hK => ?_) AllReadyH.nil)
       go_simp
       first
         | (go_at_call 12; (with_reducible refine (rmay_any _ _ _ _ _ _ (H1.out.below hHeld.1 (Nat.le_refl _)) (H2.out.below hHeld.1 (Nat.le_refl _))).mono ?_); rintro e w1 ⟨rfl, hb⟩; have HCB := Lib.hid hb; clear hb; rw [HV.out])
         | (go_at_call 13; (with_reducible refine (rrefmay_any _ _ _ _ _ _ (H1.out.below hHeld.1 (Nat.le_refl _)) (H2.out.below hHeld.1 (Nat.le_refl _))).mono ?_); rintro e w1 ⟨rfl, hb⟩; have HCB := Lib.hid hb; clear hb; rw [HV.out])
         | (go_at_call 14; (with_reducible refine (rsame_any _ _ _ _ _ _ _ _ _ _ _ (H1.out.below hHeld.1 (Nat.le_refl _)) (H2.out.below hHeld.1 (Nat.le_refl _)) (H3.out.below hHeld.1 (Nat.le_refl _)) (H4.out.below hHeld.1 (Nat.le_refl _))).mono ?_); rintro e w1 ⟨rfl, hb⟩; have HCB := Lib.hid hb; clear hb; rw [HU.out])
         | (go_at_call 15; (with_reducible refine (rrefsame_any _ _ _ _ _ _ _ _ _ _ _ (H1.out.below hHeld.1 (Nat.le_refl _)) (H2.out.below hHeld.1 (Nat.le_refl _)) (H3.out.below hHeld.1 (Nat.le_refl _)) (H4.out.below hHeld.1 (Nat.le_refl _))).mono ?_); rintro e w1 ⟨rfl, hb⟩; have HCB := Lib.hid hb; clear hb; rw [HU.out])
       try go_wp2_with fail
       refine hK.out _ _ (by (first | (exact S5.out) | (exact TwoS.call hHeld HCB.out))) (fun hHeld => ?_)
       clear hK K
       try simp only [Act.put, List.setIfInBounds_toArray, List.set_cons_zero, List.set_cons_succ])
  first
    | (refine wpAnyH_take (i := 23) (v := undef) (by simp only [List.getElem?_toArray, List.getElem?_cons_succ, List.getElem?_cons_zero]; rfl) (by kernel_rfl) (by kernel_rfl) (by kernel_rfl) (fun _ _ _ h => h) (Or.inr ⟨by rfl, rfl⟩) (by assumption) ?_; try simp only [Act.put, List.setIfInBounds_toArray, List.set_cons_zero, List.set_cons_succ])
    | (refine wpAnyH_take (i := 23) (v := ?_) (by simp only [List.getElem?_toArray, List.getElem?_cons_succ, List.getElem?_cons_zero]; rfl) (by kernel_rfl) (by kernel_rfl) (by kernel_rfl) (fun _ _ _ h => h) (Or.inl ⟨by rfl, ?_⟩) (by assumption) ?_
       rotate_left
       · (intro ww hSw; (try dsimp only at hSw); go_simp; (try with_reducible rfl))
       try simp only [Act.put, List.setIfInBounds_toArray, List.set_cons_zero, List.set_cons_succ])
    | (refine wpAnyH_ready (rs := [23]) (by kernel_rfl) (by simp) (AllReadyH.cons (by simp only [List.getElem?_toArray, List.getElem?_cons_succ, List.getElem?_cons_zero]; rfl) (fun K hK => ?_) AllReadyH.nil)
       go_simp
       first
         | (go_at_call 12; (with_reducible refine (rmay_any _ _ _ _ _ _ (H1.out.below hHeld.1 (Nat.le_refl _)) (H2.out.below hHeld.1 (Nat.le_refl _))).mono ?_); rintro e w1 ⟨rfl, hb⟩; have HCB := Lib.hid hb; clear hb; rw [HV.out])
         | (go_at_call 13; (with_reducible refine (rrefmay_any _ _ _ _ _ _ (H1.out.below hHeld.1 (Nat.le_refl _)) (H2.out.below hHeld.1 (Nat.le_refl _))).mono ?_); rintro e w1 ⟨rfl, hb⟩; have HCB := Lib.hid hb; clear hb; rw [HV.out])
         | (go_at_call 14; (with_reducible refine (rsame_any _ _ _ _ _ _ _ _ _ _ _ (H1.out.below hHeld.1 (Nat.le_refl _)) (H2.out.below hHeld.1 (Nat.le_refl _)) (H3.out.below hHeld.1 (Nat.le_refl _)) (H4.out.below hHeld.1 (Nat.le_refl _))).mono ?_); rintro e w1 ⟨rfl, hb⟩; have HCB := Lib.hid hb; clear hb; rw [HU.out])
         | (go_at_call 15; (with_reducible refine (rrefsame_any _ _ _ _ _ _ _ _ _ _ _ (H1.out.below hHeld.1 (Nat.le_refl _)) (H2.out.below hHeld.1 (Nat.le_refl _)) (H3.out.below hHeld.1 (Nat.le_refl _)) (H4.out.below hHeld.1 (Nat.le_refl _))).mono ?_); rintro e w1 ⟨rfl, hb⟩; have HCB := Lib.hid hb; clear hb; rw [HU.out])
       try go_wp2_with fail
       refine hK.out _ _ (by (first | (exact S5.out) | (exact TwoS.call hHeld HCB.out))) (fun hHeld => ?_)
       clear hK K
       try simp only [Act.put, List.setIfInBounds_toArray, List.set_cons_zero, List.set_cons_succ])
  first
    | (refine wpAnyH_take (i := 24) (v := undef) (by simp only [List.getElem?_toArray, List.getElem?_cons_succ, List.getElem?_cons_zero]; rfl) (by kernel_rfl) (by kernel_rfl) (by kernel_rfl) (fun _ _ _ h => h) (Or.inr ⟨by rfl, rfl⟩) (by assumption) ?_; try simp only [Act.put, List.setIfInBounds_toArray, List.set_cons_zero, List.set_cons_succ])
    | (refine wpAnyH_take (i := 24) (v := ?_) (by simp only [List.getElem?_toArray, List.getElem?_cons_succ, List.getElem?_cons_zero]; rfl) (by kernel_rfl) (by kernel_rfl) (by kernel_rfl) (fun _ _ _ h => h) (Or.inl ⟨by rfl, ?_⟩) (by assumption) ?_
       rotate_left
       · (intro ww hSw; (try dsimp only at hSw); go_simp; (try with_reducible rfl))
       try simp only [Act.put, List.setIfInBounds_toArray, List.set_cons_zero, List.set_cons_succ])
    | (refine wpAnyH_ready (rs := [24]) (by kernel_rfl) (by simp) (AllReadyH.cons (by simp only [List.getElem?_toArray, List.getElem?_cons_succ, List.getElem?_cons_zero]; rfl) (fun K hK => ?_) AllReadyH.nil)
       go_simp
       first
         | (go_at_call 12; (with_reducible refine (rmay_any _ _ _ _ _ _ (H1.out.below hHeld.1 (Nat.le_refl _)) (H2.out.below hHeld.1 (Nat.le_refl _))).mono ?_); rintro e w1 ⟨rfl, hb⟩; have HCB := Lib.hid hb; clear hb; rw [HV.out])
         | (go_at_call 13; (with_reducible refine (rrefmay_any _ _ _ _ _ _ (H1.out.below hHeld.1 (Nat.le_refl _)) (H2.out.below hHeld.1 (Nat.le_refl _))).mono ?_); rintro e w1 ⟨rfl, hb⟩; have HCB := Lib.hid hb; clear hb; rw [HV.out])
         | (go_at_call 14; (with_reducible refine (rsame_any _ _ _ _ _ _ _ _ _ _ _ (H1.out.below hHeld.1 (Nat.le_refl _)) (H2.out.below hHeld.1 (Nat.le_refl _)) (H3.out.below hHeld.1 (Nat.le_refl _)) (H4.out.below hHeld.1 (Nat.le_refl _))).mono ?_); rintro e w1 ⟨rfl, hb⟩; have HCB := Lib.hid hb; clear hb; rw [HU.out])
         | (go_at_call 15; (with_reducible refine (rrefsame_any _ _ _ _ _ _ _ _ _ _ _ (H1.out.below hHeld.1 (Nat.le_refl _)) (H2.out.below hHeld.1 (Nat.le_refl _)) (H3.out.below hHeld.1 (Nat.le_refl _)) (H4.out.below hHeld.1 (Nat.le_refl _))).mono ?_); rintro e w1 ⟨rfl, hb⟩; have HCB := Lib.hid hb; clear hb; rw [HU.out])
       try go_wp2_with fail
       refine hK.out _ _ (by (first | (exact S5.out) | (exact TwoS.call hHeld HCB.out))) (fun hHeld => ?_)
       clear hK K
       try simp only [Act.put, List.setIfInBounds_toArray, List.set_cons_zero, List.set_cons_succ])
  refine wpAnyH_done (by kernel_rfl) ?_ _
  refine NoPanic.normal ?_
  have hB := Lib.hid (show Below w.heap.size w _ from (by assumption : TwoS _ _ _ _).1)
  go_wp2_with fail
  go_ret
  exact ⟨rfl, hB.out⟩
theorem rputs_else (c d : Rp) (ga wa gb wb : Option Addr) (gc wc gcb wcb : Nat) (w : World) (h1 : IntsAt w ga c.players) (h2 : SnsAt w wa c.items) (h3 : IntsAt w gb d.players) (h4 : SnsAt w wb d.items)
    (ht : RTabs w) (f : rfewB c = false ∨ rfewB d = false) :
    Calls Tryd.prog 3 #[.agg #[.int .i64 c.err, .int .i64 c.kind, .int .i64 c.room, .slice ga c.players.length gc, .slice wa c.items.length wc, .int .i64 c.coins], .agg #[.int .i64 d.err, .int .i64 d.kind, .int .i64 d.room, .slice gb d.players.length gcb, .slice wb d.items.length wcb, .int .i64 d.coins]] w fun e w' => e = .returned (.bool true) ∧ Below w.heap.size w w' := by
  have HT := Lib.hid ht
  have P0 := Lib.hid (TwoR.start (gc := gc) (wc := wc) (gcb := gcb) (wcb := wcb) h1 h2 h3 h4)
  clear ht h1 h2 h3 h4
  cases f1 : rfewB c
  · have F1 := Lib.hid f1
    clear f f1
    go_enter Tryd.func3, Tryd.ntmps3
    go_wp2_with fail
    refine (rawake_any _ (HT.out.call P0.out.1)).mono ?_
    rintro e w1 ⟨rfl, b1⟩
    have P1 := Lib.hid (P0.out.call b1)
    have hA := P1.out.2.1.1.cell
    clear b1 P0
    go_wp2_with fail
    refine (rfew_any _ _ _ _ _ _ P1.out.2.1.2.1 P1.out.2.1.2.2).mono ?_
    rintro e w2 ⟨rfl, b2⟩
    rw [F1.out]
    have PX := Lib.hid (P1.out.call b2)
    clear b2 P1 hA
    go_wp2_with fail
    refine (rawake_any _ (HT.out.call PX.out.1)).mono ?_
    rintro e w9 ⟨rfl, b9⟩
    have P9 := Lib.hid (PX.out.call b9)
    clear b9
    go_wp2_with fail
    go_ret
    exact ⟨rfl, P9.out.1⟩
  · have F1 := Lib.hid f1
    have F2 := Lib.hid (show rfewB d = false by rw [f1] at f; rcases f with f | f <;> first | exact f | cases f)
    clear f f1
    go_enter Tryd.func3, Tryd.ntmps3
    go_wp2_with fail
    refine (rawake_any _ (HT.out.call P0.out.1)).mono ?_
    rintro e w1 ⟨rfl, b1⟩
    have P1 := Lib.hid (P0.out.call b1)
    have hA := P1.out.2.1.1.cell
    clear b1 P0
    go_wp2_with fail
    refine (rfew_any _ _ _ _ _ _ P1.out.2.1.2.1 P1.out.2.1.2.2).mono ?_
    rintro e w2 ⟨rfl, b2⟩
    rw [F1.out]
    have P2 := Lib.hid (P1.out.call b2)
    clear b2 P1 hA
    have hB := P2.out.2.2.1.cell
    go_wp2_with fail
    refine (rfew_any _ _ _ _ _ _ P2.out.2.2.2.1 P2.out.2.2.2.2).mono ?_
    rintro e w3 ⟨rfl, b3⟩
    rw [F2.out]
    have PX := Lib.hid (P2.out.call b3)
    clear b3 P2 hB
    go_wp2_with fail
    refine (rawake_any _ (HT.out.call PX.out.1)).mono ?_
    rintro e w9 ⟨rfl, b9⟩
    have P9 := Lib.hid (PX.out.call b9)
    clear b9
    go_wp2_with fail
    go_ret
    exact ⟨rfl, P9.out.1⟩
theorem walk_replyPuts (c : Rp) (ga wa : Option Addr) (gc wc : Nat) (d : Rp) (gb wb : Option Addr) (gcb wcb : Nat) (w : World) (h1 : IntsAt w ga c.players) (h2 : SnsAt w wa c.items) (_ : c.players.length ≤ gc ∧ c.items.length ≤ wc) (h3 : IntsAt w gb d.players) (h4 : SnsAt w wb d.items) (_ : d.players.length ≤ gcb ∧ d.items.length ≤ wcb) (hk : KTab w) (hp : PTab w) (ht : Tab w) :
    Calls Tryd.prog 3 #[.agg #[.int .i64 c.err, .int .i64 c.kind, .int .i64 c.room, .slice ga c.players.length gc, .slice wa c.items.length wc, .int .i64 c.coins], .agg #[.int .i64 d.err, .int .i64 d.kind, .int .i64 d.room, .slice gb d.players.length gcb, .slice wb d.items.length wcb, .int .i64 d.coins]] w fun e w' => e = .returned (.bool true) ∧ Below w.heap.size w w' := by
  have HT : RTabs w := ⟨hk, hp, ht⟩
  cases f1 : rfewB c
  · exact rputs_else c d ga wa gb wb gc wc gcb wcb w h1 h2 h3 h4 HT (.inl f1)
  · cases f2 : rfewB d
    · exact rputs_else c d ga wa gb wb gc wc gcb wcb w h1 h2 h3 h4 HT (.inr f2)
    · exact rputs_go c d ga wa gb wb gc wc gcb wcb w h1 h2 h3 h4 HT f1 f2
set_option maxRecDepth 100000 in
theorem lifted_replyPuts (os : Os) (started : os.Started) (H : Type) (enc : TypeId × Value → H) :
    ReturnsInHanded {} Tryd.checked os 3 .any (fun w args => (Rows.replyPutsSpec.pre enc Tryd.prog Tryd.f3 [] false w args ∧ laidMetH Tryd.prog Rows.replyPutsRow.laid w) ∧ sizedMet enc Tryd.prog Tryd.f3 (OpenSpec.ofChange Rows.replyPutsSpec) false w args) (Rows.replyPutsSpec.post enc Tryd.prog Tryd.f3 false true false false) := by
  refine returnsInHanded_of_change_and (C := Tryd.checked) (X := fun w _ => laidMetH Tryd.prog Rows.replyPutsRow.laid w) (fun _ _ _ hh h => h.of_heap hh) (by kernel_rfl) started (by kernel_rfl) Tryd.func3
    (ChangeSpec.witness_shaped (enc := enc) (C := Tryd.checked) (os := os) (X := fun w _ => laidMetH Tryd.prog Rows.replyPutsRow.laid w) false (World.laidAll Tryd.prog os Rows.replyPutsRow.laid) #[.agg #[.int .i64 0, .int .i64 0, .int .i64 0, .slice none 0 0, .slice none 0 0, .int .i64 0], .agg #[.int .i64 0, .int .i64 0, .int .i64 0, .slice none 0 0, .slice none 0 0, .int .i64 0]] 8 (World.laidAll_os _ _ _)
      (World.shaped_of_ZipB (by kernel_rfl) (by kernel_rfl)) (by kernel_rfl) (by kernel_rfl) (by kernel_rfl)
      (by rw [MakeChecks.laidMetH_plain _ _ _ (by kernel_rfl)]; exact laidMet_laidAll _ (by kernel_rfl) (by kernel_rfl))) ?_
  intro W base args ds gs before hval0 hW hcnd hsized hL _
  have hval : ∀ (j : Nat) t v, Tryd.f3.params[j]? = some t → args[j]? = some v → Value.okWide Tryd.prog W .any base t v := hval0
  have hW' := hW
  obtain ⟨p, q, hA0, hV, rfl, hfz, hnd⟩ := hW
  have hA : DataW.TrodAll enc Tryd.prog W 0 (fun _ => true) true Tryd.f3.params.toList args.toList ds p := hA0
  rw [Tryd.params3] at hA hval
  obtain ⟨v0, vs0, d0, ds0, p0, q0, hargs, rfl, rfl, h0, r0⟩ := trodAll_cons hA
  obtain ⟨v1, vs1, d1, ds1, p1, q1, rfl, rfl, rfl, h1, r1⟩ := trodAll_cons r0
  obtain ⟨rfl, rfl, rfl⟩ := trodAll_nil r1
  obtain rfl : args = #[v0, v1] := by cases args; simp_all
  obtain ⟨rfl, rfl⟩ := trodVars_none hV
  obtain ⟨c0, ga0, wa0, gc0, wc0, rfl, m0, u0, g0⟩ := read_rep (hval 0 26 v0 rfl rfl) h0
  obtain ⟨c1, ga1, wa1, gc1, wc1, rfl, m1, u1, g1⟩ := read_rep (hval 1 26 v1 rfl rfl) h1
  clear hA0 hval0
  simp only [List.append_nil] at hW'
  rw [MakeChecks.laidMetH_plain _ _ _ (by kernel_rfl)] at hL
  have fKTab := KTab_laid W (hL.tail.tail.tail.tail)
  have fPTab := PTab_laid W (hL.tail.tail.tail.tail.tail)
  have fTab := Tab_laid W (hL.tail.tail)
  refine (walk_replyPuts c0 ga0 wa0 gc0 wc0 c1 ga1 wa1 gc1 wc1 W m0 u0 g0 m1 u1 g1 fKTab fPTab fTab).mono fun e W' ⟨he, hg⟩ => ?_
  subst he
  exact ⟨_, rfl, law_post (by kernel_rfl) rfl (by rw [Tryd.params3]; decide +kernel) rfl rfl Tryd.underlying4 hW' hg⟩

theorem row_replyPuts : Rows.ReplyPutsSaid :=
  OpenClaim.holds_of_wide 3 Tryd.f3 rfl rfl rfl rfl rfl rfl rfl ⟨rfl, rfl, rfl, rfl, rfl⟩ rfl rfl rfl rfl rfl (by kernel_rfl) Tryd.func3 (by kernel_rfl)
    (of_decide_eq_true (by kernel_rfl)) (by unfold Func.isWrapper; first | (rw [if_pos (by decide +kernel)]; kernel_rfl) | (rw [if_neg (by decide +kernel)]; exact ⟨rfl, rfl⟩))
    (fun os started H enc _ => lifted_replyPuts os started H enc)
/-- ████ THE STATEMENT ████ -/
theorem proved_replyPuts : Rows.ReplyPutsCardSaid :=
  Claim7.holds_tied_plain_at .later [] Rows.replyPutsCard.laidKinds true Rows.replyPutsCard.stood.harness false row_replyPuts (fun _ h => by cases h) (by kernel_rfl) (fun _ h => by cases h) replyPuts_row_tie rfl ⟨rfl, rfl⟩ (by kernel_rfl) rfl
    (fun f fn hf hfn => by
      obtain rfl : f = 3 := Option.some.inj ((show Tryd.prog.funcNamed "innkeep/innkeeplaw05.ReplyPuts" = some 3 by kernel_rfl).symm.trans hf) |>.symm
      obtain rfl : fn = Tryd.f3 := (Option.some.inj (Tryd.func3.symm.trans hfn)).symm
      exact ⟨by kernel_rfl, fun j t ht => by
        rw [Tryd.params3] at ht
        have hm : t ∈ [26, 26] := by simpa using Array.mem_of_getElem? ht
        have hall : ([26, 26].all fun u => !Tryd.prog.wantsStandIn u) = true := by kernel_rfl
        exact (show Tryd.prog.wantsStandIn t = false by simpa using List.all_eq_true.1 hall t hm)⟩)
    (by kernel_rfl)
#print axioms proved_replyPuts
end Go.Proofs.YtcabeagmdfpdlaaDoor
