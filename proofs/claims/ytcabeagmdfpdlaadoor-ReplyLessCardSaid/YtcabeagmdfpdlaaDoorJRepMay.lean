import Derived.Test.YtcabeagmdfpdlaaDoorRows
import Derived.Test.YtcabeagmdfpdlaaDoorKit
import Derived.Test.YtcabeagmdfpdlaaDoorStrs
import Derived.Test.YtcabeagmdfpdlaaDoorJMath
import Derived.Test.YtcabeagmdfpdlaaDoorJRepMath
import Derived.Test.YtcabeagmdfpdlaaDoorJRepItems
import Derived.Test.YtcabeagmdfpdlaaDoorJRepA
import Derived.Test.YtcabeagmdfpdlaaDoorJRepSame
import Derived.Test.YtcabeagmdfpdlaaDoorJRepOwn
import Derived.Test.YtcabeagmdfpdlaaDoorJTab
import Derived.Deep.QuietTactic
import Derived.BigQuiet
import Derived.Deep.RegionHeld3
import Derived.WalkKit
import Derived.ProofKit
import Derived.OpenShut
import Derived.IntWalk
/- reply: May: may an answer be? By the code. -/
namespace Go.Proofs.YtcabeagmdfpdlaaDoor
open Go.ChangeShapes Go.WideShapes Go.ChangeAt Go.RowKit
set_option linter.unusedVariables false
open Go.RowKit
set_option maxRecDepth 100000 in
theorem rmay_no (m c : Int) (ps : List Int) (is : List Sn) (pa ia : Option Addr) (pc ic : Nat) (w : World) :
    Calls Tryd.prog 12 #[.agg #[.int .i64 0, .int .i64 0, .int .i64 m, .slice pa ps.length pc, .slice ia is.length ic, .int .i64 c]] w fun e w' => e = .returned (.bool false) ∧ Below w.heap.size w w' := by
  go_enter Tryd.func12, Tryd.ntmps12
  go_wp2_with fail
  refine wp_region_noPanic ?_
  refine wp_region_held_drew (S := (fun w' => Below w.heap.size w w' ∧ w.heap.size < w'.heap.size ∧ ∀ i, w'.cell? ⟨w.heap.size, i, none⟩ = (#[.int .i64 0, .int .i64 0, .int .i64 m, .slice pa ps.length pc, .slice ia is.length ic, .int .i64 c][i]? : Option Value))) (by kernel_rfl) (by (first | (exact (Holds.new _ _ _).drew) | (exact hHeld))) (fun hHeld => ?_)
  first
    | (refine wpAnyH_take (i := 0) (v := undef) (by simp only [List.getElem?_toArray, List.getElem?_cons_zero]; rfl) (by kernel_rfl) (by kernel_rfl) (by kernel_rfl) (fun _ _ _ h => h) (Or.inr ⟨by rfl, rfl⟩) (by assumption) ?_; try simp only [Act.put, List.setIfInBounds_toArray, List.set_cons_zero, List.set_cons_succ])
    | (refine wpAnyH_take (i := 0) (v := ?_) (by simp only [List.getElem?_toArray, List.getElem?_cons_zero]; rfl) (by kernel_rfl) (by kernel_rfl) (by kernel_rfl) (fun _ _ _ h => h) (Or.inl ⟨by rfl, ?_⟩) (by assumption) ?_
       rotate_left
       · (intro ww hSw; (try dsimp only at hSw); go_simp; (try with_reducible rfl))
       try simp only [Act.put, List.setIfInBounds_toArray, List.set_cons_zero, List.set_cons_succ])
    | (refine wpAnyH_ready (rs := [0]) (by kernel_rfl) (by simp) (AllReadyH.cons (by simp only [List.getElem?_toArray, List.getElem?_cons_succ, List.getElem?_cons_zero]; rfl) (fun K hK => ?_) AllReadyH.nil)
       go_simp
       first
         | (fail)
       try go_wp2_with fail
       refine hK.out _ _ (by (first | (exact (Holds.new _ _ _).drew) | (exact hHeld))) (fun hHeld => ?_)
       clear hK K
       try simp only [Act.put, List.setIfInBounds_toArray, List.set_cons_zero, List.set_cons_succ])
  first
    | (refine wpAnyH_take (i := 1) (v := undef) (by simp only [List.getElem?_toArray, List.getElem?_cons_succ, List.getElem?_cons_zero]; rfl) (by kernel_rfl) (by kernel_rfl) (by kernel_rfl) (fun _ _ _ h => h) (Or.inr ⟨by rfl, rfl⟩) (by assumption) ?_; try simp only [Act.put, List.setIfInBounds_toArray, List.set_cons_zero, List.set_cons_succ])
    | (refine wpAnyH_take (i := 1) (v := ?_) (by simp only [List.getElem?_toArray, List.getElem?_cons_succ, List.getElem?_cons_zero]; rfl) (by kernel_rfl) (by kernel_rfl) (by kernel_rfl) (fun _ _ _ h => h) (Or.inl ⟨by rfl, ?_⟩) (by assumption) ?_
       rotate_left
       · (intro ww hSw; (try dsimp only at hSw); go_simp; (try with_reducible rfl))
       try simp only [Act.put, List.setIfInBounds_toArray, List.set_cons_zero, List.set_cons_succ])
    | (refine wpAnyH_ready (rs := [1]) (by kernel_rfl) (by simp) (AllReadyH.cons (by simp only [List.getElem?_toArray, List.getElem?_cons_succ, List.getElem?_cons_zero]; rfl) (fun K hK => ?_) AllReadyH.nil)
       go_simp
       first
         | (fail)
       try go_wp2_with fail
       refine hK.out _ _ (by (first | (exact (Holds.new _ _ _).drew) | (exact hHeld))) (fun hHeld => ?_)
       clear hK K
       try simp only [Act.put, List.setIfInBounds_toArray, List.set_cons_zero, List.set_cons_succ])
  first
    | (refine wpAnyH_take (i := 2) (v := undef) (by simp only [List.getElem?_toArray, List.getElem?_cons_succ, List.getElem?_cons_zero]; rfl) (by kernel_rfl) (by kernel_rfl) (by kernel_rfl) (fun _ _ _ h => h) (Or.inr ⟨by rfl, rfl⟩) (by assumption) ?_; try simp only [Act.put, List.setIfInBounds_toArray, List.set_cons_zero, List.set_cons_succ])
    | (refine wpAnyH_take (i := 2) (v := ?_) (by simp only [List.getElem?_toArray, List.getElem?_cons_succ, List.getElem?_cons_zero]; rfl) (by kernel_rfl) (by kernel_rfl) (by kernel_rfl) (fun _ _ _ h => h) (Or.inl ⟨by rfl, ?_⟩) (by assumption) ?_
       rotate_left
       · (intro ww hSw; (try dsimp only at hSw); go_simp; (try with_reducible rfl))
       try simp only [Act.put, List.setIfInBounds_toArray, List.set_cons_zero, List.set_cons_succ])
    | (refine wpAnyH_ready (rs := [2]) (by kernel_rfl) (by simp) (AllReadyH.cons (by simp only [List.getElem?_toArray, List.getElem?_cons_succ, List.getElem?_cons_zero]; rfl) (fun K hK => ?_) AllReadyH.nil)
       go_simp
       first
         | (fail)
       try go_wp2_with fail
       refine hK.out _ _ (by (first | (exact (Holds.new _ _ _).drew) | (exact hHeld))) (fun hHeld => ?_)
       clear hK K
       try simp only [Act.put, List.setIfInBounds_toArray, List.set_cons_zero, List.set_cons_succ])
  first
    | (refine wpAnyH_take (i := 3) (v := undef) (by simp only [List.getElem?_toArray, List.getElem?_cons_succ, List.getElem?_cons_zero]; rfl) (by kernel_rfl) (by kernel_rfl) (by kernel_rfl) (fun _ _ _ h => h) (Or.inr ⟨by rfl, rfl⟩) (by assumption) ?_; try simp only [Act.put, List.setIfInBounds_toArray, List.set_cons_zero, List.set_cons_succ])
    | (refine wpAnyH_take (i := 3) (v := ?_) (by simp only [List.getElem?_toArray, List.getElem?_cons_succ, List.getElem?_cons_zero]; rfl) (by kernel_rfl) (by kernel_rfl) (by kernel_rfl) (fun _ _ _ h => h) (Or.inl ⟨by rfl, ?_⟩) (by assumption) ?_
       rotate_left
       · (intro ww hSw; (try dsimp only at hSw); go_simp; (try with_reducible rfl))
       try simp only [Act.put, List.setIfInBounds_toArray, List.set_cons_zero, List.set_cons_succ])
    | (refine wpAnyH_ready (rs := [3]) (by kernel_rfl) (by simp) (AllReadyH.cons (by simp only [List.getElem?_toArray, List.getElem?_cons_succ, List.getElem?_cons_zero]; rfl) (fun K hK => ?_) AllReadyH.nil)
       go_simp
       first
         | (fail)
       try go_wp2_with fail
       refine hK.out _ _ (by (first | (exact (Holds.new _ _ _).drew) | (exact hHeld))) (fun hHeld => ?_)
       clear hK K
       try simp only [Act.put, List.setIfInBounds_toArray, List.set_cons_zero, List.set_cons_succ])
  first
    | (refine wpAnyH_take (i := 4) (v := undef) (by simp only [List.getElem?_toArray, List.getElem?_cons_succ, List.getElem?_cons_zero]; rfl) (by kernel_rfl) (by kernel_rfl) (by kernel_rfl) (fun _ _ _ h => h) (Or.inr ⟨by rfl, rfl⟩) (by assumption) ?_; try simp only [Act.put, List.setIfInBounds_toArray, List.set_cons_zero, List.set_cons_succ])
    | (refine wpAnyH_take (i := 4) (v := ?_) (by simp only [List.getElem?_toArray, List.getElem?_cons_succ, List.getElem?_cons_zero]; rfl) (by kernel_rfl) (by kernel_rfl) (by kernel_rfl) (fun _ _ _ h => h) (Or.inl ⟨by rfl, ?_⟩) (by assumption) ?_
       rotate_left
       · (intro ww hSw; (try dsimp only at hSw); go_simp; (try with_reducible rfl))
       try simp only [Act.put, List.setIfInBounds_toArray, List.set_cons_zero, List.set_cons_succ])
    | (refine wpAnyH_ready (rs := [4]) (by kernel_rfl) (by simp) (AllReadyH.cons (by simp only [List.getElem?_toArray, List.getElem?_cons_succ, List.getElem?_cons_zero]; rfl) (fun K hK => ?_) AllReadyH.nil)
       go_simp
       first
         | (fail)
       try go_wp2_with fail
       refine hK.out _ _ (by (first | (exact (Holds.new _ _ _).drew) | (exact hHeld))) (fun hHeld => ?_)
       clear hK K
       try simp only [Act.put, List.setIfInBounds_toArray, List.set_cons_zero, List.set_cons_succ])
  first
    | (refine wpAnyH_take (i := 5) (v := undef) (by simp only [List.getElem?_toArray, List.getElem?_cons_succ, List.getElem?_cons_zero]; rfl) (by kernel_rfl) (by kernel_rfl) (by kernel_rfl) (fun _ _ _ h => h) (Or.inr ⟨by rfl, rfl⟩) (by assumption) ?_; try simp only [Act.put, List.setIfInBounds_toArray, List.set_cons_zero, List.set_cons_succ])
    | (refine wpAnyH_take (i := 5) (v := ?_) (by simp only [List.getElem?_toArray, List.getElem?_cons_succ, List.getElem?_cons_zero]; rfl) (by kernel_rfl) (by kernel_rfl) (by kernel_rfl) (fun _ _ _ h => h) (Or.inl ⟨by rfl, ?_⟩) (by assumption) ?_
       rotate_left
       · (intro ww hSw; (try dsimp only at hSw); go_simp; (try with_reducible rfl))
       try simp only [Act.put, List.setIfInBounds_toArray, List.set_cons_zero, List.set_cons_succ])
    | (refine wpAnyH_ready (rs := [5]) (by kernel_rfl) (by simp) (AllReadyH.cons (by simp only [List.getElem?_toArray, List.getElem?_cons_succ, List.getElem?_cons_zero]; rfl) (fun K hK => ?_) AllReadyH.nil)
       go_simp
       first
         | (fail)
       try go_wp2_with fail
       refine hK.out _ _ (by (first | (exact (Holds.new _ _ _).drew) | (exact hHeld))) (fun hHeld => ?_)
       clear hK K
       try simp only [Act.put, List.setIfInBounds_toArray, List.set_cons_zero, List.set_cons_succ])
  first
    | (refine wpAnyH_take (i := 6) (v := undef) (by simp only [List.getElem?_toArray, List.getElem?_cons_succ, List.getElem?_cons_zero]; rfl) (by kernel_rfl) (by kernel_rfl) (by kernel_rfl) (fun _ _ _ h => h) (Or.inr ⟨by rfl, rfl⟩) (by assumption) ?_; try simp only [Act.put, List.setIfInBounds_toArray, List.set_cons_zero, List.set_cons_succ])
    | (refine wpAnyH_take (i := 6) (v := ?_) (by simp only [List.getElem?_toArray, List.getElem?_cons_succ, List.getElem?_cons_zero]; rfl) (by kernel_rfl) (by kernel_rfl) (by kernel_rfl) (fun _ _ _ h => h) (Or.inl ⟨by rfl, ?_⟩) (by assumption) ?_
       rotate_left
       · (intro ww hSw; (try dsimp only at hSw); go_simp; (try with_reducible rfl))
       try simp only [Act.put, List.setIfInBounds_toArray, List.set_cons_zero, List.set_cons_succ])
    | (refine wpAnyH_ready (rs := [6]) (by kernel_rfl) (by simp) (AllReadyH.cons (by simp only [List.getElem?_toArray, List.getElem?_cons_succ, List.getElem?_cons_zero]; rfl) (fun K hK => ?_) AllReadyH.nil)
       go_simp
       first
         | (fail)
       try go_wp2_with fail
       refine hK.out _ _ (by (first | (exact (Holds.new _ _ _).drew) | (exact hHeld))) (fun hHeld => ?_)
       clear hK K
       try simp only [Act.put, List.setIfInBounds_toArray, List.set_cons_zero, List.set_cons_succ])
  first
    | (refine wpAnyH_take (i := 7) (v := undef) (by simp only [List.getElem?_toArray, List.getElem?_cons_succ, List.getElem?_cons_zero]; rfl) (by kernel_rfl) (by kernel_rfl) (by kernel_rfl) (fun _ _ _ h => h) (Or.inr ⟨by rfl, rfl⟩) (by assumption) ?_; try simp only [Act.put, List.setIfInBounds_toArray, List.set_cons_zero, List.set_cons_succ])
    | (refine wpAnyH_take (i := 7) (v := ?_) (by simp only [List.getElem?_toArray, List.getElem?_cons_succ, List.getElem?_cons_zero]; rfl) (by kernel_rfl) (by kernel_rfl) (by kernel_rfl) (fun _ _ _ h => h) (Or.inl ⟨by rfl, ?_⟩) (by assumption) ?_
       rotate_left
       · (intro ww hSw; (try dsimp only at hSw); go_simp; (try with_reducible rfl))
       try simp only [Act.put, List.setIfInBounds_toArray, List.set_cons_zero, List.set_cons_succ])
    | (refine wpAnyH_ready (rs := [7]) (by kernel_rfl) (by simp) (AllReadyH.cons (by simp only [List.getElem?_toArray, List.getElem?_cons_succ, List.getElem?_cons_zero]; rfl) (fun K hK => ?_) AllReadyH.nil)
       go_simp
       first
         | (fail)
       try go_wp2_with fail
       refine hK.out _ _ (by (first | (exact (Holds.new _ _ _).drew) | (exact hHeld))) (fun hHeld => ?_)
       clear hK K
       try simp only [Act.put, List.setIfInBounds_toArray, List.set_cons_zero, List.set_cons_succ])
  first
    | (refine wpAnyH_take (i := 8) (v := undef) (by simp only [List.getElem?_toArray, List.getElem?_cons_succ, List.getElem?_cons_zero]; rfl) (by kernel_rfl) (by kernel_rfl) (by kernel_rfl) (fun _ _ _ h => h) (Or.inr ⟨by rfl, rfl⟩) (by assumption) ?_; try simp only [Act.put, List.setIfInBounds_toArray, List.set_cons_zero, List.set_cons_succ])
    | (refine wpAnyH_take (i := 8) (v := ?_) (by simp only [List.getElem?_toArray, List.getElem?_cons_succ, List.getElem?_cons_zero]; rfl) (by kernel_rfl) (by kernel_rfl) (by kernel_rfl) (fun _ _ _ h => h) (Or.inl ⟨by rfl, ?_⟩) (by assumption) ?_
       rotate_left
       · (intro ww hSw; (try dsimp only at hSw); go_simp; (try with_reducible rfl))
       try simp only [Act.put, List.setIfInBounds_toArray, List.set_cons_zero, List.set_cons_succ])
    | (refine wpAnyH_ready (rs := [8]) (by kernel_rfl) (by simp) (AllReadyH.cons (by simp only [List.getElem?_toArray, List.getElem?_cons_succ, List.getElem?_cons_zero]; rfl) (fun K hK => ?_) AllReadyH.nil)
       go_simp
       first
         | (fail)
       try go_wp2_with fail
       refine hK.out _ _ (by (first | (exact (Holds.new _ _ _).drew) | (exact hHeld))) (fun hHeld => ?_)
       clear hK K
       try simp only [Act.put, List.setIfInBounds_toArray, List.set_cons_zero, List.set_cons_succ])
  first
    | (refine wpAnyH_take (i := 9) (v := undef) (by simp only [List.getElem?_toArray, List.getElem?_cons_succ, List.getElem?_cons_zero]; rfl) (by kernel_rfl) (by kernel_rfl) (by kernel_rfl) (fun _ _ _ h => h) (Or.inr ⟨by rfl, rfl⟩) (by assumption) ?_; try simp only [Act.put, List.setIfInBounds_toArray, List.set_cons_zero, List.set_cons_succ])
    | (refine wpAnyH_take (i := 9) (v := ?_) (by simp only [List.getElem?_toArray, List.getElem?_cons_succ, List.getElem?_cons_zero]; rfl) (by kernel_rfl) (by kernel_rfl) (by kernel_rfl) (fun _ _ _ h => h) (Or.inl ⟨by rfl, ?_⟩) (by assumption) ?_
       rotate_left
       · (intro ww hSw; (try dsimp only at hSw); go_simp; (try with_reducible rfl))
       try simp only [Act.put, List.setIfInBounds_toArray, List.set_cons_zero, List.set_cons_succ])
    | (refine wpAnyH_ready (rs := [9]) (by kernel_rfl) (by simp) (AllReadyH.cons (by simp only [List.getElem?_toArray, List.getElem?_cons_succ, List.getElem?_cons_zero]; rfl) (fun K hK => ?_) AllReadyH.nil)
       go_simp
       first
         | (fail)
       try go_wp2_with fail
       refine hK.out _ _ (by (first | (exact (Holds.new _ _ _).drew) | (exact hHeld))) (fun hHeld => ?_)
       clear hK K
       try simp only [Act.put, List.setIfInBounds_toArray, List.set_cons_zero, List.set_cons_succ])
  first
    | (refine wpAnyH_take (i := 10) (v := undef) (by simp only [List.getElem?_toArray, List.getElem?_cons_succ, List.getElem?_cons_zero]; rfl) (by kernel_rfl) (by kernel_rfl) (by kernel_rfl) (fun _ _ _ h => h) (Or.inr ⟨by rfl, rfl⟩) (by assumption) ?_; try simp only [Act.put, List.setIfInBounds_toArray, List.set_cons_zero, List.set_cons_succ])
    | (refine wpAnyH_take (i := 10) (v := ?_) (by simp only [List.getElem?_toArray, List.getElem?_cons_succ, List.getElem?_cons_zero]; rfl) (by kernel_rfl) (by kernel_rfl) (by kernel_rfl) (fun _ _ _ h => h) (Or.inl ⟨by rfl, ?_⟩) (by assumption) ?_
       rotate_left
       · (intro ww hSw; (try dsimp only at hSw); go_simp; (try with_reducible rfl))
       try simp only [Act.put, List.setIfInBounds_toArray, List.set_cons_zero, List.set_cons_succ])
    | (refine wpAnyH_ready (rs := [10]) (by kernel_rfl) (by simp) (AllReadyH.cons (by simp only [List.getElem?_toArray, List.getElem?_cons_succ, List.getElem?_cons_zero]; rfl) (fun K hK => ?_) AllReadyH.nil)
       go_simp
       first
         | (fail)
       try go_wp2_with fail
       refine hK.out _ _ (by (first | (exact (Holds.new _ _ _).drew) | (exact hHeld))) (fun hHeld => ?_)
       clear hK K
       try simp only [Act.put, List.setIfInBounds_toArray, List.set_cons_zero, List.set_cons_succ])
  first
    | (refine wpAnyH_take (i := 11) (v := undef) (by simp only [List.getElem?_toArray, List.getElem?_cons_succ, List.getElem?_cons_zero]; rfl) (by kernel_rfl) (by kernel_rfl) (by kernel_rfl) (fun _ _ _ h => h) (Or.inr ⟨by rfl, rfl⟩) (by assumption) ?_; try simp only [Act.put, List.setIfInBounds_toArray, List.set_cons_zero, List.set_cons_succ])
    | (refine wpAnyH_take (i := 11) (v := ?_) (by simp only [List.getElem?_toArray, List.getElem?_cons_succ, List.getElem?_cons_zero]; rfl) (by kernel_rfl) (by kernel_rfl) (by kernel_rfl) (fun _ _ _ h => h) (Or.inl ⟨by rfl, ?_⟩) (by assumption) ?_
       rotate_left
       · (intro ww hSw; (try dsimp only at hSw); go_simp; (try with_reducible rfl))
       try simp only [Act.put, List.setIfInBounds_toArray, List.set_cons_zero, List.set_cons_succ])
    | (refine wpAnyH_ready (rs := [11]) (by kernel_rfl) (by simp) (AllReadyH.cons (by simp only [List.getElem?_toArray, List.getElem?_cons_succ, List.getElem?_cons_zero]; rfl) (fun K hK => ?_) AllReadyH.nil)
       go_simp
       first
         | (fail)
       try go_wp2_with fail
       refine hK.out _ _ (by (first | (exact (Holds.new _ _ _).drew) | (exact hHeld))) (fun hHeld => ?_)
       clear hK K
       try simp only [Act.put, List.setIfInBounds_toArray, List.set_cons_zero, List.set_cons_succ])
  refine wpAnyH_done (by kernel_rfl) ?_ _
  refine NoPanic.normal ?_
  have hB := Lib.hid (show Below w.heap.size w _ from (by assumption : Holds _ _ _ _).1)
  go_wp2_with fail
  go_ret
  exact ⟨rfl, hB.out⟩
set_option maxRecDepth 100000 in
theorem rmay_some (v : Bool) (r : Rp) (pa ia : Option Addr) (pc ic : Nat) (w : World) (hs : (r.err != 0) = true ∨ (r.err != 0) = false ∧ (r.kind != 0) = true) (hv : rwithinB r = v) (h1 : IntsAt w pa r.players) (h2 : SnsAt w ia r.items) :
    Calls Tryd.prog 12 #[.agg #[.int .i64 r.err, .int .i64 r.kind, .int .i64 r.room, .slice pa r.players.length pc, .slice ia r.items.length ic, .int .i64 r.coins]] w fun e w' => e = .returned (.bool (v && rsameB r (ownR r))) ∧ Below w.heap.size w w' := by
  have HV := Lib.hid hv
  have H1 := Lib.hid h1
  have H2 := Lib.hid h2
  clear hv h1 h2
  cases v
  all_goals
    rcases hs with hs | ⟨hs, hk⟩
    all_goals
      go_enter Tryd.func12, Tryd.ntmps12
      go_wp2_with fail
      refine wp_region_noPanic ?_
      refine wp_region_held_drew (S := (fun w' => Below w.heap.size w w' ∧ w.heap.size < w'.heap.size ∧ ∀ i, w'.cell? ⟨w.heap.size, i, none⟩ = (#[.int .i64 r.err, .int .i64 r.kind, .int .i64 r.room, .slice pa r.players.length pc, .slice ia r.items.length ic, .int .i64 r.coins][i]? : Option Value))) (by kernel_rfl) (by (first | (exact (Holds.new _ _ _).drew) | (exact Holds.call hHeld hb) | (exact hHeld))) (fun hHeld => ?_)
      first
        | (refine wpAnyH_take (i := 0) (v := undef) (by simp only [List.getElem?_toArray, List.getElem?_cons_zero]; rfl) (by kernel_rfl) (by kernel_rfl) (by kernel_rfl) (fun _ _ _ h => h) (Or.inr ⟨by rfl, rfl⟩) (by assumption) ?_; try simp only [Act.put, List.setIfInBounds_toArray, List.set_cons_zero, List.set_cons_succ])
        | (refine wpAnyH_take (i := 0) (v := ?_) (by simp only [List.getElem?_toArray, List.getElem?_cons_zero]; rfl) (by kernel_rfl) (by kernel_rfl) (by kernel_rfl) (fun _ _ _ h => h) (Or.inl ⟨by rfl, ?_⟩) (by assumption) ?_
           rotate_left
           · (intro ww hSw; (try dsimp only at hSw); go_simp; (try with_reducible rfl))
           try simp only [Act.put, List.setIfInBounds_toArray, List.set_cons_zero, List.set_cons_succ])
        | (refine wpAnyH_ready (rs := [0]) (by kernel_rfl) (by simp) (AllReadyH.cons (by simp only [List.getElem?_toArray, List.getElem?_cons_succ, List.getElem?_cons_zero]; rfl) (fun K hK => ?_) AllReadyH.nil)
           go_simp
           first
             | (go_at_call 22; refine (rwithin_any _ _ _ _ _ _ (H1.out.below hHeld.1 (Nat.le_refl _)) (H2.out.below hHeld.1 (Nat.le_refl _))).mono ?_; rintro e w1 ⟨rfl, hb⟩; rw [HV.out])
             | (go_at_call 23; refine (rown_any _ _ _ _ _ _ (H1.out.below hHeld.1 (Nat.le_refl _)) (H2.out.below hHeld.1 (Nat.le_refl _))).mono ?_; rintro e w1 ⟨g2, gc2, u2, uc2, rfl, hg2, hu2, hb⟩)
             | (go_at_call 14; refine (rsame_any _ _ _ _ _ _ _ _ _ _ _ (H1.out.below hHeld.1 (Nat.le_refl _)) (H2.out.below hHeld.1 (Nat.le_refl _)) hg2 hu2).mono ?_; rintro e w1 ⟨rfl, hb⟩)
           try go_wp2_with fail
           refine hK.out _ _ (by (first | (exact (Holds.new _ _ _).drew) | (exact Holds.call hHeld hb) | (exact hHeld))) (fun hHeld => ?_)
           clear hK K
           try simp only [Act.put, List.setIfInBounds_toArray, List.set_cons_zero, List.set_cons_succ])
      first
        | (refine wpAnyH_take (i := 1) (v := undef) (by simp only [List.getElem?_toArray, List.getElem?_cons_succ, List.getElem?_cons_zero]; rfl) (by kernel_rfl) (by kernel_rfl) (by kernel_rfl) (fun _ _ _ h => h) (Or.inr ⟨by rfl, rfl⟩) (by assumption) ?_; try simp only [Act.put, List.setIfInBounds_toArray, List.set_cons_zero, List.set_cons_succ])
        | (refine wpAnyH_take (i := 1) (v := ?_) (by simp only [List.getElem?_toArray, List.getElem?_cons_succ, List.getElem?_cons_zero]; rfl) (by kernel_rfl) (by kernel_rfl) (by kernel_rfl) (fun _ _ _ h => h) (Or.inl ⟨by rfl, ?_⟩) (by assumption) ?_
           rotate_left
           · (intro ww hSw; (try dsimp only at hSw); go_simp; (try with_reducible rfl))
           try simp only [Act.put, List.setIfInBounds_toArray, List.set_cons_zero, List.set_cons_succ])
        | (refine wpAnyH_ready (rs := [1]) (by kernel_rfl) (by simp) (AllReadyH.cons (by simp only [List.getElem?_toArray, List.getElem?_cons_succ, List.getElem?_cons_zero]; rfl) (fun K hK => ?_) AllReadyH.nil)
           go_simp
           first
             | (go_at_call 22; refine (rwithin_any _ _ _ _ _ _ (H1.out.below hHeld.1 (Nat.le_refl _)) (H2.out.below hHeld.1 (Nat.le_refl _))).mono ?_; rintro e w1 ⟨rfl, hb⟩; rw [HV.out])
             | (go_at_call 23; refine (rown_any _ _ _ _ _ _ (H1.out.below hHeld.1 (Nat.le_refl _)) (H2.out.below hHeld.1 (Nat.le_refl _))).mono ?_; rintro e w1 ⟨g2, gc2, u2, uc2, rfl, hg2, hu2, hb⟩)
             | (go_at_call 14; refine (rsame_any _ _ _ _ _ _ _ _ _ _ _ (H1.out.below hHeld.1 (Nat.le_refl _)) (H2.out.below hHeld.1 (Nat.le_refl _)) hg2 hu2).mono ?_; rintro e w1 ⟨rfl, hb⟩)
           try go_wp2_with fail
           refine hK.out _ _ (by (first | (exact (Holds.new _ _ _).drew) | (exact Holds.call hHeld hb) | (exact hHeld))) (fun hHeld => ?_)
           clear hK K
           try simp only [Act.put, List.setIfInBounds_toArray, List.set_cons_zero, List.set_cons_succ])
      first
        | (refine wpAnyH_take (i := 2) (v := undef) (by simp only [List.getElem?_toArray, List.getElem?_cons_succ, List.getElem?_cons_zero]; rfl) (by kernel_rfl) (by kernel_rfl) (by kernel_rfl) (fun _ _ _ h => h) (Or.inr ⟨by rfl, rfl⟩) (by assumption) ?_; try simp only [Act.put, List.setIfInBounds_toArray, List.set_cons_zero, List.set_cons_succ])
        | (refine wpAnyH_take (i := 2) (v := ?_) (by simp only [List.getElem?_toArray, List.getElem?_cons_succ, List.getElem?_cons_zero]; rfl) (by kernel_rfl) (by kernel_rfl) (by kernel_rfl) (fun _ _ _ h => h) (Or.inl ⟨by rfl, ?_⟩) (by assumption) ?_
           rotate_left
           · (intro ww hSw; (try dsimp only at hSw); go_simp; (try with_reducible rfl))
           try simp only [Act.put, List.setIfInBounds_toArray, List.set_cons_zero, List.set_cons_succ])
        | (refine wpAnyH_ready (rs := [2]) (by kernel_rfl) (by simp) (AllReadyH.cons (by simp only [List.getElem?_toArray, List.getElem?_cons_succ, List.getElem?_cons_zero]; rfl) (fun K hK => ?_) AllReadyH.nil)
           go_simp
           first
             | (go_at_call 22; refine (rwithin_any _ _ _ _ _ _ (H1.out.below hHeld.1 (Nat.le_refl _)) (H2.out.below hHeld.1 (Nat.le_refl _))).mono ?_; rintro e w1 ⟨rfl, hb⟩; rw [HV.out])
             | (go_at_call 23; refine (rown_any _ _ _ _ _ _ (H1.out.below hHeld.1 (Nat.le_refl _)) (H2.out.below hHeld.1 (Nat.le_refl _))).mono ?_; rintro e w1 ⟨g2, gc2, u2, uc2, rfl, hg2, hu2, hb⟩)
             | (go_at_call 14; refine (rsame_any _ _ _ _ _ _ _ _ _ _ _ (H1.out.below hHeld.1 (Nat.le_refl _)) (H2.out.below hHeld.1 (Nat.le_refl _)) hg2 hu2).mono ?_; rintro e w1 ⟨rfl, hb⟩)
           try go_wp2_with fail
           refine hK.out _ _ (by (first | (exact (Holds.new _ _ _).drew) | (exact Holds.call hHeld hb) | (exact hHeld))) (fun hHeld => ?_)
           clear hK K
           try simp only [Act.put, List.setIfInBounds_toArray, List.set_cons_zero, List.set_cons_succ])
      first
        | (refine wpAnyH_take (i := 3) (v := undef) (by simp only [List.getElem?_toArray, List.getElem?_cons_succ, List.getElem?_cons_zero]; rfl) (by kernel_rfl) (by kernel_rfl) (by kernel_rfl) (fun _ _ _ h => h) (Or.inr ⟨by rfl, rfl⟩) (by assumption) ?_; try simp only [Act.put, List.setIfInBounds_toArray, List.set_cons_zero, List.set_cons_succ])
        | (refine wpAnyH_take (i := 3) (v := ?_) (by simp only [List.getElem?_toArray, List.getElem?_cons_succ, List.getElem?_cons_zero]; rfl) (by kernel_rfl) (by kernel_rfl) (by kernel_rfl) (fun _ _ _ h => h) (Or.inl ⟨by rfl, ?_⟩) (by assumption) ?_
           rotate_left
           · (intro ww hSw; (try dsimp only at hSw); go_simp; (try with_reducible rfl))
           try simp only [Act.put, List.setIfInBounds_toArray, List.set_cons_zero, List.set_cons_succ])
        | (refine wpAnyH_ready (rs := [3]) (by kernel_rfl) (by simp) (AllReadyH.cons (by simp only [List.getElem?_toArray, List.getElem?_cons_succ, List.getElem?_cons_zero]; rfl) (fun K hK => ?_) AllReadyH.nil)
           go_simp
           first
             | (go_at_call 22; refine (rwithin_any _ _ _ _ _ _ (H1.out.below hHeld.1 (Nat.le_refl _)) (H2.out.below hHeld.1 (Nat.le_refl _))).mono ?_; rintro e w1 ⟨rfl, hb⟩; rw [HV.out])
             | (go_at_call 23; refine (rown_any _ _ _ _ _ _ (H1.out.below hHeld.1 (Nat.le_refl _)) (H2.out.below hHeld.1 (Nat.le_refl _))).mono ?_; rintro e w1 ⟨g2, gc2, u2, uc2, rfl, hg2, hu2, hb⟩)
             | (go_at_call 14; refine (rsame_any _ _ _ _ _ _ _ _ _ _ _ (H1.out.below hHeld.1 (Nat.le_refl _)) (H2.out.below hHeld.1 (Nat.le_refl _)) hg2 hu2).mono ?_; rintro e w1 ⟨rfl, hb⟩)
           try go_wp2_with fail
           refine hK.out _ _ (by (first | (exact (Holds.new _ _ _).drew) | (exact Holds.call hHeld hb) | (exact hHeld))) (fun hHeld => ?_)
           clear hK K
           try simp only [Act.put, List.setIfInBounds_toArray, List.set_cons_zero, List.set_cons_succ])
      first
        | (refine wpAnyH_take (i := 4) (v := undef) (by simp only [List.getElem?_toArray, List.getElem?_cons_succ, List.getElem?_cons_zero]; rfl) (by kernel_rfl) (by kernel_rfl) (by kernel_rfl) (fun _ _ _ h => h) (Or.inr ⟨by rfl, rfl⟩) (by assumption) ?_; try simp only [Act.put, List.setIfInBounds_toArray, List.set_cons_zero, List.set_cons_succ])
        | (refine wpAnyH_take (i := 4) (v := ?_) (by simp only [List.getElem?_toArray, List.getElem?_cons_succ, List.getElem?_cons_zero]; rfl) (by kernel_rfl) (by kernel_rfl) (by kernel_rfl) (fun _ _ _ h => h) (Or.inl ⟨by rfl, ?_⟩) (by assumption) ?_
           rotate_left
           · (intro ww hSw; (try dsimp only at hSw); go_simp; (try with_reducible rfl))
           try simp only [Act.put, List.setIfInBounds_toArray, List.set_cons_zero, List.set_cons_succ])
        | (refine wpAnyH_ready (rs := [4]) (by kernel_rfl) (by simp) (AllReadyH.cons (by simp only [List.getElem?_toArray, List.getElem?_cons_succ, List.getElem?_cons_zero]; rfl) (fun K hK => ?_) AllReadyH.nil)
           go_simp
           first
             | (go_at_call 22; refine (rwithin_any _ _ _ _ _ _ (H1.out.below hHeld.1 (Nat.le_refl _)) (H2.out.below hHeld.1 (Nat.le_refl _))).mono ?_; rintro e w1 ⟨rfl, hb⟩; rw [HV.out])
             | (go_at_call 23; refine (rown_any _ _ _ _ _ _ (H1.out.below hHeld.1 (Nat.le_refl _)) (H2.out.below hHeld.1 (Nat.le_refl _))).mono ?_; rintro e w1 ⟨g2, gc2, u2, uc2, rfl, hg2, hu2, hb⟩)
             | (go_at_call 14; refine (rsame_any _ _ _ _ _ _ _ _ _ _ _ (H1.out.below hHeld.1 (Nat.le_refl _)) (H2.out.below hHeld.1 (Nat.le_refl _)) hg2 hu2).mono ?_; rintro e w1 ⟨rfl, hb⟩)
           try go_wp2_with fail
           refine hK.out _ _ (by (first | (exact (Holds.new _ _ _).drew) | (exact Holds.call hHeld hb) | (exact hHeld))) (fun hHeld => ?_)
           clear hK K
           try simp only [Act.put, List.setIfInBounds_toArray, List.set_cons_zero, List.set_cons_succ])
      first
        | (refine wpAnyH_take (i := 5) (v := undef) (by simp only [List.getElem?_toArray, List.getElem?_cons_succ, List.getElem?_cons_zero]; rfl) (by kernel_rfl) (by kernel_rfl) (by kernel_rfl) (fun _ _ _ h => h) (Or.inr ⟨by rfl, rfl⟩) (by assumption) ?_; try simp only [Act.put, List.setIfInBounds_toArray, List.set_cons_zero, List.set_cons_succ])
        | (refine wpAnyH_take (i := 5) (v := ?_) (by simp only [List.getElem?_toArray, List.getElem?_cons_succ, List.getElem?_cons_zero]; rfl) (by kernel_rfl) (by kernel_rfl) (by kernel_rfl) (fun _ _ _ h => h) (Or.inl ⟨by rfl, ?_⟩) (by assumption) ?_
           rotate_left
           · (intro ww hSw; (try dsimp only at hSw); go_simp; (try with_reducible rfl))
           try simp only [Act.put, List.setIfInBounds_toArray, List.set_cons_zero, List.set_cons_succ])
        | (refine wpAnyH_ready (rs := [5]) (by kernel_rfl) (by simp) (AllReadyH.cons (by simp only [List.getElem?_toArray, List.getElem?_cons_succ, List.getElem?_cons_zero]; rfl) (fun K hK => ?_) AllReadyH.nil)
           go_simp
           first
             | (go_at_call 22; refine (rwithin_any _ _ _ _ _ _ (H1.out.below hHeld.1 (Nat.le_refl _)) (H2.out.below hHeld.1 (Nat.le_refl _))).mono ?_; rintro e w1 ⟨rfl, hb⟩; rw [HV.out])
             | (go_at_call 23; refine (rown_any _ _ _ _ _ _ (H1.out.below hHeld.1 (Nat.le_refl _)) (H2.out.below hHeld.1 (Nat.le_refl _))).mono ?_; rintro e w1 ⟨g2, gc2, u2, uc2, rfl, hg2, hu2, hb⟩)
             | (go_at_call 14; refine (rsame_any _ _ _ _ _ _ _ _ _ _ _ (H1.out.below hHeld.1 (Nat.le_refl _)) (H2.out.below hHeld.1 (Nat.le_refl _)) hg2 hu2).mono ?_; rintro e w1 ⟨rfl, hb⟩)
           try go_wp2_with fail
           refine hK.out _ _ (by (first | (exact (Holds.new _ _ _).drew) | (exact Holds.call hHeld hb) | (exact hHeld))) (fun hHeld => ?_)
           clear hK K
           try simp only [Act.put, List.setIfInBounds_toArray, List.set_cons_zero, List.set_cons_succ])
      first
        | (refine wpAnyH_take (i := 6) (v := undef) (by simp only [List.getElem?_toArray, List.getElem?_cons_succ, List.getElem?_cons_zero]; rfl) (by kernel_rfl) (by kernel_rfl) (by kernel_rfl) (fun _ _ _ h => h) (Or.inr ⟨by rfl, rfl⟩) (by assumption) ?_; try simp only [Act.put, List.setIfInBounds_toArray, List.set_cons_zero, List.set_cons_succ])
        | (refine wpAnyH_take (i := 6) (v := ?_) (by simp only [List.getElem?_toArray, List.getElem?_cons_succ, List.getElem?_cons_zero]; rfl) (by kernel_rfl) (by kernel_rfl) (by kernel_rfl) (fun _ _ _ h => h) (Or.inl ⟨by rfl, ?_⟩) (by assumption) ?_
           rotate_left
           · (intro ww hSw; (try dsimp only at hSw); go_simp; (try with_reducible rfl))
           try simp only [Act.put, List.setIfInBounds_toArray, List.set_cons_zero, List.set_cons_succ])
        | (refine wpAnyH_ready (rs := [6]) (by kernel_rfl) (by simp) (AllReadyH.cons (by simp only [List.getElem?_toArray, List.getElem?_cons_succ, List.getElem?_cons_zero]; rfl) (fun K hK => ?_) AllReadyH.nil)
           go_simp
           first
             | (go_at_call 22; refine (rwithin_any _ _ _ _ _ _ (H1.out.below hHeld.1 (Nat.le_refl _)) (H2.out.below hHeld.1 (Nat.le_refl _))).mono ?_; rintro e w1 ⟨rfl, hb⟩; rw [HV.out])
             | (go_at_call 23; refine (rown_any _ _ _ _ _ _ (H1.out.below hHeld.1 (Nat.le_refl _)) (H2.out.below hHeld.1 (Nat.le_refl _))).mono ?_; rintro e w1 ⟨g2, gc2, u2, uc2, rfl, hg2, hu2, hb⟩)
             | (go_at_call 14; refine (rsame_any _ _ _ _ _ _ _ _ _ _ _ (H1.out.below hHeld.1 (Nat.le_refl _)) (H2.out.below hHeld.1 (Nat.le_refl _)) hg2 hu2).mono ?_; rintro e w1 ⟨rfl, hb⟩)
           try go_wp2_with fail
           refine hK.out _ _ (by (first | (exact (Holds.new _ _ _).drew) | (exact Holds.call hHeld hb) | (exact hHeld))) (fun hHeld => ?_)
           clear hK K
           try simp only [Act.put, List.setIfInBounds_toArray, List.set_cons_zero, List.set_cons_succ])
      first
        | (refine wpAnyH_take (i := 7) (v := undef) (by simp only [List.getElem?_toArray, List.getElem?_cons_succ, List.getElem?_cons_zero]; rfl) (by kernel_rfl) (by kernel_rfl) (by kernel_rfl) (fun _ _ _ h => h) (Or.inr ⟨by rfl, rfl⟩) (by assumption) ?_; try simp only [Act.put, List.setIfInBounds_toArray, List.set_cons_zero, List.set_cons_succ])
        | (refine wpAnyH_take (i := 7) (v := ?_) (by simp only [List.getElem?_toArray, List.getElem?_cons_succ, List.getElem?_cons_zero]; rfl) (by kernel_rfl) (by kernel_rfl) (by kernel_rfl) (fun _ _ _ h => h) (Or.inl ⟨by rfl, ?_⟩) (by assumption) ?_
           rotate_left
           · (intro ww hSw; (try dsimp only at hSw); go_simp; (try with_reducible rfl))
           try simp only [Act.put, List.setIfInBounds_toArray, List.set_cons_zero, List.set_cons_succ])
        | (refine wpAnyH_ready (rs := [7]) (by kernel_rfl) (by simp) (AllReadyH.cons (by simp only [List.getElem?_toArray, List.getElem?_cons_succ, List.getElem?_cons_zero]; rfl) (fun K hK => ?_) AllReadyH.nil)
           go_simp
           first
             | (go_at_call 22; refine (rwithin_any _ _ _ _ _ _ (H1.out.below hHeld.1 (Nat.le_refl _)) (H2.out.below hHeld.1 (Nat.le_refl _))).mono ?_; rintro e w1 ⟨rfl, hb⟩; rw [HV.out])
             | (go_at_call 23; refine (rown_any _ _ _ _ _ _ (H1.out.below hHeld.1 (Nat.le_refl _)) (H2.out.below hHeld.1 (Nat.le_refl _))).mono ?_; rintro e w1 ⟨g2, gc2, u2, uc2, rfl, hg2, hu2, hb⟩)
             | (go_at_call 14; refine (rsame_any _ _ _ _ _ _ _ _ _ _ _ (H1.out.below hHeld.1 (Nat.le_refl _)) (H2.out.below hHeld.1 (Nat.le_refl _)) hg2 hu2).mono ?_; rintro e w1 ⟨rfl, hb⟩)
           try go_wp2_with fail
           refine hK.out _ _ (by (first | (exact (Holds.new _ _ _).drew) | (exact Holds.call hHeld hb) | (exact hHeld))) (fun hHeld => ?_)
           clear hK K
           try simp only [Act.put, List.setIfInBounds_toArray, List.set_cons_zero, List.set_cons_succ])
      first
        | (refine wpAnyH_take (i := 8) (v := undef) (by simp only [List.getElem?_toArray, List.getElem?_cons_succ, List.getElem?_cons_zero]; rfl) (by kernel_rfl) (by kernel_rfl) (by kernel_rfl) (fun _ _ _ h => h) (Or.inr ⟨by rfl, rfl⟩) (by assumption) ?_; try simp only [Act.put, List.setIfInBounds_toArray, List.set_cons_zero, List.set_cons_succ])
        | (refine wpAnyH_take (i := 8) (v := ?_) (by simp only [List.getElem?_toArray, List.getElem?_cons_succ, List.getElem?_cons_zero]; rfl) (by kernel_rfl) (by kernel_rfl) (by kernel_rfl) (fun _ _ _ h => h) (Or.inl ⟨by rfl, ?_⟩) (by assumption) ?_
           rotate_left
           · (intro ww hSw; (try dsimp only at hSw); go_simp; (try with_reducible rfl))
           try simp only [Act.put, List.setIfInBounds_toArray, List.set_cons_zero, List.set_cons_succ])
        | (refine wpAnyH_ready (rs := [8]) (by kernel_rfl) (by simp) (AllReadyH.cons (by simp only [List.getElem?_toArray, List.getElem?_cons_succ, List.getElem?_cons_zero]; rfl) (fun K hK => ?_) AllReadyH.nil)
           go_simp
           first
             | (go_at_call 22; refine (rwithin_any _ _ _ _ _ _ (H1.out.below hHeld.1 (Nat.le_refl _)) (H2.out.below hHeld.1 (Nat.le_refl _))).mono ?_; rintro e w1 ⟨rfl, hb⟩; rw [HV.out])
             | (go_at_call 23; refine (rown_any _ _ _ _ _ _ (H1.out.below hHeld.1 (Nat.le_refl _)) (H2.out.below hHeld.1 (Nat.le_refl _))).mono ?_; rintro e w1 ⟨g2, gc2, u2, uc2, rfl, hg2, hu2, hb⟩)
             | (go_at_call 14; refine (rsame_any _ _ _ _ _ _ _ _ _ _ _ (H1.out.below hHeld.1 (Nat.le_refl _)) (H2.out.below hHeld.1 (Nat.le_refl _)) hg2 hu2).mono ?_; rintro e w1 ⟨rfl, hb⟩)
           try go_wp2_with fail
           refine hK.out _ _ (by (first | (exact (Holds.new _ _ _).drew) | (exact Holds.call hHeld hb) | (exact hHeld))) (fun hHeld => ?_)
           clear hK K
           try simp only [Act.put, List.setIfInBounds_toArray, List.set_cons_zero, List.set_cons_succ])
      first
        | (refine wpAnyH_take (i := 9) (v := undef) (by simp only [List.getElem?_toArray, List.getElem?_cons_succ, List.getElem?_cons_zero]; rfl) (by kernel_rfl) (by kernel_rfl) (by kernel_rfl) (fun _ _ _ h => h) (Or.inr ⟨by rfl, rfl⟩) (by assumption) ?_; try simp only [Act.put, List.setIfInBounds_toArray, List.set_cons_zero, List.set_cons_succ])
        | (refine wpAnyH_take (i := 9) (v := ?_) (by simp only [List.getElem?_toArray, List.getElem?_cons_succ, List.getElem?_cons_zero]; rfl) (by kernel_rfl) (by kernel_rfl) (by kernel_rfl) (fun _ _ _ h => h) (Or.inl ⟨by rfl, ?_⟩) (by assumption) ?_
           rotate_left
           · (intro ww hSw; (try dsimp only at hSw); go_simp; (try with_reducible rfl))
           try simp only [Act.put, List.setIfInBounds_toArray, List.set_cons_zero, List.set_cons_succ])
        | (refine wpAnyH_ready (rs := [9]) (by kernel_rfl) (by simp) (AllReadyH.cons (by simp only [List.getElem?_toArray, List.getElem?_cons_succ, List.getElem?_cons_zero]; rfl) (fun K hK => ?_) AllReadyH.nil)
           go_simp
           first
             | (go_at_call 22; refine (rwithin_any _ _ _ _ _ _ (H1.out.below hHeld.1 (Nat.le_refl _)) (H2.out.below hHeld.1 (Nat.le_refl _))).mono ?_; rintro e w1 ⟨rfl, hb⟩; rw [HV.out])
             | (go_at_call 23; refine (rown_any _ _ _ _ _ _ (H1.out.below hHeld.1 (Nat.le_refl _)) (H2.out.below hHeld.1 (Nat.le_refl _))).mono ?_; rintro e w1 ⟨g2, gc2, u2, uc2, rfl, hg2, hu2, hb⟩)
             | (go_at_call 14; refine (rsame_any _ _ _ _ _ _ _ _ _ _ _ (H1.out.below hHeld.1 (Nat.le_refl _)) (H2.out.below hHeld.1 (Nat.le_refl _)) hg2 hu2).mono ?_; rintro e w1 ⟨rfl, hb⟩)
           try go_wp2_with fail
           refine hK.out _ _ (by (first | (exact (Holds.new _ _ _).drew) | (exact Holds.call hHeld hb) | (exact hHeld))) (fun hHeld => ?_)
           clear hK K
           try simp only [Act.put, List.setIfInBounds_toArray, List.set_cons_zero, List.set_cons_succ])
      first
        | (refine wpAnyH_take (i := 10) (v := undef) (by simp only [List.getElem?_toArray, List.getElem?_cons_succ, List.getElem?_cons_zero]; rfl) (by kernel_rfl) (by kernel_rfl) (by kernel_rfl) (fun _ _ _ h => h) (Or.inr ⟨by rfl, rfl⟩) (by assumption) ?_; try simp only [Act.put, List.setIfInBounds_toArray, List.set_cons_zero, List.set_cons_succ])
        | (refine wpAnyH_take (i := 10) (v := ?_) (by simp only [List.getElem?_toArray, List.getElem?_cons_succ, List.getElem?_cons_zero]; rfl) (by kernel_rfl) (by kernel_rfl) (by kernel_rfl) (fun _ _ _ h => h) (Or.inl ⟨by rfl, ?_⟩) (by assumption) ?_
           rotate_left
           · (intro ww hSw; (try dsimp only at hSw); go_simp; (try with_reducible rfl))
           try simp only [Act.put, List.setIfInBounds_toArray, List.set_cons_zero, List.set_cons_succ])
        | (refine wpAnyH_ready (rs := [10]) (by kernel_rfl) (by simp) (AllReadyH.cons (by simp only [List.getElem?_toArray, List.getElem?_cons_succ, List.getElem?_cons_zero]; rfl) (fun K hK => ?_) AllReadyH.nil)
           go_simp
           first
             | (go_at_call 22; refine (rwithin_any _ _ _ _ _ _ (H1.out.below hHeld.1 (Nat.le_refl _)) (H2.out.below hHeld.1 (Nat.le_refl _))).mono ?_; rintro e w1 ⟨rfl, hb⟩; rw [HV.out])
             | (go_at_call 23; refine (rown_any _ _ _ _ _ _ (H1.out.below hHeld.1 (Nat.le_refl _)) (H2.out.below hHeld.1 (Nat.le_refl _))).mono ?_; rintro e w1 ⟨g2, gc2, u2, uc2, rfl, hg2, hu2, hb⟩)
             | (go_at_call 14; refine (rsame_any _ _ _ _ _ _ _ _ _ _ _ (H1.out.below hHeld.1 (Nat.le_refl _)) (H2.out.below hHeld.1 (Nat.le_refl _)) hg2 hu2).mono ?_; rintro e w1 ⟨rfl, hb⟩)
           try go_wp2_with fail
           refine hK.out _ _ (by (first | (exact (Holds.new _ _ _).drew) | (exact Holds.call hHeld hb) | (exact hHeld))) (fun hHeld => ?_)
           clear hK K
           try simp only [Act.put, List.setIfInBounds_toArray, List.set_cons_zero, List.set_cons_succ])
      first
        | (refine wpAnyH_take (i := 11) (v := undef) (by simp only [List.getElem?_toArray, List.getElem?_cons_succ, List.getElem?_cons_zero]; rfl) (by kernel_rfl) (by kernel_rfl) (by kernel_rfl) (fun _ _ _ h => h) (Or.inr ⟨by rfl, rfl⟩) (by assumption) ?_; try simp only [Act.put, List.setIfInBounds_toArray, List.set_cons_zero, List.set_cons_succ])
        | (refine wpAnyH_take (i := 11) (v := ?_) (by simp only [List.getElem?_toArray, List.getElem?_cons_succ, List.getElem?_cons_zero]; rfl) (by kernel_rfl) (by kernel_rfl) (by kernel_rfl) (fun _ _ _ h => h) (Or.inl ⟨by rfl, ?_⟩) (by assumption) ?_
           rotate_left
           · (intro ww hSw; (try dsimp only at hSw); go_simp; (try with_reducible rfl))
           try simp only [Act.put, List.setIfInBounds_toArray, List.set_cons_zero, List.set_cons_succ])
        | (refine wpAnyH_ready (rs := [11]) (by kernel_rfl) (by simp) (AllReadyH.cons (by simp only [List.getElem?_toArray, List.getElem?_cons_succ, List.getElem?_cons_zero]; rfl) (fun K hK => ?_) AllReadyH.nil)
           go_simp
           first
             | (go_at_call 22; refine (rwithin_any _ _ _ _ _ _ (H1.out.below hHeld.1 (Nat.le_refl _)) (H2.out.below hHeld.1 (Nat.le_refl _))).mono ?_; rintro e w1 ⟨rfl, hb⟩; rw [HV.out])
             | (go_at_call 23; refine (rown_any _ _ _ _ _ _ (H1.out.below hHeld.1 (Nat.le_refl _)) (H2.out.below hHeld.1 (Nat.le_refl _))).mono ?_; rintro e w1 ⟨g2, gc2, u2, uc2, rfl, hg2, hu2, hb⟩)
             | (go_at_call 14; refine (rsame_any _ _ _ _ _ _ _ _ _ _ _ (H1.out.below hHeld.1 (Nat.le_refl _)) (H2.out.below hHeld.1 (Nat.le_refl _)) hg2 hu2).mono ?_; rintro e w1 ⟨rfl, hb⟩)
           try go_wp2_with fail
           refine hK.out _ _ (by (first | (exact (Holds.new _ _ _).drew) | (exact Holds.call hHeld hb) | (exact hHeld))) (fun hHeld => ?_)
           clear hK K
           try simp only [Act.put, List.setIfInBounds_toArray, List.set_cons_zero, List.set_cons_succ])
      refine wpAnyH_done (by kernel_rfl) ?_ _
      refine NoPanic.normal ?_
      have hB := Lib.hid (show Below w.heap.size w _ from (by assumption : Holds _ _ _ _).1)
      go_wp2_with fail
      go_ret
      exact ⟨ret_bool (by simp), hB.out⟩
theorem rmay_any (r : Rp) (pa ia : Option Addr) (pc ic : Nat) (w : World) (h1 : IntsAt w pa r.players) (h2 : SnsAt w ia r.items) :
    Calls Tryd.prog 12 #[.agg #[.int .i64 r.err, .int .i64 r.kind, .int .i64 r.room, .slice pa r.players.length pc, .slice ia r.items.length ic, .int .i64 r.coins]] w fun e w' => e = .returned (.bool (rmayB r)) ∧ Below w.heap.size w w' := by
  by_cases he : r.err = 0
  · by_cases hk : r.kind = 0
    · obtain ⟨e, k, m, ps, is, c⟩ := r
      simp only at he hk
      subst he hk
      exact rmay_no m c ps is pa ia pc ic w
    · rw [show rmayB r = (rwithinB r && rsameB r (ownR r)) by simp [rmayB, someB, hk]]
      exact rmay_some _ r pa ia pc ic w (.inr ⟨by simp [he], by simp [hk]⟩) rfl h1 h2
  · rw [show rmayB r = (rwithinB r && rsameB r (ownR r)) by simp [rmayB, someB, he]]
    exact rmay_some _ r pa ia pc ic w (.inl (by simp [he])) rfl h1 h2
end Go.Proofs.YtcabeagmdfpdlaaDoor
