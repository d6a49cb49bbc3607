import Derived.Test.YtinjpkbpdhihjaaDoorRows
import Derived.Test.YtinjpkbpdhihjaaDoorKit
import Derived.Test.YtinjpkbpdhihjaaDoorStrs
import Derived.Test.YtinjpkbpdhihjaaDoorJMath
import Derived.Test.YtinjpkbpdhihjaaDoorJCmd
import Derived.Test.YtinjpkbpdhihjaaDoorJTab
import Derived.Deep.QuietTactic
import Derived.BigQuiet
import Derived.Deep.RegionHeld3
import Derived.WalkKit
import Derived.ProofKit
import Derived.OpenShut
import Derived.IntWalk
/- cmd: numbersOf, Same: all fields held against one another. -/
namespace Go.Proofs.YtinjpkbpdhihjaaDoor
open Go.ChangeShapes Go.WideShapes Go.ChangeAt Go.RowKit
set_option linter.unusedVariables false
open Go.RowKit
theorem nums_any (c : Cm) (ga wa : Option Addr) (gc wc : Nat) (w : World) :
    Calls Tryd.prog 57 #[.agg #[.int .i64 c.kind, .int .i64 c.dir, .int .i64 c.item, .int .i64 c.box, .int .i64 c.who, .slice ga c.gives.length gc, .int .i64 c.pay, .slice wa c.wants.length wc, .int .i64 c.fee]] w fun e w' => e = .returned (.agg #[.int .i64 c.kind, .int .i64 c.dir, .int .i64 c.item, .int .i64 c.box, .int .i64 c.who, .int .i64 c.pay, .int .i64 c.fee]) ∧ Below w.heap.size w w' := by
  go_enter Tryd.func57, Tryd.ntmps57
  go_wp2_with fail
  exact bodyPost_ret (v := .agg #[.int .i64 c.kind, .int .i64 c.dir, .int .i64 c.item, .int .i64 c.box, .int .i64 c.who, .int .i64 c.pay, .int .i64 c.fee]) (by simp [results, Tryd.results57, go_sem]) rfl ⟨rfl, ((Below.refl _ _).alloc (Nat.le_refl _) _).alloc (by simp) _⟩

theorem run_nums (a b : Cm) (w : World) : (binOp .eql 90 (.agg #[.int .i64 a.kind, .int .i64 a.dir, .int .i64 a.item, .int .i64 a.box, .int .i64 a.who, .int .i64 a.pay, .int .i64 a.fee]) (.agg #[.int .i64 b.kind, .int .i64 b.dir, .int .i64 b.item, .int .i64 b.box, .int .i64 b.who, .int .i64 b.pay, .int .i64 b.fee])).run Tryd.prog w = .ok (.bool (numsB a b)) w := by
  obtain ⟨a1, a2, a3, a4, a5, a6, a7, a8, a9⟩ := a
  obtain ⟨b1, b2, b3, b4, b5, b6, b7, b8, b9⟩ := b
  simp only [numsB]
  by_cases e1 : a1 = b1
  · by_cases e2 : a2 = b2
    · by_cases e3 : a3 = b3
      · by_cases e4 : a4 = b4
        · by_cases e5 : a5 = b5
          · by_cases e7 : a7 = b7
            · by_cases e9 : a9 = b9
              · subst e1 e2 e3 e4 e5 e7 e9; rw [run_eql_struct]; go_simp
              · rw [run_eql_struct]; go_simp
            · rw [run_eql_struct]; go_simp
          · rw [run_eql_struct]; go_simp
        · rw [run_eql_struct]; go_simp
      · rw [run_eql_struct]; go_simp
    · rw [run_eql_struct]; go_simp
  · rw [run_eql_struct]; go_simp

set_option maxRecDepth 100000 in
theorem same_no (a b : Cm) (ga wa gb wb : Option Addr) (gca wca gcb wcb : Nat) (w : World) (hn : numsB a b = false) :
    Calls Tryd.prog 38 #[.agg #[.int .i64 a.kind, .int .i64 a.dir, .int .i64 a.item, .int .i64 a.box, .int .i64 a.who, .slice ga a.gives.length gca, .int .i64 a.pay, .slice wa a.wants.length wca, .int .i64 a.fee], .agg #[.int .i64 b.kind, .int .i64 b.dir, .int .i64 b.item, .int .i64 b.box, .int .i64 b.who, .slice gb b.gives.length gcb, .int .i64 b.pay, .slice wb b.wants.length wcb, .int .i64 b.fee]] w fun e w' => e = .returned (.bool (sameB a b)) ∧ Below w.heap.size w w' := by
  have HS := Lib.hid (show sameB a b = false by simp [sameB, hn])
  have hrun := run_nums a b
  rw [hn] at hrun
  clear hn
  go_enter Tryd.func38, Tryd.ntmps38
  go_wp2_with fail
  refine wp_region_noPanic ?_
  refine wp_region_held_drew (S := (fun w' => (Below w.heap.size w w' ∧ w.heap.size < w'.heap.size ∧ ∀ i, w'.cell? ⟨w.heap.size, i, none⟩ = (#[.int .i64 a.kind, .int .i64 a.dir, .int .i64 a.item, .int .i64 a.box, .int .i64 a.who, .slice ga a.gives.length gca, .int .i64 a.pay, .slice wa a.wants.length wca, .int .i64 a.fee][i]? : Option Value)) ∧ (Below w.heap.size w w' ∧ w.heap.size + 1 < w'.heap.size ∧ ∀ i, w'.cell? ⟨w.heap.size + 1, i, none⟩ = (#[.int .i64 b.kind, .int .i64 b.dir, .int .i64 b.item, .int .i64 b.box, .int .i64 b.who, .slice gb b.gives.length gcb, .int .i64 b.pay, .slice wb b.wants.length wcb, .int .i64 b.fee][i]? : Option Value)))) (by kernel_rfl) (by (first | (exact Holds.two _ _ _ _ _) | (exact Holds.call2 (by assumption) hb))) (fun hHeld => ?_)
  first
    | (refine wpAnyH_take (i := 0) (v := undef) (by simp only [List.getElem?_toArray, List.getElem?_cons_zero]; rfl) (by kernel_rfl) (by kernel_rfl) (by kernel_rfl) (fun _ _ _ h => h) (Or.inr ⟨by rfl, rfl⟩) (by assumption) ?_; try simp only [Act.put, List.setIfInBounds_toArray, List.set_cons_zero, List.set_cons_succ])
    | (refine wpAnyH_take (i := 0) (v := ?_) (by simp only [List.getElem?_toArray, List.getElem?_cons_zero]; rfl) (by kernel_rfl) (by kernel_rfl) (by kernel_rfl) (fun _ _ _ h => h) (Or.inl ⟨by rfl, ?_⟩) (by assumption) ?_
       rotate_left
       · (intro ww hSw; (try dsimp only at hSw); go_simp; (try with_reducible rfl))
       try simp only [Act.put, List.setIfInBounds_toArray, List.set_cons_zero, List.set_cons_succ])
    | (refine wpAnyH_ready (rs := [0]) (by kernel_rfl) (by simp) (AllReadyH.cons (by simp only [List.getElem?_toArray, List.getElem?_cons_succ, List.getElem?_cons_zero]; rfl) (fun K hK => ?_) AllReadyH.nil)
       go_simp
       first
         | (go_at_call 57; refine (nums_any _ _ _ _ _ _).mono ?_; rintro e w1 ⟨rfl, hb⟩)
       try go_wp2_with fail
       refine hK.out _ _ (by (first | (exact Holds.two _ _ _ _ _) | (exact Holds.call2 (by assumption) hb))) (fun hHeld => ?_)
       clear hK K
       try simp only [Act.put, List.setIfInBounds_toArray, List.set_cons_zero, List.set_cons_succ])
  first
    | (refine wpAnyH_take (i := 2) (v := undef) (by simp only [List.getElem?_toArray, List.getElem?_cons_succ, List.getElem?_cons_zero]; rfl) (by kernel_rfl) (by kernel_rfl) (by kernel_rfl) (fun _ _ _ h => h) (Or.inr ⟨by rfl, rfl⟩) (by assumption) ?_; try simp only [Act.put, List.setIfInBounds_toArray, List.set_cons_zero, List.set_cons_succ])
    | (refine wpAnyH_take (i := 2) (v := ?_) (by simp only [List.getElem?_toArray, List.getElem?_cons_succ, List.getElem?_cons_zero]; rfl) (by kernel_rfl) (by kernel_rfl) (by kernel_rfl) (fun _ _ _ h => h) (Or.inl ⟨by rfl, ?_⟩) (by assumption) ?_
       rotate_left
       · (intro ww hSw; (try dsimp only at hSw); go_simp; (try with_reducible rfl))
       try simp only [Act.put, List.setIfInBounds_toArray, List.set_cons_zero, List.set_cons_succ])
    | (refine wpAnyH_ready (rs := [2]) (by kernel_rfl) (by simp) (AllReadyH.cons (by simp only [List.getElem?_toArray, List.getElem?_cons_succ, List.getElem?_cons_zero]; rfl) (fun K hK => ?_) AllReadyH.nil)
       go_simp
       first
         | (go_at_call 57; refine (nums_any _ _ _ _ _ _).mono ?_; rintro e w1 ⟨rfl, hb⟩)
       try go_wp2_with fail
       refine hK.out _ _ (by (first | (exact Holds.two _ _ _ _ _) | (exact Holds.call2 (by assumption) hb))) (fun hHeld => ?_)
       clear hK K
       try simp only [Act.put, List.setIfInBounds_toArray, List.set_cons_zero, List.set_cons_succ])
  first
    | (refine wpAnyH_take (i := 1) (v := undef) (by simp only [List.getElem?_toArray, List.getElem?_cons_succ, List.getElem?_cons_zero]; rfl) (by kernel_rfl) (by kernel_rfl) (by kernel_rfl) (fun _ _ _ h => h) (Or.inr ⟨by rfl, rfl⟩) (by assumption) ?_; try simp only [Act.put, List.setIfInBounds_toArray, List.set_cons_zero, List.set_cons_succ])
    | (refine wpAnyH_take (i := 1) (v := ?_) (by simp only [List.getElem?_toArray, List.getElem?_cons_succ, List.getElem?_cons_zero]; rfl) (by kernel_rfl) (by kernel_rfl) (by kernel_rfl) (fun _ _ _ h => h) (Or.inl ⟨by rfl, ?_⟩) (by assumption) ?_
       rotate_left
       · (intro ww hSw; (try dsimp only at hSw); go_simp; (try with_reducible rfl))
       try simp only [Act.put, List.setIfInBounds_toArray, List.set_cons_zero, List.set_cons_succ])
    | (refine wpAnyH_ready (rs := [1]) (by kernel_rfl) (by simp) (AllReadyH.cons (by simp only [List.getElem?_toArray, List.getElem?_cons_succ, List.getElem?_cons_zero]; rfl) (fun K hK => ?_) AllReadyH.nil)
       go_simp
       first
         | (go_at_call 57; refine (nums_any _ _ _ _ _ _).mono ?_; rintro e w1 ⟨rfl, hb⟩)
       try go_wp2_with fail
       refine hK.out _ _ (by (first | (exact Holds.two _ _ _ _ _) | (exact Holds.call2 (by assumption) hb))) (fun hHeld => ?_)
       clear hK K
       try simp only [Act.put, List.setIfInBounds_toArray, List.set_cons_zero, List.set_cons_succ])
  first
    | (refine wpAnyH_take (i := 3) (v := undef) (by simp only [List.getElem?_toArray, List.getElem?_cons_succ, List.getElem?_cons_zero]; rfl) (by kernel_rfl) (by kernel_rfl) (by kernel_rfl) (fun _ _ _ h => h) (Or.inr ⟨by rfl, rfl⟩) (by assumption) ?_; try simp only [Act.put, List.setIfInBounds_toArray, List.set_cons_zero, List.set_cons_succ])
    | (refine wpAnyH_take (i := 3) (v := ?_) (by simp only [List.getElem?_toArray, List.getElem?_cons_succ, List.getElem?_cons_zero]; rfl) (by kernel_rfl) (by kernel_rfl) (by kernel_rfl) (fun _ _ _ h => h) (Or.inl ⟨by rfl, ?_⟩) (by assumption) ?_
       rotate_left
       · (intro ww hSw; (try dsimp only at hSw); go_simp; (try with_reducible rfl))
       try simp only [Act.put, List.setIfInBounds_toArray, List.set_cons_zero, List.set_cons_succ])
    | (refine wpAnyH_ready (rs := [3]) (by kernel_rfl) (by simp) (AllReadyH.cons (by simp only [List.getElem?_toArray, List.getElem?_cons_succ, List.getElem?_cons_zero]; rfl) (fun K hK => ?_) AllReadyH.nil)
       go_simp
       first
         | (go_at_call 57; refine (nums_any _ _ _ _ _ _).mono ?_; rintro e w1 ⟨rfl, hb⟩)
       try go_wp2_with fail
       refine hK.out _ _ (by (first | (exact Holds.two _ _ _ _ _) | (exact Holds.call2 (by assumption) hb))) (fun hHeld => ?_)
       clear hK K
       try simp only [Act.put, List.setIfInBounds_toArray, List.set_cons_zero, List.set_cons_succ])
  first
    | (refine wpAnyH_take (i := 4) (v := undef) (by simp only [List.getElem?_toArray, List.getElem?_cons_succ, List.getElem?_cons_zero]; rfl) (by kernel_rfl) (by kernel_rfl) (by kernel_rfl) (fun _ _ _ h => h) (Or.inr ⟨by rfl, rfl⟩) (by assumption) ?_; try simp only [Act.put, List.setIfInBounds_toArray, List.set_cons_zero, List.set_cons_succ])
    | (refine wpAnyH_take (i := 4) (v := ?_) (by simp only [List.getElem?_toArray, List.getElem?_cons_succ, List.getElem?_cons_zero]; rfl) (by kernel_rfl) (by kernel_rfl) (by kernel_rfl) (fun _ _ _ h => h) (Or.inl ⟨by rfl, ?_⟩) (by assumption) ?_
       rotate_left
       · (intro ww hSw; (try dsimp only at hSw); go_simp; (try with_reducible rfl))
       try simp only [Act.put, List.setIfInBounds_toArray, List.set_cons_zero, List.set_cons_succ])
    | (refine wpAnyH_ready (rs := [4]) (by kernel_rfl) (by simp) (AllReadyH.cons (by simp only [List.getElem?_toArray, List.getElem?_cons_succ, List.getElem?_cons_zero]; rfl) (fun K hK => ?_) AllReadyH.nil)
       go_simp
       first
         | (go_at_call 57; refine (nums_any _ _ _ _ _ _).mono ?_; rintro e w1 ⟨rfl, hb⟩)
       try go_wp2_with fail
       refine hK.out _ _ (by (first | (exact Holds.two _ _ _ _ _) | (exact Holds.call2 (by assumption) hb))) (fun hHeld => ?_)
       clear hK K
       try simp only [Act.put, List.setIfInBounds_toArray, List.set_cons_zero, List.set_cons_succ])
  first
    | (refine wpAnyH_take (i := 5) (v := undef) (by simp only [List.getElem?_toArray, List.getElem?_cons_succ, List.getElem?_cons_zero]; rfl) (by kernel_rfl) (by kernel_rfl) (by kernel_rfl) (fun _ _ _ h => h) (Or.inr ⟨by rfl, rfl⟩) (by assumption) ?_; try simp only [Act.put, List.setIfInBounds_toArray, List.set_cons_zero, List.set_cons_succ])
    | (refine wpAnyH_take (i := 5) (v := ?_) (by simp only [List.getElem?_toArray, List.getElem?_cons_succ, List.getElem?_cons_zero]; rfl) (by kernel_rfl) (by kernel_rfl) (by kernel_rfl) (fun _ _ _ h => h) (Or.inl ⟨by rfl, ?_⟩) (by assumption) ?_
       rotate_left
       · (intro ww hSw; (try dsimp only at hSw); go_simp; (try with_reducible rfl))
       try simp only [Act.put, List.setIfInBounds_toArray, List.set_cons_zero, List.set_cons_succ])
    | (refine wpAnyH_ready (rs := [5]) (by kernel_rfl) (by simp) (AllReadyH.cons (by simp only [List.getElem?_toArray, List.getElem?_cons_succ, List.getElem?_cons_zero]; rfl) (fun K hK => ?_) AllReadyH.nil)
       go_simp
       first
         | (go_at_call 57; refine (nums_any _ _ _ _ _ _).mono ?_; rintro e w1 ⟨rfl, hb⟩)
       try go_wp2_with fail
       refine hK.out _ _ (by (first | (exact Holds.two _ _ _ _ _) | (exact Holds.call2 (by assumption) hb))) (fun hHeld => ?_)
       clear hK K
       try simp only [Act.put, List.setIfInBounds_toArray, List.set_cons_zero, List.set_cons_succ])
  first
    | (refine wpAnyH_take (i := 6) (v := undef) (by simp only [List.getElem?_toArray, List.getElem?_cons_succ, List.getElem?_cons_zero]; rfl) (by kernel_rfl) (by kernel_rfl) (by kernel_rfl) (fun _ _ _ h => h) (Or.inr ⟨by rfl, rfl⟩) (by assumption) ?_; try simp only [Act.put, List.setIfInBounds_toArray, List.set_cons_zero, List.set_cons_succ])
    | (refine wpAnyH_take (i := 6) (v := ?_) (by simp only [List.getElem?_toArray, List.getElem?_cons_succ, List.getElem?_cons_zero]; rfl) (by kernel_rfl) (by kernel_rfl) (by kernel_rfl) (fun _ _ _ h => h) (Or.inl ⟨by rfl, ?_⟩) (by assumption) ?_
       rotate_left
       · (intro ww hSw; (try dsimp only at hSw); go_simp; (try with_reducible rfl))
       try simp only [Act.put, List.setIfInBounds_toArray, List.set_cons_zero, List.set_cons_succ])
    | (refine wpAnyH_ready (rs := [6]) (by kernel_rfl) (by simp) (AllReadyH.cons (by simp only [List.getElem?_toArray, List.getElem?_cons_succ, List.getElem?_cons_zero]; rfl) (fun K hK => ?_) AllReadyH.nil)
       go_simp
       first
         | (go_at_call 57; refine (nums_any _ _ _ _ _ _).mono ?_; rintro e w1 ⟨rfl, hb⟩)
       try go_wp2_with fail
       refine hK.out _ _ (by (first | (exact Holds.two _ _ _ _ _) | (exact Holds.call2 (by assumption) hb))) (fun hHeld => ?_)
       clear hK K
       try simp only [Act.put, List.setIfInBounds_toArray, List.set_cons_zero, List.set_cons_succ])
  first
    | (refine wpAnyH_take (i := 7) (v := undef) (by simp only [List.getElem?_toArray, List.getElem?_cons_succ, List.getElem?_cons_zero]; rfl) (by kernel_rfl) (by kernel_rfl) (by kernel_rfl) (fun _ _ _ h => h) (Or.inr ⟨by rfl, rfl⟩) (by assumption) ?_; try simp only [Act.put, List.setIfInBounds_toArray, List.set_cons_zero, List.set_cons_succ])
    | (refine wpAnyH_take (i := 7) (v := ?_) (by simp only [List.getElem?_toArray, List.getElem?_cons_succ, List.getElem?_cons_zero]; rfl) (by kernel_rfl) (by kernel_rfl) (by kernel_rfl) (fun _ _ _ h => h) (Or.inl ⟨by rfl, ?_⟩) (by assumption) ?_
       rotate_left
       · (intro ww hSw; (try dsimp only at hSw); go_simp; (try with_reducible rfl))
       try simp only [Act.put, List.setIfInBounds_toArray, List.set_cons_zero, List.set_cons_succ])
    | (refine wpAnyH_ready (rs := [7]) (by kernel_rfl) (by simp) (AllReadyH.cons (by simp only [List.getElem?_toArray, List.getElem?_cons_succ, List.getElem?_cons_zero]; rfl) (fun K hK => ?_) AllReadyH.nil)
       go_simp
       first
         | (go_at_call 57; refine (nums_any _ _ _ _ _ _).mono ?_; rintro e w1 ⟨rfl, hb⟩)
       try go_wp2_with fail
       refine hK.out _ _ (by (first | (exact Holds.two _ _ _ _ _) | (exact Holds.call2 (by assumption) hb))) (fun hHeld => ?_)
       clear hK K
       try simp only [Act.put, List.setIfInBounds_toArray, List.set_cons_zero, List.set_cons_succ])
  first
    | (refine wpAnyH_take (i := 8) (v := undef) (by simp only [List.getElem?_toArray, List.getElem?_cons_succ, List.getElem?_cons_zero]; rfl) (by kernel_rfl) (by kernel_rfl) (by kernel_rfl) (fun _ _ _ h => h) (Or.inr ⟨by rfl, rfl⟩) (by assumption) ?_; try simp only [Act.put, List.setIfInBounds_toArray, List.set_cons_zero, List.set_cons_succ])
    | (refine wpAnyH_take (i := 8) (v := ?_) (by simp only [List.getElem?_toArray, List.getElem?_cons_succ, List.getElem?_cons_zero]; rfl) (by kernel_rfl) (by kernel_rfl) (by kernel_rfl) (fun _ _ _ h => h) (Or.inl ⟨by rfl, ?_⟩) (by assumption) ?_
       rotate_left
       · (intro ww hSw; (try dsimp only at hSw); go_simp; (try with_reducible rfl))
       try simp only [Act.put, List.setIfInBounds_toArray, List.set_cons_zero, List.set_cons_succ])
    | (refine wpAnyH_ready (rs := [8]) (by kernel_rfl) (by simp) (AllReadyH.cons (by simp only [List.getElem?_toArray, List.getElem?_cons_succ, List.getElem?_cons_zero]; rfl) (fun K hK => ?_) AllReadyH.nil)
       go_simp
       first
         | (go_at_call 57; refine (nums_any _ _ _ _ _ _).mono ?_; rintro e w1 ⟨rfl, hb⟩)
       try go_wp2_with fail
       refine hK.out _ _ (by (first | (exact Holds.two _ _ _ _ _) | (exact Holds.call2 (by assumption) hb))) (fun hHeld => ?_)
       clear hK K
       try simp only [Act.put, List.setIfInBounds_toArray, List.set_cons_zero, List.set_cons_succ])
  first
    | (refine wpAnyH_take (i := 9) (v := undef) (by simp only [List.getElem?_toArray, List.getElem?_cons_succ, List.getElem?_cons_zero]; rfl) (by kernel_rfl) (by kernel_rfl) (by kernel_rfl) (fun _ _ _ h => h) (Or.inr ⟨by rfl, rfl⟩) (by assumption) ?_; try simp only [Act.put, List.setIfInBounds_toArray, List.set_cons_zero, List.set_cons_succ])
    | (refine wpAnyH_take (i := 9) (v := ?_) (by simp only [List.getElem?_toArray, List.getElem?_cons_succ, List.getElem?_cons_zero]; rfl) (by kernel_rfl) (by kernel_rfl) (by kernel_rfl) (fun _ _ _ h => h) (Or.inl ⟨by rfl, ?_⟩) (by assumption) ?_
       rotate_left
       · (intro ww hSw; (try dsimp only at hSw); go_simp; (try with_reducible rfl))
       try simp only [Act.put, List.setIfInBounds_toArray, List.set_cons_zero, List.set_cons_succ])
    | (refine wpAnyH_ready (rs := [9]) (by kernel_rfl) (by simp) (AllReadyH.cons (by simp only [List.getElem?_toArray, List.getElem?_cons_succ, List.getElem?_cons_zero]; rfl) (fun K hK => ?_) AllReadyH.nil)
       go_simp
       first
         | (go_at_call 57; refine (nums_any _ _ _ _ _ _).mono ?_; rintro e w1 ⟨rfl, hb⟩)
       try go_wp2_with fail
       refine hK.out _ _ (by (first | (exact Holds.two _ _ _ _ _) | (exact Holds.call2 (by assumption) hb))) (fun hHeld => ?_)
       clear hK K
       try simp only [Act.put, List.setIfInBounds_toArray, List.set_cons_zero, List.set_cons_succ])
  first
    | (refine wpAnyH_take (i := 10) (v := undef) (by simp only [List.getElem?_toArray, List.getElem?_cons_succ, List.getElem?_cons_zero]; rfl) (by kernel_rfl) (by kernel_rfl) (by kernel_rfl) (fun _ _ _ h => h) (Or.inr ⟨by rfl, rfl⟩) (by assumption) ?_; try simp only [Act.put, List.setIfInBounds_toArray, List.set_cons_zero, List.set_cons_succ])
    | (refine wpAnyH_take (i := 10) (v := ?_) (by simp only [List.getElem?_toArray, List.getElem?_cons_succ, List.getElem?_cons_zero]; rfl) (by kernel_rfl) (by kernel_rfl) (by kernel_rfl) (fun _ _ _ h => h) (Or.inl ⟨by rfl, ?_⟩) (by assumption) ?_
       rotate_left
       · (intro ww hSw; (try dsimp only at hSw); go_simp; (try with_reducible rfl))
       try simp only [Act.put, List.setIfInBounds_toArray, List.set_cons_zero, List.set_cons_succ])
    | (refine wpAnyH_ready (rs := [10]) (by kernel_rfl) (by simp) (AllReadyH.cons (by simp only [List.getElem?_toArray, List.getElem?_cons_succ, List.getElem?_cons_zero]; rfl) (fun K hK => ?_) AllReadyH.nil)
       go_simp
       first
         | (go_at_call 57; refine (nums_any _ _ _ _ _ _).mono ?_; rintro e w1 ⟨rfl, hb⟩)
       try go_wp2_with fail
       refine hK.out _ _ (by (first | (exact Holds.two _ _ _ _ _) | (exact Holds.call2 (by assumption) hb))) (fun hHeld => ?_)
       clear hK K
       try simp only [Act.put, List.setIfInBounds_toArray, List.set_cons_zero, List.set_cons_succ])
  first
    | (refine wpAnyH_take (i := 11) (v := undef) (by simp only [List.getElem?_toArray, List.getElem?_cons_succ, List.getElem?_cons_zero]; rfl) (by kernel_rfl) (by kernel_rfl) (by kernel_rfl) (fun _ _ _ h => h) (Or.inr ⟨by rfl, rfl⟩) (by assumption) ?_; try simp only [Act.put, List.setIfInBounds_toArray, List.set_cons_zero, List.set_cons_succ])
    | (refine wpAnyH_take (i := 11) (v := ?_) (by simp only [List.getElem?_toArray, List.getElem?_cons_succ, List.getElem?_cons_zero]; rfl) (by kernel_rfl) (by kernel_rfl) (by kernel_rfl) (fun _ _ _ h => h) (Or.inl ⟨by rfl, ?_⟩) (by assumption) ?_
       rotate_left
       · (intro ww hSw; (try dsimp only at hSw); go_simp; (try with_reducible rfl))
       try simp only [Act.put, List.setIfInBounds_toArray, List.set_cons_zero, List.set_cons_succ])
    | (refine wpAnyH_ready (rs := [11]) (by kernel_rfl) (by simp) (AllReadyH.cons (by simp only [List.getElem?_toArray, List.getElem?_cons_succ, List.getElem?_cons_zero]; rfl) (fun K hK => ?_) AllReadyH.nil)
       go_simp
       first
         | (go_at_call 57; refine (nums_any _ _ _ _ _ _).mono ?_; rintro e w1 ⟨rfl, hb⟩)
       try go_wp2_with fail
       refine hK.out _ _ (by (first | (exact Holds.two _ _ _ _ _) | (exact Holds.call2 (by assumption) hb))) (fun hHeld => ?_)
       clear hK K
       try simp only [Act.put, List.setIfInBounds_toArray, List.set_cons_zero, List.set_cons_succ])
  first
    | (refine wpAnyH_take (i := 12) (v := undef) (by simp only [List.getElem?_toArray, List.getElem?_cons_succ, List.getElem?_cons_zero]; rfl) (by kernel_rfl) (by kernel_rfl) (by kernel_rfl) (fun _ _ _ h => h) (Or.inr ⟨by rfl, rfl⟩) (by assumption) ?_; try simp only [Act.put, List.setIfInBounds_toArray, List.set_cons_zero, List.set_cons_succ])
    | (refine wpAnyH_take (i := 12) (v := ?_) (by simp only [List.getElem?_toArray, List.getElem?_cons_succ, List.getElem?_cons_zero]; rfl) (by kernel_rfl) (by kernel_rfl) (by kernel_rfl) (fun _ _ _ h => h) (Or.inl ⟨by rfl, ?_⟩) (by assumption) ?_
       rotate_left
       · (intro ww hSw; (try dsimp only at hSw); go_simp; (try with_reducible rfl))
       try simp only [Act.put, List.setIfInBounds_toArray, List.set_cons_zero, List.set_cons_succ])
    | (refine wpAnyH_ready (rs := [12]) (by kernel_rfl) (by simp) (AllReadyH.cons (by simp only [List.getElem?_toArray, List.getElem?_cons_succ, List.getElem?_cons_zero]; rfl) (fun K hK => ?_) AllReadyH.nil)
       go_simp
       first
         | (go_at_call 57; refine (nums_any _ _ _ _ _ _).mono ?_; rintro e w1 ⟨rfl, hb⟩)
       try go_wp2_with fail
       refine hK.out _ _ (by (first | (exact Holds.two _ _ _ _ _) | (exact Holds.call2 (by assumption) hb))) (fun hHeld => ?_)
       clear hK K
       try simp only [Act.put, List.setIfInBounds_toArray, List.set_cons_zero, List.set_cons_succ])
  first
    | (refine wpAnyH_take (i := 13) (v := undef) (by simp only [List.getElem?_toArray, List.getElem?_cons_succ, List.getElem?_cons_zero]; rfl) (by kernel_rfl) (by kernel_rfl) (by kernel_rfl) (fun _ _ _ h => h) (Or.inr ⟨by rfl, rfl⟩) (by assumption) ?_; try simp only [Act.put, List.setIfInBounds_toArray, List.set_cons_zero, List.set_cons_succ])
    | (refine wpAnyH_take (i := 13) (v := ?_) (by simp only [List.getElem?_toArray, List.getElem?_cons_succ, List.getElem?_cons_zero]; rfl) (by kernel_rfl) (by kernel_rfl) (by kernel_rfl) (fun _ _ _ h => h) (Or.inl ⟨by rfl, ?_⟩) (by assumption) ?_
       rotate_left
       · (intro ww hSw; (try dsimp only at hSw); go_simp; (try with_reducible rfl))
       try simp only [Act.put, List.setIfInBounds_toArray, List.set_cons_zero, List.set_cons_succ])
    | (refine wpAnyH_ready (rs := [13]) (by kernel_rfl) (by simp) (AllReadyH.cons (by simp only [List.getElem?_toArray, List.getElem?_cons_succ, List.getElem?_cons_zero]; rfl) (fun K hK => ?_) AllReadyH.nil)
       go_simp
       first
         | (go_at_call 57; refine (nums_any _ _ _ _ _ _).mono ?_; rintro e w1 ⟨rfl, hb⟩)
       try go_wp2_with fail
       refine hK.out _ _ (by (first | (exact Holds.two _ _ _ _ _) | (exact Holds.call2 (by assumption) hb))) (fun hHeld => ?_)
       clear hK K
       try simp only [Act.put, List.setIfInBounds_toArray, List.set_cons_zero, List.set_cons_succ])
  first
    | (refine wpAnyH_take (i := 14) (v := undef) (by simp only [List.getElem?_toArray, List.getElem?_cons_succ, List.getElem?_cons_zero]; rfl) (by kernel_rfl) (by kernel_rfl) (by kernel_rfl) (fun _ _ _ h => h) (Or.inr ⟨by rfl, rfl⟩) (by assumption) ?_; try simp only [Act.put, List.setIfInBounds_toArray, List.set_cons_zero, List.set_cons_succ])
    | (refine wpAnyH_take (i := 14) (v := ?_) (by simp only [List.getElem?_toArray, List.getElem?_cons_succ, List.getElem?_cons_zero]; rfl) (by kernel_rfl) (by kernel_rfl) (by kernel_rfl) (fun _ _ _ h => h) (Or.inl ⟨by rfl, ?_⟩) (by assumption) ?_
       rotate_left
       · (intro ww hSw; (try dsimp only at hSw); go_simp; (try with_reducible rfl))
       try simp only [Act.put, List.setIfInBounds_toArray, List.set_cons_zero, List.set_cons_succ])
    | (refine wpAnyH_ready (rs := [14]) (by kernel_rfl) (by simp) (AllReadyH.cons (by simp only [List.getElem?_toArray, List.getElem?_cons_succ, List.getElem?_cons_zero]; rfl) (fun K hK => ?_) AllReadyH.nil)
       go_simp
       first
         | (go_at_call 57; refine (nums_any _ _ _ _ _ _).mono ?_; rintro e w1 ⟨rfl, hb⟩)
       try go_wp2_with fail
       refine hK.out _ _ (by (first | (exact Holds.two _ _ _ _ _) | (exact Holds.call2 (by assumption) hb))) (fun hHeld => ?_)
       clear hK K
       try simp only [Act.put, List.setIfInBounds_toArray, List.set_cons_zero, List.set_cons_succ])
  first
    | (refine wpAnyH_take (i := 15) (v := undef) (by simp only [List.getElem?_toArray, List.getElem?_cons_succ, List.getElem?_cons_zero]; rfl) (by kernel_rfl) (by kernel_rfl) (by kernel_rfl) (fun _ _ _ h => h) (Or.inr ⟨by rfl, rfl⟩) (by assumption) ?_; try simp only [Act.put, List.setIfInBounds_toArray, List.set_cons_zero, List.set_cons_succ])
    | (refine wpAnyH_take (i := 15) (v := ?_) (by simp only [List.getElem?_toArray, List.getElem?_cons_succ, List.getElem?_cons_zero]; rfl) (by kernel_rfl) (by kernel_rfl) (by kernel_rfl) (fun _ _ _ h => h) (Or.inl ⟨by rfl, ?_⟩) (by assumption) ?_
       rotate_left
       · (intro ww hSw; (try dsimp only at hSw); go_simp; (try with_reducible rfl))
       try simp only [Act.put, List.setIfInBounds_toArray, List.set_cons_zero, List.set_cons_succ])
    | (refine wpAnyH_ready (rs := [15]) (by kernel_rfl) (by simp) (AllReadyH.cons (by simp only [List.getElem?_toArray, List.getElem?_cons_succ, List.getElem?_cons_zero]; rfl) (fun K hK => ?_) AllReadyH.nil)
       go_simp
       first
         | (go_at_call 57; refine (nums_any _ _ _ _ _ _).mono ?_; rintro e w1 ⟨rfl, hb⟩)
       try go_wp2_with fail
       refine hK.out _ _ (by (first | (exact Holds.two _ _ _ _ _) | (exact Holds.call2 (by assumption) hb))) (fun hHeld => ?_)
       clear hK K
       try simp only [Act.put, List.setIfInBounds_toArray, List.set_cons_zero, List.set_cons_succ])
  first
    | (refine wpAnyH_take (i := 16) (v := undef) (by simp only [List.getElem?_toArray, List.getElem?_cons_succ, List.getElem?_cons_zero]; rfl) (by kernel_rfl) (by kernel_rfl) (by kernel_rfl) (fun _ _ _ h => h) (Or.inr ⟨by rfl, rfl⟩) (by assumption) ?_; try simp only [Act.put, List.setIfInBounds_toArray, List.set_cons_zero, List.set_cons_succ])
    | (refine wpAnyH_take (i := 16) (v := ?_) (by simp only [List.getElem?_toArray, List.getElem?_cons_succ, List.getElem?_cons_zero]; rfl) (by kernel_rfl) (by kernel_rfl) (by kernel_rfl) (fun _ _ _ h => h) (Or.inl ⟨by rfl, ?_⟩) (by assumption) ?_
       rotate_left
       · (intro ww hSw; (try dsimp only at hSw); go_simp; (try with_reducible rfl))
       try simp only [Act.put, List.setIfInBounds_toArray, List.set_cons_zero, List.set_cons_succ])
    | (refine wpAnyH_ready (rs := [16]) (by kernel_rfl) (by simp) (AllReadyH.cons (by simp only [List.getElem?_toArray, List.getElem?_cons_succ, List.getElem?_cons_zero]; rfl) (fun K hK => ?_) AllReadyH.nil)
       go_simp
       first
         | (go_at_call 57; refine (nums_any _ _ _ _ _ _).mono ?_; rintro e w1 ⟨rfl, hb⟩)
       try go_wp2_with fail
       refine hK.out _ _ (by (first | (exact Holds.two _ _ _ _ _) | (exact Holds.call2 (by assumption) hb))) (fun hHeld => ?_)
       clear hK K
       try simp only [Act.put, List.setIfInBounds_toArray, List.set_cons_zero, List.set_cons_succ])
  first
    | (refine wpAnyH_take (i := 17) (v := undef) (by simp only [List.getElem?_toArray, List.getElem?_cons_succ, List.getElem?_cons_zero]; rfl) (by kernel_rfl) (by kernel_rfl) (by kernel_rfl) (fun _ _ _ h => h) (Or.inr ⟨by rfl, rfl⟩) (by assumption) ?_; try simp only [Act.put, List.setIfInBounds_toArray, List.set_cons_zero, List.set_cons_succ])
    | (refine wpAnyH_take (i := 17) (v := ?_) (by simp only [List.getElem?_toArray, List.getElem?_cons_succ, List.getElem?_cons_zero]; rfl) (by kernel_rfl) (by kernel_rfl) (by kernel_rfl) (fun _ _ _ h => h) (Or.inl ⟨by rfl, ?_⟩) (by assumption) ?_
       rotate_left
       · (intro ww hSw; (try dsimp only at hSw); go_simp; (try with_reducible rfl))
       try simp only [Act.put, List.setIfInBounds_toArray, List.set_cons_zero, List.set_cons_succ])
    | (refine wpAnyH_ready (rs := [17]) (by kernel_rfl) (by simp) (AllReadyH.cons (by simp only [List.getElem?_toArray, List.getElem?_cons_succ, List.getElem?_cons_zero]; rfl) (fun K hK => ?_) AllReadyH.nil)
       go_simp
       first
         | (go_at_call 57; refine (nums_any _ _ _ _ _ _).mono ?_; rintro e w1 ⟨rfl, hb⟩)
       try go_wp2_with fail
       refine hK.out _ _ (by (first | (exact Holds.two _ _ _ _ _) | (exact Holds.call2 (by assumption) hb))) (fun hHeld => ?_)
       clear hK K
       try simp only [Act.put, List.setIfInBounds_toArray, List.set_cons_zero, List.set_cons_succ])
  first
    | (refine wpAnyH_take (i := 18) (v := undef) (by simp only [List.getElem?_toArray, List.getElem?_cons_succ, List.getElem?_cons_zero]; rfl) (by kernel_rfl) (by kernel_rfl) (by kernel_rfl) (fun _ _ _ h => h) (Or.inr ⟨by rfl, rfl⟩) (by assumption) ?_; try simp only [Act.put, List.setIfInBounds_toArray, List.set_cons_zero, List.set_cons_succ])
    | (refine wpAnyH_take (i := 18) (v := ?_) (by simp only [List.getElem?_toArray, List.getElem?_cons_succ, List.getElem?_cons_zero]; rfl) (by kernel_rfl) (by kernel_rfl) (by kernel_rfl) (fun _ _ _ h => h) (Or.inl ⟨by rfl, ?_⟩) (by assumption) ?_
       rotate_left
       · (intro ww hSw; (try dsimp only at hSw); go_simp; (try with_reducible rfl))
       try simp only [Act.put, List.setIfInBounds_toArray, List.set_cons_zero, List.set_cons_succ])
    | (refine wpAnyH_ready (rs := [18]) (by kernel_rfl) (by simp) (AllReadyH.cons (by simp only [List.getElem?_toArray, List.getElem?_cons_succ, List.getElem?_cons_zero]; rfl) (fun K hK => ?_) AllReadyH.nil)
       go_simp
       first
         | (go_at_call 57; refine (nums_any _ _ _ _ _ _).mono ?_; rintro e w1 ⟨rfl, hb⟩)
       try go_wp2_with fail
       refine hK.out _ _ (by (first | (exact Holds.two _ _ _ _ _) | (exact Holds.call2 (by assumption) hb))) (fun hHeld => ?_)
       clear hK K
       try simp only [Act.put, List.setIfInBounds_toArray, List.set_cons_zero, List.set_cons_succ])
  first
    | (refine wpAnyH_take (i := 19) (v := undef) (by simp only [List.getElem?_toArray, List.getElem?_cons_succ, List.getElem?_cons_zero]; rfl) (by kernel_rfl) (by kernel_rfl) (by kernel_rfl) (fun _ _ _ h => h) (Or.inr ⟨by rfl, rfl⟩) (by assumption) ?_; try simp only [Act.put, List.setIfInBounds_toArray, List.set_cons_zero, List.set_cons_succ])
    | (refine wpAnyH_take (i := 19) (v := ?_) (by simp only [List.getElem?_toArray, List.getElem?_cons_succ, List.getElem?_cons_zero]; rfl) (by kernel_rfl) (by kernel_rfl) (by kernel_rfl) (fun _ _ _ h => h) (Or.inl ⟨by rfl, ?_⟩) (by assumption) ?_
       rotate_left
       · (intro ww hSw; (try dsimp only at hSw); go_simp; (try with_reducible rfl))
       try simp only [Act.put, List.setIfInBounds_toArray, List.set_cons_zero, List.set_cons_succ])
    | (refine wpAnyH_ready (rs := [19]) (by kernel_rfl) (by simp) (AllReadyH.cons (by simp only [List.getElem?_toArray, List.getElem?_cons_succ, List.getElem?_cons_zero]; rfl) (fun K hK => ?_) AllReadyH.nil)
       go_simp
       first
         | (go_at_call 57; refine (nums_any _ _ _ _ _ _).mono ?_; rintro e w1 ⟨rfl, hb⟩)
       try go_wp2_with fail
       refine hK.out _ _ (by (first | (exact Holds.two _ _ _ _ _) | (exact Holds.call2 (by assumption) hb))) (fun hHeld => ?_)
       clear hK K
       try simp only [Act.put, List.setIfInBounds_toArray, List.set_cons_zero, List.set_cons_succ])
  refine wpAnyH_done (by kernel_rfl) ?_ _
  refine NoPanic.normal ?_
  have hB := Lib.hid (show Below w.heap.size w _ from (by assumption : Holds _ _ _ _ ∧ _).1.1)
  go_wp2_with fail
  go_ret
  exact ⟨ret_bool HS.out.symm, hB.out⟩

set_option maxRecDepth 100000 in
theorem same_yes (v : Bool) (a b : Cm) (ga wa gb wb : Option Addr) (gca wca gcb wcb : Nat) (w : World) (hn : numsB a b = true) (hg : decide (a.gives = b.gives) = v) (h1 : IntsAt w ga a.gives) (h2 : IntsAt w wa a.wants) (h3 : IntsAt w gb b.gives) (h4 : IntsAt w wb b.wants) :
    Calls Tryd.prog 38 #[.agg #[.int .i64 a.kind, .int .i64 a.dir, .int .i64 a.item, .int .i64 a.box, .int .i64 a.who, .slice ga a.gives.length gca, .int .i64 a.pay, .slice wa a.wants.length wca, .int .i64 a.fee], .agg #[.int .i64 b.kind, .int .i64 b.dir, .int .i64 b.item, .int .i64 b.box, .int .i64 b.who, .slice gb b.gives.length gcb, .int .i64 b.pay, .slice wb b.wants.length wcb, .int .i64 b.fee]] w fun e w' => e = .returned (.bool (sameB a b)) ∧ Below w.heap.size w w' := by
  have HS := Lib.hid (show sameB a b = (v && decide (a.wants = b.wants)) by simp [sameB, hn, ← hg])
  have hrun := run_nums a b
  rw [hn] at hrun
  have HG := Lib.hid hg
  have H1 := Lib.hid h1
  have H2 := Lib.hid h2
  have H3 := Lib.hid h3
  have H4 := Lib.hid h4
  clear hn hg h1 h2 h3 h4
  cases v
  all_goals
    go_enter Tryd.func38, Tryd.ntmps38
    go_wp2_with fail
    refine wp_region_noPanic ?_
    refine wp_region_held_drew (S := (fun w' => (Below w.heap.size w w' ∧ w.heap.size < w'.heap.size ∧ ∀ i, w'.cell? ⟨w.heap.size, i, none⟩ = (#[.int .i64 a.kind, .int .i64 a.dir, .int .i64 a.item, .int .i64 a.box, .int .i64 a.who, .slice ga a.gives.length gca, .int .i64 a.pay, .slice wa a.wants.length wca, .int .i64 a.fee][i]? : Option Value)) ∧ (Below w.heap.size w w' ∧ w.heap.size + 1 < w'.heap.size ∧ ∀ i, w'.cell? ⟨w.heap.size + 1, i, none⟩ = (#[.int .i64 b.kind, .int .i64 b.dir, .int .i64 b.item, .int .i64 b.box, .int .i64 b.who, .slice gb b.gives.length gcb, .int .i64 b.pay, .slice wb b.wants.length wcb, .int .i64 b.fee][i]? : Option Value)))) (by kernel_rfl) (by (first | (exact Holds.two _ _ _ _ _) | (exact Holds.call2 (by assumption) hb))) (fun hHeld => ?_)
    first
      | (refine wpAnyH_take (i := 0) (v := undef) (by simp only [List.getElem?_toArray, List.getElem?_cons_zero]; rfl) (by kernel_rfl) (by kernel_rfl) (by kernel_rfl) (fun _ _ _ h => h) (Or.inr ⟨by rfl, rfl⟩) (by assumption) ?_; try simp only [Act.put, List.setIfInBounds_toArray, List.set_cons_zero, List.set_cons_succ])
      | (refine wpAnyH_take (i := 0) (v := ?_) (by simp only [List.getElem?_toArray, List.getElem?_cons_zero]; rfl) (by kernel_rfl) (by kernel_rfl) (by kernel_rfl) (fun _ _ _ h => h) (Or.inl ⟨by rfl, ?_⟩) (by assumption) ?_
         rotate_left
         · (intro ww hSw; (try dsimp only at hSw); go_simp; (try with_reducible rfl))
         try simp only [Act.put, List.setIfInBounds_toArray, List.set_cons_zero, List.set_cons_succ])
      | (refine wpAnyH_ready (rs := [0]) (by kernel_rfl) (by simp) (AllReadyH.cons (by simp only [List.getElem?_toArray, List.getElem?_cons_succ, List.getElem?_cons_zero]; rfl) (fun K hK => ?_) AllReadyH.nil)
         go_simp
         first
           | (go_at_call 57; refine (nums_any _ _ _ _ _ _).mono ?_; rintro e w1 ⟨rfl, hb⟩)
           | (go_at_call 58; with_reducible refine (equal_any _ _ _ _ _ _ _ (H1.out.below hHeld.1.1 (Nat.le_refl _)) (H3.out.below hHeld.1.1 (Nat.le_refl _))).mono ?_; rintro e w1 ⟨rfl, hb⟩; rw [HG.out])
           | (go_at_call 58; with_reducible refine (equal_any _ _ _ _ _ _ _ (H2.out.below hHeld.1.1 (Nat.le_refl _)) (H4.out.below hHeld.1.1 (Nat.le_refl _))).mono ?_; rintro e w1 ⟨rfl, hb⟩)
         try go_wp2_with fail
         refine hK.out _ _ (by (first | (exact Holds.two _ _ _ _ _) | (exact Holds.call2 (by assumption) hb))) (fun hHeld => ?_)
         clear hK K
         try simp only [Act.put, List.setIfInBounds_toArray, List.set_cons_zero, List.set_cons_succ])
    first
      | (refine wpAnyH_take (i := 2) (v := undef) (by simp only [List.getElem?_toArray, List.getElem?_cons_succ, List.getElem?_cons_zero]; rfl) (by kernel_rfl) (by kernel_rfl) (by kernel_rfl) (fun _ _ _ h => h) (Or.inr ⟨by rfl, rfl⟩) (by assumption) ?_; try simp only [Act.put, List.setIfInBounds_toArray, List.set_cons_zero, List.set_cons_succ])
      | (refine wpAnyH_take (i := 2) (v := ?_) (by simp only [List.getElem?_toArray, List.getElem?_cons_succ, List.getElem?_cons_zero]; rfl) (by kernel_rfl) (by kernel_rfl) (by kernel_rfl) (fun _ _ _ h => h) (Or.inl ⟨by rfl, ?_⟩) (by assumption) ?_
         rotate_left
         · (intro ww hSw; (try dsimp only at hSw); go_simp; (try with_reducible rfl))
         try simp only [Act.put, List.setIfInBounds_toArray, List.set_cons_zero, List.set_cons_succ])
      | (refine wpAnyH_ready (rs := [2]) (by kernel_rfl) (by simp) (AllReadyH.cons (by simp only [List.getElem?_toArray, List.getElem?_cons_succ, List.getElem?_cons_zero]; rfl) (fun K hK => ?_) AllReadyH.nil)
         go_simp
         first
           | (go_at_call 57; refine (nums_any _ _ _ _ _ _).mono ?_; rintro e w1 ⟨rfl, hb⟩)
           | (go_at_call 58; with_reducible refine (equal_any _ _ _ _ _ _ _ (H1.out.below hHeld.1.1 (Nat.le_refl _)) (H3.out.below hHeld.1.1 (Nat.le_refl _))).mono ?_; rintro e w1 ⟨rfl, hb⟩; rw [HG.out])
           | (go_at_call 58; with_reducible refine (equal_any _ _ _ _ _ _ _ (H2.out.below hHeld.1.1 (Nat.le_refl _)) (H4.out.below hHeld.1.1 (Nat.le_refl _))).mono ?_; rintro e w1 ⟨rfl, hb⟩)
         try go_wp2_with fail
         refine hK.out _ _ (by (first | (exact Holds.two _ _ _ _ _) | (exact Holds.call2 (by assumption) hb))) (fun hHeld => ?_)
         clear hK K
         try simp only [Act.put, List.setIfInBounds_toArray, List.set_cons_zero, List.set_cons_succ])
    first
      | (refine wpAnyH_take (i := 1) (v := undef) (by simp only [List.getElem?_toArray, List.getElem?_cons_succ, List.getElem?_cons_zero]; rfl) (by kernel_rfl) (by kernel_rfl) (by kernel_rfl) (fun _ _ _ h => h) (Or.inr ⟨by rfl, rfl⟩) (by assumption) ?_; try simp only [Act.put, List.setIfInBounds_toArray, List.set_cons_zero, List.set_cons_succ])
      | (refine wpAnyH_take (i := 1) (v := ?_) (by simp only [List.getElem?_toArray, List.getElem?_cons_succ, List.getElem?_cons_zero]; rfl) (by kernel_rfl) (by kernel_rfl) (by kernel_rfl) (fun _ _ _ h => h) (Or.inl ⟨by rfl, ?_⟩) (by assumption) ?_
         rotate_left
         · (intro ww hSw; (try dsimp only at hSw); go_simp; (try with_reducible rfl))
         try simp only [Act.put, List.setIfInBounds_toArray, List.set_cons_zero, List.set_cons_succ])
      | (refine wpAnyH_ready (rs := [1]) (by kernel_rfl) (by simp) (AllReadyH.cons (by simp only [List.getElem?_toArray, List.getElem?_cons_succ, List.getElem?_cons_zero]; rfl) (fun K hK => ?_) AllReadyH.nil)
         go_simp
         first
           | (go_at_call 57; refine (nums_any _ _ _ _ _ _).mono ?_; rintro e w1 ⟨rfl, hb⟩)
           | (go_at_call 58; with_reducible refine (equal_any _ _ _ _ _ _ _ (H1.out.below hHeld.1.1 (Nat.le_refl _)) (H3.out.below hHeld.1.1 (Nat.le_refl _))).mono ?_; rintro e w1 ⟨rfl, hb⟩; rw [HG.out])
           | (go_at_call 58; with_reducible refine (equal_any _ _ _ _ _ _ _ (H2.out.below hHeld.1.1 (Nat.le_refl _)) (H4.out.below hHeld.1.1 (Nat.le_refl _))).mono ?_; rintro e w1 ⟨rfl, hb⟩)
         try go_wp2_with fail
         refine hK.out _ _ (by (first | (exact Holds.two _ _ _ _ _) | (exact Holds.call2 (by assumption) hb))) (fun hHeld => ?_)
         clear hK K
         try simp only [Act.put, List.setIfInBounds_toArray, List.set_cons_zero, List.set_cons_succ])
    first
      | (refine wpAnyH_take (i := 3) (v := undef) (by simp only [List.getElem?_toArray, List.getElem?_cons_succ, List.getElem?_cons_zero]; rfl) (by kernel_rfl) (by kernel_rfl) (by kernel_rfl) (fun _ _ _ h => h) (Or.inr ⟨by rfl, rfl⟩) (by assumption) ?_; try simp only [Act.put, List.setIfInBounds_toArray, List.set_cons_zero, List.set_cons_succ])
      | (refine wpAnyH_take (i := 3) (v := ?_) (by simp only [List.getElem?_toArray, List.getElem?_cons_succ, List.getElem?_cons_zero]; rfl) (by kernel_rfl) (by kernel_rfl) (by kernel_rfl) (fun _ _ _ h => h) (Or.inl ⟨by rfl, ?_⟩) (by assumption) ?_
         rotate_left
         · (intro ww hSw; (try dsimp only at hSw); go_simp; (try with_reducible rfl))
         try simp only [Act.put, List.setIfInBounds_toArray, List.set_cons_zero, List.set_cons_succ])
      | (refine wpAnyH_ready (rs := [3]) (by kernel_rfl) (by simp) (AllReadyH.cons (by simp only [List.getElem?_toArray, List.getElem?_cons_succ, List.getElem?_cons_zero]; rfl) (fun K hK => ?_) AllReadyH.nil)
         go_simp
         first
           | (go_at_call 57; refine (nums_any _ _ _ _ _ _).mono ?_; rintro e w1 ⟨rfl, hb⟩)
           | (go_at_call 58; with_reducible refine (equal_any _ _ _ _ _ _ _ (H1.out.below hHeld.1.1 (Nat.le_refl _)) (H3.out.below hHeld.1.1 (Nat.le_refl _))).mono ?_; rintro e w1 ⟨rfl, hb⟩; rw [HG.out])
           | (go_at_call 58; with_reducible refine (equal_any _ _ _ _ _ _ _ (H2.out.below hHeld.1.1 (Nat.le_refl _)) (H4.out.below hHeld.1.1 (Nat.le_refl _))).mono ?_; rintro e w1 ⟨rfl, hb⟩)
         try go_wp2_with fail
         refine hK.out _ _ (by (first | (exact Holds.two _ _ _ _ _) | (exact Holds.call2 (by assumption) hb))) (fun hHeld => ?_)
         clear hK K
         try simp only [Act.put, List.setIfInBounds_toArray, List.set_cons_zero, List.set_cons_succ])
    first
      | (refine wpAnyH_take (i := 4) (v := undef) (by simp only [List.getElem?_toArray, List.getElem?_cons_succ, List.getElem?_cons_zero]; rfl) (by kernel_rfl) (by kernel_rfl) (by kernel_rfl) (fun _ _ _ h => h) (Or.inr ⟨by rfl, rfl⟩) (by assumption) ?_; try simp only [Act.put, List.setIfInBounds_toArray, List.set_cons_zero, List.set_cons_succ])
      | (refine wpAnyH_take (i := 4) (v := ?_) (by simp only [List.getElem?_toArray, List.getElem?_cons_succ, List.getElem?_cons_zero]; rfl) (by kernel_rfl) (by kernel_rfl) (by kernel_rfl) (fun _ _ _ h => h) (Or.inl ⟨by rfl, ?_⟩) (by assumption) ?_
         rotate_left
         · (intro ww hSw; (try dsimp only at hSw); go_simp; (try with_reducible rfl))
         try simp only [Act.put, List.setIfInBounds_toArray, List.set_cons_zero, List.set_cons_succ])
      | (refine wpAnyH_ready (rs := [4]) (by kernel_rfl) (by simp) (AllReadyH.cons (by simp only [List.getElem?_toArray, List.getElem?_cons_succ, List.getElem?_cons_zero]; rfl) (fun K hK => ?_) AllReadyH.nil)
         go_simp
         first
           | (go_at_call 57; refine (nums_any _ _ _ _ _ _).mono ?_; rintro e w1 ⟨rfl, hb⟩)
           | (go_at_call 58; with_reducible refine (equal_any _ _ _ _ _ _ _ (H1.out.below hHeld.1.1 (Nat.le_refl _)) (H3.out.below hHeld.1.1 (Nat.le_refl _))).mono ?_; rintro e w1 ⟨rfl, hb⟩; rw [HG.out])
           | (go_at_call 58; with_reducible refine (equal_any _ _ _ _ _ _ _ (H2.out.below hHeld.1.1 (Nat.le_refl _)) (H4.out.below hHeld.1.1 (Nat.le_refl _))).mono ?_; rintro e w1 ⟨rfl, hb⟩)
         try go_wp2_with fail
         refine hK.out _ _ (by (first | (exact Holds.two _ _ _ _ _) | (exact Holds.call2 (by assumption) hb))) (fun hHeld => ?_)
         clear hK K
         try simp only [Act.put, List.setIfInBounds_toArray, List.set_cons_zero, List.set_cons_succ])
    first
      | (refine wpAnyH_take (i := 5) (v := undef) (by simp only [List.getElem?_toArray, List.getElem?_cons_succ, List.getElem?_cons_zero]; rfl) (by kernel_rfl) (by kernel_rfl) (by kernel_rfl) (fun _ _ _ h => h) (Or.inr ⟨by rfl, rfl⟩) (by assumption) ?_; try simp only [Act.put, List.setIfInBounds_toArray, List.set_cons_zero, List.set_cons_succ])
      | (refine wpAnyH_take (i := 5) (v := ?_) (by simp only [List.getElem?_toArray, List.getElem?_cons_succ, List.getElem?_cons_zero]; rfl) (by kernel_rfl) (by kernel_rfl) (by kernel_rfl) (fun _ _ _ h => h) (Or.inl ⟨by rfl, ?_⟩) (by assumption) ?_
         rotate_left
         · (intro ww hSw; (try dsimp only at hSw); go_simp; (try with_reducible rfl))
         try simp only [Act.put, List.setIfInBounds_toArray, List.set_cons_zero, List.set_cons_succ])
      | (refine wpAnyH_ready (rs := [5]) (by kernel_rfl) (by simp) (AllReadyH.cons (by simp only [List.getElem?_toArray, List.getElem?_cons_succ, List.getElem?_cons_zero]; rfl) (fun K hK => ?_) AllReadyH.nil)
         go_simp
         first
           | (go_at_call 57; refine (nums_any _ _ _ _ _ _).mono ?_; rintro e w1 ⟨rfl, hb⟩)
           | (go_at_call 58; with_reducible refine (equal_any _ _ _ _ _ _ _ (H1.out.below hHeld.1.1 (Nat.le_refl _)) (H3.out.below hHeld.1.1 (Nat.le_refl _))).mono ?_; rintro e w1 ⟨rfl, hb⟩; rw [HG.out])
           | (go_at_call 58; with_reducible refine (equal_any _ _ _ _ _ _ _ (H2.out.below hHeld.1.1 (Nat.le_refl _)) (H4.out.below hHeld.1.1 (Nat.le_refl _))).mono ?_; rintro e w1 ⟨rfl, hb⟩)
         try go_wp2_with fail
         refine hK.out _ _ (by (first | (exact Holds.two _ _ _ _ _) | (exact Holds.call2 (by assumption) hb))) (fun hHeld => ?_)
         clear hK K
         try simp only [Act.put, List.setIfInBounds_toArray, List.set_cons_zero, List.set_cons_succ])
    first
      | (refine wpAnyH_take (i := 6) (v := undef) (by simp only [List.getElem?_toArray, List.getElem?_cons_succ, List.getElem?_cons_zero]; rfl) (by kernel_rfl) (by kernel_rfl) (by kernel_rfl) (fun _ _ _ h => h) (Or.inr ⟨by rfl, rfl⟩) (by assumption) ?_; try simp only [Act.put, List.setIfInBounds_toArray, List.set_cons_zero, List.set_cons_succ])
      | (refine wpAnyH_take (i := 6) (v := ?_) (by simp only [List.getElem?_toArray, List.getElem?_cons_succ, List.getElem?_cons_zero]; rfl) (by kernel_rfl) (by kernel_rfl) (by kernel_rfl) (fun _ _ _ h => h) (Or.inl ⟨by rfl, ?_⟩) (by assumption) ?_
         rotate_left
         · (intro ww hSw; (try dsimp only at hSw); go_simp; (try with_reducible rfl))
         try simp only [Act.put, List.setIfInBounds_toArray, List.set_cons_zero, List.set_cons_succ])
      | (refine wpAnyH_ready (rs := [6]) (by kernel_rfl) (by simp) (AllReadyH.cons (by simp only [List.getElem?_toArray, List.getElem?_cons_succ, List.getElem?_cons_zero]; rfl) (fun K hK => ?_) AllReadyH.nil)
         go_simp
         first
           | (go_at_call 57; refine (nums_any _ _ _ _ _ _).mono ?_; rintro e w1 ⟨rfl, hb⟩)
           | (go_at_call 58; with_reducible refine (equal_any _ _ _ _ _ _ _ (H1.out.below hHeld.1.1 (Nat.le_refl _)) (H3.out.below hHeld.1.1 (Nat.le_refl _))).mono ?_; rintro e w1 ⟨rfl, hb⟩; rw [HG.out])
           | (go_at_call 58; with_reducible refine (equal_any _ _ _ _ _ _ _ (H2.out.below hHeld.1.1 (Nat.le_refl _)) (H4.out.below hHeld.1.1 (Nat.le_refl _))).mono ?_; rintro e w1 ⟨rfl, hb⟩)
         try go_wp2_with fail
         refine hK.out _ _ (by (first | (exact Holds.two _ _ _ _ _) | (exact Holds.call2 (by assumption) hb))) (fun hHeld => ?_)
         clear hK K
         try simp only [Act.put, List.setIfInBounds_toArray, List.set_cons_zero, List.set_cons_succ])
    first
      | (refine wpAnyH_take (i := 7) (v := undef) (by simp only [List.getElem?_toArray, List.getElem?_cons_succ, List.getElem?_cons_zero]; rfl) (by kernel_rfl) (by kernel_rfl) (by kernel_rfl) (fun _ _ _ h => h) (Or.inr ⟨by rfl, rfl⟩) (by assumption) ?_; try simp only [Act.put, List.setIfInBounds_toArray, List.set_cons_zero, List.set_cons_succ])
      | (refine wpAnyH_take (i := 7) (v := ?_) (by simp only [List.getElem?_toArray, List.getElem?_cons_succ, List.getElem?_cons_zero]; rfl) (by kernel_rfl) (by kernel_rfl) (by kernel_rfl) (fun _ _ _ h => h) (Or.inl ⟨by rfl, ?_⟩) (by assumption) ?_
         rotate_left
         · (intro ww hSw; (try dsimp only at hSw); go_simp; (try with_reducible rfl))
         try simp only [Act.put, List.setIfInBounds_toArray, List.set_cons_zero, List.set_cons_succ])
      | (refine wpAnyH_ready (rs := [7]) (by kernel_rfl) (by simp) (AllReadyH.cons (by simp only [List.getElem?_toArray, List.getElem?_cons_succ, List.getElem?_cons_zero]; rfl) (fun K hK => ?_) AllReadyH.nil)
         go_simp
         first
           | (go_at_call 57; refine (nums_any _ _ _ _ _ _).mono ?_; rintro e w1 ⟨rfl, hb⟩)
           | (go_at_call 58; with_reducible refine (equal_any _ _ _ _ _ _ _ (H1.out.below hHeld.1.1 (Nat.le_refl _)) (H3.out.below hHeld.1.1 (Nat.le_refl _))).mono ?_; rintro e w1 ⟨rfl, hb⟩; rw [HG.out])
           | (go_at_call 58; with_reducible refine (equal_any _ _ _ _ _ _ _ (H2.out.below hHeld.1.1 (Nat.le_refl _)) (H4.out.below hHeld.1.1 (Nat.le_refl _))).mono ?_; rintro e w1 ⟨rfl, hb⟩)
         try go_wp2_with fail
         refine hK.out _ _ (by (first | (exact Holds.two _ _ _ _ _) | (exact Holds.call2 (by assumption) hb))) (fun hHeld => ?_)
         clear hK K
         try simp only [Act.put, List.setIfInBounds_toArray, List.set_cons_zero, List.set_cons_succ])
    first
      | (refine wpAnyH_take (i := 8) (v := undef) (by simp only [List.getElem?_toArray, List.getElem?_cons_succ, List.getElem?_cons_zero]; rfl) (by kernel_rfl) (by kernel_rfl) (by kernel_rfl) (fun _ _ _ h => h) (Or.inr ⟨by rfl, rfl⟩) (by assumption) ?_; try simp only [Act.put, List.setIfInBounds_toArray, List.set_cons_zero, List.set_cons_succ])
      | (refine wpAnyH_take (i := 8) (v := ?_) (by simp only [List.getElem?_toArray, List.getElem?_cons_succ, List.getElem?_cons_zero]; rfl) (by kernel_rfl) (by kernel_rfl) (by kernel_rfl) (fun _ _ _ h => h) (Or.inl ⟨by rfl, ?_⟩) (by assumption) ?_
         rotate_left
         · (intro ww hSw; (try dsimp only at hSw); go_simp; (try with_reducible rfl))
         try simp only [Act.put, List.setIfInBounds_toArray, List.set_cons_zero, List.set_cons_succ])
      | (refine wpAnyH_ready (rs := [8]) (by kernel_rfl) (by simp) (AllReadyH.cons (by simp only [List.getElem?_toArray, List.getElem?_cons_succ, List.getElem?_cons_zero]; rfl) (fun K hK => ?_) AllReadyH.nil)
         go_simp
         first
           | (go_at_call 57; refine (nums_any _ _ _ _ _ _).mono ?_; rintro e w1 ⟨rfl, hb⟩)
           | (go_at_call 58; with_reducible refine (equal_any _ _ _ _ _ _ _ (H1.out.below hHeld.1.1 (Nat.le_refl _)) (H3.out.below hHeld.1.1 (Nat.le_refl _))).mono ?_; rintro e w1 ⟨rfl, hb⟩; rw [HG.out])
           | (go_at_call 58; with_reducible refine (equal_any _ _ _ _ _ _ _ (H2.out.below hHeld.1.1 (Nat.le_refl _)) (H4.out.below hHeld.1.1 (Nat.le_refl _))).mono ?_; rintro e w1 ⟨rfl, hb⟩)
         try go_wp2_with fail
         refine hK.out _ _ (by (first | (exact Holds.two _ _ _ _ _) | (exact Holds.call2 (by assumption) hb))) (fun hHeld => ?_)
         clear hK K
         try simp only [Act.put, List.setIfInBounds_toArray, List.set_cons_zero, List.set_cons_succ])
    first
      | (refine wpAnyH_take (i := 9) (v := undef) (by simp only [List.getElem?_toArray, List.getElem?_cons_succ, List.getElem?_cons_zero]; rfl) (by kernel_rfl) (by kernel_rfl) (by kernel_rfl) (fun _ _ _ h => h) (Or.inr ⟨by rfl, rfl⟩) (by assumption) ?_; try simp only [Act.put, List.setIfInBounds_toArray, List.set_cons_zero, List.set_cons_succ])
      | (refine wpAnyH_take (i := 9) (v := ?_) (by simp only [List.getElem?_toArray, List.getElem?_cons_succ, List.getElem?_cons_zero]; rfl) (by kernel_rfl) (by kernel_rfl) (by kernel_rfl) (fun _ _ _ h => h) (Or.inl ⟨by rfl, ?_⟩) (by assumption) ?_
         rotate_left
         · (intro ww hSw; (try dsimp only at hSw); go_simp; (try with_reducible rfl))
         try simp only [Act.put, List.setIfInBounds_toArray, List.set_cons_zero, List.set_cons_succ])
      | (refine wpAnyH_ready (rs := [9]) (by kernel_rfl) (by simp) (AllReadyH.cons (by simp only [List.getElem?_toArray, List.getElem?_cons_succ, List.getElem?_cons_zero]; rfl) (fun K hK => ?_) AllReadyH.nil)
         go_simp
         first
           | (go_at_call 57; refine (nums_any _ _ _ _ _ _).mono ?_; rintro e w1 ⟨rfl, hb⟩)
           | (go_at_call 58; with_reducible refine (equal_any _ _ _ _ _ _ _ (H1.out.below hHeld.1.1 (Nat.le_refl _)) (H3.out.below hHeld.1.1 (Nat.le_refl _))).mono ?_; rintro e w1 ⟨rfl, hb⟩; rw [HG.out])
           | (go_at_call 58; with_reducible refine (equal_any _ _ _ _ _ _ _ (H2.out.below hHeld.1.1 (Nat.le_refl _)) (H4.out.below hHeld.1.1 (Nat.le_refl _))).mono ?_; rintro e w1 ⟨rfl, hb⟩)
         try go_wp2_with fail
         refine hK.out _ _ (by (first | (exact Holds.two _ _ _ _ _) | (exact Holds.call2 (by assumption) hb))) (fun hHeld => ?_)
         clear hK K
         try simp only [Act.put, List.setIfInBounds_toArray, List.set_cons_zero, List.set_cons_succ])
    first
      | (refine wpAnyH_take (i := 10) (v := undef) (by simp only [List.getElem?_toArray, List.getElem?_cons_succ, List.getElem?_cons_zero]; rfl) (by kernel_rfl) (by kernel_rfl) (by kernel_rfl) (fun _ _ _ h => h) (Or.inr ⟨by rfl, rfl⟩) (by assumption) ?_; try simp only [Act.put, List.setIfInBounds_toArray, List.set_cons_zero, List.set_cons_succ])
      | (refine wpAnyH_take (i := 10) (v := ?_) (by simp only [List.getElem?_toArray, List.getElem?_cons_succ, List.getElem?_cons_zero]; rfl) (by kernel_rfl) (by kernel_rfl) (by kernel_rfl) (fun _ _ _ h => h) (Or.inl ⟨by rfl, ?_⟩) (by assumption) ?_
         rotate_left
         · (intro ww hSw; (try dsimp only at hSw); go_simp; (try with_reducible rfl))
         try simp only [Act.put, List.setIfInBounds_toArray, List.set_cons_zero, List.set_cons_succ])
      | (refine wpAnyH_ready (rs := [10]) (by kernel_rfl) (by simp) (AllReadyH.cons (by simp only [List.getElem?_toArray, List.getElem?_cons_succ, List.getElem?_cons_zero]; rfl) (fun K hK => ?_) AllReadyH.nil)
         go_simp
         first
           | (go_at_call 57; refine (nums_any _ _ _ _ _ _).mono ?_; rintro e w1 ⟨rfl, hb⟩)
           | (go_at_call 58; with_reducible refine (equal_any _ _ _ _ _ _ _ (H1.out.below hHeld.1.1 (Nat.le_refl _)) (H3.out.below hHeld.1.1 (Nat.le_refl _))).mono ?_; rintro e w1 ⟨rfl, hb⟩; rw [HG.out])
           | (go_at_call 58; with_reducible refine (equal_any _ _ _ _ _ _ _ (H2.out.below hHeld.1.1 (Nat.le_refl _)) (H4.out.below hHeld.1.1 (Nat.le_refl _))).mono ?_; rintro e w1 ⟨rfl, hb⟩)
         try go_wp2_with fail
         refine hK.out _ _ (by (first | (exact Holds.two _ _ _ _ _) | (exact Holds.call2 (by assumption) hb))) (fun hHeld => ?_)
         clear hK K
         try simp only [Act.put, List.setIfInBounds_toArray, List.set_cons_zero, List.set_cons_succ])
    first
      | (refine wpAnyH_take (i := 11) (v := undef) (by simp only [List.getElem?_toArray, List.getElem?_cons_succ, List.getElem?_cons_zero]; rfl) (by kernel_rfl) (by kernel_rfl) (by kernel_rfl) (fun _ _ _ h => h) (Or.inr ⟨by rfl, rfl⟩) (by assumption) ?_; try simp only [Act.put, List.setIfInBounds_toArray, List.set_cons_zero, List.set_cons_succ])
      | (refine wpAnyH_take (i := 11) (v := ?_) (by simp only [List.getElem?_toArray, List.getElem?_cons_succ, List.getElem?_cons_zero]; rfl) (by kernel_rfl) (by kernel_rfl) (by kernel_rfl) (fun _ _ _ h => h) (Or.inl ⟨by rfl, ?_⟩) (by assumption) ?_
         rotate_left
         · (intro ww hSw; (try dsimp only at hSw); go_simp; (try with_reducible rfl))
         try simp only [Act.put, List.setIfInBounds_toArray, List.set_cons_zero, List.set_cons_succ])
      | (refine wpAnyH_ready (rs := [11]) (by kernel_rfl) (by simp) (AllReadyH.cons (by simp only [List.getElem?_toArray, List.getElem?_cons_succ, List.getElem?_cons_zero]; rfl) (fun K hK => ?_) AllReadyH.nil)
         go_simp
         first
           | (go_at_call 57; refine (nums_any _ _ _ _ _ _).mono ?_; rintro e w1 ⟨rfl, hb⟩)
           | (go_at_call 58; with_reducible refine (equal_any _ _ _ _ _ _ _ (H1.out.below hHeld.1.1 (Nat.le_refl _)) (H3.out.below hHeld.1.1 (Nat.le_refl _))).mono ?_; rintro e w1 ⟨rfl, hb⟩; rw [HG.out])
           | (go_at_call 58; with_reducible refine (equal_any _ _ _ _ _ _ _ (H2.out.below hHeld.1.1 (Nat.le_refl _)) (H4.out.below hHeld.1.1 (Nat.le_refl _))).mono ?_; rintro e w1 ⟨rfl, hb⟩)
         try go_wp2_with fail
         refine hK.out _ _ (by (first | (exact Holds.two _ _ _ _ _) | (exact Holds.call2 (by assumption) hb))) (fun hHeld => ?_)
         clear hK K
         try simp only [Act.put, List.setIfInBounds_toArray, List.set_cons_zero, List.set_cons_succ])
    first
      | (refine wpAnyH_take (i := 12) (v := undef) (by simp only [List.getElem?_toArray, List.getElem?_cons_succ, List.getElem?_cons_zero]; rfl) (by kernel_rfl) (by kernel_rfl) (by kernel_rfl) (fun _ _ _ h => h) (Or.inr ⟨by rfl, rfl⟩) (by assumption) ?_; try simp only [Act.put, List.setIfInBounds_toArray, List.set_cons_zero, List.set_cons_succ])
      | (refine wpAnyH_take (i := 12) (v := ?_) (by simp only [List.getElem?_toArray, List.getElem?_cons_succ, List.getElem?_cons_zero]; rfl) (by kernel_rfl) (by kernel_rfl) (by kernel_rfl) (fun _ _ _ h => h) (Or.inl ⟨by rfl, ?_⟩) (by assumption) ?_
         rotate_left
         · (intro ww hSw; (try dsimp only at hSw); go_simp; (try with_reducible rfl))
         try simp only [Act.put, List.setIfInBounds_toArray, List.set_cons_zero, List.set_cons_succ])
      | (refine wpAnyH_ready (rs := [12]) (by kernel_rfl) (by simp) (AllReadyH.cons (by simp only [List.getElem?_toArray, List.getElem?_cons_succ, List.getElem?_cons_zero]; rfl) (fun K hK => ?_) AllReadyH.nil)
         go_simp
         first
           | (go_at_call 57; refine (nums_any _ _ _ _ _ _).mono ?_; rintro e w1 ⟨rfl, hb⟩)
           | (go_at_call 58; with_reducible refine (equal_any _ _ _ _ _ _ _ (H1.out.below hHeld.1.1 (Nat.le_refl _)) (H3.out.below hHeld.1.1 (Nat.le_refl _))).mono ?_; rintro e w1 ⟨rfl, hb⟩; rw [HG.out])
           | (go_at_call 58; with_reducible refine (equal_any _ _ _ _ _ _ _ (H2.out.below hHeld.1.1 (Nat.le_refl _)) (H4.out.below hHeld.1.1 (Nat.le_refl _))).mono ?_; rintro e w1 ⟨rfl, hb⟩)
         try go_wp2_with fail
         refine hK.out _ _ (by (first | (exact Holds.two _ _ _ _ _) | (exact Holds.call2 (by assumption) hb))) (fun hHeld => ?_)
         clear hK K
         try simp only [Act.put, List.setIfInBounds_toArray, List.set_cons_zero, List.set_cons_succ])
    first
      | (refine wpAnyH_take (i := 13) (v := undef) (by simp only [List.getElem?_toArray, List.getElem?_cons_succ, List.getElem?_cons_zero]; rfl) (by kernel_rfl) (by kernel_rfl) (by kernel_rfl) (fun _ _ _ h => h) (Or.inr ⟨by rfl, rfl⟩) (by assumption) ?_; try simp only [Act.put, List.setIfInBounds_toArray, List.set_cons_zero, List.set_cons_succ])
      | (refine wpAnyH_take (i := 13) (v := ?_) (by simp only [List.getElem?_toArray, List.getElem?_cons_succ, List.getElem?_cons_zero]; rfl) (by kernel_rfl) (by kernel_rfl) (by kernel_rfl) (fun _ _ _ h => h) (Or.inl ⟨by rfl, ?_⟩) (by assumption) ?_
         rotate_left
         · (intro ww hSw; (try dsimp only at hSw); go_simp; (try with_reducible rfl))
         try simp only [Act.put, List.setIfInBounds_toArray, List.set_cons_zero, List.set_cons_succ])
      | (refine wpAnyH_ready (rs := [13]) (by kernel_rfl) (by simp) (AllReadyH.cons (by simp only [List.getElem?_toArray, List.getElem?_cons_succ, List.getElem?_cons_zero]; rfl) (fun K hK => ?_) AllReadyH.nil)
         go_simp
         first
           | (go_at_call 57; refine (nums_any _ _ _ _ _ _).mono ?_; rintro e w1 ⟨rfl, hb⟩)
           | (go_at_call 58; with_reducible refine (equal_any _ _ _ _ _ _ _ (H1.out.below hHeld.1.1 (Nat.le_refl _)) (H3.out.below hHeld.1.1 (Nat.le_refl _))).mono ?_; rintro e w1 ⟨rfl, hb⟩; rw [HG.out])
           | (go_at_call 58; with_reducible refine (equal_any _ _ _ _ _ _ _ (H2.out.below hHeld.1.1 (Nat.le_refl _)) (H4.out.below hHeld.1.1 (Nat.le_refl _))).mono ?_; rintro e w1 ⟨rfl, hb⟩)
         try go_wp2_with fail
         refine hK.out _ _ (by (first | (exact Holds.two _ _ _ _ _) | (exact Holds.call2 (by assumption) hb))) (fun hHeld => ?_)
         clear hK K
         try simp only [Act.put, List.setIfInBounds_toArray, List.set_cons_zero, List.set_cons_succ])
    first
      | (refine wpAnyH_take (i := 14) (v := undef) (by simp only [List.getElem?_toArray, List.getElem?_cons_succ, List.getElem?_cons_zero]; rfl) (by kernel_rfl) (by kernel_rfl) (by kernel_rfl) (fun _ _ _ h => h) (Or.inr ⟨by rfl, rfl⟩) (by assumption) ?_; try simp only [Act.put, List.setIfInBounds_toArray, List.set_cons_zero, List.set_cons_succ])
      | (refine wpAnyH_take (i := 14) (v := ?_) (by simp only [List.getElem?_toArray, List.getElem?_cons_succ, List.getElem?_cons_zero]; rfl) (by kernel_rfl) (by kernel_rfl) (by kernel_rfl) (fun _ _ _ h => h) (Or.inl ⟨by rfl, ?_⟩) (by assumption) ?_
         rotate_left
         · (intro ww hSw; (try dsimp only at hSw); go_simp; (try with_reducible rfl))
         try simp only [Act.put, List.setIfInBounds_toArray, List.set_cons_zero, List.set_cons_succ])
      | (refine wpAnyH_ready (rs := [14]) (by kernel_rfl) (by simp) (AllReadyH.cons (by simp only [List.getElem?_toArray, List.getElem?_cons_succ, List.getElem?_cons_zero]; rfl) (fun K hK => ?_) AllReadyH.nil)
         go_simp
         first
           | (go_at_call 57; refine (nums_any _ _ _ _ _ _).mono ?_; rintro e w1 ⟨rfl, hb⟩)
           | (go_at_call 58; with_reducible refine (equal_any _ _ _ _ _ _ _ (H1.out.below hHeld.1.1 (Nat.le_refl _)) (H3.out.below hHeld.1.1 (Nat.le_refl _))).mono ?_; rintro e w1 ⟨rfl, hb⟩; rw [HG.out])
           | (go_at_call 58; with_reducible refine (equal_any _ _ _ _ _ _ _ (H2.out.below hHeld.1.1 (Nat.le_refl _)) (H4.out.below hHeld.1.1 (Nat.le_refl _))).mono ?_; rintro e w1 ⟨rfl, hb⟩)
         try go_wp2_with fail
         refine hK.out _ _ (by (first | (exact Holds.two _ _ _ _ _) | (exact Holds.call2 (by assumption) hb))) (fun hHeld => ?_)
         clear hK K
         try simp only [Act.put, List.setIfInBounds_toArray, List.set_cons_zero, List.set_cons_succ])
    first
      | (refine wpAnyH_take (i := 15) (v := undef) (by simp only [List.getElem?_toArray, List.getElem?_cons_succ, List.getElem?_cons_zero]; rfl) (by kernel_rfl) (by kernel_rfl) (by kernel_rfl) (fun _ _ _ h => h) (Or.inr ⟨by rfl, rfl⟩) (by assumption) ?_; try simp only [Act.put, List.setIfInBounds_toArray, List.set_cons_zero, List.set_cons_succ])
      | (refine wpAnyH_take (i := 15) (v := ?_) (by simp only [List.getElem?_toArray, List.getElem?_cons_succ, List.getElem?_cons_zero]; rfl) (by kernel_rfl) (by kernel_rfl) (by kernel_rfl) (fun _ _ _ h => h) (Or.inl ⟨by rfl, ?_⟩) (by assumption) ?_
         rotate_left
         · (intro ww hSw; (try dsimp only at hSw); go_simp; (try with_reducible rfl))
         try simp only [Act.put, List.setIfInBounds_toArray, List.set_cons_zero, List.set_cons_succ])
      | (refine wpAnyH_ready (rs := [15]) (by kernel_rfl) (by simp) (AllReadyH.cons (by simp only [List.getElem?_toArray, List.getElem?_cons_succ, List.getElem?_cons_zero]; rfl) (fun K hK => ?_) AllReadyH.nil)
         go_simp
         first
           | (go_at_call 57; refine (nums_any _ _ _ _ _ _).mono ?_; rintro e w1 ⟨rfl, hb⟩)
           | (go_at_call 58; with_reducible refine (equal_any _ _ _ _ _ _ _ (H1.out.below hHeld.1.1 (Nat.le_refl _)) (H3.out.below hHeld.1.1 (Nat.le_refl _))).mono ?_; rintro e w1 ⟨rfl, hb⟩; rw [HG.out])
           | (go_at_call 58; with_reducible refine (equal_any _ _ _ _ _ _ _ (H2.out.below hHeld.1.1 (Nat.le_refl _)) (H4.out.below hHeld.1.1 (Nat.le_refl _))).mono ?_; rintro e w1 ⟨rfl, hb⟩)
         try go_wp2_with fail
         refine hK.out _ _ (by (first | (exact Holds.two _ _ _ _ _) | (exact Holds.call2 (by assumption) hb))) (fun hHeld => ?_)
         clear hK K
         try simp only [Act.put, List.setIfInBounds_toArray, List.set_cons_zero, List.set_cons_succ])
    first
      | (refine wpAnyH_take (i := 16) (v := undef) (by simp only [List.getElem?_toArray, List.getElem?_cons_succ, List.getElem?_cons_zero]; rfl) (by kernel_rfl) (by kernel_rfl) (by kernel_rfl) (fun _ _ _ h => h) (Or.inr ⟨by rfl, rfl⟩) (by assumption) ?_; try simp only [Act.put, List.setIfInBounds_toArray, List.set_cons_zero, List.set_cons_succ])
      | (refine wpAnyH_take (i := 16) (v := ?_) (by simp only [List.getElem?_toArray, List.getElem?_cons_succ, List.getElem?_cons_zero]; rfl) (by kernel_rfl) (by kernel_rfl) (by kernel_rfl) (fun _ _ _ h => h) (Or.inl ⟨by rfl, ?_⟩) (by assumption) ?_
         rotate_left
         · (intro ww hSw; (try dsimp only at hSw); go_simp; (try with_reducible rfl))
         try simp only [Act.put, List.setIfInBounds_toArray, List.set_cons_zero, List.set_cons_succ])
      | (refine wpAnyH_ready (rs := [16]) (by kernel_rfl) (by simp) (AllReadyH.cons (by simp only [List.getElem?_toArray, List.getElem?_cons_succ, List.getElem?_cons_zero]; rfl) (fun K hK => ?_) AllReadyH.nil)
         go_simp
         first
           | (go_at_call 57; refine (nums_any _ _ _ _ _ _).mono ?_; rintro e w1 ⟨rfl, hb⟩)
           | (go_at_call 58; with_reducible refine (equal_any _ _ _ _ _ _ _ (H1.out.below hHeld.1.1 (Nat.le_refl _)) (H3.out.below hHeld.1.1 (Nat.le_refl _))).mono ?_; rintro e w1 ⟨rfl, hb⟩; rw [HG.out])
           | (go_at_call 58; with_reducible refine (equal_any _ _ _ _ _ _ _ (H2.out.below hHeld.1.1 (Nat.le_refl _)) (H4.out.below hHeld.1.1 (Nat.le_refl _))).mono ?_; rintro e w1 ⟨rfl, hb⟩)
         try go_wp2_with fail
         refine hK.out _ _ (by (first | (exact Holds.two _ _ _ _ _) | (exact Holds.call2 (by assumption) hb))) (fun hHeld => ?_)
         clear hK K
         try simp only [Act.put, List.setIfInBounds_toArray, List.set_cons_zero, List.set_cons_succ])
    first
      | (refine wpAnyH_take (i := 17) (v := undef) (by simp only [List.getElem?_toArray, List.getElem?_cons_succ, List.getElem?_cons_zero]; rfl) (by kernel_rfl) (by kernel_rfl) (by kernel_rfl) (fun _ _ _ h => h) (Or.inr ⟨by rfl, rfl⟩) (by assumption) ?_; try simp only [Act.put, List.setIfInBounds_toArray, List.set_cons_zero, List.set_cons_succ])
      | (refine wpAnyH_take (i := 17) (v := ?_) (by simp only [List.getElem?_toArray, List.getElem?_cons_succ, List.getElem?_cons_zero]; rfl) (by kernel_rfl) (by kernel_rfl) (by kernel_rfl) (fun _ _ _ h => h) (Or.inl ⟨by rfl, ?_⟩) (by assumption) ?_
         rotate_left
         · (intro ww hSw; (try dsimp only at hSw); go_simp; (try with_reducible rfl))
         try simp only [Act.put, List.setIfInBounds_toArray, List.set_cons_zero, List.set_cons_succ])
      | (refine wpAnyH_ready (rs := [17]) (by kernel_rfl) (by simp) (AllReadyH.cons (by simp only [List.getElem?_toArray, List.getElem?_cons_succ, List.getElem?_cons_zero]; rfl) (fun K hK => ?_) AllReadyH.nil)
         go_simp
         first
           | (go_at_call 57; refine (nums_any _ _ _ _ _ _).mono ?_; rintro e w1 ⟨rfl, hb⟩)
           | (go_at_call 58; with_reducible refine (equal_any _ _ _ _ _ _ _ (H1.out.below hHeld.1.1 (Nat.le_refl _)) (H3.out.below hHeld.1.1 (Nat.le_refl _))).mono ?_; rintro e w1 ⟨rfl, hb⟩; rw [HG.out])
           | (go_at_call 58; with_reducible refine (equal_any _ _ _ _ _ _ _ (H2.out.below hHeld.1.1 (Nat.le_refl _)) (H4.out.below hHeld.1.1 (Nat.le_refl _))).mono ?_; rintro e w1 ⟨rfl, hb⟩)
         try go_wp2_with fail
         refine hK.out _ _ (by (first | (exact Holds.two _ _ _ _ _) | (exact Holds.call2 (by assumption) hb))) (fun hHeld => ?_)
         clear hK K
         try simp only [Act.put, List.setIfInBounds_toArray, List.set_cons_zero, List.set_cons_succ])
    first
      | (refine wpAnyH_take (i := 18) (v := undef) (by simp only [List.getElem?_toArray, List.getElem?_cons_succ, List.getElem?_cons_zero]; rfl) (by kernel_rfl) (by kernel_rfl) (by kernel_rfl) (fun _ _ _ h => h) (Or.inr ⟨by rfl, rfl⟩) (by assumption) ?_; try simp only [Act.put, List.setIfInBounds_toArray, List.set_cons_zero, List.set_cons_succ])
      | (refine wpAnyH_take (i := 18) (v := ?_) (by simp only [List.getElem?_toArray, List.getElem?_cons_succ, List.getElem?_cons_zero]; rfl) (by kernel_rfl) (by kernel_rfl) (by kernel_rfl) (fun _ _ _ h => h) (Or.inl ⟨by rfl, ?_⟩) (by assumption) ?_
         rotate_left
         · (intro ww hSw; (try dsimp only at hSw); go_simp; (try with_reducible rfl))
         try simp only [Act.put, List.setIfInBounds_toArray, List.set_cons_zero, List.set_cons_succ])
      | (refine wpAnyH_ready (rs := [18]) (by kernel_rfl) (by simp) (AllReadyH.cons (by simp only [List.getElem?_toArray, List.getElem?_cons_succ, List.getElem?_cons_zero]; rfl) (fun K hK => ?_) AllReadyH.nil)
         go_simp
         first
           | (go_at_call 57; refine (nums_any _ _ _ _ _ _).mono ?_; rintro e w1 ⟨rfl, hb⟩)
           | (go_at_call 58; with_reducible refine (equal_any _ _ _ _ _ _ _ (H1.out.below hHeld.1.1 (Nat.le_refl _)) (H3.out.below hHeld.1.1 (Nat.le_refl _))).mono ?_; rintro e w1 ⟨rfl, hb⟩; rw [HG.out])
           | (go_at_call 58; with_reducible refine (equal_any _ _ _ _ _ _ _ (H2.out.below hHeld.1.1 (Nat.le_refl _)) (H4.out.below hHeld.1.1 (Nat.le_refl _))).mono ?_; rintro e w1 ⟨rfl, hb⟩)
         try go_wp2_with fail
         refine hK.out _ _ (by (first | (exact Holds.two _ _ _ _ _) | (exact Holds.call2 (by assumption) hb))) (fun hHeld => ?_)
         clear hK K
         try simp only [Act.put, List.setIfInBounds_toArray, List.set_cons_zero, List.set_cons_succ])
    first
      | (refine wpAnyH_take (i := 19) (v := undef) (by simp only [List.getElem?_toArray, List.getElem?_cons_succ, List.getElem?_cons_zero]; rfl) (by kernel_rfl) (by kernel_rfl) (by kernel_rfl) (fun _ _ _ h => h) (Or.inr ⟨by rfl, rfl⟩) (by assumption) ?_; try simp only [Act.put, List.setIfInBounds_toArray, List.set_cons_zero, List.set_cons_succ])
      | (refine wpAnyH_take (i := 19) (v := ?_) (by simp only [List.getElem?_toArray, List.getElem?_cons_succ, List.getElem?_cons_zero]; rfl) (by kernel_rfl) (by kernel_rfl) (by kernel_rfl) (fun _ _ _ h => h) (Or.inl ⟨by rfl, ?_⟩) (by assumption) ?_
         rotate_left
         · (intro ww hSw; (try dsimp only at hSw); go_simp; (try with_reducible rfl))
         try simp only [Act.put, List.setIfInBounds_toArray, List.set_cons_zero, List.set_cons_succ])
      | (refine wpAnyH_ready (rs := [19]) (by kernel_rfl) (by simp) (AllReadyH.cons (by simp only [List.getElem?_toArray, List.getElem?_cons_succ, List.getElem?_cons_zero]; rfl) (fun K hK => ?_) AllReadyH.nil)
         go_simp
         first
           | (go_at_call 57; refine (nums_any _ _ _ _ _ _).mono ?_; rintro e w1 ⟨rfl, hb⟩)
           | (go_at_call 58; with_reducible refine (equal_any _ _ _ _ _ _ _ (H1.out.below hHeld.1.1 (Nat.le_refl _)) (H3.out.below hHeld.1.1 (Nat.le_refl _))).mono ?_; rintro e w1 ⟨rfl, hb⟩; rw [HG.out])
           | (go_at_call 58; with_reducible refine (equal_any _ _ _ _ _ _ _ (H2.out.below hHeld.1.1 (Nat.le_refl _)) (H4.out.below hHeld.1.1 (Nat.le_refl _))).mono ?_; rintro e w1 ⟨rfl, hb⟩)
         try go_wp2_with fail
         refine hK.out _ _ (by (first | (exact Holds.two _ _ _ _ _) | (exact Holds.call2 (by assumption) hb))) (fun hHeld => ?_)
         clear hK K
         try simp only [Act.put, List.setIfInBounds_toArray, List.set_cons_zero, List.set_cons_succ])
    refine wpAnyH_done (by kernel_rfl) ?_ _
    refine NoPanic.normal ?_
    have hB := Lib.hid (show Below w.heap.size w _ from (by assumption : Holds _ _ _ _ ∧ _).1.1)
    go_wp2_with fail
    go_ret
    exact ⟨ret_bool HS.out.symm, hB.out⟩

theorem same_any (a b : Cm) (ga wa gb wb : Option Addr) (gca wca gcb wcb : Nat) (w : World) (h1 : IntsAt w ga a.gives) (h2 : IntsAt w wa a.wants) (h3 : IntsAt w gb b.gives) (h4 : IntsAt w wb b.wants) :
    Calls Tryd.prog 38 #[.agg #[.int .i64 a.kind, .int .i64 a.dir, .int .i64 a.item, .int .i64 a.box, .int .i64 a.who, .slice ga a.gives.length gca, .int .i64 a.pay, .slice wa a.wants.length wca, .int .i64 a.fee], .agg #[.int .i64 b.kind, .int .i64 b.dir, .int .i64 b.item, .int .i64 b.box, .int .i64 b.who, .slice gb b.gives.length gcb, .int .i64 b.pay, .slice wb b.wants.length wcb, .int .i64 b.fee]] w fun e w' => e = .returned (.bool (sameB a b)) ∧ Below w.heap.size w w' := by
  cases hn : numsB a b
  · exact same_no a b ga wa gb wb gca wca gcb wcb w hn
  · exact same_yes _ a b ga wa gb wb gca wca gcb wcb w hn rfl h1 h2 h3 h4
end Go.Proofs.YtinjpkbpdhihjaaDoor
