/- desc.areNested: has the way up from each place an end? A closure that calls itself. -/
import Derived.Test.YtniblphklgbpnaaRows
import Derived.Test.YtniblphklgbpnaaKit
import Derived.Test.YtniblphklgbpnaaStrs
import Derived.Test.YtniblphklgbpnaaCoin
import Derived.Test.YtniblphklgbpnaaBlk
import Derived.Test.YtniblphklgbpnaaHolds
import Derived.Test.YtniblphklgbpnaaWorldMath
import Derived.Test.YtniblphklgbpnaaWorldAt
import Derived.Deep.QuietTactic
import Derived.BigQuiet
import Derived.Deep.RegionHeld3
import Derived.WalkKit
import Derived.ProofKit
import Derived.OpenShut
import Derived.IntWalk
namespace Go.Proofs.Ytniblphklgbpnaa
open Go.ChangeShapes Go.WideShapes Go.ChangeAt Go.RowKit
set_option linter.unusedVariables false
open Go.RowKit
/-- The closure's value: it has the cell in which it lies itself, and the cell of the list. -/
def endsF (g h : Nat) : Value := .func (.func 46) #[] #[.pointer (some ⟨g, 0, none⟩), .pointer (some ⟨h, 0, none⟩)]
/-- Each box that is told is one of the items. -/
def BoxesIn (ps : List Pl) : Prop := ∀ p ∈ ps, p.kind = 2 → 0 ≤ p.id ∧ p.id < ps.length
theorem cell_call {w w1 : World} {p : Addr} {v : Value} (h : w.cell? p = some v) (hb : Below w.heap.size w w1) : w1.cell? p = some v := by
  refine (hb.cell ?_).trans h
  apply Decidable.byContradiction; intro hn
  have e : w.heap[p.block]? = none := by simp; omega
  simp [World.cell?, e] at h
theorem bdrew1 {B : Nat} {a w : World} (h : Below B a w) : Below B a w.drew := ⟨h.os, h.tape, h.output, h.size, h.block⟩
theorem par_mem {ps : List Pl} {p : Pl} (h0 : 0 ≤ p.id) (h1 : p.id < ps.length) : par ps p = ps[p.id.toNat]'(by omega) := by
  simp [par, List.getD, List.getElem?_eq_getElem (show p.id.toNat < ps.length by omega)]
set_option maxRecDepth 100000 in
theorem ends_any (g h : Nat) (a : Option Addr) (c : Nat) (ps : List Pl) (hid : BoxesIn ps) :
    ∀ (j : Nat), j ≤ 4 → ∀ (m : Int) (p : Pl) (w : World), m + j = 4 → (p.kind = 2 → 0 ≤ p.id ∧ p.id < ps.length) → PlsAt w a ps → w.cell? ⟨g, 0, none⟩ = some (endsF g h) → w.cell? ⟨h, 0, none⟩ = some (.slice a ps.length c) →
      Calls Try.prog 46 #[.agg #[.int .i64 p.kind, .int .i64 p.id], .int .i64 m, .pointer (some ⟨g, 0, none⟩), .pointer (some ⟨h, 0, none⟩)] w fun e w' => e = .returned (.bool (endsB ps j p)) ∧ Below w.heap.size w w' := by
  intro j
  induction j with
  | zero =>
    intro _ m p w hm hp hps hg hh
    obtain rfl : m = 4 := by omega
    clear hps hg hh
    obtain ⟨k, i⟩ := p
    by_cases hk : k = 2
    · subst hk
      go_enter Try.func46, Try.ntmps46
      go_wp2_with fail
      refine wp_region_noPanic ?_
      refine wp_region_held_drew (S := (fun w' => Below w.heap.size w w' ∧ w.heap.size < w'.heap.size ∧ ∀ i_1, w'.cell? ⟨w.heap.size, i_1, none⟩ = (#[.int .i64 2, .int .i64 i][i_1]? : Option Value))) (by kernel_rfl) (by (first | (exact (Holds.new _ _ _).drew) | (exact hHeld))) (fun hHeld => ?_)
      first
        | (refine wpAnyH_take (i := 0) (v := undef) (by simp only [List.getElem?_toArray, List.getElem?_cons_succ, List.getElem?_cons_zero]; rfl) (by kernel_rfl) (by kernel_rfl) (by kernel_rfl) (fun _ _ _ h => h) (Or.inr ⟨by rfl, rfl⟩) (by assumption) ?_; try simp only [Act.put, List.setIfInBounds_toArray, List.set_cons_zero, List.set_cons_succ])
        | (refine wpAnyH_take (i := 0) (v := ?_) (by simp only [List.getElem?_toArray, List.getElem?_cons_succ, List.getElem?_cons_zero]; rfl) (by kernel_rfl) (by kernel_rfl) (by kernel_rfl) (fun _ _ _ h => h) (Or.inl ⟨by rfl, ?_⟩) (by assumption) ?_
           rotate_left
           · (intro ww hSw; (try dsimp only at hSw); go_simp; (try with_reducible rfl))
           try simp only [Act.put, List.setIfInBounds_toArray, List.set_cons_zero, List.set_cons_succ])
        | (refine wpAnyH_ready (rs := [0]) (by kernel_rfl) (by simp) (AllReadyH.cons (by simp only [List.getElem?_toArray, List.getElem?_cons_succ, List.getElem?_cons_zero]; rfl) (fun K hK => ?_) AllReadyH.nil)
           go_simp
           first
             | (fail)
           try go_wp2_with fail
           refine hK.out _ _ (by (first | (exact (Holds.new _ _ _).drew) | (exact hHeld))) (fun hHeld => ?_)
           clear hK K
           try simp only [Act.put, List.setIfInBounds_toArray, List.set_cons_zero, List.set_cons_succ])
      first
        | (refine wpAnyH_take (i := 1) (v := undef) (by simp only [List.getElem?_toArray, List.getElem?_cons_succ, List.getElem?_cons_zero]; rfl) (by kernel_rfl) (by kernel_rfl) (by kernel_rfl) (fun _ _ _ h => h) (Or.inr ⟨by rfl, rfl⟩) (by assumption) ?_; try simp only [Act.put, List.setIfInBounds_toArray, List.set_cons_zero, List.set_cons_succ])
        | (refine wpAnyH_take (i := 1) (v := ?_) (by simp only [List.getElem?_toArray, List.getElem?_cons_succ, List.getElem?_cons_zero]; rfl) (by kernel_rfl) (by kernel_rfl) (by kernel_rfl) (fun _ _ _ h => h) (Or.inl ⟨by rfl, ?_⟩) (by assumption) ?_
           rotate_left
           · (intro ww hSw; (try dsimp only at hSw); go_simp; (try with_reducible rfl))
           try simp only [Act.put, List.setIfInBounds_toArray, List.set_cons_zero, List.set_cons_succ])
        | (refine wpAnyH_ready (rs := [1]) (by kernel_rfl) (by simp) (AllReadyH.cons (by simp only [List.getElem?_toArray, List.getElem?_cons_succ, List.getElem?_cons_zero]; rfl) (fun K hK => ?_) AllReadyH.nil)
           go_simp
           first
             | (fail)
           try go_wp2_with fail
           refine hK.out _ _ (by (first | (exact (Holds.new _ _ _).drew) | (exact hHeld))) (fun hHeld => ?_)
           clear hK K
           try simp only [Act.put, List.setIfInBounds_toArray, List.set_cons_zero, List.set_cons_succ])
      first
        | (refine wpAnyH_take (i := 2) (v := undef) (by simp only [List.getElem?_toArray, List.getElem?_cons_succ, List.getElem?_cons_zero]; rfl) (by kernel_rfl) (by kernel_rfl) (by kernel_rfl) (fun _ _ _ h => h) (Or.inr ⟨by rfl, rfl⟩) (by assumption) ?_; try simp only [Act.put, List.setIfInBounds_toArray, List.set_cons_zero, List.set_cons_succ])
        | (refine wpAnyH_take (i := 2) (v := ?_) (by simp only [List.getElem?_toArray, List.getElem?_cons_succ, List.getElem?_cons_zero]; rfl) (by kernel_rfl) (by kernel_rfl) (by kernel_rfl) (fun _ _ _ h => h) (Or.inl ⟨by rfl, ?_⟩) (by assumption) ?_
           rotate_left
           · (intro ww hSw; (try dsimp only at hSw); go_simp; (try with_reducible rfl))
           try simp only [Act.put, List.setIfInBounds_toArray, List.set_cons_zero, List.set_cons_succ])
        | (refine wpAnyH_ready (rs := [2]) (by kernel_rfl) (by simp) (AllReadyH.cons (by simp only [List.getElem?_toArray, List.getElem?_cons_succ, List.getElem?_cons_zero]; rfl) (fun K hK => ?_) AllReadyH.nil)
           go_simp
           first
             | (fail)
           try go_wp2_with fail
           refine hK.out _ _ (by (first | (exact (Holds.new _ _ _).drew) | (exact hHeld))) (fun hHeld => ?_)
           clear hK K
           try simp only [Act.put, List.setIfInBounds_toArray, List.set_cons_zero, List.set_cons_succ])
      first
        | (refine wpAnyH_take (i := 3) (v := undef) (by simp only [List.getElem?_toArray, List.getElem?_cons_succ, List.getElem?_cons_zero]; rfl) (by kernel_rfl) (by kernel_rfl) (by kernel_rfl) (fun _ _ _ h => h) (Or.inr ⟨by rfl, rfl⟩) (by assumption) ?_; try simp only [Act.put, List.setIfInBounds_toArray, List.set_cons_zero, List.set_cons_succ])
        | (refine wpAnyH_take (i := 3) (v := ?_) (by simp only [List.getElem?_toArray, List.getElem?_cons_succ, List.getElem?_cons_zero]; rfl) (by kernel_rfl) (by kernel_rfl) (by kernel_rfl) (fun _ _ _ h => h) (Or.inl ⟨by rfl, ?_⟩) (by assumption) ?_
           rotate_left
           · (intro ww hSw; (try dsimp only at hSw); go_simp; (try with_reducible rfl))
           try simp only [Act.put, List.setIfInBounds_toArray, List.set_cons_zero, List.set_cons_succ])
        | (refine wpAnyH_ready (rs := [3]) (by kernel_rfl) (by simp) (AllReadyH.cons (by simp only [List.getElem?_toArray, List.getElem?_cons_succ, List.getElem?_cons_zero]; rfl) (fun K hK => ?_) AllReadyH.nil)
           go_simp
           first
             | (fail)
           try go_wp2_with fail
           refine hK.out _ _ (by (first | (exact (Holds.new _ _ _).drew) | (exact hHeld))) (fun hHeld => ?_)
           clear hK K
           try simp only [Act.put, List.setIfInBounds_toArray, List.set_cons_zero, List.set_cons_succ])
      first
        | (refine wpAnyH_take (i := 4) (v := undef) (by simp only [List.getElem?_toArray, List.getElem?_cons_succ, List.getElem?_cons_zero]; rfl) (by kernel_rfl) (by kernel_rfl) (by kernel_rfl) (fun _ _ _ h => h) (Or.inr ⟨by rfl, rfl⟩) (by assumption) ?_; try simp only [Act.put, List.setIfInBounds_toArray, List.set_cons_zero, List.set_cons_succ])
        | (refine wpAnyH_take (i := 4) (v := ?_) (by simp only [List.getElem?_toArray, List.getElem?_cons_succ, List.getElem?_cons_zero]; rfl) (by kernel_rfl) (by kernel_rfl) (by kernel_rfl) (fun _ _ _ h => h) (Or.inl ⟨by rfl, ?_⟩) (by assumption) ?_
           rotate_left
           · (intro ww hSw; (try dsimp only at hSw); go_simp; (try with_reducible rfl))
           try simp only [Act.put, List.setIfInBounds_toArray, List.set_cons_zero, List.set_cons_succ])
        | (refine wpAnyH_ready (rs := [4]) (by kernel_rfl) (by simp) (AllReadyH.cons (by simp only [List.getElem?_toArray, List.getElem?_cons_succ, List.getElem?_cons_zero]; rfl) (fun K hK => ?_) AllReadyH.nil)
           go_simp
           first
             | (fail)
           try go_wp2_with fail
           refine hK.out _ _ (by (first | (exact (Holds.new _ _ _).drew) | (exact hHeld))) (fun hHeld => ?_)
           clear hK K
           try simp only [Act.put, List.setIfInBounds_toArray, List.set_cons_zero, List.set_cons_succ])
      first
        | (refine wpAnyH_take (i := 5) (v := undef) (by simp only [List.getElem?_toArray, List.getElem?_cons_succ, List.getElem?_cons_zero]; rfl) (by kernel_rfl) (by kernel_rfl) (by kernel_rfl) (fun _ _ _ h => h) (Or.inr ⟨by rfl, rfl⟩) (by assumption) ?_; try simp only [Act.put, List.setIfInBounds_toArray, List.set_cons_zero, List.set_cons_succ])
        | (refine wpAnyH_take (i := 5) (v := ?_) (by simp only [List.getElem?_toArray, List.getElem?_cons_succ, List.getElem?_cons_zero]; rfl) (by kernel_rfl) (by kernel_rfl) (by kernel_rfl) (fun _ _ _ h => h) (Or.inl ⟨by rfl, ?_⟩) (by assumption) ?_
           rotate_left
           · (intro ww hSw; (try dsimp only at hSw); go_simp; (try with_reducible rfl))
           try simp only [Act.put, List.setIfInBounds_toArray, List.set_cons_zero, List.set_cons_succ])
        | (refine wpAnyH_ready (rs := [5]) (by kernel_rfl) (by simp) (AllReadyH.cons (by simp only [List.getElem?_toArray, List.getElem?_cons_succ, List.getElem?_cons_zero]; rfl) (fun K hK => ?_) AllReadyH.nil)
           go_simp
           first
             | (fail)
           try go_wp2_with fail
           refine hK.out _ _ (by (first | (exact (Holds.new _ _ _).drew) | (exact hHeld))) (fun hHeld => ?_)
           clear hK K
           try simp only [Act.put, List.setIfInBounds_toArray, List.set_cons_zero, List.set_cons_succ])
      first
        | (refine wpAnyH_take (i := 6) (v := undef) (by simp only [List.getElem?_toArray, List.getElem?_cons_succ, List.getElem?_cons_zero]; rfl) (by kernel_rfl) (by kernel_rfl) (by kernel_rfl) (fun _ _ _ h => h) (Or.inr ⟨by rfl, rfl⟩) (by assumption) ?_; try simp only [Act.put, List.setIfInBounds_toArray, List.set_cons_zero, List.set_cons_succ])
        | (refine wpAnyH_take (i := 6) (v := ?_) (by simp only [List.getElem?_toArray, List.getElem?_cons_succ, List.getElem?_cons_zero]; rfl) (by kernel_rfl) (by kernel_rfl) (by kernel_rfl) (fun _ _ _ h => h) (Or.inl ⟨by rfl, ?_⟩) (by assumption) ?_
           rotate_left
           · (intro ww hSw; (try dsimp only at hSw); go_simp; (try with_reducible rfl))
           try simp only [Act.put, List.setIfInBounds_toArray, List.set_cons_zero, List.set_cons_succ])
        | (refine wpAnyH_ready (rs := [6]) (by kernel_rfl) (by simp) (AllReadyH.cons (by simp only [List.getElem?_toArray, List.getElem?_cons_succ, List.getElem?_cons_zero]; rfl) (fun K hK => ?_) AllReadyH.nil)
           go_simp
           first
             | (fail)
           try go_wp2_with fail
           refine hK.out _ _ (by (first | (exact (Holds.new _ _ _).drew) | (exact hHeld))) (fun hHeld => ?_)
           clear hK K
           try simp only [Act.put, List.setIfInBounds_toArray, List.set_cons_zero, List.set_cons_succ])
      first
        | (refine wpAnyH_take (i := 7) (v := undef) (by simp only [List.getElem?_toArray, List.getElem?_cons_succ, List.getElem?_cons_zero]; rfl) (by kernel_rfl) (by kernel_rfl) (by kernel_rfl) (fun _ _ _ h => h) (Or.inr ⟨by rfl, rfl⟩) (by assumption) ?_; try simp only [Act.put, List.setIfInBounds_toArray, List.set_cons_zero, List.set_cons_succ])
        | (refine wpAnyH_take (i := 7) (v := ?_) (by simp only [List.getElem?_toArray, List.getElem?_cons_succ, List.getElem?_cons_zero]; rfl) (by kernel_rfl) (by kernel_rfl) (by kernel_rfl) (fun _ _ _ h => h) (Or.inl ⟨by rfl, ?_⟩) (by assumption) ?_
           rotate_left
           · (intro ww hSw; (try dsimp only at hSw); go_simp; (try with_reducible rfl))
           try simp only [Act.put, List.setIfInBounds_toArray, List.set_cons_zero, List.set_cons_succ])
        | (refine wpAnyH_ready (rs := [7]) (by kernel_rfl) (by simp) (AllReadyH.cons (by simp only [List.getElem?_toArray, List.getElem?_cons_succ, List.getElem?_cons_zero]; rfl) (fun K hK => ?_) AllReadyH.nil)
           go_simp
           first
             | (fail)
           try go_wp2_with fail
           refine hK.out _ _ (by (first | (exact (Holds.new _ _ _).drew) | (exact hHeld))) (fun hHeld => ?_)
           clear hK K
           try simp only [Act.put, List.setIfInBounds_toArray, List.set_cons_zero, List.set_cons_succ])
      first
        | (refine wpAnyH_take (i := 8) (v := undef) (by simp only [List.getElem?_toArray, List.getElem?_cons_succ, List.getElem?_cons_zero]; rfl) (by kernel_rfl) (by kernel_rfl) (by kernel_rfl) (fun _ _ _ h => h) (Or.inr ⟨by rfl, rfl⟩) (by assumption) ?_; try simp only [Act.put, List.setIfInBounds_toArray, List.set_cons_zero, List.set_cons_succ])
        | (refine wpAnyH_take (i := 8) (v := ?_) (by simp only [List.getElem?_toArray, List.getElem?_cons_succ, List.getElem?_cons_zero]; rfl) (by kernel_rfl) (by kernel_rfl) (by kernel_rfl) (fun _ _ _ h => h) (Or.inl ⟨by rfl, ?_⟩) (by assumption) ?_
           rotate_left
           · (intro ww hSw; (try dsimp only at hSw); go_simp; (try with_reducible rfl))
           try simp only [Act.put, List.setIfInBounds_toArray, List.set_cons_zero, List.set_cons_succ])
        | (refine wpAnyH_ready (rs := [8]) (by kernel_rfl) (by simp) (AllReadyH.cons (by simp only [List.getElem?_toArray, List.getElem?_cons_succ, List.getElem?_cons_zero]; rfl) (fun K hK => ?_) AllReadyH.nil)
           go_simp
           first
             | (fail)
           try go_wp2_with fail
           refine hK.out _ _ (by (first | (exact (Holds.new _ _ _).drew) | (exact hHeld))) (fun hHeld => ?_)
           clear hK K
           try simp only [Act.put, List.setIfInBounds_toArray, List.set_cons_zero, List.set_cons_succ])
      first
        | (refine wpAnyH_take (i := 9) (v := undef) (by simp only [List.getElem?_toArray, List.getElem?_cons_succ, List.getElem?_cons_zero]; rfl) (by kernel_rfl) (by kernel_rfl) (by kernel_rfl) (fun _ _ _ h => h) (Or.inr ⟨by rfl, rfl⟩) (by assumption) ?_; try simp only [Act.put, List.setIfInBounds_toArray, List.set_cons_zero, List.set_cons_succ])
        | (refine wpAnyH_take (i := 9) (v := ?_) (by simp only [List.getElem?_toArray, List.getElem?_cons_succ, List.getElem?_cons_zero]; rfl) (by kernel_rfl) (by kernel_rfl) (by kernel_rfl) (fun _ _ _ h => h) (Or.inl ⟨by rfl, ?_⟩) (by assumption) ?_
           rotate_left
           · (intro ww hSw; (try dsimp only at hSw); go_simp; (try with_reducible rfl))
           try simp only [Act.put, List.setIfInBounds_toArray, List.set_cons_zero, List.set_cons_succ])
        | (refine wpAnyH_ready (rs := [9]) (by kernel_rfl) (by simp) (AllReadyH.cons (by simp only [List.getElem?_toArray, List.getElem?_cons_succ, List.getElem?_cons_zero]; rfl) (fun K hK => ?_) AllReadyH.nil)
           go_simp
           first
             | (fail)
           try go_wp2_with fail
           refine hK.out _ _ (by (first | (exact (Holds.new _ _ _).drew) | (exact hHeld))) (fun hHeld => ?_)
           clear hK K
           try simp only [Act.put, List.setIfInBounds_toArray, List.set_cons_zero, List.set_cons_succ])
      first
        | (refine wpAnyH_take (i := 10) (v := undef) (by simp only [List.getElem?_toArray, List.getElem?_cons_succ, List.getElem?_cons_zero]; rfl) (by kernel_rfl) (by kernel_rfl) (by kernel_rfl) (fun _ _ _ h => h) (Or.inr ⟨by rfl, rfl⟩) (by assumption) ?_; try simp only [Act.put, List.setIfInBounds_toArray, List.set_cons_zero, List.set_cons_succ])
        | (refine wpAnyH_take (i := 10) (v := ?_) (by simp only [List.getElem?_toArray, List.getElem?_cons_succ, List.getElem?_cons_zero]; rfl) (by kernel_rfl) (by kernel_rfl) (by kernel_rfl) (fun _ _ _ h => h) (Or.inl ⟨by rfl, ?_⟩) (by assumption) ?_
           rotate_left
           · (intro ww hSw; (try dsimp only at hSw); go_simp; (try with_reducible rfl))
           try simp only [Act.put, List.setIfInBounds_toArray, List.set_cons_zero, List.set_cons_succ])
        | (refine wpAnyH_ready (rs := [10]) (by kernel_rfl) (by simp) (AllReadyH.cons (by simp only [List.getElem?_toArray, List.getElem?_cons_succ, List.getElem?_cons_zero]; rfl) (fun K hK => ?_) AllReadyH.nil)
           go_simp
           first
             | (fail)
           try go_wp2_with fail
           refine hK.out _ _ (by (first | (exact (Holds.new _ _ _).drew) | (exact hHeld))) (fun hHeld => ?_)
           clear hK K
           try simp only [Act.put, List.setIfInBounds_toArray, List.set_cons_zero, List.set_cons_succ])
      first
        | (refine wpAnyH_take (i := 11) (v := undef) (by simp only [List.getElem?_toArray, List.getElem?_cons_succ, List.getElem?_cons_zero]; rfl) (by kernel_rfl) (by kernel_rfl) (by kernel_rfl) (fun _ _ _ h => h) (Or.inr ⟨by rfl, rfl⟩) (by assumption) ?_; try simp only [Act.put, List.setIfInBounds_toArray, List.set_cons_zero, List.set_cons_succ])
        | (refine wpAnyH_take (i := 11) (v := ?_) (by simp only [List.getElem?_toArray, List.getElem?_cons_succ, List.getElem?_cons_zero]; rfl) (by kernel_rfl) (by kernel_rfl) (by kernel_rfl) (fun _ _ _ h => h) (Or.inl ⟨by rfl, ?_⟩) (by assumption) ?_
           rotate_left
           · (intro ww hSw; (try dsimp only at hSw); go_simp; (try with_reducible rfl))
           try simp only [Act.put, List.setIfInBounds_toArray, List.set_cons_zero, List.set_cons_succ])
        | (refine wpAnyH_ready (rs := [11]) (by kernel_rfl) (by simp) (AllReadyH.cons (by simp only [List.getElem?_toArray, List.getElem?_cons_succ, List.getElem?_cons_zero]; rfl) (fun K hK => ?_) AllReadyH.nil)
           go_simp
           first
             | (fail)
           try go_wp2_with fail
           refine hK.out _ _ (by (first | (exact (Holds.new _ _ _).drew) | (exact hHeld))) (fun hHeld => ?_)
           clear hK K
           try simp only [Act.put, List.setIfInBounds_toArray, List.set_cons_zero, List.set_cons_succ])
      first
        | (refine wpAnyH_take (i := 12) (v := undef) (by simp only [List.getElem?_toArray, List.getElem?_cons_succ, List.getElem?_cons_zero]; rfl) (by kernel_rfl) (by kernel_rfl) (by kernel_rfl) (fun _ _ _ h => h) (Or.inr ⟨by rfl, rfl⟩) (by assumption) ?_; try simp only [Act.put, List.setIfInBounds_toArray, List.set_cons_zero, List.set_cons_succ])
        | (refine wpAnyH_take (i := 12) (v := ?_) (by simp only [List.getElem?_toArray, List.getElem?_cons_succ, List.getElem?_cons_zero]; rfl) (by kernel_rfl) (by kernel_rfl) (by kernel_rfl) (fun _ _ _ h => h) (Or.inl ⟨by rfl, ?_⟩) (by assumption) ?_
           rotate_left
           · (intro ww hSw; (try dsimp only at hSw); go_simp; (try with_reducible rfl))
           try simp only [Act.put, List.setIfInBounds_toArray, List.set_cons_zero, List.set_cons_succ])
        | (refine wpAnyH_ready (rs := [12]) (by kernel_rfl) (by simp) (AllReadyH.cons (by simp only [List.getElem?_toArray, List.getElem?_cons_succ, List.getElem?_cons_zero]; rfl) (fun K hK => ?_) AllReadyH.nil)
           go_simp
           first
             | (fail)
           try go_wp2_with fail
           refine hK.out _ _ (by (first | (exact (Holds.new _ _ _).drew) | (exact hHeld))) (fun hHeld => ?_)
           clear hK K
           try simp only [Act.put, List.setIfInBounds_toArray, List.set_cons_zero, List.set_cons_succ])
      first
        | (refine wpAnyH_take (i := 13) (v := undef) (by simp only [List.getElem?_toArray, List.getElem?_cons_succ, List.getElem?_cons_zero]; rfl) (by kernel_rfl) (by kernel_rfl) (by kernel_rfl) (fun _ _ _ h => h) (Or.inr ⟨by rfl, rfl⟩) (by assumption) ?_; try simp only [Act.put, List.setIfInBounds_toArray, List.set_cons_zero, List.set_cons_succ])
        | (refine wpAnyH_take (i := 13) (v := ?_) (by simp only [List.getElem?_toArray, List.getElem?_cons_succ, List.getElem?_cons_zero]; rfl) (by kernel_rfl) (by kernel_rfl) (by kernel_rfl) (fun _ _ _ h => h) (Or.inl ⟨by rfl, ?_⟩) (by assumption) ?_
           rotate_left
           · (intro ww hSw; (try dsimp only at hSw); go_simp; (try with_reducible rfl))
           try simp only [Act.put, List.setIfInBounds_toArray, List.set_cons_zero, List.set_cons_succ])
        | (refine wpAnyH_ready (rs := [13]) (by kernel_rfl) (by simp) (AllReadyH.cons (by simp only [List.getElem?_toArray, List.getElem?_cons_succ, List.getElem?_cons_zero]; rfl) (fun K hK => ?_) AllReadyH.nil)
           go_simp
           first
             | (fail)
           try go_wp2_with fail
           refine hK.out _ _ (by (first | (exact (Holds.new _ _ _).drew) | (exact hHeld))) (fun hHeld => ?_)
           clear hK K
           try simp only [Act.put, List.setIfInBounds_toArray, List.set_cons_zero, List.set_cons_succ])
      refine wpAnyH_done (by kernel_rfl) ?_ _
      refine NoPanic.normal ?_
      have hB := Lib.hid (show Below w.heap.size w _ from (by assumption : Holds _ _ _ _).1)
      go_wp2_with fail
      go_ret
      exact ⟨rfl, hB.out⟩
    · have hk2 : (k != 2) = true := by simpa using hk
      have HE := Lib.hid (show endsB ps 0 ⟨k, i⟩ = true by simp [endsB, hk])
      clear hk
      go_enter Try.func46, Try.ntmps46
      go_wp2_with fail
      go_ret
      exact ⟨ret_bool HE.out.symm, (Below.refl _ _).alloc (Nat.le_refl _) _⟩
  | succ j ih =>
    intro hj m p w hm hp hps hg hh
    obtain ⟨k, i⟩ := p
    by_cases hk : k = 2
    · subst hk
      obtain ⟨i0, i1⟩ := hp rfl
      obtain ⟨q, rfl⟩ : ∃ q : Nat, i = q := ⟨i.toNat, by simp only at i0; omega⟩
      have hlt : q < ps.length := by simp only at i1; omega
      have HE := Lib.hid (show endsB ps (j + 1) ⟨2, q⟩ = endsB ps j ps[q] by rw [endsB, par_mem i0 i1]; simp)
      have HI := Lib.hid (hid ps[q] (List.getElem_mem hlt))
      obtain ⟨b, o, rfl, hb, c0, c1⟩ := PlsAt.cells hps hlt
      generalize ps[q] = x at *
      have hml : m < 4 := by omega
      have hmw : IntKind.i64.wrap (m + 1) = m + 1 := IntWalk.i64_in _ (by omega)
      have HP := Lib.hid hps
      have HG := Lib.hid hg
      have HH := Lib.hid hh
      have C0 := Lib.hid c0
      have C1 := Lib.hid c1
      have HM := Lib.hid (show m + 1 + (j : Int) = 4 by omega)
      have HJ := Lib.hid (show j ≤ 4 by omega)
      have HIH := Lib.hid ih
      clear ih hps hg hh c0 c1 hp hid hm hj i0 i1
      go_enter Try.func46, Try.ntmps46
      go_wp2_with fail
      refine wp_region_noPanic ?_
      refine wp_region_held_drew (S := (fun w' => Below w.heap.size w w' ∧ w.heap.size < w'.heap.size ∧ (∀ i_1, w'.cell? ⟨w.heap.size, i_1, none⟩ = (#[.int .i64 2, .int .i64 q][i_1]? : Option Value)) ∧ w'.cell? ⟨g, 0, none⟩ = some (.func (.func 46) #[] #[.pointer (some ⟨g, 0, none⟩), .pointer (some ⟨h, 0, none⟩)]) ∧ w'.cell? ⟨h, 0, none⟩ = some (.slice (some ⟨b, o, none⟩) ps.length c) ∧ w'.cell? ⟨b, o + q * 2, none⟩ = some (.int .i64 x.kind) ∧ w'.cell? ⟨b, o + q * 2 + 1, none⟩ = some (.int .i64 x.id))) (by kernel_rfl) (by (first | (exact ⟨(Holds.new _ _ _).drew.1, (Holds.new _ _ _).drew.2.1, (Holds.new _ _ _).drew.2.2, cell_call HG.out (bdrew1 ((Below.refl _ _).alloc (Nat.le_refl _) _)), cell_call HH.out (bdrew1 ((Below.refl _ _).alloc (Nat.le_refl _) _)), cell_call C0.out (bdrew1 ((Below.refl _ _).alloc (Nat.le_refl _) _)), cell_call C1.out (bdrew1 ((Below.refl _ _).alloc (Nat.le_refl _) _))⟩) | (exact ⟨(Holds.call ⟨hHeld.1, hHeld.2.1, hHeld.2.2.1⟩ hb2).1, (Holds.call ⟨hHeld.1, hHeld.2.1, hHeld.2.2.1⟩ hb2).2.1, (Holds.call ⟨hHeld.1, hHeld.2.1, hHeld.2.2.1⟩ hb2).2.2, cell_call hHeld.2.2.2.1 hb2, cell_call hHeld.2.2.2.2.1 hb2, cell_call hHeld.2.2.2.2.2.1 hb2, cell_call hHeld.2.2.2.2.2.2 hb2⟩) | (exact hHeld))) (fun hHeld => ?_)
      first
        | (refine wpAnyH_take (i := 0) (v := undef) (by simp only [List.getElem?_toArray, List.getElem?_cons_succ, List.getElem?_cons_zero]; rfl) (by kernel_rfl) (by kernel_rfl) (by kernel_rfl) (fun _ _ _ h => h) (Or.inr ⟨by rfl, rfl⟩) (by assumption) ?_; try simp only [Act.put, List.setIfInBounds_toArray, List.set_cons_zero, List.set_cons_succ])
        | (refine wpAnyH_take (i := 0) (v := ?_) (by simp only [List.getElem?_toArray, List.getElem?_cons_succ, List.getElem?_cons_zero]; rfl) (by kernel_rfl) (by kernel_rfl) (by kernel_rfl) (fun _ _ _ h => h) (Or.inl ⟨by rfl, ?_⟩) (by assumption) ?_
           rotate_left
           · (intro ww hSw; (try dsimp only at hSw); go_simp; (try with_reducible rfl))
           try simp only [Act.put, List.setIfInBounds_toArray, List.set_cons_zero, List.set_cons_succ])
        | (refine wpAnyH_ready (rs := [0]) (by kernel_rfl) (by simp) (AllReadyH.cons (by simp only [List.getElem?_toArray, List.getElem?_cons_succ, List.getElem?_cons_zero]; rfl) (fun K hK => ?_) AllReadyH.nil)
           go_simp
           first
             | (go_at_call 46; refine (HIH.out HJ.out (m + 1) x _ HM.out HI.out (RowAt.below HP.out hHeld.1 (Nat.le_refl _)) hHeld.2.2.2.1 hHeld.2.2.2.2.1).mono ?_; rintro e w1 ⟨rfl, hb2⟩)
           try go_wp2_with fail
           refine hK.out _ _ (by (first | (exact ⟨(Holds.new _ _ _).drew.1, (Holds.new _ _ _).drew.2.1, (Holds.new _ _ _).drew.2.2, cell_call HG.out (bdrew1 ((Below.refl _ _).alloc (Nat.le_refl _) _)), cell_call HH.out (bdrew1 ((Below.refl _ _).alloc (Nat.le_refl _) _)), cell_call C0.out (bdrew1 ((Below.refl _ _).alloc (Nat.le_refl _) _)), cell_call C1.out (bdrew1 ((Below.refl _ _).alloc (Nat.le_refl _) _))⟩) | (exact ⟨(Holds.call ⟨hHeld.1, hHeld.2.1, hHeld.2.2.1⟩ hb2).1, (Holds.call ⟨hHeld.1, hHeld.2.1, hHeld.2.2.1⟩ hb2).2.1, (Holds.call ⟨hHeld.1, hHeld.2.1, hHeld.2.2.1⟩ hb2).2.2, cell_call hHeld.2.2.2.1 hb2, cell_call hHeld.2.2.2.2.1 hb2, cell_call hHeld.2.2.2.2.2.1 hb2, cell_call hHeld.2.2.2.2.2.2 hb2⟩) | (exact hHeld))) (fun hHeld => ?_)
           clear hK K
           try simp only [Act.put, List.setIfInBounds_toArray, List.set_cons_zero, List.set_cons_succ])
      first
        | (refine wpAnyH_take (i := 1) (v := undef) (by simp only [List.getElem?_toArray, List.getElem?_cons_succ, List.getElem?_cons_zero]; rfl) (by kernel_rfl) (by kernel_rfl) (by kernel_rfl) (fun _ _ _ h => h) (Or.inr ⟨by rfl, rfl⟩) (by assumption) ?_; try simp only [Act.put, List.setIfInBounds_toArray, List.set_cons_zero, List.set_cons_succ])
        | (refine wpAnyH_take (i := 1) (v := ?_) (by simp only [List.getElem?_toArray, List.getElem?_cons_succ, List.getElem?_cons_zero]; rfl) (by kernel_rfl) (by kernel_rfl) (by kernel_rfl) (fun _ _ _ h => h) (Or.inl ⟨by rfl, ?_⟩) (by assumption) ?_
           rotate_left
           · (intro ww hSw; (try dsimp only at hSw); go_simp; (try with_reducible rfl))
           try simp only [Act.put, List.setIfInBounds_toArray, List.set_cons_zero, List.set_cons_succ])
        | (refine wpAnyH_ready (rs := [1]) (by kernel_rfl) (by simp) (AllReadyH.cons (by simp only [List.getElem?_toArray, List.getElem?_cons_succ, List.getElem?_cons_zero]; rfl) (fun K hK => ?_) AllReadyH.nil)
           go_simp
           first
             | (go_at_call 46; refine (HIH.out HJ.out (m + 1) x _ HM.out HI.out (RowAt.below HP.out hHeld.1 (Nat.le_refl _)) hHeld.2.2.2.1 hHeld.2.2.2.2.1).mono ?_; rintro e w1 ⟨rfl, hb2⟩)
           try go_wp2_with fail
           refine hK.out _ _ (by (first | (exact ⟨(Holds.new _ _ _).drew.1, (Holds.new _ _ _).drew.2.1, (Holds.new _ _ _).drew.2.2, cell_call HG.out (bdrew1 ((Below.refl _ _).alloc (Nat.le_refl _) _)), cell_call HH.out (bdrew1 ((Below.refl _ _).alloc (Nat.le_refl _) _)), cell_call C0.out (bdrew1 ((Below.refl _ _).alloc (Nat.le_refl _) _)), cell_call C1.out (bdrew1 ((Below.refl _ _).alloc (Nat.le_refl _) _))⟩) | (exact ⟨(Holds.call ⟨hHeld.1, hHeld.2.1, hHeld.2.2.1⟩ hb2).1, (Holds.call ⟨hHeld.1, hHeld.2.1, hHeld.2.2.1⟩ hb2).2.1, (Holds.call ⟨hHeld.1, hHeld.2.1, hHeld.2.2.1⟩ hb2).2.2, cell_call hHeld.2.2.2.1 hb2, cell_call hHeld.2.2.2.2.1 hb2, cell_call hHeld.2.2.2.2.2.1 hb2, cell_call hHeld.2.2.2.2.2.2 hb2⟩) | (exact hHeld))) (fun hHeld => ?_)
           clear hK K
           try simp only [Act.put, List.setIfInBounds_toArray, List.set_cons_zero, List.set_cons_succ])
      first
        | (refine wpAnyH_take (i := 2) (v := undef) (by simp only [List.getElem?_toArray, List.getElem?_cons_succ, List.getElem?_cons_zero]; rfl) (by kernel_rfl) (by kernel_rfl) (by kernel_rfl) (fun _ _ _ h => h) (Or.inr ⟨by rfl, rfl⟩) (by assumption) ?_; try simp only [Act.put, List.setIfInBounds_toArray, List.set_cons_zero, List.set_cons_succ])
        | (refine wpAnyH_take (i := 2) (v := ?_) (by simp only [List.getElem?_toArray, List.getElem?_cons_succ, List.getElem?_cons_zero]; rfl) (by kernel_rfl) (by kernel_rfl) (by kernel_rfl) (fun _ _ _ h => h) (Or.inl ⟨by rfl, ?_⟩) (by assumption) ?_
           rotate_left
           · (intro ww hSw; (try dsimp only at hSw); go_simp; (try with_reducible rfl))
           try simp only [Act.put, List.setIfInBounds_toArray, List.set_cons_zero, List.set_cons_succ])
        | (refine wpAnyH_ready (rs := [2]) (by kernel_rfl) (by simp) (AllReadyH.cons (by simp only [List.getElem?_toArray, List.getElem?_cons_succ, List.getElem?_cons_zero]; rfl) (fun K hK => ?_) AllReadyH.nil)
           go_simp
           first
             | (go_at_call 46; refine (HIH.out HJ.out (m + 1) x _ HM.out HI.out (RowAt.below HP.out hHeld.1 (Nat.le_refl _)) hHeld.2.2.2.1 hHeld.2.2.2.2.1).mono ?_; rintro e w1 ⟨rfl, hb2⟩)
           try go_wp2_with fail
           refine hK.out _ _ (by (first | (exact ⟨(Holds.new _ _ _).drew.1, (Holds.new _ _ _).drew.2.1, (Holds.new _ _ _).drew.2.2, cell_call HG.out (bdrew1 ((Below.refl _ _).alloc (Nat.le_refl _) _)), cell_call HH.out (bdrew1 ((Below.refl _ _).alloc (Nat.le_refl _) _)), cell_call C0.out (bdrew1 ((Below.refl _ _).alloc (Nat.le_refl _) _)), cell_call C1.out (bdrew1 ((Below.refl _ _).alloc (Nat.le_refl _) _))⟩) | (exact ⟨(Holds.call ⟨hHeld.1, hHeld.2.1, hHeld.2.2.1⟩ hb2).1, (Holds.call ⟨hHeld.1, hHeld.2.1, hHeld.2.2.1⟩ hb2).2.1, (Holds.call ⟨hHeld.1, hHeld.2.1, hHeld.2.2.1⟩ hb2).2.2, cell_call hHeld.2.2.2.1 hb2, cell_call hHeld.2.2.2.2.1 hb2, cell_call hHeld.2.2.2.2.2.1 hb2, cell_call hHeld.2.2.2.2.2.2 hb2⟩) | (exact hHeld))) (fun hHeld => ?_)
           clear hK K
           try simp only [Act.put, List.setIfInBounds_toArray, List.set_cons_zero, List.set_cons_succ])
      first
        | (refine wpAnyH_take (i := 3) (v := undef) (by simp only [List.getElem?_toArray, List.getElem?_cons_succ, List.getElem?_cons_zero]; rfl) (by kernel_rfl) (by kernel_rfl) (by kernel_rfl) (fun _ _ _ h => h) (Or.inr ⟨by rfl, rfl⟩) (by assumption) ?_; try simp only [Act.put, List.setIfInBounds_toArray, List.set_cons_zero, List.set_cons_succ])
        | (refine wpAnyH_take (i := 3) (v := ?_) (by simp only [List.getElem?_toArray, List.getElem?_cons_succ, List.getElem?_cons_zero]; rfl) (by kernel_rfl) (by kernel_rfl) (by kernel_rfl) (fun _ _ _ h => h) (Or.inl ⟨by rfl, ?_⟩) (by assumption) ?_
           rotate_left
           · (intro ww hSw; (try dsimp only at hSw); go_simp; (try with_reducible rfl))
           try simp only [Act.put, List.setIfInBounds_toArray, List.set_cons_zero, List.set_cons_succ])
        | (refine wpAnyH_ready (rs := [3]) (by kernel_rfl) (by simp) (AllReadyH.cons (by simp only [List.getElem?_toArray, List.getElem?_cons_succ, List.getElem?_cons_zero]; rfl) (fun K hK => ?_) AllReadyH.nil)
           go_simp
           first
             | (go_at_call 46; refine (HIH.out HJ.out (m + 1) x _ HM.out HI.out (RowAt.below HP.out hHeld.1 (Nat.le_refl _)) hHeld.2.2.2.1 hHeld.2.2.2.2.1).mono ?_; rintro e w1 ⟨rfl, hb2⟩)
           try go_wp2_with fail
           refine hK.out _ _ (by (first | (exact ⟨(Holds.new _ _ _).drew.1, (Holds.new _ _ _).drew.2.1, (Holds.new _ _ _).drew.2.2, cell_call HG.out (bdrew1 ((Below.refl _ _).alloc (Nat.le_refl _) _)), cell_call HH.out (bdrew1 ((Below.refl _ _).alloc (Nat.le_refl _) _)), cell_call C0.out (bdrew1 ((Below.refl _ _).alloc (Nat.le_refl _) _)), cell_call C1.out (bdrew1 ((Below.refl _ _).alloc (Nat.le_refl _) _))⟩) | (exact ⟨(Holds.call ⟨hHeld.1, hHeld.2.1, hHeld.2.2.1⟩ hb2).1, (Holds.call ⟨hHeld.1, hHeld.2.1, hHeld.2.2.1⟩ hb2).2.1, (Holds.call ⟨hHeld.1, hHeld.2.1, hHeld.2.2.1⟩ hb2).2.2, cell_call hHeld.2.2.2.1 hb2, cell_call hHeld.2.2.2.2.1 hb2, cell_call hHeld.2.2.2.2.2.1 hb2, cell_call hHeld.2.2.2.2.2.2 hb2⟩) | (exact hHeld))) (fun hHeld => ?_)
           clear hK K
           try simp only [Act.put, List.setIfInBounds_toArray, List.set_cons_zero, List.set_cons_succ])
      first
        | (refine wpAnyH_take (i := 4) (v := undef) (by simp only [List.getElem?_toArray, List.getElem?_cons_succ, List.getElem?_cons_zero]; rfl) (by kernel_rfl) (by kernel_rfl) (by kernel_rfl) (fun _ _ _ h => h) (Or.inr ⟨by rfl, rfl⟩) (by assumption) ?_; try simp only [Act.put, List.setIfInBounds_toArray, List.set_cons_zero, List.set_cons_succ])
        | (refine wpAnyH_take (i := 4) (v := ?_) (by simp only [List.getElem?_toArray, List.getElem?_cons_succ, List.getElem?_cons_zero]; rfl) (by kernel_rfl) (by kernel_rfl) (by kernel_rfl) (fun _ _ _ h => h) (Or.inl ⟨by rfl, ?_⟩) (by assumption) ?_
           rotate_left
           · (intro ww hSw; (try dsimp only at hSw); go_simp; (try with_reducible rfl))
           try simp only [Act.put, List.setIfInBounds_toArray, List.set_cons_zero, List.set_cons_succ])
        | (refine wpAnyH_ready (rs := [4]) (by kernel_rfl) (by simp) (AllReadyH.cons (by simp only [List.getElem?_toArray, List.getElem?_cons_succ, List.getElem?_cons_zero]; rfl) (fun K hK => ?_) AllReadyH.nil)
           go_simp
           first
             | (go_at_call 46; refine (HIH.out HJ.out (m + 1) x _ HM.out HI.out (RowAt.below HP.out hHeld.1 (Nat.le_refl _)) hHeld.2.2.2.1 hHeld.2.2.2.2.1).mono ?_; rintro e w1 ⟨rfl, hb2⟩)
           try go_wp2_with fail
           refine hK.out _ _ (by (first | (exact ⟨(Holds.new _ _ _).drew.1, (Holds.new _ _ _).drew.2.1, (Holds.new _ _ _).drew.2.2, cell_call HG.out (bdrew1 ((Below.refl _ _).alloc (Nat.le_refl _) _)), cell_call HH.out (bdrew1 ((Below.refl _ _).alloc (Nat.le_refl _) _)), cell_call C0.out (bdrew1 ((Below.refl _ _).alloc (Nat.le_refl _) _)), cell_call C1.out (bdrew1 ((Below.refl _ _).alloc (Nat.le_refl _) _))⟩) | (exact ⟨(Holds.call ⟨hHeld.1, hHeld.2.1, hHeld.2.2.1⟩ hb2).1, (Holds.call ⟨hHeld.1, hHeld.2.1, hHeld.2.2.1⟩ hb2).2.1, (Holds.call ⟨hHeld.1, hHeld.2.1, hHeld.2.2.1⟩ hb2).2.2, cell_call hHeld.2.2.2.1 hb2, cell_call hHeld.2.2.2.2.1 hb2, cell_call hHeld.2.2.2.2.2.1 hb2, cell_call hHeld.2.2.2.2.2.2 hb2⟩) | (exact hHeld))) (fun hHeld => ?_)
           clear hK K
           try simp only [Act.put, List.setIfInBounds_toArray, List.set_cons_zero, List.set_cons_succ])
      first
        | (refine wpAnyH_take (i := 5) (v := undef) (by simp only [List.getElem?_toArray, List.getElem?_cons_succ, List.getElem?_cons_zero]; rfl) (by kernel_rfl) (by kernel_rfl) (by kernel_rfl) (fun _ _ _ h => h) (Or.inr ⟨by rfl, rfl⟩) (by assumption) ?_; try simp only [Act.put, List.setIfInBounds_toArray, List.set_cons_zero, List.set_cons_succ])
        | (refine wpAnyH_take (i := 5) (v := ?_) (by simp only [List.getElem?_toArray, List.getElem?_cons_succ, List.getElem?_cons_zero]; rfl) (by kernel_rfl) (by kernel_rfl) (by kernel_rfl) (fun _ _ _ h => h) (Or.inl ⟨by rfl, ?_⟩) (by assumption) ?_
           rotate_left
           · (intro ww hSw; (try dsimp only at hSw); go_simp; (try with_reducible rfl))
           try simp only [Act.put, List.setIfInBounds_toArray, List.set_cons_zero, List.set_cons_succ])
        | (refine wpAnyH_ready (rs := [5]) (by kernel_rfl) (by simp) (AllReadyH.cons (by simp only [List.getElem?_toArray, List.getElem?_cons_succ, List.getElem?_cons_zero]; rfl) (fun K hK => ?_) AllReadyH.nil)
           go_simp
           first
             | (go_at_call 46; refine (HIH.out HJ.out (m + 1) x _ HM.out HI.out (RowAt.below HP.out hHeld.1 (Nat.le_refl _)) hHeld.2.2.2.1 hHeld.2.2.2.2.1).mono ?_; rintro e w1 ⟨rfl, hb2⟩)
           try go_wp2_with fail
           refine hK.out _ _ (by (first | (exact ⟨(Holds.new _ _ _).drew.1, (Holds.new _ _ _).drew.2.1, (Holds.new _ _ _).drew.2.2, cell_call HG.out (bdrew1 ((Below.refl _ _).alloc (Nat.le_refl _) _)), cell_call HH.out (bdrew1 ((Below.refl _ _).alloc (Nat.le_refl _) _)), cell_call C0.out (bdrew1 ((Below.refl _ _).alloc (Nat.le_refl _) _)), cell_call C1.out (bdrew1 ((Below.refl _ _).alloc (Nat.le_refl _) _))⟩) | (exact ⟨(Holds.call ⟨hHeld.1, hHeld.2.1, hHeld.2.2.1⟩ hb2).1, (Holds.call ⟨hHeld.1, hHeld.2.1, hHeld.2.2.1⟩ hb2).2.1, (Holds.call ⟨hHeld.1, hHeld.2.1, hHeld.2.2.1⟩ hb2).2.2, cell_call hHeld.2.2.2.1 hb2, cell_call hHeld.2.2.2.2.1 hb2, cell_call hHeld.2.2.2.2.2.1 hb2, cell_call hHeld.2.2.2.2.2.2 hb2⟩) | (exact hHeld))) (fun hHeld => ?_)
           clear hK K
           try simp only [Act.put, List.setIfInBounds_toArray, List.set_cons_zero, List.set_cons_succ])
      first
        | (refine wpAnyH_take (i := 6) (v := undef) (by simp only [List.getElem?_toArray, List.getElem?_cons_succ, List.getElem?_cons_zero]; rfl) (by kernel_rfl) (by kernel_rfl) (by kernel_rfl) (fun _ _ _ h => h) (Or.inr ⟨by rfl, rfl⟩) (by assumption) ?_; try simp only [Act.put, List.setIfInBounds_toArray, List.set_cons_zero, List.set_cons_succ])
        | (refine wpAnyH_take (i := 6) (v := ?_) (by simp only [List.getElem?_toArray, List.getElem?_cons_succ, List.getElem?_cons_zero]; rfl) (by kernel_rfl) (by kernel_rfl) (by kernel_rfl) (fun _ _ _ h => h) (Or.inl ⟨by rfl, ?_⟩) (by assumption) ?_
           rotate_left
           · (intro ww hSw; (try dsimp only at hSw); go_simp; (try with_reducible rfl))
           try simp only [Act.put, List.setIfInBounds_toArray, List.set_cons_zero, List.set_cons_succ])
        | (refine wpAnyH_ready (rs := [6]) (by kernel_rfl) (by simp) (AllReadyH.cons (by simp only [List.getElem?_toArray, List.getElem?_cons_succ, List.getElem?_cons_zero]; rfl) (fun K hK => ?_) AllReadyH.nil)
           go_simp
           first
             | (go_at_call 46; refine (HIH.out HJ.out (m + 1) x _ HM.out HI.out (RowAt.below HP.out hHeld.1 (Nat.le_refl _)) hHeld.2.2.2.1 hHeld.2.2.2.2.1).mono ?_; rintro e w1 ⟨rfl, hb2⟩)
           try go_wp2_with fail
           refine hK.out _ _ (by (first | (exact ⟨(Holds.new _ _ _).drew.1, (Holds.new _ _ _).drew.2.1, (Holds.new _ _ _).drew.2.2, cell_call HG.out (bdrew1 ((Below.refl _ _).alloc (Nat.le_refl _) _)), cell_call HH.out (bdrew1 ((Below.refl _ _).alloc (Nat.le_refl _) _)), cell_call C0.out (bdrew1 ((Below.refl _ _).alloc (Nat.le_refl _) _)), cell_call C1.out (bdrew1 ((Below.refl _ _).alloc (Nat.le_refl _) _))⟩) | (exact ⟨(Holds.call ⟨hHeld.1, hHeld.2.1, hHeld.2.2.1⟩ hb2).1, (Holds.call ⟨hHeld.1, hHeld.2.1, hHeld.2.2.1⟩ hb2).2.1, (Holds.call ⟨hHeld.1, hHeld.2.1, hHeld.2.2.1⟩ hb2).2.2, cell_call hHeld.2.2.2.1 hb2, cell_call hHeld.2.2.2.2.1 hb2, cell_call hHeld.2.2.2.2.2.1 hb2, cell_call hHeld.2.2.2.2.2.2 hb2⟩) | (exact hHeld))) (fun hHeld => ?_)
           clear hK K
           try simp only [Act.put, List.setIfInBounds_toArray, List.set_cons_zero, List.set_cons_succ])
      first
        | (refine wpAnyH_take (i := 7) (v := undef) (by simp only [List.getElem?_toArray, List.getElem?_cons_succ, List.getElem?_cons_zero]; rfl) (by kernel_rfl) (by kernel_rfl) (by kernel_rfl) (fun _ _ _ h => h) (Or.inr ⟨by rfl, rfl⟩) (by assumption) ?_; try simp only [Act.put, List.setIfInBounds_toArray, List.set_cons_zero, List.set_cons_succ])
        | (refine wpAnyH_take (i := 7) (v := ?_) (by simp only [List.getElem?_toArray, List.getElem?_cons_succ, List.getElem?_cons_zero]; rfl) (by kernel_rfl) (by kernel_rfl) (by kernel_rfl) (fun _ _ _ h => h) (Or.inl ⟨by rfl, ?_⟩) (by assumption) ?_
           rotate_left
           · (intro ww hSw; (try dsimp only at hSw); go_simp; (try with_reducible rfl))
           try simp only [Act.put, List.setIfInBounds_toArray, List.set_cons_zero, List.set_cons_succ])
        | (refine wpAnyH_ready (rs := [7]) (by kernel_rfl) (by simp) (AllReadyH.cons (by simp only [List.getElem?_toArray, List.getElem?_cons_succ, List.getElem?_cons_zero]; rfl) (fun K hK => ?_) AllReadyH.nil)
           go_simp
           first
             | (go_at_call 46; refine (HIH.out HJ.out (m + 1) x _ HM.out HI.out (RowAt.below HP.out hHeld.1 (Nat.le_refl _)) hHeld.2.2.2.1 hHeld.2.2.2.2.1).mono ?_; rintro e w1 ⟨rfl, hb2⟩)
           try go_wp2_with fail
           refine hK.out _ _ (by (first | (exact ⟨(Holds.new _ _ _).drew.1, (Holds.new _ _ _).drew.2.1, (Holds.new _ _ _).drew.2.2, cell_call HG.out (bdrew1 ((Below.refl _ _).alloc (Nat.le_refl _) _)), cell_call HH.out (bdrew1 ((Below.refl _ _).alloc (Nat.le_refl _) _)), cell_call C0.out (bdrew1 ((Below.refl _ _).alloc (Nat.le_refl _) _)), cell_call C1.out (bdrew1 ((Below.refl _ _).alloc (Nat.le_refl _) _))⟩) | (exact ⟨(Holds.call ⟨hHeld.1, hHeld.2.1, hHeld.2.2.1⟩ hb2).1, (Holds.call ⟨hHeld.1, hHeld.2.1, hHeld.2.2.1⟩ hb2).2.1, (Holds.call ⟨hHeld.1, hHeld.2.1, hHeld.2.2.1⟩ hb2).2.2, cell_call hHeld.2.2.2.1 hb2, cell_call hHeld.2.2.2.2.1 hb2, cell_call hHeld.2.2.2.2.2.1 hb2, cell_call hHeld.2.2.2.2.2.2 hb2⟩) | (exact hHeld))) (fun hHeld => ?_)
           clear hK K
           try simp only [Act.put, List.setIfInBounds_toArray, List.set_cons_zero, List.set_cons_succ])
      first
        | (refine wpAnyH_take (i := 8) (v := undef) (by simp only [List.getElem?_toArray, List.getElem?_cons_succ, List.getElem?_cons_zero]; rfl) (by kernel_rfl) (by kernel_rfl) (by kernel_rfl) (fun _ _ _ h => h) (Or.inr ⟨by rfl, rfl⟩) (by assumption) ?_; try simp only [Act.put, List.setIfInBounds_toArray, List.set_cons_zero, List.set_cons_succ])
        | (refine wpAnyH_take (i := 8) (v := ?_) (by simp only [List.getElem?_toArray, List.getElem?_cons_succ, List.getElem?_cons_zero]; rfl) (by kernel_rfl) (by kernel_rfl) (by kernel_rfl) (fun _ _ _ h => h) (Or.inl ⟨by rfl, ?_⟩) (by assumption) ?_
           rotate_left
           · (intro ww hSw; (try dsimp only at hSw); go_simp; (try with_reducible rfl))
           try simp only [Act.put, List.setIfInBounds_toArray, List.set_cons_zero, List.set_cons_succ])
        | (refine wpAnyH_ready (rs := [8]) (by kernel_rfl) (by simp) (AllReadyH.cons (by simp only [List.getElem?_toArray, List.getElem?_cons_succ, List.getElem?_cons_zero]; rfl) (fun K hK => ?_) AllReadyH.nil)
           go_simp
           first
             | (go_at_call 46; refine (HIH.out HJ.out (m + 1) x _ HM.out HI.out (RowAt.below HP.out hHeld.1 (Nat.le_refl _)) hHeld.2.2.2.1 hHeld.2.2.2.2.1).mono ?_; rintro e w1 ⟨rfl, hb2⟩)
           try go_wp2_with fail
           refine hK.out _ _ (by (first | (exact ⟨(Holds.new _ _ _).drew.1, (Holds.new _ _ _).drew.2.1, (Holds.new _ _ _).drew.2.2, cell_call HG.out (bdrew1 ((Below.refl _ _).alloc (Nat.le_refl _) _)), cell_call HH.out (bdrew1 ((Below.refl _ _).alloc (Nat.le_refl _) _)), cell_call C0.out (bdrew1 ((Below.refl _ _).alloc (Nat.le_refl _) _)), cell_call C1.out (bdrew1 ((Below.refl _ _).alloc (Nat.le_refl _) _))⟩) | (exact ⟨(Holds.call ⟨hHeld.1, hHeld.2.1, hHeld.2.2.1⟩ hb2).1, (Holds.call ⟨hHeld.1, hHeld.2.1, hHeld.2.2.1⟩ hb2).2.1, (Holds.call ⟨hHeld.1, hHeld.2.1, hHeld.2.2.1⟩ hb2).2.2, cell_call hHeld.2.2.2.1 hb2, cell_call hHeld.2.2.2.2.1 hb2, cell_call hHeld.2.2.2.2.2.1 hb2, cell_call hHeld.2.2.2.2.2.2 hb2⟩) | (exact hHeld))) (fun hHeld => ?_)
           clear hK K
           try simp only [Act.put, List.setIfInBounds_toArray, List.set_cons_zero, List.set_cons_succ])
      first
        | (refine wpAnyH_take (i := 9) (v := undef) (by simp only [List.getElem?_toArray, List.getElem?_cons_succ, List.getElem?_cons_zero]; rfl) (by kernel_rfl) (by kernel_rfl) (by kernel_rfl) (fun _ _ _ h => h) (Or.inr ⟨by rfl, rfl⟩) (by assumption) ?_; try simp only [Act.put, List.setIfInBounds_toArray, List.set_cons_zero, List.set_cons_succ])
        | (refine wpAnyH_take (i := 9) (v := ?_) (by simp only [List.getElem?_toArray, List.getElem?_cons_succ, List.getElem?_cons_zero]; rfl) (by kernel_rfl) (by kernel_rfl) (by kernel_rfl) (fun _ _ _ h => h) (Or.inl ⟨by rfl, ?_⟩) (by assumption) ?_
           rotate_left
           · (intro ww hSw; (try dsimp only at hSw); go_simp; (try with_reducible rfl))
           try simp only [Act.put, List.setIfInBounds_toArray, List.set_cons_zero, List.set_cons_succ])
        | (refine wpAnyH_ready (rs := [9]) (by kernel_rfl) (by simp) (AllReadyH.cons (by simp only [List.getElem?_toArray, List.getElem?_cons_succ, List.getElem?_cons_zero]; rfl) (fun K hK => ?_) AllReadyH.nil)
           go_simp
           first
             | (go_at_call 46; refine (HIH.out HJ.out (m + 1) x _ HM.out HI.out (RowAt.below HP.out hHeld.1 (Nat.le_refl _)) hHeld.2.2.2.1 hHeld.2.2.2.2.1).mono ?_; rintro e w1 ⟨rfl, hb2⟩)
           try go_wp2_with fail
           refine hK.out _ _ (by (first | (exact ⟨(Holds.new _ _ _).drew.1, (Holds.new _ _ _).drew.2.1, (Holds.new _ _ _).drew.2.2, cell_call HG.out (bdrew1 ((Below.refl _ _).alloc (Nat.le_refl _) _)), cell_call HH.out (bdrew1 ((Below.refl _ _).alloc (Nat.le_refl _) _)), cell_call C0.out (bdrew1 ((Below.refl _ _).alloc (Nat.le_refl _) _)), cell_call C1.out (bdrew1 ((Below.refl _ _).alloc (Nat.le_refl _) _))⟩) | (exact ⟨(Holds.call ⟨hHeld.1, hHeld.2.1, hHeld.2.2.1⟩ hb2).1, (Holds.call ⟨hHeld.1, hHeld.2.1, hHeld.2.2.1⟩ hb2).2.1, (Holds.call ⟨hHeld.1, hHeld.2.1, hHeld.2.2.1⟩ hb2).2.2, cell_call hHeld.2.2.2.1 hb2, cell_call hHeld.2.2.2.2.1 hb2, cell_call hHeld.2.2.2.2.2.1 hb2, cell_call hHeld.2.2.2.2.2.2 hb2⟩) | (exact hHeld))) (fun hHeld => ?_)
           clear hK K
           try simp only [Act.put, List.setIfInBounds_toArray, List.set_cons_zero, List.set_cons_succ])
      first
        | (refine wpAnyH_take (i := 10) (v := undef) (by simp only [List.getElem?_toArray, List.getElem?_cons_succ, List.getElem?_cons_zero]; rfl) (by kernel_rfl) (by kernel_rfl) (by kernel_rfl) (fun _ _ _ h => h) (Or.inr ⟨by rfl, rfl⟩) (by assumption) ?_; try simp only [Act.put, List.setIfInBounds_toArray, List.set_cons_zero, List.set_cons_succ])
        | (refine wpAnyH_take (i := 10) (v := ?_) (by simp only [List.getElem?_toArray, List.getElem?_cons_succ, List.getElem?_cons_zero]; rfl) (by kernel_rfl) (by kernel_rfl) (by kernel_rfl) (fun _ _ _ h => h) (Or.inl ⟨by rfl, ?_⟩) (by assumption) ?_
           rotate_left
           · (intro ww hSw; (try dsimp only at hSw); go_simp; (try with_reducible rfl))
           try simp only [Act.put, List.setIfInBounds_toArray, List.set_cons_zero, List.set_cons_succ])
        | (refine wpAnyH_ready (rs := [10]) (by kernel_rfl) (by simp) (AllReadyH.cons (by simp only [List.getElem?_toArray, List.getElem?_cons_succ, List.getElem?_cons_zero]; rfl) (fun K hK => ?_) AllReadyH.nil)
           go_simp
           first
             | (go_at_call 46; refine (HIH.out HJ.out (m + 1) x _ HM.out HI.out (RowAt.below HP.out hHeld.1 (Nat.le_refl _)) hHeld.2.2.2.1 hHeld.2.2.2.2.1).mono ?_; rintro e w1 ⟨rfl, hb2⟩)
           try go_wp2_with fail
           refine hK.out _ _ (by (first | (exact ⟨(Holds.new _ _ _).drew.1, (Holds.new _ _ _).drew.2.1, (Holds.new _ _ _).drew.2.2, cell_call HG.out (bdrew1 ((Below.refl _ _).alloc (Nat.le_refl _) _)), cell_call HH.out (bdrew1 ((Below.refl _ _).alloc (Nat.le_refl _) _)), cell_call C0.out (bdrew1 ((Below.refl _ _).alloc (Nat.le_refl _) _)), cell_call C1.out (bdrew1 ((Below.refl _ _).alloc (Nat.le_refl _) _))⟩) | (exact ⟨(Holds.call ⟨hHeld.1, hHeld.2.1, hHeld.2.2.1⟩ hb2).1, (Holds.call ⟨hHeld.1, hHeld.2.1, hHeld.2.2.1⟩ hb2).2.1, (Holds.call ⟨hHeld.1, hHeld.2.1, hHeld.2.2.1⟩ hb2).2.2, cell_call hHeld.2.2.2.1 hb2, cell_call hHeld.2.2.2.2.1 hb2, cell_call hHeld.2.2.2.2.2.1 hb2, cell_call hHeld.2.2.2.2.2.2 hb2⟩) | (exact hHeld))) (fun hHeld => ?_)
           clear hK K
           try simp only [Act.put, List.setIfInBounds_toArray, List.set_cons_zero, List.set_cons_succ])
      first
        | (refine wpAnyH_take (i := 11) (v := undef) (by simp only [List.getElem?_toArray, List.getElem?_cons_succ, List.getElem?_cons_zero]; rfl) (by kernel_rfl) (by kernel_rfl) (by kernel_rfl) (fun _ _ _ h => h) (Or.inr ⟨by rfl, rfl⟩) (by assumption) ?_; try simp only [Act.put, List.setIfInBounds_toArray, List.set_cons_zero, List.set_cons_succ])
        | (refine wpAnyH_take (i := 11) (v := ?_) (by simp only [List.getElem?_toArray, List.getElem?_cons_succ, List.getElem?_cons_zero]; rfl) (by kernel_rfl) (by kernel_rfl) (by kernel_rfl) (fun _ _ _ h => h) (Or.inl ⟨by rfl, ?_⟩) (by assumption) ?_
           rotate_left
           · (intro ww hSw; (try dsimp only at hSw); go_simp; (try with_reducible rfl))
           try simp only [Act.put, List.setIfInBounds_toArray, List.set_cons_zero, List.set_cons_succ])
        | (refine wpAnyH_ready (rs := [11]) (by kernel_rfl) (by simp) (AllReadyH.cons (by simp only [List.getElem?_toArray, List.getElem?_cons_succ, List.getElem?_cons_zero]; rfl) (fun K hK => ?_) AllReadyH.nil)
           go_simp
           first
             | (go_at_call 46; refine (HIH.out HJ.out (m + 1) x _ HM.out HI.out (RowAt.below HP.out hHeld.1 (Nat.le_refl _)) hHeld.2.2.2.1 hHeld.2.2.2.2.1).mono ?_; rintro e w1 ⟨rfl, hb2⟩)
           try go_wp2_with fail
           refine hK.out _ _ (by (first | (exact ⟨(Holds.new _ _ _).drew.1, (Holds.new _ _ _).drew.2.1, (Holds.new _ _ _).drew.2.2, cell_call HG.out (bdrew1 ((Below.refl _ _).alloc (Nat.le_refl _) _)), cell_call HH.out (bdrew1 ((Below.refl _ _).alloc (Nat.le_refl _) _)), cell_call C0.out (bdrew1 ((Below.refl _ _).alloc (Nat.le_refl _) _)), cell_call C1.out (bdrew1 ((Below.refl _ _).alloc (Nat.le_refl _) _))⟩) | (exact ⟨(Holds.call ⟨hHeld.1, hHeld.2.1, hHeld.2.2.1⟩ hb2).1, (Holds.call ⟨hHeld.1, hHeld.2.1, hHeld.2.2.1⟩ hb2).2.1, (Holds.call ⟨hHeld.1, hHeld.2.1, hHeld.2.2.1⟩ hb2).2.2, cell_call hHeld.2.2.2.1 hb2, cell_call hHeld.2.2.2.2.1 hb2, cell_call hHeld.2.2.2.2.2.1 hb2, cell_call hHeld.2.2.2.2.2.2 hb2⟩) | (exact hHeld))) (fun hHeld => ?_)
           clear hK K
           try simp only [Act.put, List.setIfInBounds_toArray, List.set_cons_zero, List.set_cons_succ])
      first
        | (refine wpAnyH_take (i := 12) (v := undef) (by simp only [List.getElem?_toArray, List.getElem?_cons_succ, List.getElem?_cons_zero]; rfl) (by kernel_rfl) (by kernel_rfl) (by kernel_rfl) (fun _ _ _ h => h) (Or.inr ⟨by rfl, rfl⟩) (by assumption) ?_; try simp only [Act.put, List.setIfInBounds_toArray, List.set_cons_zero, List.set_cons_succ])
        | (refine wpAnyH_take (i := 12) (v := ?_) (by simp only [List.getElem?_toArray, List.getElem?_cons_succ, List.getElem?_cons_zero]; rfl) (by kernel_rfl) (by kernel_rfl) (by kernel_rfl) (fun _ _ _ h => h) (Or.inl ⟨by rfl, ?_⟩) (by assumption) ?_
           rotate_left
           · (intro ww hSw; (try dsimp only at hSw); go_simp; (try with_reducible rfl))
           try simp only [Act.put, List.setIfInBounds_toArray, List.set_cons_zero, List.set_cons_succ])
        | (refine wpAnyH_ready (rs := [12]) (by kernel_rfl) (by simp) (AllReadyH.cons (by simp only [List.getElem?_toArray, List.getElem?_cons_succ, List.getElem?_cons_zero]; rfl) (fun K hK => ?_) AllReadyH.nil)
           go_simp
           first
             | (go_at_call 46; refine (HIH.out HJ.out (m + 1) x _ HM.out HI.out (RowAt.below HP.out hHeld.1 (Nat.le_refl _)) hHeld.2.2.2.1 hHeld.2.2.2.2.1).mono ?_; rintro e w1 ⟨rfl, hb2⟩)
           try go_wp2_with fail
           refine hK.out _ _ (by (first | (exact ⟨(Holds.new _ _ _).drew.1, (Holds.new _ _ _).drew.2.1, (Holds.new _ _ _).drew.2.2, cell_call HG.out (bdrew1 ((Below.refl _ _).alloc (Nat.le_refl _) _)), cell_call HH.out (bdrew1 ((Below.refl _ _).alloc (Nat.le_refl _) _)), cell_call C0.out (bdrew1 ((Below.refl _ _).alloc (Nat.le_refl _) _)), cell_call C1.out (bdrew1 ((Below.refl _ _).alloc (Nat.le_refl _) _))⟩) | (exact ⟨(Holds.call ⟨hHeld.1, hHeld.2.1, hHeld.2.2.1⟩ hb2).1, (Holds.call ⟨hHeld.1, hHeld.2.1, hHeld.2.2.1⟩ hb2).2.1, (Holds.call ⟨hHeld.1, hHeld.2.1, hHeld.2.2.1⟩ hb2).2.2, cell_call hHeld.2.2.2.1 hb2, cell_call hHeld.2.2.2.2.1 hb2, cell_call hHeld.2.2.2.2.2.1 hb2, cell_call hHeld.2.2.2.2.2.2 hb2⟩) | (exact hHeld))) (fun hHeld => ?_)
           clear hK K
           try simp only [Act.put, List.setIfInBounds_toArray, List.set_cons_zero, List.set_cons_succ])
      first
        | (refine wpAnyH_take (i := 13) (v := undef) (by simp only [List.getElem?_toArray, List.getElem?_cons_succ, List.getElem?_cons_zero]; rfl) (by kernel_rfl) (by kernel_rfl) (by kernel_rfl) (fun _ _ _ h => h) (Or.inr ⟨by rfl, rfl⟩) (by assumption) ?_; try simp only [Act.put, List.setIfInBounds_toArray, List.set_cons_zero, List.set_cons_succ])
        | (refine wpAnyH_take (i := 13) (v := ?_) (by simp only [List.getElem?_toArray, List.getElem?_cons_succ, List.getElem?_cons_zero]; rfl) (by kernel_rfl) (by kernel_rfl) (by kernel_rfl) (fun _ _ _ h => h) (Or.inl ⟨by rfl, ?_⟩) (by assumption) ?_
           rotate_left
           · (intro ww hSw; (try dsimp only at hSw); go_simp; (try with_reducible rfl))
           try simp only [Act.put, List.setIfInBounds_toArray, List.set_cons_zero, List.set_cons_succ])
        | (refine wpAnyH_ready (rs := [13]) (by kernel_rfl) (by simp) (AllReadyH.cons (by simp only [List.getElem?_toArray, List.getElem?_cons_succ, List.getElem?_cons_zero]; rfl) (fun K hK => ?_) AllReadyH.nil)
           go_simp
           first
             | (go_at_call 46; refine (HIH.out HJ.out (m + 1) x _ HM.out HI.out (RowAt.below HP.out hHeld.1 (Nat.le_refl _)) hHeld.2.2.2.1 hHeld.2.2.2.2.1).mono ?_; rintro e w1 ⟨rfl, hb2⟩)
           try go_wp2_with fail
           refine hK.out _ _ (by (first | (exact ⟨(Holds.new _ _ _).drew.1, (Holds.new _ _ _).drew.2.1, (Holds.new _ _ _).drew.2.2, cell_call HG.out (bdrew1 ((Below.refl _ _).alloc (Nat.le_refl _) _)), cell_call HH.out (bdrew1 ((Below.refl _ _).alloc (Nat.le_refl _) _)), cell_call C0.out (bdrew1 ((Below.refl _ _).alloc (Nat.le_refl _) _)), cell_call C1.out (bdrew1 ((Below.refl _ _).alloc (Nat.le_refl _) _))⟩) | (exact ⟨(Holds.call ⟨hHeld.1, hHeld.2.1, hHeld.2.2.1⟩ hb2).1, (Holds.call ⟨hHeld.1, hHeld.2.1, hHeld.2.2.1⟩ hb2).2.1, (Holds.call ⟨hHeld.1, hHeld.2.1, hHeld.2.2.1⟩ hb2).2.2, cell_call hHeld.2.2.2.1 hb2, cell_call hHeld.2.2.2.2.1 hb2, cell_call hHeld.2.2.2.2.2.1 hb2, cell_call hHeld.2.2.2.2.2.2 hb2⟩) | (exact hHeld))) (fun hHeld => ?_)
           clear hK K
           try simp only [Act.put, List.setIfInBounds_toArray, List.set_cons_zero, List.set_cons_succ])
      refine wpAnyH_done (by kernel_rfl) ?_ _
      refine NoPanic.normal ?_
      have hB := Lib.hid (show Below w.heap.size w _ from hHeld.1)
      clear hHeld
      go_wp2_with fail
      go_ret
      exact ⟨ret_bool HE.out.symm, hB.out⟩
    · have hk2 : (k != 2) = true := by simpa using hk
      have HE := Lib.hid (show endsB ps (j + 1) ⟨k, i⟩ = true by simp [endsB, hk])
      clear hk ih
      go_enter Try.func46, Try.ntmps46
      go_wp2_with fail
      go_ret
      exact ⟨ret_bool HE.out.symm, (Below.refl _ _).alloc (Nat.le_refl _) _⟩
end Go.Proofs.Ytniblphklgbpnaa
