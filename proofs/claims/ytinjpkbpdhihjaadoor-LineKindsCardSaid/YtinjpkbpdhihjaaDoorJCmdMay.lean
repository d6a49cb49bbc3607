import Derived.Test.YtinjpkbpdhihjaaDoorRows
import Derived.Test.YtinjpkbpdhihjaaDoorKit
import Derived.Test.YtinjpkbpdhihjaaDoorStrs
import Derived.Test.YtinjpkbpdhihjaaDoorJMath
import Derived.Test.YtinjpkbpdhihjaaDoorJCmd
import Derived.Test.YtinjpkbpdhihjaaDoorJCmdOwn
import Derived.Test.YtinjpkbpdhihjaaDoorJCmdSame
import Derived.Test.YtinjpkbpdhihjaaDoorJTab
import Derived.Deep.QuietTactic
import Derived.BigQuiet
import Derived.Deep.RegionHeld3
import Derived.WalkKit
import Derived.ProofKit
import Derived.OpenShut
import Derived.IntWalk
/- cmd: May: may a command be? By the code. -/
namespace Go.Proofs.YtinjpkbpdhihjaaDoor
open Go.ChangeShapes Go.WideShapes Go.ChangeAt Go.RowKit
set_option linter.unusedVariables false
open Go.RowKit
theorem own_any (c : Cm) (ga wa : Option Addr) (gc wc : Nat) (w : World) (hk : isKindB c.kind = true) (h1 : IntsAt w ga c.gives) (h2 : IntsAt w wa c.wants) :
    Calls Tryd.prog 39 #[.agg #[.int .i64 c.kind, .int .i64 c.dir, .int .i64 c.item, .int .i64 c.box, .int .i64 c.who, .slice ga c.gives.length gc, .int .i64 c.pay, .slice wa c.wants.length wc, .int .i64 c.fee]] w (GivesCmd (ownC c) w) := by
  obtain ⟨k, d, i, b, h, gs, p, ws, f⟩ := c
  simp only at hk h1 h2 ⊢
  rcases kinds hk with rfl | rfl | rfl | rfl | rfl | rfl | rfl | rfl | rfl | rfl
  case inr.inr.inr.inr.inr.inr.inr.inl =>
    refine (own_8 d i b h p f gs ws ga wa gc wc w).mono ?_
    rintro e w1 ⟨rfl, hb⟩
    exact ⟨ga, gc, wa, wc, by simp [ownC, keep, keepL], by simpa [ownC, keepL] using h1.below hb (Nat.le_refl _), by simpa [ownC, keepL] using h2.below hb (Nat.le_refl _), hb⟩
  case inl => exact (own_1 d i b h p f gs ws ga wa gc wc w).mono fun e w1 ⟨he, hb⟩ => ⟨none, 0, none, 0, by rw [he]; simp [ownC, keep, keepL], IntsAt.nil _ _, IntsAt.nil _ _, hb⟩
  case inr.inl => exact (own_2 d i b h p f gs ws ga wa gc wc w).mono fun e w1 ⟨he, hb⟩ => ⟨none, 0, none, 0, by rw [he]; simp [ownC, keep, keepL], IntsAt.nil _ _, IntsAt.nil _ _, hb⟩
  case inr.inr.inl => exact (own_3 d i b h p f gs ws ga wa gc wc w).mono fun e w1 ⟨he, hb⟩ => ⟨none, 0, none, 0, by rw [he]; simp [ownC, keep, keepL], IntsAt.nil _ _, IntsAt.nil _ _, hb⟩
  case inr.inr.inr.inl => exact (own_4 d i b h p f gs ws ga wa gc wc w).mono fun e w1 ⟨he, hb⟩ => ⟨none, 0, none, 0, by rw [he]; simp [ownC, keep, keepL], IntsAt.nil _ _, IntsAt.nil _ _, hb⟩
  case inr.inr.inr.inr.inl => exact (own_5 d i b h p f gs ws ga wa gc wc w).mono fun e w1 ⟨he, hb⟩ => ⟨none, 0, none, 0, by rw [he]; simp [ownC, keep, keepL], IntsAt.nil _ _, IntsAt.nil _ _, hb⟩
  case inr.inr.inr.inr.inr.inl => exact (own_6 d i b h p f gs ws ga wa gc wc w).mono fun e w1 ⟨he, hb⟩ => ⟨none, 0, none, 0, by rw [he]; simp [ownC, keep, keepL], IntsAt.nil _ _, IntsAt.nil _ _, hb⟩
  case inr.inr.inr.inr.inr.inr.inl => exact (own_7 d i b h p f gs ws ga wa gc wc w).mono fun e w1 ⟨he, hb⟩ => ⟨none, 0, none, 0, by rw [he]; simp [ownC, keep, keepL], IntsAt.nil _ _, IntsAt.nil _ _, hb⟩
  case inr.inr.inr.inr.inr.inr.inr.inr.inl => exact (own_9 d i b h p f gs ws ga wa gc wc w).mono fun e w1 ⟨he, hb⟩ => ⟨none, 0, none, 0, by rw [he]; simp [ownC, keep, keepL], IntsAt.nil _ _, IntsAt.nil _ _, hb⟩
  case inr.inr.inr.inr.inr.inr.inr.inr.inr => exact (own_10 d i b h p f gs ws ga wa gc wc w).mono fun e w1 ⟨he, hb⟩ => ⟨none, 0, none, 0, by rw [he]; simp [ownC, keep, keepL], IntsAt.nil _ _, IntsAt.nil _ _, hb⟩

set_option maxRecDepth 100000 in
theorem may_no (c : Cm) (ga wa : Option Addr) (gc wc : Nat) (w : World) (hk : isKindB c.kind = false) :
    Calls Tryd.prog 22 #[.agg #[.int .i64 c.kind, .int .i64 c.dir, .int .i64 c.item, .int .i64 c.box, .int .i64 c.who, .slice ga c.gives.length gc, .int .i64 c.pay, .slice wa c.wants.length wc, .int .i64 c.fee]] w fun e w' => e = .returned (.bool (mayB c)) ∧ Below w.heap.size w w' := by
  have HS := Lib.hid (show mayB c = false by simp [mayB, hk])
  have HK := Lib.hid hk
  clear hk
  go_enter Tryd.func22, Tryd.ntmps22
  go_wp2_with fail
  refine wp_region_noPanic ?_
  refine wp_region_held_drew (S := (fun w' => Below w.heap.size w w' ∧ w.heap.size < w'.heap.size ∧ ∀ i, w'.cell? ⟨w.heap.size, i, none⟩ = (#[.int .i64 c.kind, .int .i64 c.dir, .int .i64 c.item, .int .i64 c.box, .int .i64 c.who, .slice ga c.gives.length gc, .int .i64 c.pay, .slice wa c.wants.length wc, .int .i64 c.fee][i]? : Option Value))) (by kernel_rfl) (by (first | (exact (Holds.new _ _ _).drew) | (exact hHeld))) (fun hHeld => ?_)
  first
    | (refine wpAnyH_take (i := 0) (v := undef) (by simp only [List.getElem?_toArray, List.getElem?_cons_zero]; rfl) (by kernel_rfl) (by kernel_rfl) (by kernel_rfl) (fun _ _ _ h => h) (Or.inr ⟨by rfl, rfl⟩) (by assumption) ?_; try simp only [Act.put, List.setIfInBounds_toArray, List.set_cons_zero, List.set_cons_succ])
    | (refine wpAnyH_take (i := 0) (v := ?_) (by simp only [List.getElem?_toArray, List.getElem?_cons_zero]; rfl) (by kernel_rfl) (by kernel_rfl) (by kernel_rfl) (fun _ _ _ h => h) (Or.inl ⟨by rfl, ?_⟩) (by assumption) ?_
       rotate_left
       · (intro ww hSw; (try dsimp only at hSw); go_simp; (try with_reducible rfl))
       try simp only [Act.put, List.setIfInBounds_toArray, List.set_cons_zero, List.set_cons_succ])
    | (refine wpAnyH_ready (rs := [0]) (by kernel_rfl) (by simp) (AllReadyH.cons (by simp only [List.getElem?_toArray, List.getElem?_cons_succ, List.getElem?_cons_zero]; rfl) (fun K hK => ?_) AllReadyH.nil)
       go_simp
       first
         | (go_at_call 36; refine (iskind_any _ _).mono ?_; rintro e w1 ⟨rfl, rfl⟩; rw [HK.out])
       try go_wp2_with fail
       refine hK.out _ _ (by (first | (exact (Holds.new _ _ _).drew) | (exact hHeld))) (fun hHeld => ?_)
       clear hK K
       try simp only [Act.put, List.setIfInBounds_toArray, List.set_cons_zero, List.set_cons_succ])
  first
    | (refine wpAnyH_take (i := 1) (v := undef) (by simp only [List.getElem?_toArray, List.getElem?_cons_succ, List.getElem?_cons_zero]; rfl) (by kernel_rfl) (by kernel_rfl) (by kernel_rfl) (fun _ _ _ h => h) (Or.inr ⟨by rfl, rfl⟩) (by assumption) ?_; try simp only [Act.put, List.setIfInBounds_toArray, List.set_cons_zero, List.set_cons_succ])
    | (refine wpAnyH_take (i := 1) (v := ?_) (by simp only [List.getElem?_toArray, List.getElem?_cons_succ, List.getElem?_cons_zero]; rfl) (by kernel_rfl) (by kernel_rfl) (by kernel_rfl) (fun _ _ _ h => h) (Or.inl ⟨by rfl, ?_⟩) (by assumption) ?_
       rotate_left
       · (intro ww hSw; (try dsimp only at hSw); go_simp; (try with_reducible rfl))
       try simp only [Act.put, List.setIfInBounds_toArray, List.set_cons_zero, List.set_cons_succ])
    | (refine wpAnyH_ready (rs := [1]) (by kernel_rfl) (by simp) (AllReadyH.cons (by simp only [List.getElem?_toArray, List.getElem?_cons_succ, List.getElem?_cons_zero]; rfl) (fun K hK => ?_) AllReadyH.nil)
       go_simp
       first
         | (go_at_call 36; refine (iskind_any _ _).mono ?_; rintro e w1 ⟨rfl, rfl⟩; rw [HK.out])
       try go_wp2_with fail
       refine hK.out _ _ (by (first | (exact (Holds.new _ _ _).drew) | (exact hHeld))) (fun hHeld => ?_)
       clear hK K
       try simp only [Act.put, List.setIfInBounds_toArray, List.set_cons_zero, List.set_cons_succ])
  first
    | (refine wpAnyH_take (i := 2) (v := undef) (by simp only [List.getElem?_toArray, List.getElem?_cons_succ, List.getElem?_cons_zero]; rfl) (by kernel_rfl) (by kernel_rfl) (by kernel_rfl) (fun _ _ _ h => h) (Or.inr ⟨by rfl, rfl⟩) (by assumption) ?_; try simp only [Act.put, List.setIfInBounds_toArray, List.set_cons_zero, List.set_cons_succ])
    | (refine wpAnyH_take (i := 2) (v := ?_) (by simp only [List.getElem?_toArray, List.getElem?_cons_succ, List.getElem?_cons_zero]; rfl) (by kernel_rfl) (by kernel_rfl) (by kernel_rfl) (fun _ _ _ h => h) (Or.inl ⟨by rfl, ?_⟩) (by assumption) ?_
       rotate_left
       · (intro ww hSw; (try dsimp only at hSw); go_simp; (try with_reducible rfl))
       try simp only [Act.put, List.setIfInBounds_toArray, List.set_cons_zero, List.set_cons_succ])
    | (refine wpAnyH_ready (rs := [2]) (by kernel_rfl) (by simp) (AllReadyH.cons (by simp only [List.getElem?_toArray, List.getElem?_cons_succ, List.getElem?_cons_zero]; rfl) (fun K hK => ?_) AllReadyH.nil)
       go_simp
       first
         | (go_at_call 36; refine (iskind_any _ _).mono ?_; rintro e w1 ⟨rfl, rfl⟩; rw [HK.out])
       try go_wp2_with fail
       refine hK.out _ _ (by (first | (exact (Holds.new _ _ _).drew) | (exact hHeld))) (fun hHeld => ?_)
       clear hK K
       try simp only [Act.put, List.setIfInBounds_toArray, List.set_cons_zero, List.set_cons_succ])
  first
    | (refine wpAnyH_take (i := 3) (v := undef) (by simp only [List.getElem?_toArray, List.getElem?_cons_succ, List.getElem?_cons_zero]; rfl) (by kernel_rfl) (by kernel_rfl) (by kernel_rfl) (fun _ _ _ h => h) (Or.inr ⟨by rfl, rfl⟩) (by assumption) ?_; try simp only [Act.put, List.setIfInBounds_toArray, List.set_cons_zero, List.set_cons_succ])
    | (refine wpAnyH_take (i := 3) (v := ?_) (by simp only [List.getElem?_toArray, List.getElem?_cons_succ, List.getElem?_cons_zero]; rfl) (by kernel_rfl) (by kernel_rfl) (by kernel_rfl) (fun _ _ _ h => h) (Or.inl ⟨by rfl, ?_⟩) (by assumption) ?_
       rotate_left
       · (intro ww hSw; (try dsimp only at hSw); go_simp; (try with_reducible rfl))
       try simp only [Act.put, List.setIfInBounds_toArray, List.set_cons_zero, List.set_cons_succ])
    | (refine wpAnyH_ready (rs := [3]) (by kernel_rfl) (by simp) (AllReadyH.cons (by simp only [List.getElem?_toArray, List.getElem?_cons_succ, List.getElem?_cons_zero]; rfl) (fun K hK => ?_) AllReadyH.nil)
       go_simp
       first
         | (go_at_call 36; refine (iskind_any _ _).mono ?_; rintro e w1 ⟨rfl, rfl⟩; rw [HK.out])
       try go_wp2_with fail
       refine hK.out _ _ (by (first | (exact (Holds.new _ _ _).drew) | (exact hHeld))) (fun hHeld => ?_)
       clear hK K
       try simp only [Act.put, List.setIfInBounds_toArray, List.set_cons_zero, List.set_cons_succ])
  first
    | (refine wpAnyH_take (i := 4) (v := undef) (by simp only [List.getElem?_toArray, List.getElem?_cons_succ, List.getElem?_cons_zero]; rfl) (by kernel_rfl) (by kernel_rfl) (by kernel_rfl) (fun _ _ _ h => h) (Or.inr ⟨by rfl, rfl⟩) (by assumption) ?_; try simp only [Act.put, List.setIfInBounds_toArray, List.set_cons_zero, List.set_cons_succ])
    | (refine wpAnyH_take (i := 4) (v := ?_) (by simp only [List.getElem?_toArray, List.getElem?_cons_succ, List.getElem?_cons_zero]; rfl) (by kernel_rfl) (by kernel_rfl) (by kernel_rfl) (fun _ _ _ h => h) (Or.inl ⟨by rfl, ?_⟩) (by assumption) ?_
       rotate_left
       · (intro ww hSw; (try dsimp only at hSw); go_simp; (try with_reducible rfl))
       try simp only [Act.put, List.setIfInBounds_toArray, List.set_cons_zero, List.set_cons_succ])
    | (refine wpAnyH_ready (rs := [4]) (by kernel_rfl) (by simp) (AllReadyH.cons (by simp only [List.getElem?_toArray, List.getElem?_cons_succ, List.getElem?_cons_zero]; rfl) (fun K hK => ?_) AllReadyH.nil)
       go_simp
       first
         | (go_at_call 36; refine (iskind_any _ _).mono ?_; rintro e w1 ⟨rfl, rfl⟩; rw [HK.out])
       try go_wp2_with fail
       refine hK.out _ _ (by (first | (exact (Holds.new _ _ _).drew) | (exact hHeld))) (fun hHeld => ?_)
       clear hK K
       try simp only [Act.put, List.setIfInBounds_toArray, List.set_cons_zero, List.set_cons_succ])
  first
    | (refine wpAnyH_take (i := 5) (v := undef) (by simp only [List.getElem?_toArray, List.getElem?_cons_succ, List.getElem?_cons_zero]; rfl) (by kernel_rfl) (by kernel_rfl) (by kernel_rfl) (fun _ _ _ h => h) (Or.inr ⟨by rfl, rfl⟩) (by assumption) ?_; try simp only [Act.put, List.setIfInBounds_toArray, List.set_cons_zero, List.set_cons_succ])
    | (refine wpAnyH_take (i := 5) (v := ?_) (by simp only [List.getElem?_toArray, List.getElem?_cons_succ, List.getElem?_cons_zero]; rfl) (by kernel_rfl) (by kernel_rfl) (by kernel_rfl) (fun _ _ _ h => h) (Or.inl ⟨by rfl, ?_⟩) (by assumption) ?_
       rotate_left
       · (intro ww hSw; (try dsimp only at hSw); go_simp; (try with_reducible rfl))
       try simp only [Act.put, List.setIfInBounds_toArray, List.set_cons_zero, List.set_cons_succ])
    | (refine wpAnyH_ready (rs := [5]) (by kernel_rfl) (by simp) (AllReadyH.cons (by simp only [List.getElem?_toArray, List.getElem?_cons_succ, List.getElem?_cons_zero]; rfl) (fun K hK => ?_) AllReadyH.nil)
       go_simp
       first
         | (go_at_call 36; refine (iskind_any _ _).mono ?_; rintro e w1 ⟨rfl, rfl⟩; rw [HK.out])
       try go_wp2_with fail
       refine hK.out _ _ (by (first | (exact (Holds.new _ _ _).drew) | (exact hHeld))) (fun hHeld => ?_)
       clear hK K
       try simp only [Act.put, List.setIfInBounds_toArray, List.set_cons_zero, List.set_cons_succ])
  first
    | (refine wpAnyH_take (i := 6) (v := undef) (by simp only [List.getElem?_toArray, List.getElem?_cons_succ, List.getElem?_cons_zero]; rfl) (by kernel_rfl) (by kernel_rfl) (by kernel_rfl) (fun _ _ _ h => h) (Or.inr ⟨by rfl, rfl⟩) (by assumption) ?_; try simp only [Act.put, List.setIfInBounds_toArray, List.set_cons_zero, List.set_cons_succ])
    | (refine wpAnyH_take (i := 6) (v := ?_) (by simp only [List.getElem?_toArray, List.getElem?_cons_succ, List.getElem?_cons_zero]; rfl) (by kernel_rfl) (by kernel_rfl) (by kernel_rfl) (fun _ _ _ h => h) (Or.inl ⟨by rfl, ?_⟩) (by assumption) ?_
       rotate_left
       · (intro ww hSw; (try dsimp only at hSw); go_simp; (try with_reducible rfl))
       try simp only [Act.put, List.setIfInBounds_toArray, List.set_cons_zero, List.set_cons_succ])
    | (refine wpAnyH_ready (rs := [6]) (by kernel_rfl) (by simp) (AllReadyH.cons (by simp only [List.getElem?_toArray, List.getElem?_cons_succ, List.getElem?_cons_zero]; rfl) (fun K hK => ?_) AllReadyH.nil)
       go_simp
       first
         | (go_at_call 36; refine (iskind_any _ _).mono ?_; rintro e w1 ⟨rfl, rfl⟩; rw [HK.out])
       try go_wp2_with fail
       refine hK.out _ _ (by (first | (exact (Holds.new _ _ _).drew) | (exact hHeld))) (fun hHeld => ?_)
       clear hK K
       try simp only [Act.put, List.setIfInBounds_toArray, List.set_cons_zero, List.set_cons_succ])
  first
    | (refine wpAnyH_take (i := 7) (v := undef) (by simp only [List.getElem?_toArray, List.getElem?_cons_succ, List.getElem?_cons_zero]; rfl) (by kernel_rfl) (by kernel_rfl) (by kernel_rfl) (fun _ _ _ h => h) (Or.inr ⟨by rfl, rfl⟩) (by assumption) ?_; try simp only [Act.put, List.setIfInBounds_toArray, List.set_cons_zero, List.set_cons_succ])
    | (refine wpAnyH_take (i := 7) (v := ?_) (by simp only [List.getElem?_toArray, List.getElem?_cons_succ, List.getElem?_cons_zero]; rfl) (by kernel_rfl) (by kernel_rfl) (by kernel_rfl) (fun _ _ _ h => h) (Or.inl ⟨by rfl, ?_⟩) (by assumption) ?_
       rotate_left
       · (intro ww hSw; (try dsimp only at hSw); go_simp; (try with_reducible rfl))
       try simp only [Act.put, List.setIfInBounds_toArray, List.set_cons_zero, List.set_cons_succ])
    | (refine wpAnyH_ready (rs := [7]) (by kernel_rfl) (by simp) (AllReadyH.cons (by simp only [List.getElem?_toArray, List.getElem?_cons_succ, List.getElem?_cons_zero]; rfl) (fun K hK => ?_) AllReadyH.nil)
       go_simp
       first
         | (go_at_call 36; refine (iskind_any _ _).mono ?_; rintro e w1 ⟨rfl, rfl⟩; rw [HK.out])
       try go_wp2_with fail
       refine hK.out _ _ (by (first | (exact (Holds.new _ _ _).drew) | (exact hHeld))) (fun hHeld => ?_)
       clear hK K
       try simp only [Act.put, List.setIfInBounds_toArray, List.set_cons_zero, List.set_cons_succ])
  first
    | (refine wpAnyH_take (i := 8) (v := undef) (by simp only [List.getElem?_toArray, List.getElem?_cons_succ, List.getElem?_cons_zero]; rfl) (by kernel_rfl) (by kernel_rfl) (by kernel_rfl) (fun _ _ _ h => h) (Or.inr ⟨by rfl, rfl⟩) (by assumption) ?_; try simp only [Act.put, List.setIfInBounds_toArray, List.set_cons_zero, List.set_cons_succ])
    | (refine wpAnyH_take (i := 8) (v := ?_) (by simp only [List.getElem?_toArray, List.getElem?_cons_succ, List.getElem?_cons_zero]; rfl) (by kernel_rfl) (by kernel_rfl) (by kernel_rfl) (fun _ _ _ h => h) (Or.inl ⟨by rfl, ?_⟩) (by assumption) ?_
       rotate_left
       · (intro ww hSw; (try dsimp only at hSw); go_simp; (try with_reducible rfl))
       try simp only [Act.put, List.setIfInBounds_toArray, List.set_cons_zero, List.set_cons_succ])
    | (refine wpAnyH_ready (rs := [8]) (by kernel_rfl) (by simp) (AllReadyH.cons (by simp only [List.getElem?_toArray, List.getElem?_cons_succ, List.getElem?_cons_zero]; rfl) (fun K hK => ?_) AllReadyH.nil)
       go_simp
       first
         | (go_at_call 36; refine (iskind_any _ _).mono ?_; rintro e w1 ⟨rfl, rfl⟩; rw [HK.out])
       try go_wp2_with fail
       refine hK.out _ _ (by (first | (exact (Holds.new _ _ _).drew) | (exact hHeld))) (fun hHeld => ?_)
       clear hK K
       try simp only [Act.put, List.setIfInBounds_toArray, List.set_cons_zero, List.set_cons_succ])
  first
    | (refine wpAnyH_take (i := 9) (v := undef) (by simp only [List.getElem?_toArray, List.getElem?_cons_succ, List.getElem?_cons_zero]; rfl) (by kernel_rfl) (by kernel_rfl) (by kernel_rfl) (fun _ _ _ h => h) (Or.inr ⟨by rfl, rfl⟩) (by assumption) ?_; try simp only [Act.put, List.setIfInBounds_toArray, List.set_cons_zero, List.set_cons_succ])
    | (refine wpAnyH_take (i := 9) (v := ?_) (by simp only [List.getElem?_toArray, List.getElem?_cons_succ, List.getElem?_cons_zero]; rfl) (by kernel_rfl) (by kernel_rfl) (by kernel_rfl) (fun _ _ _ h => h) (Or.inl ⟨by rfl, ?_⟩) (by assumption) ?_
       rotate_left
       · (intro ww hSw; (try dsimp only at hSw); go_simp; (try with_reducible rfl))
       try simp only [Act.put, List.setIfInBounds_toArray, List.set_cons_zero, List.set_cons_succ])
    | (refine wpAnyH_ready (rs := [9]) (by kernel_rfl) (by simp) (AllReadyH.cons (by simp only [List.getElem?_toArray, List.getElem?_cons_succ, List.getElem?_cons_zero]; rfl) (fun K hK => ?_) AllReadyH.nil)
       go_simp
       first
         | (go_at_call 36; refine (iskind_any _ _).mono ?_; rintro e w1 ⟨rfl, rfl⟩; rw [HK.out])
       try go_wp2_with fail
       refine hK.out _ _ (by (first | (exact (Holds.new _ _ _).drew) | (exact hHeld))) (fun hHeld => ?_)
       clear hK K
       try simp only [Act.put, List.setIfInBounds_toArray, List.set_cons_zero, List.set_cons_succ])
  first
    | (refine wpAnyH_take (i := 10) (v := undef) (by simp only [List.getElem?_toArray, List.getElem?_cons_succ, List.getElem?_cons_zero]; rfl) (by kernel_rfl) (by kernel_rfl) (by kernel_rfl) (fun _ _ _ h => h) (Or.inr ⟨by rfl, rfl⟩) (by assumption) ?_; try simp only [Act.put, List.setIfInBounds_toArray, List.set_cons_zero, List.set_cons_succ])
    | (refine wpAnyH_take (i := 10) (v := ?_) (by simp only [List.getElem?_toArray, List.getElem?_cons_succ, List.getElem?_cons_zero]; rfl) (by kernel_rfl) (by kernel_rfl) (by kernel_rfl) (fun _ _ _ h => h) (Or.inl ⟨by rfl, ?_⟩) (by assumption) ?_
       rotate_left
       · (intro ww hSw; (try dsimp only at hSw); go_simp; (try with_reducible rfl))
       try simp only [Act.put, List.setIfInBounds_toArray, List.set_cons_zero, List.set_cons_succ])
    | (refine wpAnyH_ready (rs := [10]) (by kernel_rfl) (by simp) (AllReadyH.cons (by simp only [List.getElem?_toArray, List.getElem?_cons_succ, List.getElem?_cons_zero]; rfl) (fun K hK => ?_) AllReadyH.nil)
       go_simp
       first
         | (go_at_call 36; refine (iskind_any _ _).mono ?_; rintro e w1 ⟨rfl, rfl⟩; rw [HK.out])
       try go_wp2_with fail
       refine hK.out _ _ (by (first | (exact (Holds.new _ _ _).drew) | (exact hHeld))) (fun hHeld => ?_)
       clear hK K
       try simp only [Act.put, List.setIfInBounds_toArray, List.set_cons_zero, List.set_cons_succ])
  first
    | (refine wpAnyH_take (i := 11) (v := undef) (by simp only [List.getElem?_toArray, List.getElem?_cons_succ, List.getElem?_cons_zero]; rfl) (by kernel_rfl) (by kernel_rfl) (by kernel_rfl) (fun _ _ _ h => h) (Or.inr ⟨by rfl, rfl⟩) (by assumption) ?_; try simp only [Act.put, List.setIfInBounds_toArray, List.set_cons_zero, List.set_cons_succ])
    | (refine wpAnyH_take (i := 11) (v := ?_) (by simp only [List.getElem?_toArray, List.getElem?_cons_succ, List.getElem?_cons_zero]; rfl) (by kernel_rfl) (by kernel_rfl) (by kernel_rfl) (fun _ _ _ h => h) (Or.inl ⟨by rfl, ?_⟩) (by assumption) ?_
       rotate_left
       · (intro ww hSw; (try dsimp only at hSw); go_simp; (try with_reducible rfl))
       try simp only [Act.put, List.setIfInBounds_toArray, List.set_cons_zero, List.set_cons_succ])
    | (refine wpAnyH_ready (rs := [11]) (by kernel_rfl) (by simp) (AllReadyH.cons (by simp only [List.getElem?_toArray, List.getElem?_cons_succ, List.getElem?_cons_zero]; rfl) (fun K hK => ?_) AllReadyH.nil)
       go_simp
       first
         | (go_at_call 36; refine (iskind_any _ _).mono ?_; rintro e w1 ⟨rfl, rfl⟩; rw [HK.out])
       try go_wp2_with fail
       refine hK.out _ _ (by (first | (exact (Holds.new _ _ _).drew) | (exact hHeld))) (fun hHeld => ?_)
       clear hK K
       try simp only [Act.put, List.setIfInBounds_toArray, List.set_cons_zero, List.set_cons_succ])
  first
    | (refine wpAnyH_take (i := 12) (v := undef) (by simp only [List.getElem?_toArray, List.getElem?_cons_succ, List.getElem?_cons_zero]; rfl) (by kernel_rfl) (by kernel_rfl) (by kernel_rfl) (fun _ _ _ h => h) (Or.inr ⟨by rfl, rfl⟩) (by assumption) ?_; try simp only [Act.put, List.setIfInBounds_toArray, List.set_cons_zero, List.set_cons_succ])
    | (refine wpAnyH_take (i := 12) (v := ?_) (by simp only [List.getElem?_toArray, List.getElem?_cons_succ, List.getElem?_cons_zero]; rfl) (by kernel_rfl) (by kernel_rfl) (by kernel_rfl) (fun _ _ _ h => h) (Or.inl ⟨by rfl, ?_⟩) (by assumption) ?_
       rotate_left
       · (intro ww hSw; (try dsimp only at hSw); go_simp; (try with_reducible rfl))
       try simp only [Act.put, List.setIfInBounds_toArray, List.set_cons_zero, List.set_cons_succ])
    | (refine wpAnyH_ready (rs := [12]) (by kernel_rfl) (by simp) (AllReadyH.cons (by simp only [List.getElem?_toArray, List.getElem?_cons_succ, List.getElem?_cons_zero]; rfl) (fun K hK => ?_) AllReadyH.nil)
       go_simp
       first
         | (go_at_call 36; refine (iskind_any _ _).mono ?_; rintro e w1 ⟨rfl, rfl⟩; rw [HK.out])
       try go_wp2_with fail
       refine hK.out _ _ (by (first | (exact (Holds.new _ _ _).drew) | (exact hHeld))) (fun hHeld => ?_)
       clear hK K
       try simp only [Act.put, List.setIfInBounds_toArray, List.set_cons_zero, List.set_cons_succ])
  first
    | (refine wpAnyH_take (i := 13) (v := undef) (by simp only [List.getElem?_toArray, List.getElem?_cons_succ, List.getElem?_cons_zero]; rfl) (by kernel_rfl) (by kernel_rfl) (by kernel_rfl) (fun _ _ _ h => h) (Or.inr ⟨by rfl, rfl⟩) (by assumption) ?_; try simp only [Act.put, List.setIfInBounds_toArray, List.set_cons_zero, List.set_cons_succ])
    | (refine wpAnyH_take (i := 13) (v := ?_) (by simp only [List.getElem?_toArray, List.getElem?_cons_succ, List.getElem?_cons_zero]; rfl) (by kernel_rfl) (by kernel_rfl) (by kernel_rfl) (fun _ _ _ h => h) (Or.inl ⟨by rfl, ?_⟩) (by assumption) ?_
       rotate_left
       · (intro ww hSw; (try dsimp only at hSw); go_simp; (try with_reducible rfl))
       try simp only [Act.put, List.setIfInBounds_toArray, List.set_cons_zero, List.set_cons_succ])
    | (refine wpAnyH_ready (rs := [13]) (by kernel_rfl) (by simp) (AllReadyH.cons (by simp only [List.getElem?_toArray, List.getElem?_cons_succ, List.getElem?_cons_zero]; rfl) (fun K hK => ?_) AllReadyH.nil)
       go_simp
       first
         | (go_at_call 36; refine (iskind_any _ _).mono ?_; rintro e w1 ⟨rfl, rfl⟩; rw [HK.out])
       try go_wp2_with fail
       refine hK.out _ _ (by (first | (exact (Holds.new _ _ _).drew) | (exact hHeld))) (fun hHeld => ?_)
       clear hK K
       try simp only [Act.put, List.setIfInBounds_toArray, List.set_cons_zero, List.set_cons_succ])
  refine wpAnyH_done (by kernel_rfl) ?_ _
  refine NoPanic.normal ?_
  have hB := Lib.hid (show Below w.heap.size w _ from (by assumption : Holds _ _ _ _).1)
  go_wp2_with fail
  go_ret
  exact ⟨ret_bool HS.out.symm, hB.out⟩

set_option maxRecDepth 100000 in
theorem may_within (v : Bool) (c : Cm) (ga wa : Option Addr) (gc wc : Nat) (w : World) (hk : isKindB c.kind = true) (hv : withinB c = v) (h1 : IntsAt w ga c.gives) (h2 : IntsAt w wa c.wants) :
    Calls Tryd.prog 22 #[.agg #[.int .i64 c.kind, .int .i64 c.dir, .int .i64 c.item, .int .i64 c.box, .int .i64 c.who, .slice ga c.gives.length gc, .int .i64 c.pay, .slice wa c.wants.length wc, .int .i64 c.fee]] w fun e w' => e = .returned (.bool (mayB c)) ∧ Below w.heap.size w w' := by
  have HS := Lib.hid (show mayB c = (v && sameB c (ownC c)) by simp [mayB, hk, hv])
  have HK := Lib.hid hk
  have HV := Lib.hid hv
  have H1 := Lib.hid h1
  have H2 := Lib.hid h2
  clear hk hv h1 h2
  cases v
  all_goals
    go_enter Tryd.func22, Tryd.ntmps22
    go_wp2_with fail
    refine wp_region_noPanic ?_
    refine wp_region_held_drew (S := (fun w' => Below w.heap.size w w' ∧ w.heap.size < w'.heap.size ∧ ∀ i, w'.cell? ⟨w.heap.size, i, none⟩ = (#[.int .i64 c.kind, .int .i64 c.dir, .int .i64 c.item, .int .i64 c.box, .int .i64 c.who, .slice ga c.gives.length gc, .int .i64 c.pay, .slice wa c.wants.length wc, .int .i64 c.fee][i]? : Option Value))) (by kernel_rfl) (by (first | (exact (Holds.new _ _ _).drew) | (exact Holds.call hHeld hb) | (exact hHeld))) (fun hHeld => ?_)
    first
      | (refine wpAnyH_take (i := 0) (v := undef) (by simp only [List.getElem?_toArray, List.getElem?_cons_zero]; rfl) (by kernel_rfl) (by kernel_rfl) (by kernel_rfl) (fun _ _ _ h => h) (Or.inr ⟨by rfl, rfl⟩) (by assumption) ?_; try simp only [Act.put, List.setIfInBounds_toArray, List.set_cons_zero, List.set_cons_succ])
      | (refine wpAnyH_take (i := 0) (v := ?_) (by simp only [List.getElem?_toArray, List.getElem?_cons_zero]; rfl) (by kernel_rfl) (by kernel_rfl) (by kernel_rfl) (fun _ _ _ h => h) (Or.inl ⟨by rfl, ?_⟩) (by assumption) ?_
         rotate_left
         · (intro ww hSw; (try dsimp only at hSw); go_simp; (try with_reducible rfl))
         try simp only [Act.put, List.setIfInBounds_toArray, List.set_cons_zero, List.set_cons_succ])
      | (refine wpAnyH_ready (rs := [0]) (by kernel_rfl) (by simp) (AllReadyH.cons (by simp only [List.getElem?_toArray, List.getElem?_cons_succ, List.getElem?_cons_zero]; rfl) (fun K hK => ?_) AllReadyH.nil)
         go_simp
         first
           | (go_at_call 36; refine (iskind_any _ _).mono ?_; rintro e w1 ⟨rfl, rfl⟩; rw [HK.out])
           | (go_at_call 37; refine (within_any _ _ _ _ _ _ (H1.out.below hHeld.1 (Nat.le_refl _)) (H2.out.below hHeld.1 (Nat.le_refl _))).mono ?_; rintro e w1 ⟨rfl, hb⟩; rw [HV.out])
           | (go_at_call 39; refine (own_any _ _ _ _ _ _ HK.out (H1.out.below hHeld.1 (Nat.le_refl _)) (H2.out.below hHeld.1 (Nat.le_refl _))).mono ?_; rintro e w1 ⟨g2, gc2, u2, uc2, rfl, hg2, hu2, hb⟩)
           | (go_at_call 38; refine (same_any _ _ _ _ _ _ _ _ _ _ _ (H1.out.below hHeld.1 (Nat.le_refl _)) (H2.out.below hHeld.1 (Nat.le_refl _)) hg2 hu2).mono ?_; rintro e w1 ⟨rfl, hb⟩)
         try go_wp2_with fail
         refine hK.out _ _ (by (first | (exact (Holds.new _ _ _).drew) | (exact Holds.call hHeld hb) | (exact hHeld))) (fun hHeld => ?_)
         clear hK K
         try simp only [Act.put, List.setIfInBounds_toArray, List.set_cons_zero, List.set_cons_succ])
    first
      | (refine wpAnyH_take (i := 1) (v := undef) (by simp only [List.getElem?_toArray, List.getElem?_cons_succ, List.getElem?_cons_zero]; rfl) (by kernel_rfl) (by kernel_rfl) (by kernel_rfl) (fun _ _ _ h => h) (Or.inr ⟨by rfl, rfl⟩) (by assumption) ?_; try simp only [Act.put, List.setIfInBounds_toArray, List.set_cons_zero, List.set_cons_succ])
      | (refine wpAnyH_take (i := 1) (v := ?_) (by simp only [List.getElem?_toArray, List.getElem?_cons_succ, List.getElem?_cons_zero]; rfl) (by kernel_rfl) (by kernel_rfl) (by kernel_rfl) (fun _ _ _ h => h) (Or.inl ⟨by rfl, ?_⟩) (by assumption) ?_
         rotate_left
         · (intro ww hSw; (try dsimp only at hSw); go_simp; (try with_reducible rfl))
         try simp only [Act.put, List.setIfInBounds_toArray, List.set_cons_zero, List.set_cons_succ])
      | (refine wpAnyH_ready (rs := [1]) (by kernel_rfl) (by simp) (AllReadyH.cons (by simp only [List.getElem?_toArray, List.getElem?_cons_succ, List.getElem?_cons_zero]; rfl) (fun K hK => ?_) AllReadyH.nil)
         go_simp
         first
           | (go_at_call 36; refine (iskind_any _ _).mono ?_; rintro e w1 ⟨rfl, rfl⟩; rw [HK.out])
           | (go_at_call 37; refine (within_any _ _ _ _ _ _ (H1.out.below hHeld.1 (Nat.le_refl _)) (H2.out.below hHeld.1 (Nat.le_refl _))).mono ?_; rintro e w1 ⟨rfl, hb⟩; rw [HV.out])
           | (go_at_call 39; refine (own_any _ _ _ _ _ _ HK.out (H1.out.below hHeld.1 (Nat.le_refl _)) (H2.out.below hHeld.1 (Nat.le_refl _))).mono ?_; rintro e w1 ⟨g2, gc2, u2, uc2, rfl, hg2, hu2, hb⟩)
           | (go_at_call 38; refine (same_any _ _ _ _ _ _ _ _ _ _ _ (H1.out.below hHeld.1 (Nat.le_refl _)) (H2.out.below hHeld.1 (Nat.le_refl _)) hg2 hu2).mono ?_; rintro e w1 ⟨rfl, hb⟩)
         try go_wp2_with fail
         refine hK.out _ _ (by (first | (exact (Holds.new _ _ _).drew) | (exact Holds.call hHeld hb) | (exact hHeld))) (fun hHeld => ?_)
         clear hK K
         try simp only [Act.put, List.setIfInBounds_toArray, List.set_cons_zero, List.set_cons_succ])
    first
      | (refine wpAnyH_take (i := 2) (v := undef) (by simp only [List.getElem?_toArray, List.getElem?_cons_succ, List.getElem?_cons_zero]; rfl) (by kernel_rfl) (by kernel_rfl) (by kernel_rfl) (fun _ _ _ h => h) (Or.inr ⟨by rfl, rfl⟩) (by assumption) ?_; try simp only [Act.put, List.setIfInBounds_toArray, List.set_cons_zero, List.set_cons_succ])
      | (refine wpAnyH_take (i := 2) (v := ?_) (by simp only [List.getElem?_toArray, List.getElem?_cons_succ, List.getElem?_cons_zero]; rfl) (by kernel_rfl) (by kernel_rfl) (by kernel_rfl) (fun _ _ _ h => h) (Or.inl ⟨by rfl, ?_⟩) (by assumption) ?_
         rotate_left
         · (intro ww hSw; (try dsimp only at hSw); go_simp; (try with_reducible rfl))
         try simp only [Act.put, List.setIfInBounds_toArray, List.set_cons_zero, List.set_cons_succ])
      | (refine wpAnyH_ready (rs := [2]) (by kernel_rfl) (by simp) (AllReadyH.cons (by simp only [List.getElem?_toArray, List.getElem?_cons_succ, List.getElem?_cons_zero]; rfl) (fun K hK => ?_) AllReadyH.nil)
         go_simp
         first
           | (go_at_call 36; refine (iskind_any _ _).mono ?_; rintro e w1 ⟨rfl, rfl⟩; rw [HK.out])
           | (go_at_call 37; refine (within_any _ _ _ _ _ _ (H1.out.below hHeld.1 (Nat.le_refl _)) (H2.out.below hHeld.1 (Nat.le_refl _))).mono ?_; rintro e w1 ⟨rfl, hb⟩; rw [HV.out])
           | (go_at_call 39; refine (own_any _ _ _ _ _ _ HK.out (H1.out.below hHeld.1 (Nat.le_refl _)) (H2.out.below hHeld.1 (Nat.le_refl _))).mono ?_; rintro e w1 ⟨g2, gc2, u2, uc2, rfl, hg2, hu2, hb⟩)
           | (go_at_call 38; refine (same_any _ _ _ _ _ _ _ _ _ _ _ (H1.out.below hHeld.1 (Nat.le_refl _)) (H2.out.below hHeld.1 (Nat.le_refl _)) hg2 hu2).mono ?_; rintro e w1 ⟨rfl, hb⟩)
         try go_wp2_with fail
         refine hK.out _ _ (by (first | (exact (Holds.new _ _ _).drew) | (exact Holds.call hHeld hb) | (exact hHeld))) (fun hHeld => ?_)
         clear hK K
         try simp only [Act.put, List.setIfInBounds_toArray, List.set_cons_zero, List.set_cons_succ])
    first
      | (refine wpAnyH_take (i := 3) (v := undef) (by simp only [List.getElem?_toArray, List.getElem?_cons_succ, List.getElem?_cons_zero]; rfl) (by kernel_rfl) (by kernel_rfl) (by kernel_rfl) (fun _ _ _ h => h) (Or.inr ⟨by rfl, rfl⟩) (by assumption) ?_; try simp only [Act.put, List.setIfInBounds_toArray, List.set_cons_zero, List.set_cons_succ])
      | (refine wpAnyH_take (i := 3) (v := ?_) (by simp only [List.getElem?_toArray, List.getElem?_cons_succ, List.getElem?_cons_zero]; rfl) (by kernel_rfl) (by kernel_rfl) (by kernel_rfl) (fun _ _ _ h => h) (Or.inl ⟨by rfl, ?_⟩) (by assumption) ?_
         rotate_left
         · (intro ww hSw; (try dsimp only at hSw); go_simp; (try with_reducible rfl))
         try simp only [Act.put, List.setIfInBounds_toArray, List.set_cons_zero, List.set_cons_succ])
      | (refine wpAnyH_ready (rs := [3]) (by kernel_rfl) (by simp) (AllReadyH.cons (by simp only [List.getElem?_toArray, List.getElem?_cons_succ, List.getElem?_cons_zero]; rfl) (fun K hK => ?_) AllReadyH.nil)
         go_simp
         first
           | (go_at_call 36; refine (iskind_any _ _).mono ?_; rintro e w1 ⟨rfl, rfl⟩; rw [HK.out])
           | (go_at_call 37; refine (within_any _ _ _ _ _ _ (H1.out.below hHeld.1 (Nat.le_refl _)) (H2.out.below hHeld.1 (Nat.le_refl _))).mono ?_; rintro e w1 ⟨rfl, hb⟩; rw [HV.out])
           | (go_at_call 39; refine (own_any _ _ _ _ _ _ HK.out (H1.out.below hHeld.1 (Nat.le_refl _)) (H2.out.below hHeld.1 (Nat.le_refl _))).mono ?_; rintro e w1 ⟨g2, gc2, u2, uc2, rfl, hg2, hu2, hb⟩)
           | (go_at_call 38; refine (same_any _ _ _ _ _ _ _ _ _ _ _ (H1.out.below hHeld.1 (Nat.le_refl _)) (H2.out.below hHeld.1 (Nat.le_refl _)) hg2 hu2).mono ?_; rintro e w1 ⟨rfl, hb⟩)
         try go_wp2_with fail
         refine hK.out _ _ (by (first | (exact (Holds.new _ _ _).drew) | (exact Holds.call hHeld hb) | (exact hHeld))) (fun hHeld => ?_)
         clear hK K
         try simp only [Act.put, List.setIfInBounds_toArray, List.set_cons_zero, List.set_cons_succ])
    first
      | (refine wpAnyH_take (i := 4) (v := undef) (by simp only [List.getElem?_toArray, List.getElem?_cons_succ, List.getElem?_cons_zero]; rfl) (by kernel_rfl) (by kernel_rfl) (by kernel_rfl) (fun _ _ _ h => h) (Or.inr ⟨by rfl, rfl⟩) (by assumption) ?_; try simp only [Act.put, List.setIfInBounds_toArray, List.set_cons_zero, List.set_cons_succ])
      | (refine wpAnyH_take (i := 4) (v := ?_) (by simp only [List.getElem?_toArray, List.getElem?_cons_succ, List.getElem?_cons_zero]; rfl) (by kernel_rfl) (by kernel_rfl) (by kernel_rfl) (fun _ _ _ h => h) (Or.inl ⟨by rfl, ?_⟩) (by assumption) ?_
         rotate_left
         · (intro ww hSw; (try dsimp only at hSw); go_simp; (try with_reducible rfl))
         try simp only [Act.put, List.setIfInBounds_toArray, List.set_cons_zero, List.set_cons_succ])
      | (refine wpAnyH_ready (rs := [4]) (by kernel_rfl) (by simp) (AllReadyH.cons (by simp only [List.getElem?_toArray, List.getElem?_cons_succ, List.getElem?_cons_zero]; rfl) (fun K hK => ?_) AllReadyH.nil)
         go_simp
         first
           | (go_at_call 36; refine (iskind_any _ _).mono ?_; rintro e w1 ⟨rfl, rfl⟩; rw [HK.out])
           | (go_at_call 37; refine (within_any _ _ _ _ _ _ (H1.out.below hHeld.1 (Nat.le_refl _)) (H2.out.below hHeld.1 (Nat.le_refl _))).mono ?_; rintro e w1 ⟨rfl, hb⟩; rw [HV.out])
           | (go_at_call 39; refine (own_any _ _ _ _ _ _ HK.out (H1.out.below hHeld.1 (Nat.le_refl _)) (H2.out.below hHeld.1 (Nat.le_refl _))).mono ?_; rintro e w1 ⟨g2, gc2, u2, uc2, rfl, hg2, hu2, hb⟩)
           | (go_at_call 38; refine (same_any _ _ _ _ _ _ _ _ _ _ _ (H1.out.below hHeld.1 (Nat.le_refl _)) (H2.out.below hHeld.1 (Nat.le_refl _)) hg2 hu2).mono ?_; rintro e w1 ⟨rfl, hb⟩)
         try go_wp2_with fail
         refine hK.out _ _ (by (first | (exact (Holds.new _ _ _).drew) | (exact Holds.call hHeld hb) | (exact hHeld))) (fun hHeld => ?_)
         clear hK K
         try simp only [Act.put, List.setIfInBounds_toArray, List.set_cons_zero, List.set_cons_succ])
    first
      | (refine wpAnyH_take (i := 5) (v := undef) (by simp only [List.getElem?_toArray, List.getElem?_cons_succ, List.getElem?_cons_zero]; rfl) (by kernel_rfl) (by kernel_rfl) (by kernel_rfl) (fun _ _ _ h => h) (Or.inr ⟨by rfl, rfl⟩) (by assumption) ?_; try simp only [Act.put, List.setIfInBounds_toArray, List.set_cons_zero, List.set_cons_succ])
      | (refine wpAnyH_take (i := 5) (v := ?_) (by simp only [List.getElem?_toArray, List.getElem?_cons_succ, List.getElem?_cons_zero]; rfl) (by kernel_rfl) (by kernel_rfl) (by kernel_rfl) (fun _ _ _ h => h) (Or.inl ⟨by rfl, ?_⟩) (by assumption) ?_
         rotate_left
         · (intro ww hSw; (try dsimp only at hSw); go_simp; (try with_reducible rfl))
         try simp only [Act.put, List.setIfInBounds_toArray, List.set_cons_zero, List.set_cons_succ])
      | (refine wpAnyH_ready (rs := [5]) (by kernel_rfl) (by simp) (AllReadyH.cons (by simp only [List.getElem?_toArray, List.getElem?_cons_succ, List.getElem?_cons_zero]; rfl) (fun K hK => ?_) AllReadyH.nil)
         go_simp
         first
           | (go_at_call 36; refine (iskind_any _ _).mono ?_; rintro e w1 ⟨rfl, rfl⟩; rw [HK.out])
           | (go_at_call 37; refine (within_any _ _ _ _ _ _ (H1.out.below hHeld.1 (Nat.le_refl _)) (H2.out.below hHeld.1 (Nat.le_refl _))).mono ?_; rintro e w1 ⟨rfl, hb⟩; rw [HV.out])
           | (go_at_call 39; refine (own_any _ _ _ _ _ _ HK.out (H1.out.below hHeld.1 (Nat.le_refl _)) (H2.out.below hHeld.1 (Nat.le_refl _))).mono ?_; rintro e w1 ⟨g2, gc2, u2, uc2, rfl, hg2, hu2, hb⟩)
           | (go_at_call 38; refine (same_any _ _ _ _ _ _ _ _ _ _ _ (H1.out.below hHeld.1 (Nat.le_refl _)) (H2.out.below hHeld.1 (Nat.le_refl _)) hg2 hu2).mono ?_; rintro e w1 ⟨rfl, hb⟩)
         try go_wp2_with fail
         refine hK.out _ _ (by (first | (exact (Holds.new _ _ _).drew) | (exact Holds.call hHeld hb) | (exact hHeld))) (fun hHeld => ?_)
         clear hK K
         try simp only [Act.put, List.setIfInBounds_toArray, List.set_cons_zero, List.set_cons_succ])
    first
      | (refine wpAnyH_take (i := 6) (v := undef) (by simp only [List.getElem?_toArray, List.getElem?_cons_succ, List.getElem?_cons_zero]; rfl) (by kernel_rfl) (by kernel_rfl) (by kernel_rfl) (fun _ _ _ h => h) (Or.inr ⟨by rfl, rfl⟩) (by assumption) ?_; try simp only [Act.put, List.setIfInBounds_toArray, List.set_cons_zero, List.set_cons_succ])
      | (refine wpAnyH_take (i := 6) (v := ?_) (by simp only [List.getElem?_toArray, List.getElem?_cons_succ, List.getElem?_cons_zero]; rfl) (by kernel_rfl) (by kernel_rfl) (by kernel_rfl) (fun _ _ _ h => h) (Or.inl ⟨by rfl, ?_⟩) (by assumption) ?_
         rotate_left
         · (intro ww hSw; (try dsimp only at hSw); go_simp; (try with_reducible rfl))
         try simp only [Act.put, List.setIfInBounds_toArray, List.set_cons_zero, List.set_cons_succ])
      | (refine wpAnyH_ready (rs := [6]) (by kernel_rfl) (by simp) (AllReadyH.cons (by simp only [List.getElem?_toArray, List.getElem?_cons_succ, List.getElem?_cons_zero]; rfl) (fun K hK => ?_) AllReadyH.nil)
         go_simp
         first
           | (go_at_call 36; refine (iskind_any _ _).mono ?_; rintro e w1 ⟨rfl, rfl⟩; rw [HK.out])
           | (go_at_call 37; refine (within_any _ _ _ _ _ _ (H1.out.below hHeld.1 (Nat.le_refl _)) (H2.out.below hHeld.1 (Nat.le_refl _))).mono ?_; rintro e w1 ⟨rfl, hb⟩; rw [HV.out])
           | (go_at_call 39; refine (own_any _ _ _ _ _ _ HK.out (H1.out.below hHeld.1 (Nat.le_refl _)) (H2.out.below hHeld.1 (Nat.le_refl _))).mono ?_; rintro e w1 ⟨g2, gc2, u2, uc2, rfl, hg2, hu2, hb⟩)
           | (go_at_call 38; refine (same_any _ _ _ _ _ _ _ _ _ _ _ (H1.out.below hHeld.1 (Nat.le_refl _)) (H2.out.below hHeld.1 (Nat.le_refl _)) hg2 hu2).mono ?_; rintro e w1 ⟨rfl, hb⟩)
         try go_wp2_with fail
         refine hK.out _ _ (by (first | (exact (Holds.new _ _ _).drew) | (exact Holds.call hHeld hb) | (exact hHeld))) (fun hHeld => ?_)
         clear hK K
         try simp only [Act.put, List.setIfInBounds_toArray, List.set_cons_zero, List.set_cons_succ])
    first
      | (refine wpAnyH_take (i := 7) (v := undef) (by simp only [List.getElem?_toArray, List.getElem?_cons_succ, List.getElem?_cons_zero]; rfl) (by kernel_rfl) (by kernel_rfl) (by kernel_rfl) (fun _ _ _ h => h) (Or.inr ⟨by rfl, rfl⟩) (by assumption) ?_; try simp only [Act.put, List.setIfInBounds_toArray, List.set_cons_zero, List.set_cons_succ])
      | (refine wpAnyH_take (i := 7) (v := ?_) (by simp only [List.getElem?_toArray, List.getElem?_cons_succ, List.getElem?_cons_zero]; rfl) (by kernel_rfl) (by kernel_rfl) (by kernel_rfl) (fun _ _ _ h => h) (Or.inl ⟨by rfl, ?_⟩) (by assumption) ?_
         rotate_left
         · (intro ww hSw; (try dsimp only at hSw); go_simp; (try with_reducible rfl))
         try simp only [Act.put, List.setIfInBounds_toArray, List.set_cons_zero, List.set_cons_succ])
      | (refine wpAnyH_ready (rs := [7]) (by kernel_rfl) (by simp) (AllReadyH.cons (by simp only [List.getElem?_toArray, List.getElem?_cons_succ, List.getElem?_cons_zero]; rfl) (fun K hK => ?_) AllReadyH.nil)
         go_simp
         first
           | (go_at_call 36; refine (iskind_any _ _).mono ?_; rintro e w1 ⟨rfl, rfl⟩; rw [HK.out])
           | (go_at_call 37; refine (within_any _ _ _ _ _ _ (H1.out.below hHeld.1 (Nat.le_refl _)) (H2.out.below hHeld.1 (Nat.le_refl _))).mono ?_; rintro e w1 ⟨rfl, hb⟩; rw [HV.out])
           | (go_at_call 39; refine (own_any _ _ _ _ _ _ HK.out (H1.out.below hHeld.1 (Nat.le_refl _)) (H2.out.below hHeld.1 (Nat.le_refl _))).mono ?_; rintro e w1 ⟨g2, gc2, u2, uc2, rfl, hg2, hu2, hb⟩)
           | (go_at_call 38; refine (same_any _ _ _ _ _ _ _ _ _ _ _ (H1.out.below hHeld.1 (Nat.le_refl _)) (H2.out.below hHeld.1 (Nat.le_refl _)) hg2 hu2).mono ?_; rintro e w1 ⟨rfl, hb⟩)
         try go_wp2_with fail
         refine hK.out _ _ (by (first | (exact (Holds.new _ _ _).drew) | (exact Holds.call hHeld hb) | (exact hHeld))) (fun hHeld => ?_)
         clear hK K
         try simp only [Act.put, List.setIfInBounds_toArray, List.set_cons_zero, List.set_cons_succ])
    first
      | (refine wpAnyH_take (i := 8) (v := undef) (by simp only [List.getElem?_toArray, List.getElem?_cons_succ, List.getElem?_cons_zero]; rfl) (by kernel_rfl) (by kernel_rfl) (by kernel_rfl) (fun _ _ _ h => h) (Or.inr ⟨by rfl, rfl⟩) (by assumption) ?_; try simp only [Act.put, List.setIfInBounds_toArray, List.set_cons_zero, List.set_cons_succ])
      | (refine wpAnyH_take (i := 8) (v := ?_) (by simp only [List.getElem?_toArray, List.getElem?_cons_succ, List.getElem?_cons_zero]; rfl) (by kernel_rfl) (by kernel_rfl) (by kernel_rfl) (fun _ _ _ h => h) (Or.inl ⟨by rfl, ?_⟩) (by assumption) ?_
         rotate_left
         · (intro ww hSw; (try dsimp only at hSw); go_simp; (try with_reducible rfl))
         try simp only [Act.put, List.setIfInBounds_toArray, List.set_cons_zero, List.set_cons_succ])
      | (refine wpAnyH_ready (rs := [8]) (by kernel_rfl) (by simp) (AllReadyH.cons (by simp only [List.getElem?_toArray, List.getElem?_cons_succ, List.getElem?_cons_zero]; rfl) (fun K hK => ?_) AllReadyH.nil)
         go_simp
         first
           | (go_at_call 36; refine (iskind_any _ _).mono ?_; rintro e w1 ⟨rfl, rfl⟩; rw [HK.out])
           | (go_at_call 37; refine (within_any _ _ _ _ _ _ (H1.out.below hHeld.1 (Nat.le_refl _)) (H2.out.below hHeld.1 (Nat.le_refl _))).mono ?_; rintro e w1 ⟨rfl, hb⟩; rw [HV.out])
           | (go_at_call 39; refine (own_any _ _ _ _ _ _ HK.out (H1.out.below hHeld.1 (Nat.le_refl _)) (H2.out.below hHeld.1 (Nat.le_refl _))).mono ?_; rintro e w1 ⟨g2, gc2, u2, uc2, rfl, hg2, hu2, hb⟩)
           | (go_at_call 38; refine (same_any _ _ _ _ _ _ _ _ _ _ _ (H1.out.below hHeld.1 (Nat.le_refl _)) (H2.out.below hHeld.1 (Nat.le_refl _)) hg2 hu2).mono ?_; rintro e w1 ⟨rfl, hb⟩)
         try go_wp2_with fail
         refine hK.out _ _ (by (first | (exact (Holds.new _ _ _).drew) | (exact Holds.call hHeld hb) | (exact hHeld))) (fun hHeld => ?_)
         clear hK K
         try simp only [Act.put, List.setIfInBounds_toArray, List.set_cons_zero, List.set_cons_succ])
    first
      | (refine wpAnyH_take (i := 9) (v := undef) (by simp only [List.getElem?_toArray, List.getElem?_cons_succ, List.getElem?_cons_zero]; rfl) (by kernel_rfl) (by kernel_rfl) (by kernel_rfl) (fun _ _ _ h => h) (Or.inr ⟨by rfl, rfl⟩) (by assumption) ?_; try simp only [Act.put, List.setIfInBounds_toArray, List.set_cons_zero, List.set_cons_succ])
      | (refine wpAnyH_take (i := 9) (v := ?_) (by simp only [List.getElem?_toArray, List.getElem?_cons_succ, List.getElem?_cons_zero]; rfl) (by kernel_rfl) (by kernel_rfl) (by kernel_rfl) (fun _ _ _ h => h) (Or.inl ⟨by rfl, ?_⟩) (by assumption) ?_
         rotate_left
         · (intro ww hSw; (try dsimp only at hSw); go_simp; (try with_reducible rfl))
         try simp only [Act.put, List.setIfInBounds_toArray, List.set_cons_zero, List.set_cons_succ])
      | (refine wpAnyH_ready (rs := [9]) (by kernel_rfl) (by simp) (AllReadyH.cons (by simp only [List.getElem?_toArray, List.getElem?_cons_succ, List.getElem?_cons_zero]; rfl) (fun K hK => ?_) AllReadyH.nil)
         go_simp
         first
           | (go_at_call 36; refine (iskind_any _ _).mono ?_; rintro e w1 ⟨rfl, rfl⟩; rw [HK.out])
           | (go_at_call 37; refine (within_any _ _ _ _ _ _ (H1.out.below hHeld.1 (Nat.le_refl _)) (H2.out.below hHeld.1 (Nat.le_refl _))).mono ?_; rintro e w1 ⟨rfl, hb⟩; rw [HV.out])
           | (go_at_call 39; refine (own_any _ _ _ _ _ _ HK.out (H1.out.below hHeld.1 (Nat.le_refl _)) (H2.out.below hHeld.1 (Nat.le_refl _))).mono ?_; rintro e w1 ⟨g2, gc2, u2, uc2, rfl, hg2, hu2, hb⟩)
           | (go_at_call 38; refine (same_any _ _ _ _ _ _ _ _ _ _ _ (H1.out.below hHeld.1 (Nat.le_refl _)) (H2.out.below hHeld.1 (Nat.le_refl _)) hg2 hu2).mono ?_; rintro e w1 ⟨rfl, hb⟩)
         try go_wp2_with fail
         refine hK.out _ _ (by (first | (exact (Holds.new _ _ _).drew) | (exact Holds.call hHeld hb) | (exact hHeld))) (fun hHeld => ?_)
         clear hK K
         try simp only [Act.put, List.setIfInBounds_toArray, List.set_cons_zero, List.set_cons_succ])
    first
      | (refine wpAnyH_take (i := 10) (v := undef) (by simp only [List.getElem?_toArray, List.getElem?_cons_succ, List.getElem?_cons_zero]; rfl) (by kernel_rfl) (by kernel_rfl) (by kernel_rfl) (fun _ _ _ h => h) (Or.inr ⟨by rfl, rfl⟩) (by assumption) ?_; try simp only [Act.put, List.setIfInBounds_toArray, List.set_cons_zero, List.set_cons_succ])
      | (refine wpAnyH_take (i := 10) (v := ?_) (by simp only [List.getElem?_toArray, List.getElem?_cons_succ, List.getElem?_cons_zero]; rfl) (by kernel_rfl) (by kernel_rfl) (by kernel_rfl) (fun _ _ _ h => h) (Or.inl ⟨by rfl, ?_⟩) (by assumption) ?_
         rotate_left
         · (intro ww hSw; (try dsimp only at hSw); go_simp; (try with_reducible rfl))
         try simp only [Act.put, List.setIfInBounds_toArray, List.set_cons_zero, List.set_cons_succ])
      | (refine wpAnyH_ready (rs := [10]) (by kernel_rfl) (by simp) (AllReadyH.cons (by simp only [List.getElem?_toArray, List.getElem?_cons_succ, List.getElem?_cons_zero]; rfl) (fun K hK => ?_) AllReadyH.nil)
         go_simp
         first
           | (go_at_call 36; refine (iskind_any _ _).mono ?_; rintro e w1 ⟨rfl, rfl⟩; rw [HK.out])
           | (go_at_call 37; refine (within_any _ _ _ _ _ _ (H1.out.below hHeld.1 (Nat.le_refl _)) (H2.out.below hHeld.1 (Nat.le_refl _))).mono ?_; rintro e w1 ⟨rfl, hb⟩; rw [HV.out])
           | (go_at_call 39; refine (own_any _ _ _ _ _ _ HK.out (H1.out.below hHeld.1 (Nat.le_refl _)) (H2.out.below hHeld.1 (Nat.le_refl _))).mono ?_; rintro e w1 ⟨g2, gc2, u2, uc2, rfl, hg2, hu2, hb⟩)
           | (go_at_call 38; refine (same_any _ _ _ _ _ _ _ _ _ _ _ (H1.out.below hHeld.1 (Nat.le_refl _)) (H2.out.below hHeld.1 (Nat.le_refl _)) hg2 hu2).mono ?_; rintro e w1 ⟨rfl, hb⟩)
         try go_wp2_with fail
         refine hK.out _ _ (by (first | (exact (Holds.new _ _ _).drew) | (exact Holds.call hHeld hb) | (exact hHeld))) (fun hHeld => ?_)
         clear hK K
         try simp only [Act.put, List.setIfInBounds_toArray, List.set_cons_zero, List.set_cons_succ])
    first
      | (refine wpAnyH_take (i := 11) (v := undef) (by simp only [List.getElem?_toArray, List.getElem?_cons_succ, List.getElem?_cons_zero]; rfl) (by kernel_rfl) (by kernel_rfl) (by kernel_rfl) (fun _ _ _ h => h) (Or.inr ⟨by rfl, rfl⟩) (by assumption) ?_; try simp only [Act.put, List.setIfInBounds_toArray, List.set_cons_zero, List.set_cons_succ])
      | (refine wpAnyH_take (i := 11) (v := ?_) (by simp only [List.getElem?_toArray, List.getElem?_cons_succ, List.getElem?_cons_zero]; rfl) (by kernel_rfl) (by kernel_rfl) (by kernel_rfl) (fun _ _ _ h => h) (Or.inl ⟨by rfl, ?_⟩) (by assumption) ?_
         rotate_left
         · (intro ww hSw; (try dsimp only at hSw); go_simp; (try with_reducible rfl))
         try simp only [Act.put, List.setIfInBounds_toArray, List.set_cons_zero, List.set_cons_succ])
      | (refine wpAnyH_ready (rs := [11]) (by kernel_rfl) (by simp) (AllReadyH.cons (by simp only [List.getElem?_toArray, List.getElem?_cons_succ, List.getElem?_cons_zero]; rfl) (fun K hK => ?_) AllReadyH.nil)
         go_simp
         first
           | (go_at_call 36; refine (iskind_any _ _).mono ?_; rintro e w1 ⟨rfl, rfl⟩; rw [HK.out])
           | (go_at_call 37; refine (within_any _ _ _ _ _ _ (H1.out.below hHeld.1 (Nat.le_refl _)) (H2.out.below hHeld.1 (Nat.le_refl _))).mono ?_; rintro e w1 ⟨rfl, hb⟩; rw [HV.out])
           | (go_at_call 39; refine (own_any _ _ _ _ _ _ HK.out (H1.out.below hHeld.1 (Nat.le_refl _)) (H2.out.below hHeld.1 (Nat.le_refl _))).mono ?_; rintro e w1 ⟨g2, gc2, u2, uc2, rfl, hg2, hu2, hb⟩)
           | (go_at_call 38; refine (same_any _ _ _ _ _ _ _ _ _ _ _ (H1.out.below hHeld.1 (Nat.le_refl _)) (H2.out.below hHeld.1 (Nat.le_refl _)) hg2 hu2).mono ?_; rintro e w1 ⟨rfl, hb⟩)
         try go_wp2_with fail
         refine hK.out _ _ (by (first | (exact (Holds.new _ _ _).drew) | (exact Holds.call hHeld hb) | (exact hHeld))) (fun hHeld => ?_)
         clear hK K
         try simp only [Act.put, List.setIfInBounds_toArray, List.set_cons_zero, List.set_cons_succ])
    first
      | (refine wpAnyH_take (i := 12) (v := undef) (by simp only [List.getElem?_toArray, List.getElem?_cons_succ, List.getElem?_cons_zero]; rfl) (by kernel_rfl) (by kernel_rfl) (by kernel_rfl) (fun _ _ _ h => h) (Or.inr ⟨by rfl, rfl⟩) (by assumption) ?_; try simp only [Act.put, List.setIfInBounds_toArray, List.set_cons_zero, List.set_cons_succ])
      | (refine wpAnyH_take (i := 12) (v := ?_) (by simp only [List.getElem?_toArray, List.getElem?_cons_succ, List.getElem?_cons_zero]; rfl) (by kernel_rfl) (by kernel_rfl) (by kernel_rfl) (fun _ _ _ h => h) (Or.inl ⟨by rfl, ?_⟩) (by assumption) ?_
         rotate_left
         · (intro ww hSw; (try dsimp only at hSw); go_simp; (try with_reducible rfl))
         try simp only [Act.put, List.setIfInBounds_toArray, List.set_cons_zero, List.set_cons_succ])
      | (refine wpAnyH_ready (rs := [12]) (by kernel_rfl) (by simp) (AllReadyH.cons (by simp only [List.getElem?_toArray, List.getElem?_cons_succ, List.getElem?_cons_zero]; rfl) (fun K hK => ?_) AllReadyH.nil)
         go_simp
         first
           | (go_at_call 36; refine (iskind_any _ _).mono ?_; rintro e w1 ⟨rfl, rfl⟩; rw [HK.out])
           | (go_at_call 37; refine (within_any _ _ _ _ _ _ (H1.out.below hHeld.1 (Nat.le_refl _)) (H2.out.below hHeld.1 (Nat.le_refl _))).mono ?_; rintro e w1 ⟨rfl, hb⟩; rw [HV.out])
           | (go_at_call 39; refine (own_any _ _ _ _ _ _ HK.out (H1.out.below hHeld.1 (Nat.le_refl _)) (H2.out.below hHeld.1 (Nat.le_refl _))).mono ?_; rintro e w1 ⟨g2, gc2, u2, uc2, rfl, hg2, hu2, hb⟩)
           | (go_at_call 38; refine (same_any _ _ _ _ _ _ _ _ _ _ _ (H1.out.below hHeld.1 (Nat.le_refl _)) (H2.out.below hHeld.1 (Nat.le_refl _)) hg2 hu2).mono ?_; rintro e w1 ⟨rfl, hb⟩)
         try go_wp2_with fail
         refine hK.out _ _ (by (first | (exact (Holds.new _ _ _).drew) | (exact Holds.call hHeld hb) | (exact hHeld))) (fun hHeld => ?_)
         clear hK K
         try simp only [Act.put, List.setIfInBounds_toArray, List.set_cons_zero, List.set_cons_succ])
    first
      | (refine wpAnyH_take (i := 13) (v := undef) (by simp only [List.getElem?_toArray, List.getElem?_cons_succ, List.getElem?_cons_zero]; rfl) (by kernel_rfl) (by kernel_rfl) (by kernel_rfl) (fun _ _ _ h => h) (Or.inr ⟨by rfl, rfl⟩) (by assumption) ?_; try simp only [Act.put, List.setIfInBounds_toArray, List.set_cons_zero, List.set_cons_succ])
      | (refine wpAnyH_take (i := 13) (v := ?_) (by simp only [List.getElem?_toArray, List.getElem?_cons_succ, List.getElem?_cons_zero]; rfl) (by kernel_rfl) (by kernel_rfl) (by kernel_rfl) (fun _ _ _ h => h) (Or.inl ⟨by rfl, ?_⟩) (by assumption) ?_
         rotate_left
         · (intro ww hSw; (try dsimp only at hSw); go_simp; (try with_reducible rfl))
         try simp only [Act.put, List.setIfInBounds_toArray, List.set_cons_zero, List.set_cons_succ])
      | (refine wpAnyH_ready (rs := [13]) (by kernel_rfl) (by simp) (AllReadyH.cons (by simp only [List.getElem?_toArray, List.getElem?_cons_succ, List.getElem?_cons_zero]; rfl) (fun K hK => ?_) AllReadyH.nil)
         go_simp
         first
           | (go_at_call 36; refine (iskind_any _ _).mono ?_; rintro e w1 ⟨rfl, rfl⟩; rw [HK.out])
           | (go_at_call 37; refine (within_any _ _ _ _ _ _ (H1.out.below hHeld.1 (Nat.le_refl _)) (H2.out.below hHeld.1 (Nat.le_refl _))).mono ?_; rintro e w1 ⟨rfl, hb⟩; rw [HV.out])
           | (go_at_call 39; refine (own_any _ _ _ _ _ _ HK.out (H1.out.below hHeld.1 (Nat.le_refl _)) (H2.out.below hHeld.1 (Nat.le_refl _))).mono ?_; rintro e w1 ⟨g2, gc2, u2, uc2, rfl, hg2, hu2, hb⟩)
           | (go_at_call 38; refine (same_any _ _ _ _ _ _ _ _ _ _ _ (H1.out.below hHeld.1 (Nat.le_refl _)) (H2.out.below hHeld.1 (Nat.le_refl _)) hg2 hu2).mono ?_; rintro e w1 ⟨rfl, hb⟩)
         try go_wp2_with fail
         refine hK.out _ _ (by (first | (exact (Holds.new _ _ _).drew) | (exact Holds.call hHeld hb) | (exact hHeld))) (fun hHeld => ?_)
         clear hK K
         try simp only [Act.put, List.setIfInBounds_toArray, List.set_cons_zero, List.set_cons_succ])
    refine wpAnyH_done (by kernel_rfl) ?_ _
    refine NoPanic.normal ?_
    have hB := Lib.hid (show Below w.heap.size w _ from (by assumption : Holds _ _ _ _).1)
    go_wp2_with fail
    go_ret
    exact ⟨ret_bool HS.out.symm, hB.out⟩

theorem may_any (c : Cm) (ga wa : Option Addr) (gc wc : Nat) (w : World) (h1 : IntsAt w ga c.gives) (h2 : IntsAt w wa c.wants) :
    Calls Tryd.prog 22 #[.agg #[.int .i64 c.kind, .int .i64 c.dir, .int .i64 c.item, .int .i64 c.box, .int .i64 c.who, .slice ga c.gives.length gc, .int .i64 c.pay, .slice wa c.wants.length wc, .int .i64 c.fee]] w fun e w' => e = .returned (.bool (mayB c)) ∧ Below w.heap.size w w' := by
  cases hk : isKindB c.kind
  · exact may_no c ga wa gc wc w hk
  · exact may_within _ c ga wa gc wc w hk rfl h1 h2
end Go.Proofs.YtinjpkbpdhihjaaDoor
