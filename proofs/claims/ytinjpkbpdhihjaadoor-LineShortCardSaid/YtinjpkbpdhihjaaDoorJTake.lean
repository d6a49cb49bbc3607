import Derived.Test.YtinjpkbpdhihjaaDoorRows
import Derived.Test.YtinjpkbpdhihjaaDoorKit
import Derived.Test.YtinjpkbpdhihjaaDoorStrs
import Derived.Test.YtinjpkbpdhihjaaDoorJTab
import Derived.Test.YtinjpkbpdhihjaaDoorJBlk
import Derived.Test.YtinjpkbpdhihjaaDoorClone
import Derived.Test.YtinjpkbpdhihjaaDoorJMath
import Derived.Test.YtinjpkbpdhihjaaDoorJNum
import Derived.Test.YtinjpkbpdhihjaaDoorJCut
import Derived.Test.YtinjpkbpdhihjaaDoorJAppend
import Derived.Test.YtinjpkbpdhihjaaDoorJGrown
import Derived.Test.YtinjpkbpdhihjaaDoorJCmd
import Derived.Test.YtinjpkbpdhihjaaDoorJCmdNames1
import Derived.Test.YtinjpkbpdhihjaaDoorJLinePart
import Derived.Test.YtinjpkbpdhihjaaDoorJLineTrade
import Derived.Test.YtinjpkbpdhihjaaDoorJPut
import Derived.Deep.RegionHeld3
import Derived.Deep.QuietTactic
import Derived.BigQuiet
import Derived.WalkKit
import Derived.ProofKit
import Derived.OpenShut
import Derived.IntWalk
import Derived.Maps.AppendAt
/- line: the closures that take a piece of one word off the beginning. -/
namespace Go.Proofs.YtinjpkbpdhihjaaDoor
open Go.ChangeShapes Go.WideShapes Go.ChangeAt Go.RowKit
set_option linter.unusedVariables false
open Go.RowKit Go
/-- A list's words but for the first. -/
theorem StrsC.tail {w : World} {v : Value} {x : List UInt8} {xs : List (List UInt8)} (h : StrsC w v (x :: xs)) :
    ∃ b off cap v', v = .slice (some ⟨b, off, none⟩) (xs.length + 1) cap ∧ b < w.heap.size ∧ w.cell? ⟨b, off, none⟩ = some (str x) ∧
      (∀ W, (Instr.slice 39 (.slice (some ⟨b, off, none⟩) (xs.length + 1) cap) (some (.int .i64 1)) none none).run Tryd.prog W = .ok v' W) ∧ StrsC w v' xs := by
  obtain ⟨⟨a, cap, rfl, hl, h⟩, a2, cap2, e2, hc⟩ := h
  simp only [Value.slice.injEq] at e2
  obtain ⟨rfl, -, rfl⟩ := e2
  rcases h with h | ⟨b, off, rfl, hb, hx⟩
  · cases h
  simp only [List.length_cons] at hl hc hx
  have c0 := hx 0 (by omega)
  rw [Nat.add_zero] at c0
  refine ⟨b, off, cap, .slice (if cap = 1 then some ⟨b, off, none⟩ else some ⟨b, off + 1, none⟩) xs.length (cap - 1), rfl, hb, c0, fun W => ?_, ⟨_, cap - 1, rfl, by omega, ?_⟩, _, cap - 1, rfl, by omega⟩
  · have hs : Instr.sliceBound (.int .i64 1) (xs.length + 1) .sliceB = pure 1 := by
      simp [Instr.sliceBound, asIntOf]; intro hh; omega
    by_cases e : cap = 1
    · subst e; simp [Instr.slice, run_underlying Tryd.underlying39, Instr.sliceBounds, hs, Tryd.sizeOf9, Result.andThen]
    · simp [Instr.slice, run_underlying Tryd.underlying39, Instr.sliceBounds, hs, Tryd.sizeOf9, Result.andThen, e, Addr.add]
  · cases xs with
    | nil => exact .inl rfl
    | cons y ys =>
      simp only [List.length_cons] at hc
      refine .inr ⟨b, off + 1, by rw [if_neg (by omega)], hb, fun i hi => ?_⟩
      have := hx (i + 1) (by simp at hi ⊢; omega)
      rw [show off + 1 + i = off + (i + 1) by omega]
      exact this
theorem StrsC.drew {w : World} {v : Value} {xs : List (List UInt8)} (h : StrsC w v xs) : StrsC w.drew v xs := h
theorem number_str (x : List UInt8) (w : World) (hx : x.length ≤ 9223372036854775807) :
    Calls Tryd.prog 64 #[.string ⟨x.toArray⟩] w fun e w' => e = .returned (.tuple #[.int .i64 (numN x : Int), .bool (numB x)]) ∧ w = w' :=
  number_any ⟨x.toArray⟩ w (by simpa [ByteArray.size] using hx)
set_option maxRecDepth 100000 in
set_option maxHeartbeats 1000000 in
theorem one_take_name (a q B o : Nat) (m : Int) (v : Value) (x : List UInt8) (xs : List (List UInt8)) (w : World) (ht : KTab w) (bA : Blk w a 70 #[.pointer (some ⟨B, o, none⟩)]) (bQ : Blk w q 60 #[.func (.func 42) #[] #[]])
    (cF : w.cell? ⟨B, o, none⟩ = some (.int .i64 m)) (fF : w.frozen? ⟨B, o, none⟩ = false) (hs : StrsC w v (x :: xs)) :
    Calls Tryd.prog 60 #[v, .pointer (some ⟨q, 0, none⟩), .pointer (some ⟨a, 0, none⟩)] w fun e w' => ∃ v', e = .returned (.tuple #[v', .bool (kindB x)]) ∧ StrsC w v' xs ∧ w' = w.drew.setCell ⟨B, o, none⟩ (.int .i64 (kindN x)) := by
  obtain ⟨b, off, cap, v', rfl, hb, c0, hsl, hrest⟩ := hs.tail
  have cA := bA.cell 0
  have cQ := bQ.cell 0
  unfold str at c0
  have S0 := Lib.hid (show w.drew.cell? ⟨q, 0, none⟩ = some (.func (.func 42) #[] #[]) ∧ w.drew.cell? ⟨b, off, none⟩ = some (.string ⟨x.toArray⟩) from ⟨cQ, c0⟩)
  have HR := Lib.hid hrest
  have HT := Lib.hid (show KTab w.drew from ht)
  clear ht
  clear bA bQ hs hrest c0 cQ hb
  go_enter Tryd.func60, Tryd.ntmps60
  go_wp2_with fail
  refine wp_region_noPanic ?_
  refine wp_region_held_drew (S := (fun w' => w'.cell? ⟨q, 0, none⟩ = some (.func (.func 42) #[] #[]) ∧ w'.cell? ⟨b, off, none⟩ = some (.string ⟨x.toArray⟩))) (by kernel_rfl) (by (first | (exact S0.out) | (exact hHeld))) (fun hHeld => ?_)
  first
    | (refine wpAnyH_take (i := 0) (v := undef) (by simp only [List.getElem?_toArray, List.getElem?_cons_zero]; rfl) (by kernel_rfl) (by kernel_rfl) (by kernel_rfl) (fun _ _ _ h => h) (Or.inr ⟨by rfl, rfl⟩) (by assumption) ?_; try simp only [Act.put, List.setIfInBounds_toArray, List.set_cons_zero, List.set_cons_succ])
    | (refine wpAnyH_take (i := 0) (v := ?_) (by simp only [List.getElem?_toArray, List.getElem?_cons_zero]; rfl) (by kernel_rfl) (by kernel_rfl) (by kernel_rfl) (fun _ _ _ h => h) (Or.inl ⟨by rfl, ?_⟩) (by assumption) ?_
       rotate_left
       · (intro ww hSw; (try dsimp only at hSw); go_simp; (try with_reducible rfl))
       try simp only [Act.put, List.setIfInBounds_toArray, List.set_cons_zero, List.set_cons_succ])
    | (refine wpAnyH_ready (rs := [0]) (by kernel_rfl) (by simp) (AllReadyH.cons (by simp only [List.getElem?_toArray, List.getElem?_cons_succ, List.getElem?_cons_zero]; rfl) (fun K hK => ?_) AllReadyH.nil)
       go_simp
       first
         | (go_at_call 42; (with_reducible refine (kind_any x _ HT.out).mono ?_); rintro e w1 ⟨rfl, rfl⟩)
         | (skip)
       try go_wp2_with fail
       refine hK.out _ _ (by (first | (exact S0.out) | (exact hHeld))) (fun hHeld => ?_)
       clear hK K
       try simp only [Act.put, List.setIfInBounds_toArray, List.set_cons_zero, List.set_cons_succ])
  first
    | (refine wpAnyH_take (i := 1) (v := undef) (by simp only [List.getElem?_toArray, List.getElem?_cons_succ, List.getElem?_cons_zero]; rfl) (by kernel_rfl) (by kernel_rfl) (by kernel_rfl) (fun _ _ _ h => h) (Or.inr ⟨by rfl, rfl⟩) (by assumption) ?_; try simp only [Act.put, List.setIfInBounds_toArray, List.set_cons_zero, List.set_cons_succ])
    | (refine wpAnyH_take (i := 1) (v := ?_) (by simp only [List.getElem?_toArray, List.getElem?_cons_succ, List.getElem?_cons_zero]; rfl) (by kernel_rfl) (by kernel_rfl) (by kernel_rfl) (fun _ _ _ h => h) (Or.inl ⟨by rfl, ?_⟩) (by assumption) ?_
       rotate_left
       · (intro ww hSw; (try dsimp only at hSw); go_simp; (try with_reducible rfl))
       try simp only [Act.put, List.setIfInBounds_toArray, List.set_cons_zero, List.set_cons_succ])
    | (refine wpAnyH_ready (rs := [1]) (by kernel_rfl) (by simp) (AllReadyH.cons (by simp only [List.getElem?_toArray, List.getElem?_cons_succ, List.getElem?_cons_zero]; rfl) (fun K hK => ?_) AllReadyH.nil)
       go_simp
       first
         | (go_at_call 42; (with_reducible refine (kind_any x _ HT.out).mono ?_); rintro e w1 ⟨rfl, rfl⟩)
         | (skip)
       try go_wp2_with fail
       refine hK.out _ _ (by (first | (exact S0.out) | (exact hHeld))) (fun hHeld => ?_)
       clear hK K
       try simp only [Act.put, List.setIfInBounds_toArray, List.set_cons_zero, List.set_cons_succ])
  first
    | (refine wpAnyH_take (i := 2) (v := undef) (by simp only [List.getElem?_toArray, List.getElem?_cons_succ, List.getElem?_cons_zero]; rfl) (by kernel_rfl) (by kernel_rfl) (by kernel_rfl) (fun _ _ _ h => h) (Or.inr ⟨by rfl, rfl⟩) (by assumption) ?_; try simp only [Act.put, List.setIfInBounds_toArray, List.set_cons_zero, List.set_cons_succ])
    | (refine wpAnyH_take (i := 2) (v := ?_) (by simp only [List.getElem?_toArray, List.getElem?_cons_succ, List.getElem?_cons_zero]; rfl) (by kernel_rfl) (by kernel_rfl) (by kernel_rfl) (fun _ _ _ h => h) (Or.inl ⟨by rfl, ?_⟩) (by assumption) ?_
       rotate_left
       · (intro ww hSw; (try dsimp only at hSw); go_simp; (try with_reducible rfl))
       try simp only [Act.put, List.setIfInBounds_toArray, List.set_cons_zero, List.set_cons_succ])
    | (refine wpAnyH_ready (rs := [2]) (by kernel_rfl) (by simp) (AllReadyH.cons (by simp only [List.getElem?_toArray, List.getElem?_cons_succ, List.getElem?_cons_zero]; rfl) (fun K hK => ?_) AllReadyH.nil)
       go_simp
       first
         | (go_at_call 42; (with_reducible refine (kind_any x _ HT.out).mono ?_); rintro e w1 ⟨rfl, rfl⟩)
         | (skip)
       try go_wp2_with fail
       refine hK.out _ _ (by (first | (exact S0.out) | (exact hHeld))) (fun hHeld => ?_)
       clear hK K
       try simp only [Act.put, List.setIfInBounds_toArray, List.set_cons_zero, List.set_cons_succ])
  first
    | (refine wpAnyH_take (i := 3) (v := undef) (by simp only [List.getElem?_toArray, List.getElem?_cons_succ, List.getElem?_cons_zero]; rfl) (by kernel_rfl) (by kernel_rfl) (by kernel_rfl) (fun _ _ _ h => h) (Or.inr ⟨by rfl, rfl⟩) (by assumption) ?_; try simp only [Act.put, List.setIfInBounds_toArray, List.set_cons_zero, List.set_cons_succ])
    | (refine wpAnyH_take (i := 3) (v := ?_) (by simp only [List.getElem?_toArray, List.getElem?_cons_succ, List.getElem?_cons_zero]; rfl) (by kernel_rfl) (by kernel_rfl) (by kernel_rfl) (fun _ _ _ h => h) (Or.inl ⟨by rfl, ?_⟩) (by assumption) ?_
       rotate_left
       · (intro ww hSw; (try dsimp only at hSw); go_simp; (try with_reducible rfl))
       try simp only [Act.put, List.setIfInBounds_toArray, List.set_cons_zero, List.set_cons_succ])
    | (refine wpAnyH_ready (rs := [3]) (by kernel_rfl) (by simp) (AllReadyH.cons (by simp only [List.getElem?_toArray, List.getElem?_cons_succ, List.getElem?_cons_zero]; rfl) (fun K hK => ?_) AllReadyH.nil)
       go_simp
       first
         | (go_at_call 42; (with_reducible refine (kind_any x _ HT.out).mono ?_); rintro e w1 ⟨rfl, rfl⟩)
         | (skip)
       try go_wp2_with fail
       refine hK.out _ _ (by (first | (exact S0.out) | (exact hHeld))) (fun hHeld => ?_)
       clear hK K
       try simp only [Act.put, List.setIfInBounds_toArray, List.set_cons_zero, List.set_cons_succ])
  first
    | (refine wpAnyH_take (i := 4) (v := undef) (by simp only [List.getElem?_toArray, List.getElem?_cons_succ, List.getElem?_cons_zero]; rfl) (by kernel_rfl) (by kernel_rfl) (by kernel_rfl) (fun _ _ _ h => h) (Or.inr ⟨by rfl, rfl⟩) (by assumption) ?_; try simp only [Act.put, List.setIfInBounds_toArray, List.set_cons_zero, List.set_cons_succ])
    | (refine wpAnyH_take (i := 4) (v := ?_) (by simp only [List.getElem?_toArray, List.getElem?_cons_succ, List.getElem?_cons_zero]; rfl) (by kernel_rfl) (by kernel_rfl) (by kernel_rfl) (fun _ _ _ h => h) (Or.inl ⟨by rfl, ?_⟩) (by assumption) ?_
       rotate_left
       · (intro ww hSw; (try dsimp only at hSw); go_simp; (try with_reducible rfl))
       try simp only [Act.put, List.setIfInBounds_toArray, List.set_cons_zero, List.set_cons_succ])
    | (refine wpAnyH_ready (rs := [4]) (by kernel_rfl) (by simp) (AllReadyH.cons (by simp only [List.getElem?_toArray, List.getElem?_cons_succ, List.getElem?_cons_zero]; rfl) (fun K hK => ?_) AllReadyH.nil)
       go_simp
       first
         | (go_at_call 42; (with_reducible refine (kind_any x _ HT.out).mono ?_); rintro e w1 ⟨rfl, rfl⟩)
         | (skip)
       try go_wp2_with fail
       refine hK.out _ _ (by (first | (exact S0.out) | (exact hHeld))) (fun hHeld => ?_)
       clear hK K
       try simp only [Act.put, List.setIfInBounds_toArray, List.set_cons_zero, List.set_cons_succ])
  first
    | (refine wpAnyH_take (i := 5) (v := undef) (by simp only [List.getElem?_toArray, List.getElem?_cons_succ, List.getElem?_cons_zero]; rfl) (by kernel_rfl) (by kernel_rfl) (by kernel_rfl) (fun _ _ _ h => h) (Or.inr ⟨by rfl, rfl⟩) (by assumption) ?_; try simp only [Act.put, List.setIfInBounds_toArray, List.set_cons_zero, List.set_cons_succ])
    | (refine wpAnyH_take (i := 5) (v := ?_) (by simp only [List.getElem?_toArray, List.getElem?_cons_succ, List.getElem?_cons_zero]; rfl) (by kernel_rfl) (by kernel_rfl) (by kernel_rfl) (fun _ _ _ h => h) (Or.inl ⟨by rfl, ?_⟩) (by assumption) ?_
       rotate_left
       · (intro ww hSw; (try dsimp only at hSw); go_simp; (try with_reducible rfl))
       try simp only [Act.put, List.setIfInBounds_toArray, List.set_cons_zero, List.set_cons_succ])
    | (refine wpAnyH_ready (rs := [5]) (by kernel_rfl) (by simp) (AllReadyH.cons (by simp only [List.getElem?_toArray, List.getElem?_cons_succ, List.getElem?_cons_zero]; rfl) (fun K hK => ?_) AllReadyH.nil)
       go_simp
       first
         | (go_at_call 42; (with_reducible refine (kind_any x _ HT.out).mono ?_); rintro e w1 ⟨rfl, rfl⟩)
         | (skip)
       try go_wp2_with fail
       refine hK.out _ _ (by (first | (exact S0.out) | (exact hHeld))) (fun hHeld => ?_)
       clear hK K
       try simp only [Act.put, List.setIfInBounds_toArray, List.set_cons_zero, List.set_cons_succ])
  first
    | (refine wpAnyH_take (i := 6) (v := undef) (by simp only [List.getElem?_toArray, List.getElem?_cons_succ, List.getElem?_cons_zero]; rfl) (by kernel_rfl) (by kernel_rfl) (by kernel_rfl) (fun _ _ _ h => h) (Or.inr ⟨by rfl, rfl⟩) (by assumption) ?_; try simp only [Act.put, List.setIfInBounds_toArray, List.set_cons_zero, List.set_cons_succ])
    | (refine wpAnyH_take (i := 6) (v := ?_) (by simp only [List.getElem?_toArray, List.getElem?_cons_succ, List.getElem?_cons_zero]; rfl) (by kernel_rfl) (by kernel_rfl) (by kernel_rfl) (fun _ _ _ h => h) (Or.inl ⟨by rfl, ?_⟩) (by assumption) ?_
       rotate_left
       · (intro ww hSw; (try dsimp only at hSw); go_simp; (try with_reducible rfl))
       try simp only [Act.put, List.setIfInBounds_toArray, List.set_cons_zero, List.set_cons_succ])
    | (refine wpAnyH_ready (rs := [6]) (by kernel_rfl) (by simp) (AllReadyH.cons (by simp only [List.getElem?_toArray, List.getElem?_cons_succ, List.getElem?_cons_zero]; rfl) (fun K hK => ?_) AllReadyH.nil)
       go_simp
       first
         | (go_at_call 42; (with_reducible refine (kind_any x _ HT.out).mono ?_); rintro e w1 ⟨rfl, rfl⟩)
         | (skip)
       try go_wp2_with fail
       refine hK.out _ _ (by (first | (exact S0.out) | (exact hHeld))) (fun hHeld => ?_)
       clear hK K
       try simp only [Act.put, List.setIfInBounds_toArray, List.set_cons_zero, List.set_cons_succ])
  first
    | (refine wpAnyH_take (i := 7) (v := undef) (by simp only [List.getElem?_toArray, List.getElem?_cons_succ, List.getElem?_cons_zero]; rfl) (by kernel_rfl) (by kernel_rfl) (by kernel_rfl) (fun _ _ _ h => h) (Or.inr ⟨by rfl, rfl⟩) (by assumption) ?_; try simp only [Act.put, List.setIfInBounds_toArray, List.set_cons_zero, List.set_cons_succ])
    | (refine wpAnyH_take (i := 7) (v := ?_) (by simp only [List.getElem?_toArray, List.getElem?_cons_succ, List.getElem?_cons_zero]; rfl) (by kernel_rfl) (by kernel_rfl) (by kernel_rfl) (fun _ _ _ h => h) (Or.inl ⟨by rfl, ?_⟩) (by assumption) ?_
       rotate_left
       · (intro ww hSw; (try dsimp only at hSw); go_simp; (try with_reducible rfl))
       try simp only [Act.put, List.setIfInBounds_toArray, List.set_cons_zero, List.set_cons_succ])
    | (refine wpAnyH_ready (rs := [7]) (by kernel_rfl) (by simp) (AllReadyH.cons (by simp only [List.getElem?_toArray, List.getElem?_cons_succ, List.getElem?_cons_zero]; rfl) (fun K hK => ?_) AllReadyH.nil)
       go_simp
       first
         | (go_at_call 42; (with_reducible refine (kind_any x _ HT.out).mono ?_); rintro e w1 ⟨rfl, rfl⟩)
         | (skip)
       try go_wp2_with fail
       refine hK.out _ _ (by (first | (exact S0.out) | (exact hHeld))) (fun hHeld => ?_)
       clear hK K
       try simp only [Act.put, List.setIfInBounds_toArray, List.set_cons_zero, List.set_cons_succ])
  first
    | (refine wpAnyH_take (i := 8) (v := undef) (by simp only [List.getElem?_toArray, List.getElem?_cons_succ, List.getElem?_cons_zero]; rfl) (by kernel_rfl) (by kernel_rfl) (by kernel_rfl) (fun _ _ _ h => h) (Or.inr ⟨by rfl, rfl⟩) (by assumption) ?_; try simp only [Act.put, List.setIfInBounds_toArray, List.set_cons_zero, List.set_cons_succ])
    | (refine wpAnyH_take (i := 8) (v := ?_) (by simp only [List.getElem?_toArray, List.getElem?_cons_succ, List.getElem?_cons_zero]; rfl) (by kernel_rfl) (by kernel_rfl) (by kernel_rfl) (fun _ _ _ h => h) (Or.inl ⟨by rfl, ?_⟩) (by assumption) ?_
       rotate_left
       · (intro ww hSw; (try dsimp only at hSw); go_simp; (try with_reducible rfl))
       try simp only [Act.put, List.setIfInBounds_toArray, List.set_cons_zero, List.set_cons_succ])
    | (refine wpAnyH_ready (rs := [8]) (by kernel_rfl) (by simp) (AllReadyH.cons (by simp only [List.getElem?_toArray, List.getElem?_cons_succ, List.getElem?_cons_zero]; rfl) (fun K hK => ?_) AllReadyH.nil)
       go_simp
       first
         | (go_at_call 42; (with_reducible refine (kind_any x _ HT.out).mono ?_); rintro e w1 ⟨rfl, rfl⟩)
         | (skip)
       try go_wp2_with fail
       refine hK.out _ _ (by (first | (exact S0.out) | (exact hHeld))) (fun hHeld => ?_)
       clear hK K
       try simp only [Act.put, List.setIfInBounds_toArray, List.set_cons_zero, List.set_cons_succ])
  first
    | (refine wpAnyH_take (i := 9) (v := undef) (by simp only [List.getElem?_toArray, List.getElem?_cons_succ, List.getElem?_cons_zero]; rfl) (by kernel_rfl) (by kernel_rfl) (by kernel_rfl) (fun _ _ _ h => h) (Or.inr ⟨by rfl, rfl⟩) (by assumption) ?_; try simp only [Act.put, List.setIfInBounds_toArray, List.set_cons_zero, List.set_cons_succ])
    | (refine wpAnyH_take (i := 9) (v := ?_) (by simp only [List.getElem?_toArray, List.getElem?_cons_succ, List.getElem?_cons_zero]; rfl) (by kernel_rfl) (by kernel_rfl) (by kernel_rfl) (fun _ _ _ h => h) (Or.inl ⟨by rfl, ?_⟩) (by assumption) ?_
       rotate_left
       · (intro ww hSw; (try dsimp only at hSw); go_simp; (try with_reducible rfl))
       try simp only [Act.put, List.setIfInBounds_toArray, List.set_cons_zero, List.set_cons_succ])
    | (refine wpAnyH_ready (rs := [9]) (by kernel_rfl) (by simp) (AllReadyH.cons (by simp only [List.getElem?_toArray, List.getElem?_cons_succ, List.getElem?_cons_zero]; rfl) (fun K hK => ?_) AllReadyH.nil)
       go_simp
       first
         | (go_at_call 42; (with_reducible refine (kind_any x _ HT.out).mono ?_); rintro e w1 ⟨rfl, rfl⟩)
         | (skip)
       try go_wp2_with fail
       refine hK.out _ _ (by (first | (exact S0.out) | (exact hHeld))) (fun hHeld => ?_)
       clear hK K
       try simp only [Act.put, List.setIfInBounds_toArray, List.set_cons_zero, List.set_cons_succ])
  refine wpAnyH_done (by kernel_rfl) ?_ _
  refine NoPanic.normal ?_
  go_wp2_with fail
  go_ret2
  exact ⟨_, rfl, HR.out, rfl⟩
set_option maxRecDepth 100000 in
set_option maxHeartbeats 1000000 in
theorem one_take_way (a q B o : Nat) (m : Int) (v : Value) (x : List UInt8) (xs : List (List UInt8)) (w : World) (ht : WTab w) (bA : Blk w a 70 #[.pointer (some ⟨B, o, none⟩)]) (bQ : Blk w q 60 #[.func (.func 62) #[] #[]])
    (cF : w.cell? ⟨B, o, none⟩ = some (.int .i64 m)) (fF : w.frozen? ⟨B, o, none⟩ = false) (hs : StrsC w v (x :: xs)) :
    Calls Tryd.prog 60 #[v, .pointer (some ⟨q, 0, none⟩), .pointer (some ⟨a, 0, none⟩)] w fun e w' => ∃ v', e = .returned (.tuple #[v', .bool (dirB x)]) ∧ StrsC w v' xs ∧ w' = w.drew.setCell ⟨B, o, none⟩ (.int .i64 (dirN x)) := by
  obtain ⟨b, off, cap, v', rfl, hb, c0, hsl, hrest⟩ := hs.tail
  have cA := bA.cell 0
  have cQ := bQ.cell 0
  unfold str at c0
  have S0 := Lib.hid (show w.drew.cell? ⟨q, 0, none⟩ = some (.func (.func 62) #[] #[]) ∧ w.drew.cell? ⟨b, off, none⟩ = some (.string ⟨x.toArray⟩) from ⟨cQ, c0⟩)
  have HR := Lib.hid hrest
  have HT := Lib.hid (show WTab w.drew from ht)
  clear ht
  clear bA bQ hs hrest c0 cQ hb
  go_enter Tryd.func60, Tryd.ntmps60
  go_wp2_with fail
  refine wp_region_noPanic ?_
  refine wp_region_held_drew (S := (fun w' => w'.cell? ⟨q, 0, none⟩ = some (.func (.func 62) #[] #[]) ∧ w'.cell? ⟨b, off, none⟩ = some (.string ⟨x.toArray⟩))) (by kernel_rfl) (by (first | (exact S0.out) | (exact hHeld))) (fun hHeld => ?_)
  first
    | (refine wpAnyH_take (i := 0) (v := undef) (by simp only [List.getElem?_toArray, List.getElem?_cons_zero]; rfl) (by kernel_rfl) (by kernel_rfl) (by kernel_rfl) (fun _ _ _ h => h) (Or.inr ⟨by rfl, rfl⟩) (by assumption) ?_; try simp only [Act.put, List.setIfInBounds_toArray, List.set_cons_zero, List.set_cons_succ])
    | (refine wpAnyH_take (i := 0) (v := ?_) (by simp only [List.getElem?_toArray, List.getElem?_cons_zero]; rfl) (by kernel_rfl) (by kernel_rfl) (by kernel_rfl) (fun _ _ _ h => h) (Or.inl ⟨by rfl, ?_⟩) (by assumption) ?_
       rotate_left
       · (intro ww hSw; (try dsimp only at hSw); go_simp; (try with_reducible rfl))
       try simp only [Act.put, List.setIfInBounds_toArray, List.set_cons_zero, List.set_cons_succ])
    | (refine wpAnyH_ready (rs := [0]) (by kernel_rfl) (by simp) (AllReadyH.cons (by simp only [List.getElem?_toArray, List.getElem?_cons_succ, List.getElem?_cons_zero]; rfl) (fun K hK => ?_) AllReadyH.nil)
       go_simp
       first
         | (go_at_call 62; (with_reducible refine (dir_any x _ HT.out).mono ?_); rintro e w1 ⟨rfl, rfl⟩)
         | (skip)
       try go_wp2_with fail
       refine hK.out _ _ (by (first | (exact S0.out) | (exact hHeld))) (fun hHeld => ?_)
       clear hK K
       try simp only [Act.put, List.setIfInBounds_toArray, List.set_cons_zero, List.set_cons_succ])
  first
    | (refine wpAnyH_take (i := 1) (v := undef) (by simp only [List.getElem?_toArray, List.getElem?_cons_succ, List.getElem?_cons_zero]; rfl) (by kernel_rfl) (by kernel_rfl) (by kernel_rfl) (fun _ _ _ h => h) (Or.inr ⟨by rfl, rfl⟩) (by assumption) ?_; try simp only [Act.put, List.setIfInBounds_toArray, List.set_cons_zero, List.set_cons_succ])
    | (refine wpAnyH_take (i := 1) (v := ?_) (by simp only [List.getElem?_toArray, List.getElem?_cons_succ, List.getElem?_cons_zero]; rfl) (by kernel_rfl) (by kernel_rfl) (by kernel_rfl) (fun _ _ _ h => h) (Or.inl ⟨by rfl, ?_⟩) (by assumption) ?_
       rotate_left
       · (intro ww hSw; (try dsimp only at hSw); go_simp; (try with_reducible rfl))
       try simp only [Act.put, List.setIfInBounds_toArray, List.set_cons_zero, List.set_cons_succ])
    | (refine wpAnyH_ready (rs := [1]) (by kernel_rfl) (by simp) (AllReadyH.cons (by simp only [List.getElem?_toArray, List.getElem?_cons_succ, List.getElem?_cons_zero]; rfl) (fun K hK => ?_) AllReadyH.nil)
       go_simp
       first
         | (go_at_call 62; (with_reducible refine (dir_any x _ HT.out).mono ?_); rintro e w1 ⟨rfl, rfl⟩)
         | (skip)
       try go_wp2_with fail
       refine hK.out _ _ (by (first | (exact S0.out) | (exact hHeld))) (fun hHeld => ?_)
       clear hK K
       try simp only [Act.put, List.setIfInBounds_toArray, List.set_cons_zero, List.set_cons_succ])
  first
    | (refine wpAnyH_take (i := 2) (v := undef) (by simp only [List.getElem?_toArray, List.getElem?_cons_succ, List.getElem?_cons_zero]; rfl) (by kernel_rfl) (by kernel_rfl) (by kernel_rfl) (fun _ _ _ h => h) (Or.inr ⟨by rfl, rfl⟩) (by assumption) ?_; try simp only [Act.put, List.setIfInBounds_toArray, List.set_cons_zero, List.set_cons_succ])
    | (refine wpAnyH_take (i := 2) (v := ?_) (by simp only [List.getElem?_toArray, List.getElem?_cons_succ, List.getElem?_cons_zero]; rfl) (by kernel_rfl) (by kernel_rfl) (by kernel_rfl) (fun _ _ _ h => h) (Or.inl ⟨by rfl, ?_⟩) (by assumption) ?_
       rotate_left
       · (intro ww hSw; (try dsimp only at hSw); go_simp; (try with_reducible rfl))
       try simp only [Act.put, List.setIfInBounds_toArray, List.set_cons_zero, List.set_cons_succ])
    | (refine wpAnyH_ready (rs := [2]) (by kernel_rfl) (by simp) (AllReadyH.cons (by simp only [List.getElem?_toArray, List.getElem?_cons_succ, List.getElem?_cons_zero]; rfl) (fun K hK => ?_) AllReadyH.nil)
       go_simp
       first
         | (go_at_call 62; (with_reducible refine (dir_any x _ HT.out).mono ?_); rintro e w1 ⟨rfl, rfl⟩)
         | (skip)
       try go_wp2_with fail
       refine hK.out _ _ (by (first | (exact S0.out) | (exact hHeld))) (fun hHeld => ?_)
       clear hK K
       try simp only [Act.put, List.setIfInBounds_toArray, List.set_cons_zero, List.set_cons_succ])
  first
    | (refine wpAnyH_take (i := 3) (v := undef) (by simp only [List.getElem?_toArray, List.getElem?_cons_succ, List.getElem?_cons_zero]; rfl) (by kernel_rfl) (by kernel_rfl) (by kernel_rfl) (fun _ _ _ h => h) (Or.inr ⟨by rfl, rfl⟩) (by assumption) ?_; try simp only [Act.put, List.setIfInBounds_toArray, List.set_cons_zero, List.set_cons_succ])
    | (refine wpAnyH_take (i := 3) (v := ?_) (by simp only [List.getElem?_toArray, List.getElem?_cons_succ, List.getElem?_cons_zero]; rfl) (by kernel_rfl) (by kernel_rfl) (by kernel_rfl) (fun _ _ _ h => h) (Or.inl ⟨by rfl, ?_⟩) (by assumption) ?_
       rotate_left
       · (intro ww hSw; (try dsimp only at hSw); go_simp; (try with_reducible rfl))
       try simp only [Act.put, List.setIfInBounds_toArray, List.set_cons_zero, List.set_cons_succ])
    | (refine wpAnyH_ready (rs := [3]) (by kernel_rfl) (by simp) (AllReadyH.cons (by simp only [List.getElem?_toArray, List.getElem?_cons_succ, List.getElem?_cons_zero]; rfl) (fun K hK => ?_) AllReadyH.nil)
       go_simp
       first
         | (go_at_call 62; (with_reducible refine (dir_any x _ HT.out).mono ?_); rintro e w1 ⟨rfl, rfl⟩)
         | (skip)
       try go_wp2_with fail
       refine hK.out _ _ (by (first | (exact S0.out) | (exact hHeld))) (fun hHeld => ?_)
       clear hK K
       try simp only [Act.put, List.setIfInBounds_toArray, List.set_cons_zero, List.set_cons_succ])
  first
    | (refine wpAnyH_take (i := 4) (v := undef) (by simp only [List.getElem?_toArray, List.getElem?_cons_succ, List.getElem?_cons_zero]; rfl) (by kernel_rfl) (by kernel_rfl) (by kernel_rfl) (fun _ _ _ h => h) (Or.inr ⟨by rfl, rfl⟩) (by assumption) ?_; try simp only [Act.put, List.setIfInBounds_toArray, List.set_cons_zero, List.set_cons_succ])
    | (refine wpAnyH_take (i := 4) (v := ?_) (by simp only [List.getElem?_toArray, List.getElem?_cons_succ, List.getElem?_cons_zero]; rfl) (by kernel_rfl) (by kernel_rfl) (by kernel_rfl) (fun _ _ _ h => h) (Or.inl ⟨by rfl, ?_⟩) (by assumption) ?_
       rotate_left
       · (intro ww hSw; (try dsimp only at hSw); go_simp; (try with_reducible rfl))
       try simp only [Act.put, List.setIfInBounds_toArray, List.set_cons_zero, List.set_cons_succ])
    | (refine wpAnyH_ready (rs := [4]) (by kernel_rfl) (by simp) (AllReadyH.cons (by simp only [List.getElem?_toArray, List.getElem?_cons_succ, List.getElem?_cons_zero]; rfl) (fun K hK => ?_) AllReadyH.nil)
       go_simp
       first
         | (go_at_call 62; (with_reducible refine (dir_any x _ HT.out).mono ?_); rintro e w1 ⟨rfl, rfl⟩)
         | (skip)
       try go_wp2_with fail
       refine hK.out _ _ (by (first | (exact S0.out) | (exact hHeld))) (fun hHeld => ?_)
       clear hK K
       try simp only [Act.put, List.setIfInBounds_toArray, List.set_cons_zero, List.set_cons_succ])
  first
    | (refine wpAnyH_take (i := 5) (v := undef) (by simp only [List.getElem?_toArray, List.getElem?_cons_succ, List.getElem?_cons_zero]; rfl) (by kernel_rfl) (by kernel_rfl) (by kernel_rfl) (fun _ _ _ h => h) (Or.inr ⟨by rfl, rfl⟩) (by assumption) ?_; try simp only [Act.put, List.setIfInBounds_toArray, List.set_cons_zero, List.set_cons_succ])
    | (refine wpAnyH_take (i := 5) (v := ?_) (by simp only [List.getElem?_toArray, List.getElem?_cons_succ, List.getElem?_cons_zero]; rfl) (by kernel_rfl) (by kernel_rfl) (by kernel_rfl) (fun _ _ _ h => h) (Or.inl ⟨by rfl, ?_⟩) (by assumption) ?_
       rotate_left
       · (intro ww hSw; (try dsimp only at hSw); go_simp; (try with_reducible rfl))
       try simp only [Act.put, List.setIfInBounds_toArray, List.set_cons_zero, List.set_cons_succ])
    | (refine wpAnyH_ready (rs := [5]) (by kernel_rfl) (by simp) (AllReadyH.cons (by simp only [List.getElem?_toArray, List.getElem?_cons_succ, List.getElem?_cons_zero]; rfl) (fun K hK => ?_) AllReadyH.nil)
       go_simp
       first
         | (go_at_call 62; (with_reducible refine (dir_any x _ HT.out).mono ?_); rintro e w1 ⟨rfl, rfl⟩)
         | (skip)
       try go_wp2_with fail
       refine hK.out _ _ (by (first | (exact S0.out) | (exact hHeld))) (fun hHeld => ?_)
       clear hK K
       try simp only [Act.put, List.setIfInBounds_toArray, List.set_cons_zero, List.set_cons_succ])
  first
    | (refine wpAnyH_take (i := 6) (v := undef) (by simp only [List.getElem?_toArray, List.getElem?_cons_succ, List.getElem?_cons_zero]; rfl) (by kernel_rfl) (by kernel_rfl) (by kernel_rfl) (fun _ _ _ h => h) (Or.inr ⟨by rfl, rfl⟩) (by assumption) ?_; try simp only [Act.put, List.setIfInBounds_toArray, List.set_cons_zero, List.set_cons_succ])
    | (refine wpAnyH_take (i := 6) (v := ?_) (by simp only [List.getElem?_toArray, List.getElem?_cons_succ, List.getElem?_cons_zero]; rfl) (by kernel_rfl) (by kernel_rfl) (by kernel_rfl) (fun _ _ _ h => h) (Or.inl ⟨by rfl, ?_⟩) (by assumption) ?_
       rotate_left
       · (intro ww hSw; (try dsimp only at hSw); go_simp; (try with_reducible rfl))
       try simp only [Act.put, List.setIfInBounds_toArray, List.set_cons_zero, List.set_cons_succ])
    | (refine wpAnyH_ready (rs := [6]) (by kernel_rfl) (by simp) (AllReadyH.cons (by simp only [List.getElem?_toArray, List.getElem?_cons_succ, List.getElem?_cons_zero]; rfl) (fun K hK => ?_) AllReadyH.nil)
       go_simp
       first
         | (go_at_call 62; (with_reducible refine (dir_any x _ HT.out).mono ?_); rintro e w1 ⟨rfl, rfl⟩)
         | (skip)
       try go_wp2_with fail
       refine hK.out _ _ (by (first | (exact S0.out) | (exact hHeld))) (fun hHeld => ?_)
       clear hK K
       try simp only [Act.put, List.setIfInBounds_toArray, List.set_cons_zero, List.set_cons_succ])
  first
    | (refine wpAnyH_take (i := 7) (v := undef) (by simp only [List.getElem?_toArray, List.getElem?_cons_succ, List.getElem?_cons_zero]; rfl) (by kernel_rfl) (by kernel_rfl) (by kernel_rfl) (fun _ _ _ h => h) (Or.inr ⟨by rfl, rfl⟩) (by assumption) ?_; try simp only [Act.put, List.setIfInBounds_toArray, List.set_cons_zero, List.set_cons_succ])
    | (refine wpAnyH_take (i := 7) (v := ?_) (by simp only [List.getElem?_toArray, List.getElem?_cons_succ, List.getElem?_cons_zero]; rfl) (by kernel_rfl) (by kernel_rfl) (by kernel_rfl) (fun _ _ _ h => h) (Or.inl ⟨by rfl, ?_⟩) (by assumption) ?_
       rotate_left
       · (intro ww hSw; (try dsimp only at hSw); go_simp; (try with_reducible rfl))
       try simp only [Act.put, List.setIfInBounds_toArray, List.set_cons_zero, List.set_cons_succ])
    | (refine wpAnyH_ready (rs := [7]) (by kernel_rfl) (by simp) (AllReadyH.cons (by simp only [List.getElem?_toArray, List.getElem?_cons_succ, List.getElem?_cons_zero]; rfl) (fun K hK => ?_) AllReadyH.nil)
       go_simp
       first
         | (go_at_call 62; (with_reducible refine (dir_any x _ HT.out).mono ?_); rintro e w1 ⟨rfl, rfl⟩)
         | (skip)
       try go_wp2_with fail
       refine hK.out _ _ (by (first | (exact S0.out) | (exact hHeld))) (fun hHeld => ?_)
       clear hK K
       try simp only [Act.put, List.setIfInBounds_toArray, List.set_cons_zero, List.set_cons_succ])
  first
    | (refine wpAnyH_take (i := 8) (v := undef) (by simp only [List.getElem?_toArray, List.getElem?_cons_succ, List.getElem?_cons_zero]; rfl) (by kernel_rfl) (by kernel_rfl) (by kernel_rfl) (fun _ _ _ h => h) (Or.inr ⟨by rfl, rfl⟩) (by assumption) ?_; try simp only [Act.put, List.setIfInBounds_toArray, List.set_cons_zero, List.set_cons_succ])
    | (refine wpAnyH_take (i := 8) (v := ?_) (by simp only [List.getElem?_toArray, List.getElem?_cons_succ, List.getElem?_cons_zero]; rfl) (by kernel_rfl) (by kernel_rfl) (by kernel_rfl) (fun _ _ _ h => h) (Or.inl ⟨by rfl, ?_⟩) (by assumption) ?_
       rotate_left
       · (intro ww hSw; (try dsimp only at hSw); go_simp; (try with_reducible rfl))
       try simp only [Act.put, List.setIfInBounds_toArray, List.set_cons_zero, List.set_cons_succ])
    | (refine wpAnyH_ready (rs := [8]) (by kernel_rfl) (by simp) (AllReadyH.cons (by simp only [List.getElem?_toArray, List.getElem?_cons_succ, List.getElem?_cons_zero]; rfl) (fun K hK => ?_) AllReadyH.nil)
       go_simp
       first
         | (go_at_call 62; (with_reducible refine (dir_any x _ HT.out).mono ?_); rintro e w1 ⟨rfl, rfl⟩)
         | (skip)
       try go_wp2_with fail
       refine hK.out _ _ (by (first | (exact S0.out) | (exact hHeld))) (fun hHeld => ?_)
       clear hK K
       try simp only [Act.put, List.setIfInBounds_toArray, List.set_cons_zero, List.set_cons_succ])
  first
    | (refine wpAnyH_take (i := 9) (v := undef) (by simp only [List.getElem?_toArray, List.getElem?_cons_succ, List.getElem?_cons_zero]; rfl) (by kernel_rfl) (by kernel_rfl) (by kernel_rfl) (fun _ _ _ h => h) (Or.inr ⟨by rfl, rfl⟩) (by assumption) ?_; try simp only [Act.put, List.setIfInBounds_toArray, List.set_cons_zero, List.set_cons_succ])
    | (refine wpAnyH_take (i := 9) (v := ?_) (by simp only [List.getElem?_toArray, List.getElem?_cons_succ, List.getElem?_cons_zero]; rfl) (by kernel_rfl) (by kernel_rfl) (by kernel_rfl) (fun _ _ _ h => h) (Or.inl ⟨by rfl, ?_⟩) (by assumption) ?_
       rotate_left
       · (intro ww hSw; (try dsimp only at hSw); go_simp; (try with_reducible rfl))
       try simp only [Act.put, List.setIfInBounds_toArray, List.set_cons_zero, List.set_cons_succ])
    | (refine wpAnyH_ready (rs := [9]) (by kernel_rfl) (by simp) (AllReadyH.cons (by simp only [List.getElem?_toArray, List.getElem?_cons_succ, List.getElem?_cons_zero]; rfl) (fun K hK => ?_) AllReadyH.nil)
       go_simp
       first
         | (go_at_call 62; (with_reducible refine (dir_any x _ HT.out).mono ?_); rintro e w1 ⟨rfl, rfl⟩)
         | (skip)
       try go_wp2_with fail
       refine hK.out _ _ (by (first | (exact S0.out) | (exact hHeld))) (fun hHeld => ?_)
       clear hK K
       try simp only [Act.put, List.setIfInBounds_toArray, List.set_cons_zero, List.set_cons_succ])
  refine wpAnyH_done (by kernel_rfl) ?_ _
  refine NoPanic.normal ?_
  go_wp2_with fail
  go_ret2
  exact ⟨_, rfl, HR.out, rfl⟩
set_option maxRecDepth 100000 in
set_option maxHeartbeats 1000000 in
theorem one_take_num (a q B o : Nat) (m : Int) (v : Value) (x : List UInt8) (xs : List (List UInt8)) (w : World) (hx : x.length ≤ 9223372036854775807) (bA : Blk w a 70 #[.pointer (some ⟨B, o, none⟩)]) (bQ : Blk w q 60 #[.func (.func 64) #[] #[]])
    (cF : w.cell? ⟨B, o, none⟩ = some (.int .i64 m)) (fF : w.frozen? ⟨B, o, none⟩ = false) (hs : StrsC w v (x :: xs)) :
    Calls Tryd.prog 60 #[v, .pointer (some ⟨q, 0, none⟩), .pointer (some ⟨a, 0, none⟩)] w fun e w' => ∃ v', e = .returned (.tuple #[v', .bool (numB x)]) ∧ StrsC w v' xs ∧ w' = w.drew.setCell ⟨B, o, none⟩ (.int .i64 (numN x)) := by
  obtain ⟨b, off, cap, v', rfl, hb, c0, hsl, hrest⟩ := hs.tail
  have cA := bA.cell 0
  have cQ := bQ.cell 0
  unfold str at c0
  have S0 := Lib.hid (show w.drew.cell? ⟨q, 0, none⟩ = some (.func (.func 64) #[] #[]) ∧ w.drew.cell? ⟨b, off, none⟩ = some (.string ⟨x.toArray⟩) from ⟨cQ, c0⟩)
  have HR := Lib.hid hrest
  have HX := Lib.hid hx
  clear hx
  clear bA bQ hs hrest c0 cQ hb
  go_enter Tryd.func60, Tryd.ntmps60
  go_wp2_with fail
  refine wp_region_noPanic ?_
  refine wp_region_held_drew (S := (fun w' => w'.cell? ⟨q, 0, none⟩ = some (.func (.func 64) #[] #[]) ∧ w'.cell? ⟨b, off, none⟩ = some (.string ⟨x.toArray⟩))) (by kernel_rfl) (by (first | (exact S0.out) | (exact hHeld))) (fun hHeld => ?_)
  first
    | (refine wpAnyH_take (i := 0) (v := undef) (by simp only [List.getElem?_toArray, List.getElem?_cons_zero]; rfl) (by kernel_rfl) (by kernel_rfl) (by kernel_rfl) (fun _ _ _ h => h) (Or.inr ⟨by rfl, rfl⟩) (by assumption) ?_; try simp only [Act.put, List.setIfInBounds_toArray, List.set_cons_zero, List.set_cons_succ])
    | (refine wpAnyH_take (i := 0) (v := ?_) (by simp only [List.getElem?_toArray, List.getElem?_cons_zero]; rfl) (by kernel_rfl) (by kernel_rfl) (by kernel_rfl) (fun _ _ _ h => h) (Or.inl ⟨by rfl, ?_⟩) (by assumption) ?_
       rotate_left
       · (intro ww hSw; (try dsimp only at hSw); go_simp; (try with_reducible rfl))
       try simp only [Act.put, List.setIfInBounds_toArray, List.set_cons_zero, List.set_cons_succ])
    | (refine wpAnyH_ready (rs := [0]) (by kernel_rfl) (by simp) (AllReadyH.cons (by simp only [List.getElem?_toArray, List.getElem?_cons_succ, List.getElem?_cons_zero]; rfl) (fun K hK => ?_) AllReadyH.nil)
       go_simp
       first
         | (go_at_call 64; (with_reducible refine (number_str x _ HX.out).mono ?_); rintro e w1 ⟨rfl, rfl⟩)
         | (skip)
       try go_wp2_with fail
       refine hK.out _ _ (by (first | (exact S0.out) | (exact hHeld))) (fun hHeld => ?_)
       clear hK K
       try simp only [Act.put, List.setIfInBounds_toArray, List.set_cons_zero, List.set_cons_succ])
  first
    | (refine wpAnyH_take (i := 1) (v := undef) (by simp only [List.getElem?_toArray, List.getElem?_cons_succ, List.getElem?_cons_zero]; rfl) (by kernel_rfl) (by kernel_rfl) (by kernel_rfl) (fun _ _ _ h => h) (Or.inr ⟨by rfl, rfl⟩) (by assumption) ?_; try simp only [Act.put, List.setIfInBounds_toArray, List.set_cons_zero, List.set_cons_succ])
    | (refine wpAnyH_take (i := 1) (v := ?_) (by simp only [List.getElem?_toArray, List.getElem?_cons_succ, List.getElem?_cons_zero]; rfl) (by kernel_rfl) (by kernel_rfl) (by kernel_rfl) (fun _ _ _ h => h) (Or.inl ⟨by rfl, ?_⟩) (by assumption) ?_
       rotate_left
       · (intro ww hSw; (try dsimp only at hSw); go_simp; (try with_reducible rfl))
       try simp only [Act.put, List.setIfInBounds_toArray, List.set_cons_zero, List.set_cons_succ])
    | (refine wpAnyH_ready (rs := [1]) (by kernel_rfl) (by simp) (AllReadyH.cons (by simp only [List.getElem?_toArray, List.getElem?_cons_succ, List.getElem?_cons_zero]; rfl) (fun K hK => ?_) AllReadyH.nil)
       go_simp
       first
         | (go_at_call 64; (with_reducible refine (number_str x _ HX.out).mono ?_); rintro e w1 ⟨rfl, rfl⟩)
         | (skip)
       try go_wp2_with fail
       refine hK.out _ _ (by (first | (exact S0.out) | (exact hHeld))) (fun hHeld => ?_)
       clear hK K
       try simp only [Act.put, List.setIfInBounds_toArray, List.set_cons_zero, List.set_cons_succ])
  first
    | (refine wpAnyH_take (i := 2) (v := undef) (by simp only [List.getElem?_toArray, List.getElem?_cons_succ, List.getElem?_cons_zero]; rfl) (by kernel_rfl) (by kernel_rfl) (by kernel_rfl) (fun _ _ _ h => h) (Or.inr ⟨by rfl, rfl⟩) (by assumption) ?_; try simp only [Act.put, List.setIfInBounds_toArray, List.set_cons_zero, List.set_cons_succ])
    | (refine wpAnyH_take (i := 2) (v := ?_) (by simp only [List.getElem?_toArray, List.getElem?_cons_succ, List.getElem?_cons_zero]; rfl) (by kernel_rfl) (by kernel_rfl) (by kernel_rfl) (fun _ _ _ h => h) (Or.inl ⟨by rfl, ?_⟩) (by assumption) ?_
       rotate_left
       · (intro ww hSw; (try dsimp only at hSw); go_simp; (try with_reducible rfl))
       try simp only [Act.put, List.setIfInBounds_toArray, List.set_cons_zero, List.set_cons_succ])
    | (refine wpAnyH_ready (rs := [2]) (by kernel_rfl) (by simp) (AllReadyH.cons (by simp only [List.getElem?_toArray, List.getElem?_cons_succ, List.getElem?_cons_zero]; rfl) (fun K hK => ?_) AllReadyH.nil)
       go_simp
       first
         | (go_at_call 64; (with_reducible refine (number_str x _ HX.out).mono ?_); rintro e w1 ⟨rfl, rfl⟩)
         | (skip)
       try go_wp2_with fail
       refine hK.out _ _ (by (first | (exact S0.out) | (exact hHeld))) (fun hHeld => ?_)
       clear hK K
       try simp only [Act.put, List.setIfInBounds_toArray, List.set_cons_zero, List.set_cons_succ])
  first
    | (refine wpAnyH_take (i := 3) (v := undef) (by simp only [List.getElem?_toArray, List.getElem?_cons_succ, List.getElem?_cons_zero]; rfl) (by kernel_rfl) (by kernel_rfl) (by kernel_rfl) (fun _ _ _ h => h) (Or.inr ⟨by rfl, rfl⟩) (by assumption) ?_; try simp only [Act.put, List.setIfInBounds_toArray, List.set_cons_zero, List.set_cons_succ])
    | (refine wpAnyH_take (i := 3) (v := ?_) (by simp only [List.getElem?_toArray, List.getElem?_cons_succ, List.getElem?_cons_zero]; rfl) (by kernel_rfl) (by kernel_rfl) (by kernel_rfl) (fun _ _ _ h => h) (Or.inl ⟨by rfl, ?_⟩) (by assumption) ?_
       rotate_left
       · (intro ww hSw; (try dsimp only at hSw); go_simp; (try with_reducible rfl))
       try simp only [Act.put, List.setIfInBounds_toArray, List.set_cons_zero, List.set_cons_succ])
    | (refine wpAnyH_ready (rs := [3]) (by kernel_rfl) (by simp) (AllReadyH.cons (by simp only [List.getElem?_toArray, List.getElem?_cons_succ, List.getElem?_cons_zero]; rfl) (fun K hK => ?_) AllReadyH.nil)
       go_simp
       first
         | (go_at_call 64; (with_reducible refine (number_str x _ HX.out).mono ?_); rintro e w1 ⟨rfl, rfl⟩)
         | (skip)
       try go_wp2_with fail
       refine hK.out _ _ (by (first | (exact S0.out) | (exact hHeld))) (fun hHeld => ?_)
       clear hK K
       try simp only [Act.put, List.setIfInBounds_toArray, List.set_cons_zero, List.set_cons_succ])
  first
    | (refine wpAnyH_take (i := 4) (v := undef) (by simp only [List.getElem?_toArray, List.getElem?_cons_succ, List.getElem?_cons_zero]; rfl) (by kernel_rfl) (by kernel_rfl) (by kernel_rfl) (fun _ _ _ h => h) (Or.inr ⟨by rfl, rfl⟩) (by assumption) ?_; try simp only [Act.put, List.setIfInBounds_toArray, List.set_cons_zero, List.set_cons_succ])
    | (refine wpAnyH_take (i := 4) (v := ?_) (by simp only [List.getElem?_toArray, List.getElem?_cons_succ, List.getElem?_cons_zero]; rfl) (by kernel_rfl) (by kernel_rfl) (by kernel_rfl) (fun _ _ _ h => h) (Or.inl ⟨by rfl, ?_⟩) (by assumption) ?_
       rotate_left
       · (intro ww hSw; (try dsimp only at hSw); go_simp; (try with_reducible rfl))
       try simp only [Act.put, List.setIfInBounds_toArray, List.set_cons_zero, List.set_cons_succ])
    | (refine wpAnyH_ready (rs := [4]) (by kernel_rfl) (by simp) (AllReadyH.cons (by simp only [List.getElem?_toArray, List.getElem?_cons_succ, List.getElem?_cons_zero]; rfl) (fun K hK => ?_) AllReadyH.nil)
       go_simp
       first
         | (go_at_call 64; (with_reducible refine (number_str x _ HX.out).mono ?_); rintro e w1 ⟨rfl, rfl⟩)
         | (skip)
       try go_wp2_with fail
       refine hK.out _ _ (by (first | (exact S0.out) | (exact hHeld))) (fun hHeld => ?_)
       clear hK K
       try simp only [Act.put, List.setIfInBounds_toArray, List.set_cons_zero, List.set_cons_succ])
  first
    | (refine wpAnyH_take (i := 5) (v := undef) (by simp only [List.getElem?_toArray, List.getElem?_cons_succ, List.getElem?_cons_zero]; rfl) (by kernel_rfl) (by kernel_rfl) (by kernel_rfl) (fun _ _ _ h => h) (Or.inr ⟨by rfl, rfl⟩) (by assumption) ?_; try simp only [Act.put, List.setIfInBounds_toArray, List.set_cons_zero, List.set_cons_succ])
    | (refine wpAnyH_take (i := 5) (v := ?_) (by simp only [List.getElem?_toArray, List.getElem?_cons_succ, List.getElem?_cons_zero]; rfl) (by kernel_rfl) (by kernel_rfl) (by kernel_rfl) (fun _ _ _ h => h) (Or.inl ⟨by rfl, ?_⟩) (by assumption) ?_
       rotate_left
       · (intro ww hSw; (try dsimp only at hSw); go_simp; (try with_reducible rfl))
       try simp only [Act.put, List.setIfInBounds_toArray, List.set_cons_zero, List.set_cons_succ])
    | (refine wpAnyH_ready (rs := [5]) (by kernel_rfl) (by simp) (AllReadyH.cons (by simp only [List.getElem?_toArray, List.getElem?_cons_succ, List.getElem?_cons_zero]; rfl) (fun K hK => ?_) AllReadyH.nil)
       go_simp
       first
         | (go_at_call 64; (with_reducible refine (number_str x _ HX.out).mono ?_); rintro e w1 ⟨rfl, rfl⟩)
         | (skip)
       try go_wp2_with fail
       refine hK.out _ _ (by (first | (exact S0.out) | (exact hHeld))) (fun hHeld => ?_)
       clear hK K
       try simp only [Act.put, List.setIfInBounds_toArray, List.set_cons_zero, List.set_cons_succ])
  first
    | (refine wpAnyH_take (i := 6) (v := undef) (by simp only [List.getElem?_toArray, List.getElem?_cons_succ, List.getElem?_cons_zero]; rfl) (by kernel_rfl) (by kernel_rfl) (by kernel_rfl) (fun _ _ _ h => h) (Or.inr ⟨by rfl, rfl⟩) (by assumption) ?_; try simp only [Act.put, List.setIfInBounds_toArray, List.set_cons_zero, List.set_cons_succ])
    | (refine wpAnyH_take (i := 6) (v := ?_) (by simp only [List.getElem?_toArray, List.getElem?_cons_succ, List.getElem?_cons_zero]; rfl) (by kernel_rfl) (by kernel_rfl) (by kernel_rfl) (fun _ _ _ h => h) (Or.inl ⟨by rfl, ?_⟩) (by assumption) ?_
       rotate_left
       · (intro ww hSw; (try dsimp only at hSw); go_simp; (try with_reducible rfl))
       try simp only [Act.put, List.setIfInBounds_toArray, List.set_cons_zero, List.set_cons_succ])
    | (refine wpAnyH_ready (rs := [6]) (by kernel_rfl) (by simp) (AllReadyH.cons (by simp only [List.getElem?_toArray, List.getElem?_cons_succ, List.getElem?_cons_zero]; rfl) (fun K hK => ?_) AllReadyH.nil)
       go_simp
       first
         | (go_at_call 64; (with_reducible refine (number_str x _ HX.out).mono ?_); rintro e w1 ⟨rfl, rfl⟩)
         | (skip)
       try go_wp2_with fail
       refine hK.out _ _ (by (first | (exact S0.out) | (exact hHeld))) (fun hHeld => ?_)
       clear hK K
       try simp only [Act.put, List.setIfInBounds_toArray, List.set_cons_zero, List.set_cons_succ])
  first
    | (refine wpAnyH_take (i := 7) (v := undef) (by simp only [List.getElem?_toArray, List.getElem?_cons_succ, List.getElem?_cons_zero]; rfl) (by kernel_rfl) (by kernel_rfl) (by kernel_rfl) (fun _ _ _ h => h) (Or.inr ⟨by rfl, rfl⟩) (by assumption) ?_; try simp only [Act.put, List.setIfInBounds_toArray, List.set_cons_zero, List.set_cons_succ])
    | (refine wpAnyH_take (i := 7) (v := ?_) (by simp only [List.getElem?_toArray, List.getElem?_cons_succ, List.getElem?_cons_zero]; rfl) (by kernel_rfl) (by kernel_rfl) (by kernel_rfl) (fun _ _ _ h => h) (Or.inl ⟨by rfl, ?_⟩) (by assumption) ?_
       rotate_left
       · (intro ww hSw; (try dsimp only at hSw); go_simp; (try with_reducible rfl))
       try simp only [Act.put, List.setIfInBounds_toArray, List.set_cons_zero, List.set_cons_succ])
    | (refine wpAnyH_ready (rs := [7]) (by kernel_rfl) (by simp) (AllReadyH.cons (by simp only [List.getElem?_toArray, List.getElem?_cons_succ, List.getElem?_cons_zero]; rfl) (fun K hK => ?_) AllReadyH.nil)
       go_simp
       first
         | (go_at_call 64; (with_reducible refine (number_str x _ HX.out).mono ?_); rintro e w1 ⟨rfl, rfl⟩)
         | (skip)
       try go_wp2_with fail
       refine hK.out _ _ (by (first | (exact S0.out) | (exact hHeld))) (fun hHeld => ?_)
       clear hK K
       try simp only [Act.put, List.setIfInBounds_toArray, List.set_cons_zero, List.set_cons_succ])
  first
    | (refine wpAnyH_take (i := 8) (v := undef) (by simp only [List.getElem?_toArray, List.getElem?_cons_succ, List.getElem?_cons_zero]; rfl) (by kernel_rfl) (by kernel_rfl) (by kernel_rfl) (fun _ _ _ h => h) (Or.inr ⟨by rfl, rfl⟩) (by assumption) ?_; try simp only [Act.put, List.setIfInBounds_toArray, List.set_cons_zero, List.set_cons_succ])
    | (refine wpAnyH_take (i := 8) (v := ?_) (by simp only [List.getElem?_toArray, List.getElem?_cons_succ, List.getElem?_cons_zero]; rfl) (by kernel_rfl) (by kernel_rfl) (by kernel_rfl) (fun _ _ _ h => h) (Or.inl ⟨by rfl, ?_⟩) (by assumption) ?_
       rotate_left
       · (intro ww hSw; (try dsimp only at hSw); go_simp; (try with_reducible rfl))
       try simp only [Act.put, List.setIfInBounds_toArray, List.set_cons_zero, List.set_cons_succ])
    | (refine wpAnyH_ready (rs := [8]) (by kernel_rfl) (by simp) (AllReadyH.cons (by simp only [List.getElem?_toArray, List.getElem?_cons_succ, List.getElem?_cons_zero]; rfl) (fun K hK => ?_) AllReadyH.nil)
       go_simp
       first
         | (go_at_call 64; (with_reducible refine (number_str x _ HX.out).mono ?_); rintro e w1 ⟨rfl, rfl⟩)
         | (skip)
       try go_wp2_with fail
       refine hK.out _ _ (by (first | (exact S0.out) | (exact hHeld))) (fun hHeld => ?_)
       clear hK K
       try simp only [Act.put, List.setIfInBounds_toArray, List.set_cons_zero, List.set_cons_succ])
  first
    | (refine wpAnyH_take (i := 9) (v := undef) (by simp only [List.getElem?_toArray, List.getElem?_cons_succ, List.getElem?_cons_zero]; rfl) (by kernel_rfl) (by kernel_rfl) (by kernel_rfl) (fun _ _ _ h => h) (Or.inr ⟨by rfl, rfl⟩) (by assumption) ?_; try simp only [Act.put, List.setIfInBounds_toArray, List.set_cons_zero, List.set_cons_succ])
    | (refine wpAnyH_take (i := 9) (v := ?_) (by simp only [List.getElem?_toArray, List.getElem?_cons_succ, List.getElem?_cons_zero]; rfl) (by kernel_rfl) (by kernel_rfl) (by kernel_rfl) (fun _ _ _ h => h) (Or.inl ⟨by rfl, ?_⟩) (by assumption) ?_
       rotate_left
       · (intro ww hSw; (try dsimp only at hSw); go_simp; (try with_reducible rfl))
       try simp only [Act.put, List.setIfInBounds_toArray, List.set_cons_zero, List.set_cons_succ])
    | (refine wpAnyH_ready (rs := [9]) (by kernel_rfl) (by simp) (AllReadyH.cons (by simp only [List.getElem?_toArray, List.getElem?_cons_succ, List.getElem?_cons_zero]; rfl) (fun K hK => ?_) AllReadyH.nil)
       go_simp
       first
         | (go_at_call 64; (with_reducible refine (number_str x _ HX.out).mono ?_); rintro e w1 ⟨rfl, rfl⟩)
         | (skip)
       try go_wp2_with fail
       refine hK.out _ _ (by (first | (exact S0.out) | (exact hHeld))) (fun hHeld => ?_)
       clear hK K
       try simp only [Act.put, List.setIfInBounds_toArray, List.set_cons_zero, List.set_cons_succ])
  refine wpAnyH_done (by kernel_rfl) ?_ _
  refine NoPanic.normal ?_
  go_wp2_with fail
  go_ret2
  exact ⟨_, rfl, HR.out, rfl⟩

theorem one_take_none (s p q : Option Addr) (cap : Nat) (w : World) : Calls Tryd.prog 60 #[.slice s 0 cap, .pointer q, .pointer p] w fun e w' => e = .returned (.tuple #[.slice none 0 0, .bool false]) ∧ w = w' := by
  go_enter Tryd.func60, Tryd.ntmps60
  go_wp2_with fail
  go_ret2
  exact ⟨rfl, rfl⟩
end Go.Proofs.YtinjpkbpdhihjaaDoor
/- line: the closures that take a fixed word, and a list of numbers, off the beginning. -/
namespace Go.Proofs.YtinjpkbpdhihjaaDoor
open Go.ChangeShapes Go.WideShapes Go.ChangeAt Go.RowKit
set_option linter.unusedVariables false
open Go.RowKit Go
theorem word_take_none (s : Option Addr) (p : Addr) (cap : Nat) (w : World) : Calls Tryd.prog 66 #[.slice s 0 cap, .pointer (some p)] w fun e w' => e = .returned (.tuple #[.slice none 0 0, .bool false]) ∧ ∃ n, w' = w.drewN n := by
  go_enter Tryd.func66, Tryd.ntmps66
  go_wp2_with fail
  go_quiet (fail)
  go_wp2_with fail
  go_ret2
  exact ⟨rfl, _, rfl⟩
set_option maxRecDepth 100000 in
theorem word_take_no (a : Nat) (v : Value) (x y : List UInt8) (xs : List (List UInt8)) (w : World) (bA : Blk w a 9 #[str y]) (hs : StrsC w v (x :: xs)) (hxy : ¬ x = y) :
    Calls Tryd.prog 66 #[v, .pointer (some ⟨a, 0, none⟩)] w fun e w' => e = .returned (.tuple #[.slice none 0 0, .bool false]) ∧ ∃ n, w' = w.drewN n := by
  obtain ⟨b, off, cap, v', rfl, hb, c0, hsl, hrest⟩ := hs.tail
  have cA := bA.cell 0
  unfold str at c0 cA
  have hne : (x != y) = true := by simpa using hxy
  have hne2 : (x == y) = false := by simpa using hxy
  have hn0 : (((xs.length : Nat) : Int) + 1 == 0) = false := by rw [beq_eq_false_iff_ne]; omega
  clear bA hs hrest hb
  go_enter Tryd.func66, Tryd.ntmps66
  go_wp2_with fail
  go_quiet (fail)
  go_wp2_with fail
  go_ret2
  exact ⟨rfl, _, rfl⟩
set_option maxRecDepth 100000 in
theorem word_take_yes (a : Nat) (v : Value) (x : List UInt8) (xs : List (List UInt8)) (w : World) (bA : Blk w a 9 #[str x]) (hs : StrsC w v (x :: xs)) :
    Calls Tryd.prog 66 #[v, .pointer (some ⟨a, 0, none⟩)] w fun e w' => ∃ v', e = .returned (.tuple #[v', .bool true]) ∧ StrsC w v' xs ∧ ∃ n, w' = w.drewN n := by
  obtain ⟨b, off, cap, v', rfl, hb, c0, hsl, hrest⟩ := hs.tail
  have cA := bA.cell 0
  unfold str at c0 cA
  have hne : (x != x) = false := by simp
  have hn0 : (((xs.length : Nat) : Int) + 1 == 0) = false := by rw [beq_eq_false_iff_ne]; omega
  have HR := Lib.hid hrest
  clear bA hs hrest hb
  go_enter Tryd.func66, Tryd.ntmps66
  go_wp2_with fail
  go_quiet (fail)
  go_wp2_with fail
  go_ret2
  exact ⟨_, rfl, HR.out, _, rfl⟩
end Go.Proofs.YtinjpkbpdhihjaaDoor
/- line: the closure that takes a list of numbers off the beginning. -/
namespace Go.Proofs.YtinjpkbpdhihjaaDoor
open Go.ChangeShapes Go.WideShapes Go.ChangeAt Go.RowKit
set_option linter.unusedVariables false
open Go.RowKit Go
/-- One integer more, appended behind its one-cell block. -/
theorem append_int {W : World} {base n : Nat} {v : Value} {ys : List Value} (hown : W.ownsRow base 3 1 v n ys) (x : Int) (hn : n + 1 ≤ 1000001) (hb : base ≤ W.heap.size) :
    ∃ v' W', (Builtin.append_ #[22, 22] 22 #[v, .slice (some ⟨W.heap.size, 0, none⟩) 1 1]).run Tryd.prog (W.alloc (.cells #[.int .i64 x] 3)) = .ok v' W' ∧ W'.ownsRow base 3 1 v' (n + 1) (ys ++ [.int .i64 x]) ∧ W.grownBy W' v.ownBlock ∧ Moves W v v' := by
  obtain ⟨i0, hi0, hz0, hz1, hz2⟩ := info_parts int_info
  obtain ⟨v', W', hr, h1, h2, -, h4⟩ := run_append_own_at (P := Tryd.prog) (W.alloc (.cells #[.int .i64 x] 3)) base 22 22 3 i0 (.int .i64 0) 1 8 Tryd.underlying22 hi0 hz0 hz1 hz2 rfl (by decide) v n ys (hown.alloc _) ⟨W.heap.size, 0, none⟩ 1 1 [.int .i64 x] rfl
    (cell_one_new _ _ _) (by intro u hu; simp at hu; subst hu; rfl) (by unfold maxLen; omega) (by omega) (by simp; omega)
  refine ⟨v', W', hr, h1, grown_trans (World.grownBy_alloc W _ v.ownBlock) h2 (.inl rfl), ?_⟩
  rcases h4 with h4 | h4
  · exact .inl h4
  · exact .inr ⟨_, h4, by simp⟩
/-- No text lies in these cells. -/
def noText (cs : Array Value) : Prop := ∀ (j : Nat) (s : ByteArray), cs[j]? ≠ some (.string s)
theorem StrsC.grown {W W' : World} {v : Value} {xs : List (List UInt8)} {B : Nat} {t : TypeId} {cs : Array Value} (h : StrsC W v xs) (hg : W.grownBy W' (some B)) (hB : Blk W B t cs) (hn : noText cs) : StrsC W' v xs := by
  obtain ⟨⟨a, cap, rfl, hl, h⟩, h2⟩ := h
  refine ⟨⟨a, cap, rfl, hl, ?_⟩, h2⟩
  rcases h with h | ⟨b, off, rfl, hb, hc⟩
  · exact .inl h
  · refine .inr ⟨b, off, rfl, Nat.lt_of_lt_of_le hb hg.size, fun i hi => ?_⟩
    refine hg.cell (hc i hi) (fun e => ?_)
    obtain rfl : b = B := Option.some.inj e
    have := hc i hi
    rw [hB.cell] at this
    exact hn _ _ this
theorem noText.set {cs : Array Value} (h : noText cs) (o : Nat) {v : Value} (hv : ∀ s, v ≠ .string s) : noText (cs.setIfInBounds o v) := by
  intro j s e
  rw [Array.getElem?_setIfInBounds] at e
  split at e
  · split at e
    · exact hv s (Option.some.inj e)
    · cases e
  · exact h j s e
theorem int_slice {W : World} {base n : Nat} {v : Value} {ys : List Value} (h : W.ownsRow base 3 1 v n ys) : ∃ a cap, v = .slice a n cap := by
  rcases h.2 with ⟨rfl, h0⟩ | ⟨g, c, cur, rfl, _⟩
  · exact ⟨none, 0, by rw [h0]⟩
  · exact ⟨_, c, rfl⟩
def nv (y : List UInt8) : Value := .int .i64 (numN y)
/-- Between two words: the numbers so far in the list. -/
def NumRel (w : World) (B o : Nat) (cs : Array Value) (ws : List (List UInt8)) (u : Value) (wr : World) : Prop :=
  ∃ ys rest lv, ws = ys ++ rest ∧ (∀ y ∈ ys, numB y = true) ∧ StrsC w u rest ∧ w.grownBy wr (some B) ∧ Blk wr B 24 (cs.setIfInBounds o lv) ∧ wr.ownsRow w.heap.size 3 1 lv ys.length (ys.map nv) ∧ (ys = [] → lv = .slice none 0 0)
theorem tail_words {ys rest : List (List UInt8)} (h : ∀ y ∈ ys, numB y = true) (hr : rest = [] ∨ ∃ x r, rest = x :: r ∧ numB x = false) : (ys ++ rest).takeWhile numB = ys ∧ (ys ++ rest).dropWhile numB = rest := by
  induction ys with
  | nil =>
    rcases hr with rfl | ⟨x, r, rfl, hx⟩
    · exact ⟨rfl, rfl⟩
    · simp [hx]
  | cons y ys ih =>
    obtain ⟨i1, i2⟩ := ih (fun z hz => h z (List.mem_cons_of_mem _ hz))
    simp only [List.cons_append, List.takeWhile_cons, List.dropWhile_cons, h y (by simp), if_true, i1, i2, and_self]
def TakesNums (w : World) (B o : Nat) (cs : Array Value) (ws : List (List UInt8)) (e : Ending) (w' : World) : Prop :=
  ∃ v' lv, e = .returned (.tuple #[v', .bool true]) ∧ StrsC w v' (ws.dropWhile numB) ∧ w.grownBy w' (some B) ∧ Blk w' B 24 (cs.setIfInBounds o lv) ∧ w'.ownsRow w.heap.size 3 1 lv (ws.takeWhile numB).length ((ws.takeWhile numB).map nv) ∧ (ws.takeWhile numB = [] → lv = .slice none 0 0)
theorem nums_done {w wr : World} {B o : Nat} {cs : Array Value} {ys rest : List (List UInt8)} {u lv : Value} (h1 : ∀ y ∈ ys, numB y = true) (hr : rest = [] ∨ ∃ x r, rest = x :: r ∧ numB x = false) (h2 : StrsC w u rest) (h3 : w.grownBy wr (some B)) (h4 : Blk wr B 24 (cs.setIfInBounds o lv))
    (h5 : wr.ownsRow w.heap.size 3 1 lv ys.length (ys.map nv)) (h6 : ys = [] → lv = .slice none 0 0) : TakesNums w B o cs (ys ++ rest) (.returned (.tuple #[u, .bool true])) wr := by
  obtain ⟨e1, e2⟩ := tail_words h1 hr
  exact ⟨u, lv, rfl, by rw [e2]; exact h2, h3, h4, by rw [e1]; exact h5, by rw [e1]; exact h6⟩
theorem row_ne {W : World} {base n B : Nat} {v : Value} {ys : List Value} (h : W.ownsRow base 3 1 v n ys) (hb : B < base) : some B ≠ v.ownBlock := fun e => by have := (h.lt B e.symm).1; omega
theorem grown_set (W : World) (p : Addr) (v : Value) : W.grownBy (W.setCell p v) (some p.block) :=
  ⟨rfl, rfl, rfl, by simp, fun k _ hk => Below.heap_setCell _ _ _ k (fun e => hk (by rw [e]))⟩
theorem set_twice (cs : Array Value) (o : Nat) (u v : Value) : (cs.setIfInBounds o u).setIfInBounds o v = cs.setIfInBounds o v := by
  apply Array.ext_getElem?
  intro j
  simp only [Array.getElem?_setIfInBounds, Array.size_setIfInBounds]
  split <;> rfl
/-- One number more, and stored. -/
theorem num_step {w wr W2 : World} {B o : Nat} {cs : Array Value} {ys rest : List (List UInt8)} {y : List UInt8} {u' lv lv' : Value} (hBw : B < w.heap.size) (h1 : ∀ y ∈ ys, numB y = true) (hy : numB y = true) (h2 : StrsC w u' rest) (h3 : w.grownBy wr (some B)) (h4 : Blk wr B 24 (cs.setIfInBounds o lv))
    (h5 : wr.ownsRow w.heap.size 3 1 lv ys.length (ys.map nv)) (hown : W2.ownsRow w.heap.size 3 1 lv' (ys.length + 1) (ys.map nv ++ [nv y])) (hg : wr.grownBy W2 lv.ownBlock) :
    NumRel w B o cs (ys ++ y :: rest) u' (W2.setCell ⟨B, o, none⟩ lv') := by
  have b3 := (h4.grow hg (row_ne h5 hBw)).set_ o lv'
  rw [set_twice] at b3
  have hg2 : w.grownBy W2 (some B) := ⟨hg.os.trans h3.os, hg.tape.trans h3.tape, hg.output.trans h3.output, Nat.le_trans h3.size hg.size, fun k hk hne => (hg.block k (Nat.lt_of_lt_of_le hk h3.size) (fun e => by have := (h5.lt k e.symm).1; omega)).trans (h3.block k hk hne)⟩
  refine ⟨ys ++ [y], rest, lv', by simp, fun z hz => ?_, h2, grown_trans hg2 (grown_set W2 ⟨B, o, none⟩ lv') (.inl rfl), b3, ?_, fun e => by simp at e⟩
  · rcases List.mem_append.1 hz with hz | hz
    · exact h1 z hz
    · rw [List.mem_singleton.1 hz]; exact hy
  · have := hown.kept (w' := W2.setCell ⟨B, o, none⟩ lv') (row := some B) (grown_set W2 ⟨B, o, none⟩ lv') (.inr (row_ne hown hBw).symm)
    simpa using this
set_option maxRecDepth 100000 in
set_option maxHeartbeats 2000000 in
theorem nums_take (a B o : Nat) (cs : Array Value) (v : Value) (ws : List (List UInt8)) (w : World) (bA : Blk w a 94 #[.pointer (some ⟨B, o, none⟩)]) (hB : Blk w B 24 cs) (ho : cs[o]? = some (.slice none 0 0)) (hn : noText cs) (hab : a ≠ B)
    (hs : StrsC w v ws) (hx : ∀ x ∈ ws, x.length ≤ 1000000) (hl : ws.length ≤ 1000000) : Calls Tryd.prog 73 #[v, .pointer (some ⟨a, 0, none⟩)] w (TakesNums w B o cs ws) := by
  have HA := Lib.hid bA
  have HB := Lib.hid hB
  have HO := Lib.hid ho
  have HN := Lib.hid hn
  have HAB := Lib.hid hab
  have HS := Lib.hid hs
  have HX := Lib.hid hx
  have HL := Lib.hid hl
  clear bA hB ho hn hab hs hx hl
  go_enter Tryd.func73, Tryd.ntmps73
  go_wp2_with fail
  go_loopw [0] (fun u wr => NumRel w B o cs ws u wr) (fun u _ => match u with | .slice _ n _ => n | _ => 0)
  case atStart =>
    refine ⟨[], ws, .slice none 0 0, rfl, by simp, HS.out, grown_refl _ _, ?_, World.ownsRow_nil _ _ _ _, fun _ => rfl⟩
    have : cs.setIfInBounds o (.slice none 0 0) = cs := by
      apply Array.ext_getElem?
      intro j
      rw [Array.getElem?_setIfInBounds]
      split
      · rename_i e; subst e; rw [HO.out]; split
        · rfl
        · rename_i h2; exact absurd (Array.getElem?_eq_some_iff.1 HO.out).1 h2
      · rfl
    rw [this]; exact HB.out
  case round =>
    obtain ⟨ys, rest, lv, rfl, h1, h2, h3, h4, h5, h6⟩ := hrel
    have R1 := Lib.hid h1
    have R3 := Lib.hid h3
    have R4 := Lib.hid h4
    have R5 := Lib.hid h5
    have R6 := Lib.hid h6
    clear h1 h3 h4 h5 h6
    cases rest with
    | nil =>
      have R2 := Lib.hid h2
      obtain ⟨⟨a0, cap0, rfl, -, -⟩, -⟩ := h2
      go_wp2_with fail
      go_ret2
      exact nums_done R1.out (.inl rfl) R2.out R3.out R4.out R5.out R6.out
    | cons y rest =>
      have R2 := Lib.hid h2
      obtain ⟨b, off, cap, u', rfl, hb, c0, hsl, hrest⟩ := h2.tail
      have RT := Lib.hid hrest
      have hbB : b ≠ B := by
        intro e; subst e
        rw [HB.out.cell] at c0
        exact HN.out _ _ c0
      have c1 := R3.out.cell c0 (fun e => hbB (Option.some.inj e))
      unfold str at c1
      clear h2 hrest c0 hb hbB
      cases hy : numB y
      · have HY := Lib.hid hy
        clear hy
        go_wp2_with fail
        refine (number_str y _ (by have := HX.out y (by simp); omega)).mono ?_
        rintro e w1 ⟨rfl, rfl⟩
        rw [HY.out]
        go_wp2_with fail
        go_ret2
        exact nums_done R1.out (.inr ⟨y, rest, rfl, HY.out⟩) R2.out R3.out R4.out R5.out R6.out
      · have HY := Lib.hid hy
        clear hy
        go_wp2_with fail
        refine (number_str y _ (by have := HX.out y (by simp); omega)).mono ?_
        rintro e w1 ⟨rfl, rfl⟩
        rw [HY.out]
        obtain ⟨lv', W2, hrun, hown, hg, hm⟩ := append_int (W := wr.drew) R5.out (numN y : Int) (by have := HL.out; simp at this; omega) R3.out.size
        obtain ⟨a2, c2, rfl⟩ := int_slice hown
        have hBw := HB.out.lt
        have hAw := HA.out.lt
        have bA1 : Blk wr.drew a 94 #[.pointer (some ⟨B, o, none⟩)] := Blk.grow (W' := wr) HA.out R3.out (fun e => HAB.out (Option.some.inj e))
        have bA2 := bA1.grow hg (row_ne R5.out hAw)
        have b2 : Blk W2 B 24 (cs.setIfInBounds o lv) := Blk.grow (W := wr.drew) R4.out hg (row_ne R5.out hBw)
        have ho2 : (cs.setIfInBounds o lv)[o]? = some lv := by
          have := (Array.getElem?_eq_some_iff.1 HO.out).1
          simp [this]
        have K0 := Lib.hid (bA1.cell 0)
        have K1 := Lib.hid ((bA1.alloc (.cells #[.int .i64 (numN y : Int)] 3)).cell 0)
        have K2 := Lib.hid (bA2.cell 0)
        have K3 := Lib.hid ((bA2.far (p := ⟨B, o, none⟩) HAB.out (.slice a2 (ys.length + 1) c2)).cell 0)
        have L0 : wr.drew.cell? ⟨B, o, none⟩ = some lv := (Blk.cell (w := wr.drew) R4.out o).trans ho2
        have L1 : (wr.drew.alloc (.cells #[.int .i64 (numN y : Int)] 3)).cell? ⟨B, o, none⟩ = some lv := ((Blk.alloc (w := wr.drew) R4.out _).cell o).trans ho2
        have L4 : wr.cell? ⟨B, o, none⟩ = some lv := L0
        have L5 : (wr.alloc (.cells #[.int .i64 (numN y : Int)] 3)).cell? ⟨B, o, none⟩ = some lv := L1
        have L2 := (b2.cell o).trans ho2
        have L3 := b2.frozen o
        have HN2 := Lib.hid (num_step hBw R1.out HY.out RT.out R3.out R4.out R5.out hown ⟨hg.os, hg.tape, hg.output, hg.size, hg.block⟩)
        have HG := Lib.hid hrun
        clear hrun hown hg hm hBw hAw bA1 bA2 b2 ho2
        go_wp2_with fail
        refine wp_region_noPanic ?_
        refine wp_region_held_drew (S := (fun w' => w'.cell? ⟨a, 0, none⟩ = some (.pointer (some ⟨B, o, none⟩)))) (by kernel_rfl) (by (first | (exact K0.out) | (exact K1.out) | (exact K2.out) | (exact K3.out))) (fun hHeld => ?_)
        refine wpAnyH_take (i := 0) (v := ?_) (by simp only [List.getElem?_toArray, List.getElem?_cons_zero]; rfl) (by kernel_rfl) (by kernel_rfl) (by kernel_rfl) (fun _ _ _ h => h) (Or.inl ⟨by rfl, ?_⟩) (by assumption) ?_
        rotate_left
        · (intro ww hSw; (try dsimp only at hSw); go_simp; (try with_reducible rfl))
        try simp only [Act.put, List.setIfInBounds_toArray, List.set_cons_zero, List.set_cons_succ]
        refine wpAnyH_take (i := 1) (v := ?_) (by simp only [List.getElem?_toArray, List.getElem?_cons_succ, List.getElem?_cons_zero]; rfl) (by kernel_rfl) (by kernel_rfl) (by kernel_rfl) (fun _ _ _ h => h) (Or.inl ⟨by rfl, ?_⟩) (by assumption) ?_
        rotate_left
        · (intro ww hSw; (try dsimp only at hSw); go_simp; (try with_reducible rfl))
        try simp only [Act.put, List.setIfInBounds_toArray, List.set_cons_zero, List.set_cons_succ]
        refine wpAnyH_take (i := 2) (v := ?_) (by simp only [List.getElem?_toArray, List.getElem?_cons_succ, List.getElem?_cons_zero]; rfl) (by kernel_rfl) (by kernel_rfl) (by kernel_rfl) (fun _ _ _ h => h) (Or.inl ⟨by rfl, ?_⟩) (by assumption) ?_
        rotate_left
        · (intro ww hSw; (try dsimp only at hSw); go_simp; (try with_reducible rfl))
        try simp only [Act.put, List.setIfInBounds_toArray, List.set_cons_zero, List.set_cons_succ]
        refine wpAnyH_take (i := 4) (v := ?_) (by simp only [List.getElem?_toArray, List.getElem?_cons_succ, List.getElem?_cons_zero]; rfl) (by kernel_rfl) (by kernel_rfl) (by kernel_rfl) (fun _ _ _ h => h) (Or.inl ⟨by rfl, ?_⟩) (by assumption) ?_
        rotate_left
        · (intro ww hSw; (try dsimp only at hSw); go_simp; (try with_reducible rfl))
        try simp only [Act.put, List.setIfInBounds_toArray, List.set_cons_zero, List.set_cons_succ]
        refine wpAnyH_ready (rs := [3, 5]) (by kernel_rfl) (by simp) (AllReadyH.cons (by simp only [List.getElem?_toArray, List.getElem?_cons_succ, List.getElem?_cons_zero]; rfl) (fun K hK => ?_) (AllReadyH.cons (by simp only [List.getElem?_toArray, List.getElem?_cons_succ, List.getElem?_cons_zero]; rfl) (fun K hK => ?_) AllReadyH.nil))
        ·
          go_simp
          try go_wp2_with fail
          refine hK.out _ _ (by (first | (exact K0.out) | (exact K1.out) | (exact K2.out) | (exact K3.out))) (fun hHeld => ?_)
          clear hK K
          try simp only [Act.put, List.setIfInBounds_toArray, List.set_cons_zero, List.set_cons_succ]
          refine wpAnyH_ready (rs := [5]) (by kernel_rfl) (by simp) (AllReadyH.cons (by simp only [List.getElem?_toArray, List.getElem?_cons_succ, List.getElem?_cons_zero]; rfl) (fun K hK => ?_) AllReadyH.nil)
          go_simp
          try go_wp2_with fail
          refine hK.out _ _ (by (first | (exact K0.out) | (exact K1.out) | (exact K2.out) | (exact K3.out))) (fun hHeld => ?_)
          clear hK K
          try simp only [Act.put, List.setIfInBounds_toArray, List.set_cons_zero, List.set_cons_succ]
          refine wpAnyH_ready (rs := [6]) (by kernel_rfl) (by simp) (AllReadyH.cons (by simp only [List.getElem?_toArray, List.getElem?_cons_succ, List.getElem?_cons_zero]; rfl) (fun K hK => ?_) AllReadyH.nil)
          refine step_append rfl (.tmp 22) (.tmp 24) 22 rfl lv _ (.slice a2 (ys.length + 1) c2) W2 rfl rfl HG.out ?_
          refine hK.out _ _ (by (first | (exact K0.out) | (exact K1.out) | (exact K2.out) | (exact K3.out))) (fun hHeld => ?_)
          clear hK K
          try simp only [Act.put, List.setIfInBounds_toArray, List.set_cons_zero, List.set_cons_succ]
          refine wpAnyH_take (i := 7) (v := ?_) (by simp only [List.getElem?_toArray, List.getElem?_cons_succ, List.getElem?_cons_zero]; rfl) (by kernel_rfl) (by kernel_rfl) (by kernel_rfl) (fun _ _ _ h => h) (Or.inl ⟨by rfl, ?_⟩) (by assumption) ?_
          rotate_left
          · (intro ww hSw; (try dsimp only at hSw); go_simp; (try with_reducible rfl))
          try simp only [Act.put, List.setIfInBounds_toArray, List.set_cons_zero, List.set_cons_succ]
          refine wpAnyH_ready (rs := [8]) (by kernel_rfl) (by simp) (AllReadyH.cons (by simp only [List.getElem?_toArray, List.getElem?_cons_succ, List.getElem?_cons_zero]; rfl) (fun K hK => ?_) AllReadyH.nil)
          go_simp
          try go_wp2_with fail
          refine hK.out _ _ (by (first | (exact K0.out) | (exact K1.out) | (exact K2.out) | (exact K3.out))) (fun hHeld => ?_)
          clear hK K
          try simp only [Act.put, List.setIfInBounds_toArray, List.set_cons_zero, List.set_cons_succ]
          refine wpAnyH_done (by kernel_rfl) ?_ _
          refine NoPanic.normal ?_
          go_wp2_with fail
          go_roundw
          case rel => exact HN2.out
          case measure =>
            obtain ⟨⟨a9, cap9, rfl, -, -⟩, -⟩ := RT.out
            simp
        ·
          go_simp
          try go_wp2_with fail
          refine hK.out _ _ (by (first | (exact K0.out) | (exact K1.out) | (exact K2.out) | (exact K3.out))) (fun hHeld => ?_)
          clear hK K
          try simp only [Act.put, List.setIfInBounds_toArray, List.set_cons_zero, List.set_cons_succ]
          refine wpAnyH_ready (rs := [3]) (by kernel_rfl) (by simp) (AllReadyH.cons (by simp only [List.getElem?_toArray, List.getElem?_cons_succ, List.getElem?_cons_zero]; rfl) (fun K hK => ?_) AllReadyH.nil)
          go_simp
          try go_wp2_with fail
          refine hK.out _ _ (by (first | (exact K0.out) | (exact K1.out) | (exact K2.out) | (exact K3.out))) (fun hHeld => ?_)
          clear hK K
          try simp only [Act.put, List.setIfInBounds_toArray, List.set_cons_zero, List.set_cons_succ]
          refine wpAnyH_ready (rs := [6]) (by kernel_rfl) (by simp) (AllReadyH.cons (by simp only [List.getElem?_toArray, List.getElem?_cons_succ, List.getElem?_cons_zero]; rfl) (fun K hK => ?_) AllReadyH.nil)
          refine step_append rfl (.tmp 22) (.tmp 24) 22 rfl lv _ (.slice a2 (ys.length + 1) c2) W2 rfl rfl HG.out ?_
          refine hK.out _ _ (by (first | (exact K0.out) | (exact K1.out) | (exact K2.out) | (exact K3.out))) (fun hHeld => ?_)
          clear hK K
          try simp only [Act.put, List.setIfInBounds_toArray, List.set_cons_zero, List.set_cons_succ]
          refine wpAnyH_take (i := 7) (v := ?_) (by simp only [List.getElem?_toArray, List.getElem?_cons_succ, List.getElem?_cons_zero]; rfl) (by kernel_rfl) (by kernel_rfl) (by kernel_rfl) (fun _ _ _ h => h) (Or.inl ⟨by rfl, ?_⟩) (by assumption) ?_
          rotate_left
          · (intro ww hSw; (try dsimp only at hSw); go_simp; (try with_reducible rfl))
          try simp only [Act.put, List.setIfInBounds_toArray, List.set_cons_zero, List.set_cons_succ]
          refine wpAnyH_ready (rs := [8]) (by kernel_rfl) (by simp) (AllReadyH.cons (by simp only [List.getElem?_toArray, List.getElem?_cons_succ, List.getElem?_cons_zero]; rfl) (fun K hK => ?_) AllReadyH.nil)
          go_simp
          try go_wp2_with fail
          refine hK.out _ _ (by (first | (exact K0.out) | (exact K1.out) | (exact K2.out) | (exact K3.out))) (fun hHeld => ?_)
          clear hK K
          try simp only [Act.put, List.setIfInBounds_toArray, List.set_cons_zero, List.set_cons_succ]
          refine wpAnyH_done (by kernel_rfl) ?_ _
          refine NoPanic.normal ?_
          go_wp2_with fail
          go_roundw
          case rel => exact HN2.out
          case measure =>
            obtain ⟨⟨a9, cap9, rfl, -, -⟩, -⟩ := RT.out
            simp
end Go.Proofs.YtinjpkbpdhihjaaDoor
