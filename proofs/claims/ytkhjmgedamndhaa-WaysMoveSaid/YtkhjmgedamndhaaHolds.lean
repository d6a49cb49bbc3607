/- A block of the call's own that stays as it was laid, over calls that make memory. Over whatever program. -/
import Derived.Test.YtkhjmgedamndhaaRows
import Derived.Test.YtkhjmgedamndhaaKit
import Derived.Test.YtkhjmgedamndhaaStrs
import Derived.Deep.RegionHeld3
import Derived.WalkKit
import Derived.ProofKit
import Derived.OpenShut
import Derived.IntWalk
namespace Go.Proofs.Ytkhjmgedamndhaa
open Go.ChangeShapes Go.WideShapes Go.ChangeAt Go.RowKit
set_option linter.unusedVariables false
open Go.RowKit

/-- Block n holds the cells A; all that was there at w is as it was. -/
def Holds (w : World) (n : Nat) (A : Array Value) (w' : World) : Prop := Below w.heap.size w w' ∧ n < w'.heap.size ∧ ∀ i, w'.cell? ⟨n, i, none⟩ = A[i]?
theorem Holds.new (w : World) (A : Array Value) (t : TypeId) : Holds w w.heap.size A (w.alloc (.cells A t)) :=
  ⟨(Below.refl _ _).alloc (Nat.le_refl _) _, by simp, fun i => World.cell?_alloc_at _ _ _ _ rfl⟩
theorem Holds.alloc {w w' : World} {n : Nat} {A : Array Value} (h : Holds w n A w') (o : Obj) : Holds w n A (w'.alloc o) :=
  ⟨h.1.alloc h.1.size _, by have := h.2.1; simp; omega, fun i => (World.cell?_alloc_lt _ _ _ h.2.1).trans (h.2.2 i)⟩
theorem Holds.drew {w w' : World} {n : Nat} {A : Array Value} (h : Holds w n A w') : Holds w n A w'.drew := ⟨⟨h.1.os, h.1.tape, h.1.output, h.1.size, h.1.block⟩, h.2⟩
theorem Holds.drewN {w w' : World} {n : Nat} {A : Array Value} (h : Holds w n A w') (k : Nat) : Holds w n A (w'.drewN k) := ⟨bdrew h.1 k, h.2⟩
theorem Holds.call {w w' w1 : World} {n : Nat} {A : Array Value} (h : Holds w n A w') (hb : Below w'.heap.size w' w1) : Holds w n A w1 :=
  ⟨h.1.trans (hb.mono h.1.size), Nat.lt_of_lt_of_le h.2.1 hb.size, fun i => (hb.cell (p := ⟨n, i, none⟩) h.2.1).trans (h.2.2 i)⟩
theorem Holds.from_ {w w0 w' : World} {n : Nat} {A : Array Value} (h : Holds w0 n A w') (hb : Below w.heap.size w w0) : Holds w n A w' := ⟨bl hb h.1, h.2⟩
/-- Two arguments, laid one behind the other. -/
theorem Holds.two (w : World) (A B : Array Value) (t u : TypeId) : Holds w w.heap.size A (((w.alloc (.cells A t)).alloc (.cells B u)).drew) ∧ Holds w (w.heap.size + 1) B (((w.alloc (.cells A t)).alloc (.cells B u)).drew) := by
  refine ⟨((Holds.new w A t).alloc _).drew, ?_⟩
  have h := (Holds.new (w.alloc (.cells A t)) B u).from_ (w := w) ((Below.refl _ _).alloc (Nat.le_refl _) _)
  rw [show (w.alloc (.cells A t)).heap.size = w.heap.size + 1 by simp] at h
  exact h.drew
theorem Holds.call2 {w w' w1 : World} {n m : Nat} {A B : Array Value} (h : Holds w n A w' ∧ Holds w m B w') (hb : Below w'.heap.size w' w1) : Holds w n A w1 ∧ Holds w m B w1 := ⟨h.1.call hb, h.2.call hb⟩
theorem Holds.pair (w : World) (A B : Array Value) (t u : TypeId) : Holds w w.heap.size A ((w.alloc (.cells A t)).alloc (.cells B u)) ∧ Holds w (w.heap.size + 1) B ((w.alloc (.cells A t)).alloc (.cells B u)) := by
  refine ⟨(Holds.new w A t).alloc _, ?_⟩
  have h := (Holds.new (w.alloc (.cells A t)) B u).from_ (w := w) ((Below.refl _ _).alloc (Nat.le_refl _) _)
  rwa [show (w.alloc (.cells A t)).heap.size = w.heap.size + 1 by simp] at h
theorem Holds.at_ {w : World} {A B : Array Value} {t : TypeId} {n : Nat} (hn : w.heap.size = n) (hA : B = A) : Holds w n A (w.alloc (.cells B t)) := by
  subst hn hA; exact Holds.new w B t
end Go.Proofs.Ytkhjmgedamndhaa
