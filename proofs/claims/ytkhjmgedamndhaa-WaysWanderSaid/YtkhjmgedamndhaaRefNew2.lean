/- The document's own New: the walk. -/
import Derived.Test.YtkhjmgedamndhaaRows
import Derived.Test.YtkhjmgedamndhaaKit
import Derived.Test.YtkhjmgedamndhaaStrs
import Derived.Test.YtkhjmgedamndhaaCoin
import Derived.Test.YtkhjmgedamndhaaBlk
import Derived.Test.YtkhjmgedamndhaaHolds
import Derived.Test.YtkhjmgedamndhaaWorldMath
import Derived.Test.YtkhjmgedamndhaaWorldAt
import Derived.Test.YtkhjmgedamndhaaDescFloors
import Derived.Test.YtkhjmgedamndhaaDescFit2
import Derived.Test.YtkhjmgedamndhaaDescMay
import Derived.Test.YtkhjmgedamndhaaDescRight
import Derived.Test.YtkhjmgedamndhaaDescClone
import Derived.Test.YtkhjmgedamndhaaDescCopy
import Derived.Test.YtkhjmgedamndhaaDescCopy2
import Derived.Test.YtkhjmgedamndhaaDescStore
import Derived.Test.YtkhjmgedamndhaaRefNew
import Derived.OwnWalk
import Derived.Maps.AppendAt
import Derived.Laws.OwnMore
import Derived.Deep.QuietTactic
import Derived.BigQuiet
import Derived.Deep.RegionHeld3
import Derived.WalkKit
import Derived.ProofKit
import Derived.OpenShut
import Derived.IntWalk
namespace Go.Proofs.Ytkhjmgedamndhaa
open Go.ChangeShapes Go.WideShapes Go.ChangeAt Go.RowKit
set_option linter.unusedVariables false
open Go.RowKit
/-- The loop's world: what was there is as it was, but for block n and what is new. -/
structure NI (n B : Nat) (V wr : World) (cs : Array Value) (a : Option Addr) (c k : Nat) (xs : List Int) : Prop where
  s : B ≤ wr.heap.size
  f : ∀ b, b < B → b ≠ n → wr.heap[b]? = V.heap[b]?
  os : wr.os = V.os
  tp : wr.tape = V.tape
  ot : wr.output = V.output
  bl : Blk wr n 29 cs
  o : wr.ownsRow B 57 2 (.slice a k c) k ((floorsL (xs.take k)).flatMap plC)
theorem NI.blk {n B : Nat} {V wr : World} {cs : Array Value} {a : Option Addr} {c k : Nat} {xs : List Int} (h : NI n B V wr cs a c k xs) {g : Nat} {t : TypeId} {ds : Array Value} (hb : Blk V g t ds) (hg : g < B) (hn : g ≠ n) : Blk wr g t ds := (h.f g hg hn).trans hb
theorem NI.cell {n B : Nat} {V wr : World} {cs : Array Value} {a : Option Addr} {c k : Nat} {xs : List Int} (h : NI n B V wr cs a c k xs) {p : Addr} (hg : p.block < B) (hn : p.block ≠ n) : wr.cell? p = V.cell? p := by simp [World.cell?, h.f p.block hg hn]
theorem NI.below {n B m : Nat} {w V wr : World} {cs : Array Value} {a : Option Addr} {c k : Nat} {xs : List Int} (h : NI n B V wr cs a c k xs) (hb : Below m w V) (hm : m ≤ n) (hB : m ≤ B) (hV : V.heap.size ≤ B) : Below m w wr :=
  ⟨h.os.trans hb.os, h.tp.trans hb.tape, h.ot.trans hb.output, Nat.le_trans hb.size (Nat.le_trans hV h.s), fun b hl => (h.f b (by omega) (by omega)).trans (hb.block b hl)⟩
/-- One place more. -/
theorem NI.step {n B : Nat} {V wr W' : World} {cs : Array Value} {a a' : Option Addr} {c c' k : Nat} {xs : List Int} (h : NI n B V wr cs a c k xs) (hk : k < xs.length) (hn : n < B) (u : Value) (hu : u = .slice a' (k + 1) c')
    (h1 : W'.ownsRow B 57 2 (.slice a' (k + 1) c') (k + 1) ((floorsL (xs.take k)).flatMap plC ++ [.int .i64 0, .int .i64 xs[k]])) (hf : ∀ b, b < wr.heap.size → some b ≠ (Value.slice a k c).ownBlock → W'.heap[b]? = wr.heap[b]?) (hs : wr.heap.size ≤ W'.heap.size) (ho : W'.os = wr.os) (ht : W'.tape = wr.tape) (hot : W'.output = wr.output) :
    NI n B V (W'.setCell ⟨n, 10, none⟩ u) (cs.setIfInBounds 10 u) a' c' (k + 1) xs := by
  have hob : ∀ b, b < B → some b ≠ (Value.slice a k c).ownBlock := fun b hb e => by
    have := (h.o.lt b e.symm).1; omega
  have hlen : (floorsL (xs.take (k + 1))).flatMap plC = (floorsL (xs.take k)).flatMap plC ++ [.int .i64 0, .int .i64 xs[k]] := by
    rw [List.take_succ_eq_append_getElem hk]
    unfold floorsL
    rw [List.map_append, List.flatMap_append]
    rfl
  have hblk : Blk W' n 29 cs := (hf n (by have := h.s; omega) (hob n hn)).trans h.bl
  refine ⟨by have := h.s; simp [World.setCell]; omega, fun b hb hne => ?_, ho.trans h.os, ht.trans h.tp, hot.trans h.ot, hblk.set_ 10 u, ?_⟩
  · rw [Below.heap_setCell W' _ u b hne, hf b (by have := h.s; omega) (hob b hb), h.f b hb hne]
  · rw [hlen]
    refine h1.kept (row := some n) ⟨rfl, rfl, rfl, by simp, fun b _ hne => Below.heap_setCell W' _ u b (fun e => hne (by rw [e]))⟩ (.inr fun e => ?_)
    have := (h1.lt n e).1
    omega
end Go.Proofs.Ytkhjmgedamndhaa
