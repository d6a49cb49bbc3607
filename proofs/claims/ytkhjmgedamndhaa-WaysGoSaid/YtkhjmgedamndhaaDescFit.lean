/- desc.fit: has no place more than it may? A map of places, counted in. -/
import Derived.Maps.OwnOps
import Derived.WideKeyEntry
import Derived.DeepKeys4
import Derived.Test.YtkhjmgedamndhaaRows
import Derived.Test.YtkhjmgedamndhaaKit
import Derived.Test.YtkhjmgedamndhaaStrs
import Derived.Test.YtkhjmgedamndhaaCoin
import Derived.Test.YtkhjmgedamndhaaBlk
import Derived.Test.YtkhjmgedamndhaaHolds
import Derived.Test.YtkhjmgedamndhaaWorldMath
import Derived.Test.YtkhjmgedamndhaaWorldAt
import Derived.Deep.QuietTactic
import Derived.BigQuiet
import Derived.Deep.RegionHeld3
import Derived.WalkKit
import Derived.ProofKit
import Derived.OpenShut
import Derived.IntWalk
namespace Go.Proofs.Ytkhjmgedamndhaa
open Go.ChangeShapes Go.WideShapes Go.ChangeAt Go.RowKit
set_option linter.unusedVariables false
open Go.RowKit Go.Maps
/-- A place's value. -/
def plv (p : Pl) : Value := .agg #[.int .i64 p.kind, .int .i64 p.id]
theorem plv_inj {p q : Pl} (h : plv p = plv q) : p = q := by
  obtain ⟨a, b⟩ := p; obtain ⟨c, d⟩ := q
  simp only [plv, Value.agg.injEq, Array.mk.injEq, List.cons.injEq, Value.int.injEq, true_and, and_true] at h
  obtain ⟨rfl, rfl⟩ := h; rfl
theorem place_law : WideMaps.KeyLaw Try.prog 57 := deep_law_laid (by kernel_rfl) (m := 2) (by omega) (of_decide_eq_true (by kernel_rfl)) (by kernel_rfl) (by kernel_rfl)
/-- A place that fits a key. -/
def PlWf (p : Pl) : Prop := (Lit.int .i64 p.kind).wf = true ∧ (Lit.int .i64 p.id).wf = true
theorem place_key (p : Pl) (h : PlWf p) : ∃ l, keyOf Try.prog 57 (plv p) = some l := by
  obtain ⟨k, i⟩ := p
  obtain ⟨h1, h2⟩ := h
  obtain ⟨m, hm⟩ : ∃ m, Try.prog.types.size = m + 1 := ⟨Try.prog.types.size - 1, by have : 0 < Try.prog.types.size := of_decide_eq_true (by kernel_rfl)
                                                                                    omega⟩
  have hkt : Try.prog.keyType 57 = true := by kernel_rfl
  have hc : Try.prog.cellsOf 57 = 2 := by kernel_rfl
  have hci : Try.prog.cellsOf 3 = 1 := by kernel_rfl
  unfold keyOf
  simp only [Try.underlying57]
  rw [if_pos (by simp [hkt, plv, Value.formed, Try.underlying57, hc]), hm]
  unfold Program.keyLits
  simp [Try.underlying57, plv, Value.cells, hc, hci, Program.keyLits, Try.underlying3, h1, h2]
/-- Block b is a map that counts places: how often each. -/
def Cts (w : World) (b : Nat) (C : Pl → Nat) : Prop :=
  ∃ es clock, w.heap[b]? = some (.map es clock) ∧ MapKept.Stamped es clock ∧ (∀ x ∈ es.toList, ∃ p, PlWf p ∧ x.key = plv p ∧ x.val = .int .i64 (C p : Int)) ∧ ∀ p, C p ≠ 0 → ∃ x ∈ es.toList, x.key = plv p
/-- .. in which a place has its entry, of this stamp. -/
def CtsAt (w : World) (b : Nat) (C : Pl → Nat) (p : Pl) (st : Nat) : Prop :=
  ∃ (es : Array MapEntry) (clock j : Nat) (e0 : MapEntry), w.heap[b]? = some (.map es clock) ∧ MapKept.Stamped es clock ∧ (∀ x ∈ es.toList, ∃ p, PlWf p ∧ x.key = plv p ∧ x.val = .int .i64 (C p : Int)) ∧ (∀ p, C p ≠ 0 → ∃ x ∈ es.toList, x.key = plv p) ∧
    es.toList[j]? = some e0 ∧ e0.key = plv p ∧ e0.born = st
theorem CtsAt.cts {w : World} {b : Nat} {C : Pl → Nat} {p : Pl} {st : Nat} (h : CtsAt w b C p st) : Cts w b C := by
  obtain ⟨es, clock, j, e0, h1, h2, h3, h4, _⟩ := h
  exact ⟨es, clock, h1, h2, h3, h4⟩
theorem Cts.kept {w w' : World} {b : Nat} {C : Pl → Nat} (h : Cts w b C) (hb : w'.heap[b]? = w.heap[b]?) : Cts w' b C := by
  obtain ⟨es, clock, h1, h2, h3, h4⟩ := h
  exact ⟨es, clock, hb.trans h1, h2, h3, h4⟩
theorem Cts.lt {w : World} {b : Nat} {C : Pl → Nat} (h : Cts w b C) : b < w.heap.size := by
  obtain ⟨es, clock, h1, _⟩ := h
  exact (Array.getElem?_eq_some_iff.1 h1).1
theorem Cts.new (w : World) : Cts (w.alloc (.map #[] 0)) w.heap.size (fun _ => 0) :=
  ⟨#[], 0, (MapKept.heap_alloc w _).1, MapKept.stamped_empty 0, by simp, fun p h => absurd rfl h⟩
theorem Cts.keys {w : World} {es : Array MapEntry} {C : Pl → Nat} (h : ∀ x ∈ es.toList, ∃ p, PlWf p ∧ x.key = plv p ∧ x.val = .int .i64 (C p : Int)) : ∀ x ∈ es.toList, ∃ l, keyOf Try.prog 57 x.key = some l := fun x hx => by
  obtain ⟨p, hp, hk, _⟩ := h x hx
  rw [hk]; exact place_key p hp
theorem place_zero (w : World) : (zeroValue 3).run Try.prog w = .ok (.int .i64 0) w := by kernel_rfl
/-- One more of a place. -/
def bump (C : Pl → Nat) (p : Pl) : Pl → Nat := fun q => if q = p then C p + 1 else C q
end Go.Proofs.Ytkhjmgedamndhaa
