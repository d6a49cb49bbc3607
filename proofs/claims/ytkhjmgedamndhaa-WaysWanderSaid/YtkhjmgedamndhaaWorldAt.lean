/- Worlds as they lie in memory. Over whatever program. -/
import Derived.Test.YtkhjmgedamndhaaRows
import Derived.Test.YtkhjmgedamndhaaKit
import Derived.Test.YtkhjmgedamndhaaStrs
import Derived.Test.YtkhjmgedamndhaaBlk
import Derived.Test.YtkhjmgedamndhaaWorldMath
import Derived.WalkKit
import Derived.ProofKit
import Derived.OpenShut
import Derived.IntWalk
namespace Go.Proofs.Ytkhjmgedamndhaa
open Go.ChangeShapes Go.WideShapes Go.ChangeAt Go.RowKit
set_option linter.unusedVariables false
open Go.RowKit
/-- A list as it lies in memory: empty, or in a block, so many cells each. -/
def RowAt {α : Type} (k : Nat) (enc : α → List Value) (w : World) (a : Option Addr) (xs : List α) : Prop :=
  xs.length ≤ maxLen ∧ (xs = [] ∨ ∃ b off, a = some ⟨b, off, none⟩ ∧ b < w.heap.size ∧ ∀ i (hi : i < xs.length) j, j < k → w.cell? ⟨b, off + i * k + j, none⟩ = (enc xs[i])[j]?)
section
variable {α : Type} {k : Nat} {enc : α → List Value} {w w' : World} {a : Option Addr} {xs : List α}
theorem RowAt.below (h : RowAt k enc w a xs) {B : Nat} (hb : Below B w w') (hB : w.heap.size ≤ B) : RowAt k enc w' a xs := by
  obtain ⟨hl, h⟩ := h
  refine ⟨hl, ?_⟩
  rcases h with h | ⟨b, off, rfl, hb2, hc⟩
  · exact .inl h
  · exact .inr ⟨b, off, rfl, by have := hb.size; omega, fun i hi j hj => (hb.cell (p := ⟨b, off + i * k + j, none⟩) (by show b < B; omega)).trans (hc i hi j hj)⟩
theorem RowAt.call (h : RowAt k enc w a xs) (hb : Below w.heap.size w w') : RowAt k enc w' a xs := h.below hb (Nat.le_refl _)
theorem RowAt.alloc (h : RowAt k enc w a xs) (o : Obj) : RowAt k enc (w.alloc o) a xs := h.below ((Below.refl _ _).alloc (Nat.le_refl _) _) (Nat.le_refl _)
theorem RowAt.nil (w : World) (a : Option Addr) : RowAt k enc w a ([] : List α) := ⟨by simp, .inl rfl⟩
theorem RowAt.len (h : RowAt k enc w a xs) : xs.length ≤ 9223372036854775807 := by
  have := h.1; unfold maxLen at this; omega
theorem RowAt.at_ (h : RowAt k enc w a xs) {n : Nat} (hn : n < xs.length) : ∃ b off, a = some ⟨b, off, none⟩ ∧ b < w.heap.size ∧ ∀ i (hi : i < xs.length) j, j < k → w.cell? ⟨b, off + i * k + j, none⟩ = (enc xs[i])[j]? := by
  rcases h.2 with h | h
  · subst h; simp at hn
  · exact h
theorem RowAt.below_far (h : RowAt k enc w a xs) {r : Nat} {W : World} (hb : ∀ b, b ≠ r → b < w.heap.size → W.heap[b]? = w.heap[b]?) (hs : w.heap.size ≤ W.heap.size) (hn : ∀ p, a = some p → p.block ≠ r) : RowAt k enc W a xs := by
  obtain ⟨hl, h⟩ := h
  refine ⟨hl, ?_⟩
  rcases h with h | ⟨b, off, rfl, hb2, hc⟩
  · exact .inl h
  · refine .inr ⟨b, off, rfl, by omega, fun i hi j hj => ?_⟩
    rw [← hc i hi j hj]
    show (match W.heap[b]? with | some (.cells cs _ _) => _ | _ => _) = _
    rw [hb b (hn _ rfl) hb2]
    rfl
end
def exC (e : Ex) : List Value := [.int .i64 e.n, .int .i64 e.e, .int .i64 e.s, .int .i64 e.w]
def plC (p : Pl) : List Value := [.int .i64 p.kind, .int .i64 p.id]
def blC (b : Bool) : List Value := [.bool b]
def inC (n : Int) : List Value := [.int .i64 n]
abbrev ExsAt (w : World) (a : Option Addr) (xs : List Ex) : Prop := RowAt 4 exC w a xs
abbrev PlsAt (w : World) (a : Option Addr) (xs : List Pl) : Prop := RowAt 2 plC w a xs
abbrev BlsAt (w : World) (a : Option Addr) (xs : List Bool) : Prop := RowAt 1 blC w a xs
/-- The four cells of a room's exits. -/
theorem ExsAt.cells {w : World} {a : Option Addr} {xs : List Ex} (h : ExsAt w a xs) {k : Nat} (hk : k < xs.length) : ∃ b off, a = some ⟨b, off, none⟩ ∧ b < w.heap.size ∧
    w.cell? ⟨b, off + k * 4, none⟩ = some (.int .i64 xs[k].n) ∧ w.cell? ⟨b, off + k * 4 + 1, none⟩ = some (.int .i64 xs[k].e) ∧ w.cell? ⟨b, off + k * 4 + 2, none⟩ = some (.int .i64 xs[k].s) ∧ w.cell? ⟨b, off + k * 4 + 3, none⟩ = some (.int .i64 xs[k].w) := by
  obtain ⟨b, off, rfl, hb, hc⟩ := h.at_ hk
  exact ⟨b, off, rfl, hb, hc k hk 0 (by omega), hc k hk 1 (by omega), hc k hk 2 (by omega), hc k hk 3 (by omega)⟩
theorem PlsAt.cells {w : World} {a : Option Addr} {xs : List Pl} (h : PlsAt w a xs) {k : Nat} (hk : k < xs.length) : ∃ b off, a = some ⟨b, off, none⟩ ∧ b < w.heap.size ∧
    w.cell? ⟨b, off + k * 2, none⟩ = some (.int .i64 xs[k].kind) ∧ w.cell? ⟨b, off + k * 2 + 1, none⟩ = some (.int .i64 xs[k].id) := by
  obtain ⟨b, off, rfl, hb, hc⟩ := h.at_ hk
  exact ⟨b, off, rfl, hb, hc k hk 0 (by omega), hc k hk 1 (by omega)⟩
theorem BlsAt.cells {w : World} {a : Option Addr} {xs : List Bool} (h : BlsAt w a xs) {k : Nat} (hk : k < xs.length) : ∃ b off, a = some ⟨b, off, none⟩ ∧ b < w.heap.size ∧ w.cell? ⟨b, off + k, none⟩ = some (.bool xs[k]) := by
  obtain ⟨b, off, rfl, hb, hc⟩ := h.at_ hk
  exact ⟨b, off, rfl, hb, by have := hc k hk 0 (by omega); simpa [blC] using this⟩
theorem ints_row {w : World} {a : Option Addr} {xs : List Int} : IntsAt w a xs ↔ RowAt 1 inC w a xs := by
  unfold IntsAt RowAt
  constructor
  · rintro ⟨hl, h⟩
    refine ⟨hl, h.imp id ?_⟩
    rintro ⟨b, off, rfl, hb, hc⟩
    refine ⟨b, off, rfl, hb, fun i hi j hj => ?_⟩
    obtain rfl : j = 0 := by omega
    simpa [inC] using hc i hi
  · rintro ⟨hl, h⟩
    refine ⟨hl, h.imp id ?_⟩
    rintro ⟨b, off, rfl, hb, hc⟩
    refine ⟨b, off, rfl, hb, fun i hi => ?_⟩
    simpa [inC] using hc i hi 0 (by omega)
theorem IntsAt.call {w w' : World} {a : Option Addr} {xs : List Int} (h : IntsAt w a xs) (hb : Below w.heap.size w w') : IntsAt w' a xs := h.below hb (Nat.le_refl _)

/-- Where a description's lists lie, and the room that they have. -/
structure Dp where
  ex : Option Addr
  exc : Nat
  pl : Option Addr
  plc : Nat
  co : Option Addr
  coc : Nat
  it : Option Addr
  itc : Nat
  bo : Option Addr
  boc : Nat
/-- Where a world's lists lie. -/
structure Wp where
  d : Dp
  at_ : Option Addr
  atc : Nat
  co : Option Addr
  coc : Nat
  wh : Option Addr
  whc : Nat
def zeroDp : Dp := ⟨none, 0, none, 0, none, 0, none, 0, none, 0⟩
def zeroWp : Wp := ⟨zeroDp, none, 0, none, 0, none, 0⟩
structure DescAt (w : World) (p : Dp) (d : Ds) : Prop where
  ex : ExsAt w p.ex d.exits
  pl : IntsAt w p.pl d.players
  co : IntsAt w p.co d.coins
  it : IntsAt w p.it d.items
  bo : BlsAt w p.bo d.boxes
structure WorldAt (w : World) (p : Wp) (x : Wd) : Prop where
  d : DescAt w p.d x.d
  at_ : IntsAt w p.at_ x.at_
  co : IntsAt w p.co x.coins
  wh : PlsAt w p.wh x.wher
theorem DescAt.below {w w' : World} {p : Dp} {d : Ds} (h : DescAt w p d) {B : Nat} (hb : Below B w w') (hB : w.heap.size ≤ B) : DescAt w' p d :=
  ⟨h.ex.below hb hB, h.pl.below hb hB, h.co.below hb hB, h.it.below hb hB, h.bo.below hb hB⟩
theorem DescAt.call {w w' : World} {p : Dp} {d : Ds} (h : DescAt w p d) (hb : Below w.heap.size w w') : DescAt w' p d := h.below hb (Nat.le_refl _)
theorem WorldAt.below {w w' : World} {p : Wp} {x : Wd} (h : WorldAt w p x) {B : Nat} (hb : Below B w w') (hB : w.heap.size ≤ B) : WorldAt w' p x :=
  ⟨h.d.below hb hB, h.at_.below hb hB, h.co.below hb hB, h.wh.below hb hB⟩
theorem WorldAt.call {w w' : World} {p : Wp} {x : Wd} (h : WorldAt w p x) (hb : Below w.heap.size w w') : WorldAt w' p x := h.below hb (Nat.le_refl _)
theorem zero_descAt (w : World) : DescAt w zeroDp zeroD := ⟨RowAt.nil _ _, IntsAt.nil _ _, IntsAt.nil _ _, IntsAt.nil _ _, RowAt.nil _ _⟩
theorem zero_worldAt (w : World) : WorldAt w zeroWp zeroW := ⟨zero_descAt w, IntsAt.nil _ _, IntsAt.nil _ _, RowAt.nil _ _⟩
end Go.Proofs.Ytkhjmgedamndhaa
