import Derived.Test.YtcabeagmdfpdlaaDoorRows
import Derived.Test.YtcabeagmdfpdlaaDoorKit
import Derived.Test.YtcabeagmdfpdlaaDoorStrs
import Derived.Laws.PanicsMore
import Derived.Lib.LaidTab
import Derived.Lib.SmallJoins
import Derived.Stop.LaidErr
import Derived.WalkKit
import Derived.ProofKit
import Derived.OpenShut
import Derived.IntWalk
import Derived.Deep.RegionHeld3
/- Tables of texts: what their cells hold; an array of texts by value, indexed. Over whatever program. -/
namespace Go.Proofs.YtcabeagmdfpdlaaDoor
open Go.ChangeShapes Go.WideShapes Go.ChangeAt Go.RowKit
set_option linter.unusedVariables false
open Go.RowKit
/-- An element of an array of texts that was loaded whole. -/
theorem run_index_one {P : Program} (w : World) (t e : TypeId) (n : Nat) (cs : Array Value) (k : IntKind) (i : Int) (h : P.underlying t = some (.array n e)) (hs : ∀ w, (sizeOf e).run P w = .ok 1 w) (ha : ∀ w, (isAgg e).run P w = .ok false w)
    (h0 : 0 ≤ i) (h1 : i < n) (v : Value) (hv : cs[i.toNat]? = some v) :
    (Instr.index t (.agg cs) (.int k i)).run P w = .ok v w := by
  simp [Instr.index, run_underlying h, asIntOf, h0, h1, go_sem, hs, ha, hv]
/-- The variable holds just these texts. -/
def StrTab (P : Program) (w : World) (name : String) (ss : List (List UInt8)) : Prop := w.var? P name = some (ss.map str).toArray
theorem cells_of_strtab {H : Type} {enc : TypeId × Value → H} {P : Program} {w : World} {base : Nat} {sp : Nat → Bool} {held : Bool} {fuel : Nat} {t e : TypeId} {n : Nat} {cs : List Value} {ss : List (List UInt8)} {p : List MemPlace}
    (ht : P.underlying t = some (.array n e)) (he : P.underlying e = some .string) (hce : P.cellsOf e = 1) (hct : P.cellsOf t = n)
    (h : DataW.trod enc P w base sp held fuel t cs = some (.agg (ss.map fun s => .lit (.string s)), p)) : cs = ss.map str := by
  cases fuel with
  | zero => simp [DataW.trod] at h
  | succ fuel =>
    simp only [DataW.trod, ht, hce, hct, Nat.mul_one] at h
    split at h
    · rename_i hl
      obtain ⟨xs, hm, hx⟩ := Option.map_eq_some_iff.1 h
      have hxs : xs.map (·.1) = ss.map fun s => (DataW.lit (.string s) : DataW H) := by
        have := congrArg Prod.fst hx
        simpa using this
      have hxl : xs.length = n := by simpa using Lib.mapM_length hm
      have hzl : ss.length = n := by
        have := congrArg List.length hxs
        simp at this
        omega
      apply List.ext_getElem?
      intro i
      by_cases hi : i < n
      · obtain ⟨b, hb, hf⟩ := Lib.mapM_at hm i i (by simp [hi])
        obtain ⟨s, hc, rfl, _⟩ := DataW.trod_string he hf
        have h1 : cs[i]? = some (.string s) := by
          have := congrArg (·[0]?) hc
          simpa [List.getElem?_take, List.getElem?_drop] using this
        have h2 : (xs.map (·.1))[i]? = some (DataW.lit (.string s.data.toList) : DataW H) := by simp [hb]
        rw [hxs] at h2
        simp only [List.getElem?_map, Option.map_eq_some_iff, DataW.lit.injEq, Lit.string.injEq] at h2
        obtain ⟨z', hz', rfl⟩ := h2
        simp [h1, hz', str]
      · rw [List.getElem?_eq_none (by omega), List.getElem?_eq_none (by simp; omega)]
    · cases h
theorem strTab_of_head {P : Program} {W : World} {name : String} {ss : List (List UInt8)} {rest : List (String × DataW Unit)} {g : Nat} {t e : TypeId} {n : Nat}
    (hg : P.globalNamed name = some g) (hty : (P.globals[g]?).map (·.type) = some t) (ht : P.underlying t = some (.array n e)) (he : P.underlying e = some .string) (hce : P.cellsOf e = 1) (hct : P.cellsOf t = n)
    (h : laidMet P ((name, .agg (ss.map fun s => .lit (.string s))) :: rest) W) : StrTab P W name ss := by
  obtain ⟨ps, ⟨g', t', cs, fuel, p, q, hg', ht', hvar, hd, _, _⟩, _⟩ := h
  obtain rfl := Option.some.inj (hg.symm.trans hg')
  obtain rfl := Option.some.inj (hty.symm.trans ht')
  unfold StrTab
  rw [hvar, ← cells_of_strtab ht he hce hct hd]
theorem StrTab.cell {P : Program} {W : World} {name : String} {ss : List (List UInt8)} {g : Nat} (h : StrTab P W name ss) (hg : P.globalNamed name = some g) (i : Nat) :
    W.cell? ⟨g, i, none⟩ = (ss.map str).toArray[i]? := World.var?_cell hg h i
theorem StrTab.below {P : Program} {w w' : World} {name : String} {ss : List (List UInt8)} {g : Nat} (h : StrTab P w name ss) (hg : P.globalNamed name = some g) (hb : Below w.heap.size w w') : StrTab P w' name ss :=
  Joins.var_stays hg h hb (Nat.le_refl _)
end Go.Proofs.YtcabeagmdfpdlaaDoor
/- A block of the call's own that stays as it was laid, over calls that make memory. Over whatever program. -/
namespace Go.Proofs.YtcabeagmdfpdlaaDoor
open Go.ChangeShapes Go.WideShapes Go.ChangeAt Go.RowKit
set_option linter.unusedVariables false
open Go.RowKit

/-- Block n holds the cells A; all that was there at w is as it was. -/
def Holds (w : World) (n : Nat) (A : Array Value) (w' : World) : Prop := Below w.heap.size w w' ∧ n < w'.heap.size ∧ ∀ i, w'.cell? ⟨n, i, none⟩ = A[i]?
theorem Holds.new (w : World) (A : Array Value) (t : TypeId) : Holds w w.heap.size A (w.alloc (.cells A t)) :=
  ⟨(Below.refl _ _).alloc (Nat.le_refl _) _, by simp, fun i => World.cell?_alloc_at _ _ _ _ rfl⟩
theorem Holds.alloc {w w' : World} {n : Nat} {A : Array Value} (h : Holds w n A w') (o : Obj) : Holds w n A (w'.alloc o) :=
  ⟨h.1.alloc h.1.size _, by have := h.2.1; simp; omega, fun i => (World.cell?_alloc_lt _ _ _ h.2.1).trans (h.2.2 i)⟩
theorem Holds.drew {w w' : World} {n : Nat} {A : Array Value} (h : Holds w n A w') : Holds w n A w'.drew := ⟨⟨h.1.os, h.1.tape, h.1.output, h.1.size, h.1.block⟩, h.2⟩
theorem Holds.drewN {w w' : World} {n : Nat} {A : Array Value} (h : Holds w n A w') (k : Nat) : Holds w n A (w'.drewN k) := ⟨bdrew h.1 k, h.2⟩
theorem Holds.call {w w' w1 : World} {n : Nat} {A : Array Value} (h : Holds w n A w') (hb : Below w'.heap.size w' w1) : Holds w n A w1 :=
  ⟨h.1.trans (hb.mono h.1.size), Nat.lt_of_lt_of_le h.2.1 hb.size, fun i => (hb.cell (p := ⟨n, i, none⟩) h.2.1).trans (h.2.2 i)⟩
theorem Holds.from_ {w w0 w' : World} {n : Nat} {A : Array Value} (h : Holds w0 n A w') (hb : Below w.heap.size w w0) : Holds w n A w' := ⟨bl hb h.1, h.2⟩
/-- Two arguments, laid one behind the other. -/
theorem Holds.two (w : World) (A B : Array Value) (t u : TypeId) : Holds w w.heap.size A (((w.alloc (.cells A t)).alloc (.cells B u)).drew) ∧ Holds w (w.heap.size + 1) B (((w.alloc (.cells A t)).alloc (.cells B u)).drew) := by
  refine ⟨((Holds.new w A t).alloc _).drew, ?_⟩
  have h := (Holds.new (w.alloc (.cells A t)) B u).from_ (w := w) ((Below.refl _ _).alloc (Nat.le_refl _) _)
  rw [show (w.alloc (.cells A t)).heap.size = w.heap.size + 1 by simp] at h
  exact h.drew
theorem Holds.call2 {w w' w1 : World} {n m : Nat} {A B : Array Value} (h : Holds w n A w' ∧ Holds w m B w') (hb : Below w'.heap.size w' w1) : Holds w n A w1 ∧ Holds w m B w1 := ⟨h.1.call hb, h.2.call hb⟩
theorem Holds.pair (w : World) (A B : Array Value) (t u : TypeId) : Holds w w.heap.size A ((w.alloc (.cells A t)).alloc (.cells B u)) ∧ Holds w (w.heap.size + 1) B ((w.alloc (.cells A t)).alloc (.cells B u)) := by
  refine ⟨(Holds.new w A t).alloc _, ?_⟩
  have h := (Holds.new (w.alloc (.cells A t)) B u).from_ (w := w) ((Below.refl _ _).alloc (Nat.le_refl _) _)
  rwa [show (w.alloc (.cells A t)).heap.size = w.heap.size + 1 by simp] at h
theorem Holds.at_ {w : World} {A B : Array Value} {t : TypeId} {n : Nat} (hn : w.heap.size = n) (hA : B = A) : Holds w n A (w.alloc (.cells B t)) := by
  subst hn hA; exact Holds.new w B t
end Go.Proofs.YtcabeagmdfpdlaaDoor
