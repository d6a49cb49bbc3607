import Derived.Test.YtameelaiigljjaaRows
import Derived.Test.YtameelaiigljjaaKit
import Derived.Test.YtameelaiigljjaaJMem
import Derived.Test.YtameelaiigljjaaCoin
import Derived.Test.YtameelaiigljjaaJWorld
import Derived.Deep.QuietTactic
import Derived.BigQuiet
import Derived.WalkKit
import Derived.ProofKit
import Derived.OpenShut
import Derived.IntWalk
import Derived.Deep.RegionHeld3
import Derived.Maps.OwnOps
import Derived.WideKeyEntry
import Derived.DeepKeys4
import Derived.Laws.AppendOwn
import Derived.Maps.AppendAt
import Derived.Deep.AppendLies
import Derived.OwnWalk
/- desc: numbers that are one of so many, purses, caps, rooms. By the code; and the document's own 'in'. -/
namespace Go.Proofs.Ytameelaiigljjaa
open Go.ChangeShapes Go.WideShapes Go.ChangeAt Go.RowKit
set_option linter.unusedVariables false
open Go.RowKit
theorem refin_any (n m : Int) (w : World) : Calls Try.prog 39 #[.int .i64 n, .int .i64 m] w fun e w' => e = .returned (.bool (inB n m)) ∧ w = w' := by
  unfold inB
  by_cases h1 : 0 ≤ n
  · by_cases h2 : n < m
    ·
      go_enter Try.func39, Try.ntmps39
      go_wp2_with fail
      go_ret
      exact ⟨ret_bool (by simp [h1, h2]), rfl⟩
    ·
      go_enter Try.func39, Try.ntmps39
      go_wp2_with fail
      go_ret
      exact ⟨ret_bool (by simp [h2]), rfl⟩
  ·
    go_enter Try.func39, Try.ntmps39
    go_wp2_with fail
    go_ret
    exact ⟨ret_bool (by simp; omega), rfl⟩
end Go.Proofs.Ytameelaiigljjaa
/- desc.areRooms: rooms' exits lead to rooms. -/
namespace Go.Proofs.Ytameelaiigljjaa
open Go.ChangeShapes Go.WideShapes Go.ChangeAt Go.RowKit
set_option linter.unusedVariables false
open Go.RowKit
/-- An exit of the four, by its number. -/
def Ex.get (e : Ex) : Nat → Int
  | 0 => e.n
  | 1 => e.e
  | 2 => e.s
  | _ => e.w
theorem exB_get (r : Int) (e : Ex) : exB r e = true ↔ ∀ j, j < 4 → toB r (e.get j) = true := by
  simp only [exB, Bool.and_eq_true]
  constructor
  · rintro ⟨h0, h1, h2, h3⟩ j hj
    match j, hj with
    | 0, _ => exact h0
    | 1, _ => exact h1
    | 2, _ => exact h2
    | 3, _ => exact h3
  · intro h
    exact ⟨h 0 (by omega), h 1 (by omega), h 2 (by omega), h 3 (by omega)⟩
theorem exB_not {r : Int} {e : Ex} {j : Nat} (hj : j < 4) (h : toB r (e.get j) = false) : exB r e = false := by
  rw [Bool.eq_false_iff]; intro h2
  rw [(exB_get r e).1 h2 j hj] at h; cases h
theorem toB_split {r t : Int} (h : toB r t = true) : t = -1 ∨ (t ≠ -1 ∧ inB t r = true) := by
  by_cases h1 : t = -1
  · exact .inl h1
  · right; simp [toB, h1] at h; exact ⟨h1, h⟩
theorem toB_no {r t : Int} (h : toB r t = false) : t ≠ -1 ∧ inB t r = false := by
  simp [toB] at h; exact h
theorem run_dir (e : Ex) (j : Nat) (hj : j < 4) (w : World) : (Instr.index 56 (.agg #[.int .i64 e.n, .int .i64 e.e, .int .i64 e.s, .int .i64 e.w]) (.int .i64 (j : Int))).run Try.prog w = .ok (.int .i64 (e.get j)) w := by
  obtain rfl | rfl | rfl | rfl : j = 0 ∨ j = 1 ∨ j = 2 ∨ j = 3 := by omega
  all_goals
    simp [Instr.index, run_underlying Try.underlying56, asIntOf, go_sem, Ex.get]
end Go.Proofs.Ytameelaiigljjaa
/- desc.floors: the places of items in these rooms. -/
namespace Go.Proofs.Ytameelaiigljjaa
open Go.ChangeShapes Go.WideShapes Go.ChangeAt Go.RowKit
set_option linter.unusedVariables false
open Go.RowKit
theorem place_info : (Try.prog.info? 31).map (fun i => (i.zero, i.size, i.bytes)) = some (some (.agg #[.int .i64 0, .int .i64 0]), 2, 16) := by kernel_rfl
theorem make_places (n : Nat) (h : n ≤ 1000000) (W : World) : (Instr.makeSlice 27 (.int .i64 (n : Int)) (.int .i64 (n : Int))).run Try.prog W = .ok (.slice (some ⟨W.heap.size, 0, none⟩) n n) (W.alloc (.cells (madeCells (Value.agg #[.int .i64 0, .int .i64 0]).cells (n * 2)) 31)) := by
  obtain ⟨i0, hi0, hz0, hz1, hz2⟩ := info_parts place_info
  have hr := run_make (P := Try.prog) W 27 31 i0 (.agg #[.int .i64 0, .int .i64 0]) Try.underlying27 hi0 hz0 .i64 .i64 n n (by omega) (by omega) (by rw [hz2]; omega) (by omega)
  rw [Int.toNat_natCast, hz1] at hr
  exact hr
/-- What the floors' block holds after so many rounds. -/
def FlAt (xs : List Int) (k : Nat) (cs : Array Value) : Prop := cs.size = xs.length * 2 ∧ ∀ i (hi : i < xs.length), i < k → cs[i * 2]? = some (.int .i64 0) ∧ cs[i * 2 + 1]? = some (.int .i64 xs[i])
theorem FlAt.start (xs : List Int) (z : Array Value) : FlAt xs 0 (madeCells z (xs.length * 2)) := ⟨by simp [size_madeCells], fun i _ h => absurd h (by omega)⟩
theorem FlAt.step {xs : List Int} {k : Nat} {cs : Array Value} (h : FlAt xs k cs) (hk : k < xs.length) : FlAt xs (k + 1) ((cs.setIfInBounds (k * 2) (.int .i64 0)).setIfInBounds (k * 2 + 1) (.int .i64 xs[k])) := by
  obtain ⟨h1, h2⟩ := h
  refine ⟨by simp [h1], fun i hi hik => ?_⟩
  by_cases e : i = k
  · subst e
    constructor
    · rw [Array.getElem?_setIfInBounds_ne (by omega), Array.getElem?_setIfInBounds_self_of_lt (by omega)]
    · rw [Array.getElem?_setIfInBounds_self_of_lt (by simp; omega)]
  · obtain ⟨h3, h4⟩ := h2 i hi (by omega)
    constructor
    · rw [Array.getElem?_setIfInBounds_ne (by omega), Array.getElem?_setIfInBounds_ne (by omega), h3]
    · rw [Array.getElem?_setIfInBounds_ne (by omega), Array.getElem?_setIfInBounds_ne (by omega), h4]
theorem FlAt.cell {xs : List Int} {k : Nat} {cs : Array Value} (h : FlAt xs k cs) {i : Nat} (hi : i < xs.length * 2) : ∃ u, cs[i]? = some u := ⟨cs[i]'(by rw [h.1]; exact hi), Array.getElem?_eq_getElem _⟩
theorem FlAt.row {xs : List Int} {cs : Array Value} {W : World} {n : Nat} {t : TypeId} (h : FlAt xs xs.length cs) (hb : Blk W n t cs) (hl : xs.length ≤ 1000000) : PlsAt W (some ⟨n, 0, none⟩) (floorsL xs) := by
  refine ⟨by simp [floorsL, maxLen]; omega, .inr ⟨n, 0, rfl, hb.lt, fun i hi j hj => ?_⟩⟩
  have hi2 : i < xs.length := by simpa [floorsL] using hi
  obtain ⟨h1, h2⟩ := h.2 i hi2 hi2
  rw [hb.cell]
  obtain rfl | rfl : j = 0 ∨ j = 1 := by omega
  · simpa [floorsL, plC] using h1
  · simpa [floorsL, plC] using h2
end Go.Proofs.Ytameelaiigljjaa
/- desc: players and places of a description. By the code. -/
namespace Go.Proofs.Ytameelaiigljjaa
open Go.ChangeShapes Go.WideShapes Go.ChangeAt Go.RowKit
set_option linter.unusedVariables false
open Go.RowKit
end Go.Proofs.Ytameelaiigljjaa
/- desc.fit: has no place more than it may? A map of places, counted in. -/
namespace Go.Proofs.Ytameelaiigljjaa
open Go.ChangeShapes Go.WideShapes Go.ChangeAt Go.RowKit
set_option linter.unusedVariables false
open Go.RowKit Go.Maps
/-- A place's value. -/
def plv (p : Pl) : Value := .agg #[.int .i64 p.kind, .int .i64 p.id]
theorem plv_inj {p q : Pl} (h : plv p = plv q) : p = q := by
  obtain ⟨a, b⟩ := p; obtain ⟨c, d⟩ := q
  simp only [plv, Value.agg.injEq, Array.mk.injEq, List.cons.injEq, Value.int.injEq, true_and, and_true] at h
  obtain ⟨rfl, rfl⟩ := h; rfl
theorem place_law : WideMaps.KeyLaw Try.prog 31 := deep_law_laid (by kernel_rfl) (m := 2) (by omega) (of_decide_eq_true (by kernel_rfl)) (by kernel_rfl) (by kernel_rfl)
/-- A place that fits a key. -/
def PlWf (p : Pl) : Prop := (Lit.int .i64 p.kind).wf = true ∧ (Lit.int .i64 p.id).wf = true
theorem place_key (p : Pl) (h : PlWf p) : ∃ l, keyOf Try.prog 31 (plv p) = some l := by
  obtain ⟨k, i⟩ := p
  obtain ⟨h1, h2⟩ := h
  obtain ⟨m, hm⟩ : ∃ m, Try.prog.types.size = m + 1 := ⟨Try.prog.types.size - 1, by have : 0 < Try.prog.types.size := of_decide_eq_true (by kernel_rfl)
                                                                                    omega⟩
  have hkt : Try.prog.keyType 31 = true := by kernel_rfl
  have hc : Try.prog.cellsOf 31 = 2 := by kernel_rfl
  have hci : Try.prog.cellsOf 3 = 1 := by kernel_rfl
  unfold keyOf
  simp only [Try.underlying31]
  rw [if_pos (by simp [hkt, plv, Value.formed, Try.underlying31, hc]), hm]
  unfold Program.keyLits
  simp [Try.underlying31, plv, Value.cells, hc, hci, Program.keyLits, Try.underlying3, h1, h2]
/-- Block b is a map that counts places: how often each. -/
def Cts (w : World) (b : Nat) (C : Pl → Nat) : Prop :=
  ∃ es clock, w.heap[b]? = some (.map es clock) ∧ MapKept.Stamped es clock ∧ (∀ x ∈ es.toList, ∃ p, PlWf p ∧ x.key = plv p ∧ x.val = .int .i64 (C p : Int)) ∧ ∀ p, C p ≠ 0 → ∃ x ∈ es.toList, x.key = plv p
/-- .. in which a place has its entry, of this stamp. -/
def CtsAt (w : World) (b : Nat) (C : Pl → Nat) (p : Pl) (st : Nat) : Prop :=
  ∃ (es : Array MapEntry) (clock j : Nat) (e0 : MapEntry), w.heap[b]? = some (.map es clock) ∧ MapKept.Stamped es clock ∧ (∀ x ∈ es.toList, ∃ p, PlWf p ∧ x.key = plv p ∧ x.val = .int .i64 (C p : Int)) ∧ (∀ p, C p ≠ 0 → ∃ x ∈ es.toList, x.key = plv p) ∧
    es.toList[j]? = some e0 ∧ e0.key = plv p ∧ e0.born = st
theorem CtsAt.cts {w : World} {b : Nat} {C : Pl → Nat} {p : Pl} {st : Nat} (h : CtsAt w b C p st) : Cts w b C := by
  obtain ⟨es, clock, j, e0, h1, h2, h3, h4, _⟩ := h
  exact ⟨es, clock, h1, h2, h3, h4⟩
theorem Cts.kept {w w' : World} {b : Nat} {C : Pl → Nat} (h : Cts w b C) (hb : w'.heap[b]? = w.heap[b]?) : Cts w' b C := by
  obtain ⟨es, clock, h1, h2, h3, h4⟩ := h
  exact ⟨es, clock, hb.trans h1, h2, h3, h4⟩
theorem Cts.lt {w : World} {b : Nat} {C : Pl → Nat} (h : Cts w b C) : b < w.heap.size := by
  obtain ⟨es, clock, h1, _⟩ := h
  exact (Array.getElem?_eq_some_iff.1 h1).1
theorem Cts.new (w : World) : Cts (w.alloc (.map #[] 0)) w.heap.size (fun _ => 0) :=
  ⟨#[], 0, (MapKept.heap_alloc w _).1, MapKept.stamped_empty 0, by simp, fun p h => absurd rfl h⟩
theorem Cts.keys {w : World} {es : Array MapEntry} {C : Pl → Nat} (h : ∀ x ∈ es.toList, ∃ p, PlWf p ∧ x.key = plv p ∧ x.val = .int .i64 (C p : Int)) : ∀ x ∈ es.toList, ∃ l, keyOf Try.prog 31 x.key = some l := fun x hx => by
  obtain ⟨p, hp, hk, _⟩ := h x hx
  rw [hk]; exact place_key p hp
theorem place_zero (w : World) : (zeroValue 3).run Try.prog w = .ok (.int .i64 0) w := by kernel_rfl
/-- One more of a place. -/
def bump (C : Pl → Nat) (p : Pl) : Pl → Nat := fun q => if q = p then C p + 1 else C q
end Go.Proofs.Ytameelaiigljjaa
/- desc.fit: has no place more than it may? The walk. -/
namespace Go.Proofs.Ytameelaiigljjaa
open Go.ChangeShapes Go.WideShapes Go.ChangeAt Go.RowKit
set_option linter.unusedVariables false
open Go.RowKit
/-- An operation whose run is known, as one step of a region that draws its order: an entry of a map; its store. -/
theorem step_entry {P : Program} {ops : Array Oper} {o : Oper} {a : Act} {w : World} {K : Act → World → Prop} {Q : Exit → Act → World → Prop} {E : Prop}
    (hg : o.guard = none) (t : TypeId) (m x : Operand) (hop : o.op = Op.mapEntry t m x) (v u r : Value) (w' : World) (hm : a.eval m = v) (hx : a.eval x = u)
    (hrun : (Instr.mapEntry t v u).run P w = .ok r w') (hK : K (a.put o.dst r) w') : if Region.wanted o (yielded ops a.tmps) = true then Oper.wp P o a w K Q else E := by
  rw [if_pos (by simp [Region.wanted, hg])]
  unfold Oper.wp
  simp [execOp, hop, hm, hx, hrun, Result.andThen]
  exact hK
theorem step_stamp {P : Program} {ops : Array Oper} {o : Oper} {a : Act} {w : World} {K : Act → World → Prop} {Q : Exit → Act → World → Prop} {E : Prop}
    (hg : o.guard = none) (t : TypeId) (m s x : Operand) (hop : o.op = Op.entryStore t m s x) (v u y : Value) (w' : World) (hm : a.eval m = v) (hs : a.eval s = u) (hx : a.eval x = y)
    (hrun : (Instr.entryStore t v u y).run P w = .ok () w') (hK : K (a.put o.dst undef) w') : if Region.wanted o (yielded ops a.tmps) = true then Oper.wp P o a w K Q else E := by
  rw [if_pos (by simp [Region.wanted, hg])]
  unfold Oper.wp
  simp [execOp, hop, hm, hs, hx, hrun, Result.andThen]
  exact hK
theorem step_lookup {P : Program} {ops : Array Oper} {o : Oper} {a : Act} {w : World} {K : Act → World → Prop} {Q : Exit → Act → World → Prop} {E : Prop}
    (hg : o.guard = none) (t : TypeId) (m x : Operand) (c : Bool) (hop : o.op = Op.lookup t m x c) (v u r : Value) (w' : World) (hm : a.eval m = v) (hx : a.eval x = u)
    (hrun : (Instr.lookup t v u c).run P w = .ok r w') (hK : K (a.put o.dst r) w') : if Region.wanted o (yielded ops a.tmps) = true then Oper.wp P o a w K Q else E := by
  rw [if_pos (by simp [Region.wanted, hg])]
  unfold Oper.wp
  simp [execOp, hop, hm, hx, hrun, Result.andThen]
  exact hK
/-- So many of each, among the first. -/
def cntK (ps : List Pl) (k : Nat) : Pl → Nat := fun p => (ps.take k).count p
theorem cnt_bump {ps : List Pl} {k : Nat} (hk : k < ps.length) : bump (cntK ps k) ps[k] = cntK ps (k + 1) := by
  funext q
  simp only [bump, cntK]
  rw [List.take_succ_eq_append_getElem hk, List.count_append]
  by_cases e : q = ps[k]
  · rw [if_pos e, ← e]; simp
  · rw [if_neg e, show [ps[k]].count q = 0 from List.count_eq_zero.2 (by simpa using e)]; rfl
theorem cnt_le (ps : List Pl) (k : Nat) (p : Pl) : cntK ps k p ≤ ps.count p := by
  have h := List.count_append (a := p) (l₁ := ps.take k) (l₂ := ps.drop k)
  rw [List.take_append_drop] at h
  simp only [cntK]; omega
/-- Nobody has more, among the first. -/
def FitK (d : Ds) (ps : List Pl) (k : Nat) : Prop := ∀ p ∈ ps.take k, (cntK ps k p : Int) ≤ capOf d p.kind
theorem fit_step {d : Ds} {ps : List Pl} {k : Nat} (hk : k < ps.length) (h : FitK d ps k) (hc : (cntK ps (k + 1) ps[k] : Int) ≤ capOf d ps[k].kind) : FitK d ps (k + 1) := by
  intro p hp
  by_cases e : p = ps[k]
  · subst e; exact hc
  · rw [List.take_succ_eq_append_getElem hk, List.mem_append] at hp
    have hp2 : p ∈ ps.take k := by
      rcases hp with hp | hp
      · exact hp
      · exact absurd (by simpa using hp) e
    have := h p hp2
    rw [← cnt_bump hk]
    simp only [bump]
    rw [if_neg e]
    exact this
theorem fit_no {d : Ds} {ps : List Pl} {k : Nat} (hk : k < ps.length) (hc : ¬ (cntK ps (k + 1) ps[k] : Int) ≤ capOf d ps[k].kind) : fitB d ps = false := by
  refine all_not _ hk ?_
  have := cnt_le ps (k + 1) ps[k]
  simp only [decide_eq_false_iff_not]
  omega
theorem fit_end {d : Ds} {ps : List Pl} (h : FitK d ps ps.length) : fitB d ps = true := by
  simp only [fitB, List.all_eq_true, decide_eq_true_eq]
  intro p hp
  have := h p (by simpa using hp)
  simpa [cntK] using this
/-- A place's most. -/
def mostOf (d : Ds) (k : Int) : Nat → Int := fun i => if i = 0 then d.room else if i = 1 then d.player else d.box
theorem Cts.at_ {W : World} {n : Nat} (hn : W.heap.size = n) (ps : List Pl) : Cts (W.alloc (.map #[] 0)) n (cntK ps 0) := by
  subst hn
  rw [show cntK ps 0 = fun _ => 0 by funext p; simp [cntK]]
  exact Cts.new W
theorem grown_cell {W W' : World} {r : Option Nat} (hg : W.grownBy W' r) {p : Addr} (hp : p.block < W.heap.size) (hn : some p.block ≠ r) : W'.cell? p = W.cell? p := by
  simp [World.cell?, hg.block p.block hp hn]
end Go.Proofs.Ytameelaiigljjaa
/- desc.areNested: has the way up from each place an end? A closure that calls itself. -/
namespace Go.Proofs.Ytameelaiigljjaa
open Go.ChangeShapes Go.WideShapes Go.ChangeAt Go.RowKit
set_option linter.unusedVariables false
open Go.RowKit
/-- Each box that is told is one of the items. -/
def BoxesIn (ps : List Pl) : Prop := ∀ p ∈ ps, p.kind = 2 → 0 ≤ p.id ∧ p.id < ps.length
theorem cell_call {w w1 : World} {p : Addr} {v : Value} (h : w.cell? p = some v) (hb : Below w.heap.size w w1) : w1.cell? p = some v := by
  refine (hb.cell ?_).trans h
  apply Decidable.byContradiction; intro hn
  have e : w.heap[p.block]? = none := by simp; omega
  simp [World.cell?, e] at h
theorem bdrew1 {B : Nat} {a w : World} (h : Below B a w) : Below B a w.drew := ⟨h.os, h.tape, h.output, h.size, h.block⟩
theorem par_mem {ps : List Pl} {p : Pl} (h0 : 0 ≤ p.id) (h1 : p.id < ps.length) : par ps p = ps[p.id.toNat]'(by omega) := by
  simp [par, List.getD, List.getElem?_eq_getElem (show p.id.toNat < ps.length by omega)]
end Go.Proofs.Ytameelaiigljjaa
/- desc.areNested: the walk. -/
namespace Go.Proofs.Ytameelaiigljjaa
open Go.ChangeShapes Go.WideShapes Go.ChangeAt Go.RowKit
set_option linter.unusedVariables false
open Go.RowKit
theorem cell_lt {w : World} {p : Addr} {v : Value} (h : w.cell? p = some v) : p.block < w.heap.size := by
  apply Decidable.byContradiction; intro hn
  have e : w.heap[p.block]? = none := by simp; omega
  simp [World.cell?, e] at h
end Go.Proofs.Ytameelaiigljjaa
/- desc.May, desc.Right. -/
namespace Go.Proofs.Ytameelaiigljjaa
open Go.ChangeShapes Go.WideShapes Go.ChangeAt Go.RowKit
set_option linter.unusedVariables false
open Go.RowKit
theorem wf_small {n : Int} (h0 : -9223372036854775808 ≤ n) (h1 : n ≤ 9223372036854775807) : (Lit.int .i64 n).wf = true := by
  simp [Lit.wf, IntKind.min, IntKind.max, IntKind.signed, IntKind.bits]; omega
theorem floors_fit {d : Ds} (hx : ofB d.items d.exits.length = true) (hl : d.exits.length ≤ 9223372036854775807) : ∀ p ∈ floorsL d.items, 0 ≤ p.kind ∧ p.kind < 3 ∧ PlWf p := by
  intro p hp
  obtain ⟨r, hr, rfl⟩ := List.mem_map.1 hp
  have := (ofB_iff _ _).1 hx r hr
  exact ⟨by simp, by simp, wf_small (by simp) (by simp), wf_small (by simp only; omega) (by simp only; omega)⟩
end Go.Proofs.Ytameelaiigljjaa
/- desc.May. -/
namespace Go.Proofs.Ytameelaiigljjaa
open Go.ChangeShapes Go.WideShapes Go.ChangeAt Go.RowKit
set_option linter.unusedVariables false
open Go.RowKit
theorem ints3 {w : World} {n : Nat} {t : TypeId} {a b c : Int} (h : Blk w n t #[.int .i64 a, .int .i64 b, .int .i64 c]) : IntsAt w (some ⟨n, 0, none⟩) [a, b, c] :=
  h.ints (by simp [maxLen]) (fun i hi => by
    obtain rfl | rfl | rfl : i = 0 ∨ i = 1 ∨ i = 2 := by simp at hi; omega
    · rfl
    · rfl
    · rfl)
end Go.Proofs.Ytameelaiigljjaa
/- desc.Right. -/
namespace Go.Proofs.Ytameelaiigljjaa
open Go.ChangeShapes Go.WideShapes Go.ChangeAt Go.RowKit
set_option linter.unusedVariables false
open Go.RowKit
theorem places_boxes {d : Ds} {ps : List Pl} (hm : mayD d = true) (h : placesB d ps = true) : BoxesIn ps := by
  intro p hp hk
  simp only [placesB, Bool.and_eq_true, decide_eq_true_eq, List.all_eq_true] at h
  have h2 := h.2 p hp
  simp only [mayD, mayItB, Bool.and_eq_true, decide_eq_true_eq] at hm
  simp only [placeB, hk] at h2
  have h3 : inB p.id d.boxes.length = true := by
    cases e : inB p.id d.boxes.length
    · rw [e] at h2; simp at h2
    · rfl
  have := (inB_iff _ _).1 h3
  omega
theorem places_few {d : Ds} {ps : List Pl} (hm : mayD d = true) (h : placesB d ps = true) : ps.length ≤ 16 := by
  simp only [placesB, Bool.and_eq_true, decide_eq_true_eq] at h
  simp only [mayD, mayItB, Bool.and_eq_true, decide_eq_true_eq] at hm
  omega
theorem may_few {d : Ds} (hm : mayD d = true) : 1 ≤ d.exits.length ∧ d.exits.length ≤ 8 ∧ 1 ≤ d.players.length ∧ d.players.length ≤ 6 ∧ d.items.length ≤ 16 ∧ d.boxes.length = d.items.length ∧ d.coins.length = d.players.length := by
  simp only [mayD, roomsB, mayPlB, playersB, mayItB, Bool.and_eq_true, decide_eq_true_eq] at hm
  omega
theorem place_kinds {d : Ds} {p : Pl} (h : placeB d p = true) : (p.kind = 0 ∧ 0 ≤ p.id ∧ p.id < d.exits.length) ∨ (p.kind = 1 ∧ 0 ≤ p.id ∧ p.id < d.players.length) ∨ (p.kind = 2 ∧ 0 ≤ p.id ∧ p.id < d.boxes.length ∧ d.boxes.getD p.id.toNat false = true) := by
  unfold placeB at h
  by_cases h0 : p.kind = 0
  · rw [if_pos h0] at h; exact .inl ⟨h0, (inB_iff _ _).1 h⟩
  rw [if_neg h0] at h
  by_cases h1 : p.kind = 1
  · rw [if_pos h1] at h; exact .inr (.inl ⟨h1, (inB_iff _ _).1 h⟩)
  rw [if_neg h1] at h
  by_cases h2 : p.kind = 2
  · rw [if_pos h2, Bool.and_eq_true] at h
    have := (inB_iff _ _).1 h.1
    exact .inr (.inr ⟨h2, this.1, this.2, h.2⟩)
  · rw [if_neg h2] at h; cases h
theorem places_fit {d : Ds} {ps : List Pl} (hm : mayD d = true) (h : placesB d ps = true) : ∀ p ∈ ps, 0 ≤ p.kind ∧ p.kind < 3 ∧ PlWf p := by
  intro p hp
  simp only [placesB, Bool.and_eq_true, decide_eq_true_eq, List.all_eq_true] at h
  have hf := may_few hm
  rcases place_kinds (h.2 p hp) with h | h | h
  all_goals exact ⟨by omega, by omega, wf_small (by omega) (by omega), wf_small (by omega) (by omega)⟩
end Go.Proofs.Ytameelaiigljjaa
/- slices.Clone of the lists of a world: each in a block of its own. -/
namespace Go.Proofs.Ytameelaiigljjaa
open Go.ChangeShapes Go.WideShapes Go.ChangeAt Go.RowKit
set_option linter.unusedVariables false
open Go.RowKit
theorem flat_len {α : Type} {k : Nat} {enc : α → List Value} (he : ∀ x, (enc x).length = k) : ∀ xs : List α, (xs.flatMap enc).length = xs.length * k
  | [] => by simp
  | x :: r => by rw [List.flatMap_cons, List.length_append, flat_len he r, he, List.length_cons, Nat.add_mul, Nat.one_mul, Nat.add_comm]
theorem flat_get {α : Type} {k : Nat} {enc : α → List Value} (he : ∀ x, (enc x).length = k) : ∀ (xs : List α) (i : Nat) (hi : i < xs.length) (j : Nat), j < k → (xs.flatMap enc)[i * k + j]? = (enc xs[i])[j]?
  | [], i, hi, _, _ => by simp at hi
  | x :: r, 0, _, j, hj => by
    rw [List.flatMap_cons, Nat.zero_mul, Nat.zero_add, List.getElem?_append_left (by rw [he]; exact hj)]; rfl
  | x :: r, i + 1, hi, j, hj => by
    rw [List.flatMap_cons, List.getElem?_append_right (by rw [he, Nat.add_mul]; omega), he, show (i + 1) * k + j - k = i * k + j by rw [Nat.add_mul]; omega, flat_get he r i (by simpa using hi) j hj]; rfl
/-- A list in a block of its own, from block n on; or none. -/
def OwnR {α : Type} (k : Nat) (e : TypeId) (enc : α → List Value) (n : Nat) (W : World) (a : Option Addr) (xs : List α) : Prop :=
  xs.length ≤ maxLen ∧ ((xs = [] ∧ a = none) ∨ ∃ b cs, a = some ⟨b, 0, none⟩ ∧ n ≤ b ∧ Blk W b e cs ∧ ∀ i (hi : i < xs.length) j, j < k → cs[i * k + j]? = (enc xs[i])[j]?)
theorem OwnR.row {α : Type} {k : Nat} {e : TypeId} {enc : α → List Value} {n : Nat} {W : World} {a : Option Addr} {xs : List α} (h : OwnR k e enc n W a xs) : RowAt k enc W a xs := by
  obtain ⟨hl, h⟩ := h
  refine ⟨hl, ?_⟩
  rcases h with ⟨rfl, rfl⟩ | ⟨b, cs, rfl, _, hb, hc⟩
  · exact .inl rfl
  · exact .inr ⟨b, 0, rfl, hb.lt, fun i hi j hj => by rw [Nat.zero_add, hb.cell]; exact hc i hi j hj⟩
theorem append_row {α : Type} {P : Program} (t e : TypeId) (k bytes : Nat) (z : Value) (enc : α → List Value) (hu : P.underlying t = some (.slice e)) (hinfo : (P.info? e).map (fun i => (i.zero, i.size, i.bytes)) = some (some z, k, bytes))
    (hz : z.cells.size = k) (hk : 0 < k) (hby : bytes ≤ 64) (he : ∀ x, (enc x).length = k) (hone : ∀ x, ∀ u ∈ enc x, u.oneCell' = true) {W : World} (n : Nat) {a : Option Addr} {cap : Nat} {xs : List α} (hn : Blk W n e #[]) (hx : RowAt k enc W a xs) (hl : xs.length ≤ 1000000) :
    ∃ g c cur W', (Builtin.append_ #[t, t] t #[.slice (some ⟨n, 0, none⟩) 0 0, .slice a xs.length cap]).run P W = .ok (.slice (some ⟨g, 0, none⟩) xs.length c) W' ∧
      n ≤ g ∧ Blk W' g e cur ∧ (∀ i (hi : i < xs.length) j, j < k → cur[i * k + j]? = (enc xs[i])[j]?) ∧ Below n W W' := by
  obtain ⟨i0, hi0, hz0, hz1, hz2⟩ := info_parts hinfo
  have hlt := hn.lt
  have hown : W.ownsRow n e k (.slice (some ⟨n, 0, none⟩) 0 0) 0 [] := ⟨by simp, .inr ⟨n, 0, #[], rfl, Nat.le_refl _, hn, Nat.le_refl _, by unfold maxLen; omega, by simp, by simp⟩⟩
  by_cases hxe : xs = []
  · subst hxe
    have hsrc : Src P i0.size t (.slice a 0 cap) 0 [] W := by
      cases a with
      | none => exact Src.ofNil (w := W) hu cap
      | some p => exact Src.ofSlice W hu p 0 cap [] (by simp) (by simp) (by simp)
    exact ⟨n, 0, #[], W, run_append_nothing W t t t e i0 hu hi0 (some ⟨n, 0, none⟩) 0 0 (Nat.le_refl _) _ hsrc, Nat.le_refl _, hn, fun i hi => absurd hi (by simp), Below.refl _ _⟩
  · rcases hx.2 with h | ⟨b, off, rfl, hb2, hc⟩
    · exact absurd h hxe
    · have hmem : ∀ j u, (xs.flatMap enc)[j]? = some u → W.cell? ((⟨b, off, none⟩ : Addr).add j) = some u := by
        intro j u hj
        have hjl : j < xs.length * k := by rw [← flat_len he xs]; exact (List.getElem?_eq_some_iff.1 hj).1
        have hdiv : j / k < xs.length := (Nat.div_lt_iff_lt_mul hk).2 hjl
        have hmod : j % k < k := Nat.mod_lt _ hk
        have e1 : j / k * k + j % k = j := by rw [Nat.mul_comm]; exact Nat.div_add_mod j k
        have e2 := flat_get he xs (j / k) hdiv (j % k) hmod
        rw [e1, hj] at e2
        have e3 := hc (j / k) hdiv (j % k) hmod
        rw [show off + j / k * k + j % k = off + j by omega, ← e2] at e3
        by_cases h0 : j = 0 <;> simp [Addr.add, h0] at e3 ⊢ <;> exact e3
      obtain ⟨v', W', hr, h1, h2, -⟩ := run_append_own (P := P) W n t t e i0 z k bytes hu hi0 hz0 hz1 hz2 hz hk _ 0 [] hown ⟨b, off, none⟩ xs.length cap (xs.flatMap enc) (flat_len he xs) hmem
        (fun u hu => by obtain ⟨x, _, h⟩ := List.mem_flatMap.1 hu; exact hone x u h) (by unfold maxLen; omega) (Nat.le_trans (Nat.mul_le_mul (show 0 + xs.length ≤ 1000000 by omega) hby) (by decide)) (by omega)
      have hp : 0 < xs.length := List.length_pos_iff.2 hxe
      rcases h1.2 with ⟨_, h0⟩ | ⟨g, c, cur, rfl, hg, hh, hcap, _, hsz, htk⟩
      · omega
      · refine ⟨g, c, cur, W', by rw [hr, Nat.zero_add], hg, hh, fun i hi j hj => ?_, (Below.refl _ _).grown h2 (by omega) (fun q hq => by have := (hown.lt q hq).1; exact this)⟩
        have e : (cur.toList.take ((0 + xs.length) * k))[i * k + j]? = (([] ++ xs.flatMap enc) : List Value)[i * k + j]? := by rw [htk]
        have hlt2 : i * k + j < xs.length * k := by
          have : (i + 1) * k ≤ xs.length * k := Nat.mul_le_mul (by omega) (Nat.le_refl _)
          rw [Nat.add_mul, Nat.one_mul] at this
          omega
        rw [List.getElem?_take, if_pos (by rw [Nat.zero_add]; exact hlt2), List.nil_append, flat_get he xs i hi j hj] at e
        simpa using e
theorem exC_len (x : Ex) : (exC x).length = 4 := rfl
theorem plC_len (x : Pl) : (plC x).length = 2 := rfl
theorem blC_len (x : Bool) : (blC x).length = 1 := rfl
theorem inC_len (x : Int) : (inC x).length = 1 := rfl
theorem exC_one (x : Ex) : ∀ u ∈ exC x, u.oneCell' = true := by intro u hu; simp [exC] at hu; rcases hu with rfl | rfl | rfl | rfl <;> rfl
theorem plC_one (x : Pl) : ∀ u ∈ plC x, u.oneCell' = true := by intro u hu; simp [plC] at hu; rcases hu with rfl | rfl <;> rfl
theorem blC_one (x : Bool) : ∀ u ∈ blC x, u.oneCell' = true := by intro u hu; simp [blC] at hu; subst hu; rfl
theorem inC_one (x : Int) : ∀ u ∈ inC x, u.oneCell' = true := by intro u hu; simp [inC] at hu; subst hu; rfl
theorem ex_info : (Try.prog.info? 56).map (fun i => (i.zero, i.size, i.bytes)) = some (some (.agg #[.int .i64 0, .int .i64 0, .int .i64 0, .int .i64 0]), 4, 32) := by kernel_rfl
theorem bool_info : (Try.prog.info? 4).map (fun i => (i.zero, i.size, i.bytes)) = some (some (.bool false), 1, 1) := by kernel_rfl
theorem nil_ints (c : Nat) (w : World) : (binOp .eql 23 (.slice none 0 c) (.slice none 0 0)).run Try.prog w = .ok (.bool true) w := by kernel_rfl
theorem some_ints (p : Addr) (l c : Nat) (w : World) : (binOp .eql 23 (.slice (some p) l c) (.slice none 0 0)).run Try.prog w = .ok (.bool false) w := by kernel_rfl
theorem nil_places (c : Nat) (w : World) : (binOp .eql 27 (.slice none 0 c) (.slice none 0 0)).run Try.prog w = .ok (.bool true) w := by kernel_rfl
theorem some_places (p : Addr) (l c : Nat) (w : World) : (binOp .eql 27 (.slice (some p) l c) (.slice none 0 0)).run Try.prog w = .ok (.bool false) w := by kernel_rfl
theorem nil_exits (c : Nat) (w : World) : (binOp .eql 22 (.slice none 0 c) (.slice none 0 0)).run Try.prog w = .ok (.bool true) w := by kernel_rfl
theorem some_exits (p : Addr) (l c : Nat) (w : World) : (binOp .eql 22 (.slice (some p) l c) (.slice none 0 0)).run Try.prog w = .ok (.bool false) w := by kernel_rfl
theorem nil_bools (c : Nat) (w : World) : (binOp .eql 24 (.slice none 0 c) (.slice none 0 0)).run Try.prog w = .ok (.bool true) w := by kernel_rfl
theorem some_bools (p : Addr) (l c : Nat) (w : World) : (binOp .eql 24 (.slice (some p) l c) (.slice none 0 0)).run Try.prog w = .ok (.bool false) w := by kernel_rfl
end Go.Proofs.Ytameelaiigljjaa
/- desc.copyDesc: a description, each of its lists in memory of its own. -/
namespace Go.Proofs.Ytameelaiigljjaa
open Go.ChangeShapes Go.WideShapes Go.ChangeAt Go.RowKit
set_option linter.unusedVariables false
open Go.RowKit
section
variable {α : Type} {k : Nat} {e : TypeId} {enc : α → List Value} {n : Nat} {W W' : World} {a : Option Addr} {xs : List α}
theorem OwnR.keep (h : OwnR k e enc n W a xs) (hb : ∀ b, n ≤ b → b < W.heap.size → W'.heap[b]? = W.heap[b]?) : OwnR k e enc n W' a xs := by
  obtain ⟨hl, h⟩ := h
  refine ⟨hl, h.imp id ?_⟩
  rintro ⟨b, cs, rfl, hn, hB, hc⟩
  exact ⟨b, cs, rfl, hn, (hb b hn hB.lt).trans hB, hc⟩
theorem OwnR.call (h : OwnR k e enc n W a xs) (hb : Below W.heap.size W W') : OwnR k e enc n W' a xs := h.keep (fun b _ hl => hb.block b hl)
theorem OwnR.alloc (h : OwnR k e enc n W a xs) (o : Obj) : OwnR k e enc n (W.alloc o) a xs := h.call ((Below.refl _ _).alloc (Nat.le_refl _) _)
theorem OwnR.drew (h : OwnR k e enc n W a xs) : OwnR k e enc n W.drew a xs := h
theorem OwnR.set (h : OwnR k e enc n W a xs) {q : Nat} (hq : q < n) (i : Nat) (u : Value) : OwnR k e enc n (W.setCell ⟨q, i, none⟩ u) a xs :=
  h.keep (fun b hn _ => Below.heap_setCell W _ u b (by show b ≠ q; omega))
theorem OwnR.less (h : OwnR k e enc n W a xs) {m : Nat} (hm : m ≤ n) : OwnR k e enc m W a xs := by
  obtain ⟨hl, h⟩ := h
  refine ⟨hl, h.imp id ?_⟩
  rintro ⟨b, cs, rfl, hn, hB, hc⟩
  exact ⟨b, cs, rfl, by omega, hB, hc⟩
end
/-- A description whose lists lie each in a block of its own, from block n on. -/
structure DescOwn (n : Nat) (W : World) (p : Dp) (d : Ds) : Prop where
  ex : OwnR 4 56 exC n W p.ex d.exits
  pl : OwnR 1 3 inC n W p.pl d.players
  co : OwnR 1 3 inC n W p.co d.coins
  it : OwnR 1 3 inC n W p.it d.items
  bo : OwnR 1 4 blC n W p.bo d.boxes
theorem DescOwn.desc {n : Nat} {W : World} {p : Dp} {d : Ds} (h : DescOwn n W p d) : DescAt W p d := ⟨h.ex.row, ints_row.2 h.pl.row, ints_row.2 h.co.row, ints_row.2 h.it.row, h.bo.row⟩
theorem DescOwn.keep {n : Nat} {W W' : World} {p : Dp} {d : Ds} (h : DescOwn n W p d) (hb : ∀ b, n ≤ b → b < W.heap.size → W'.heap[b]? = W.heap[b]?) : DescOwn n W' p d := ⟨h.ex.keep hb, h.pl.keep hb, h.co.keep hb, h.it.keep hb, h.bo.keep hb⟩
theorem DescOwn.call {n : Nat} {W W' : World} {p : Dp} {d : Ds} (h : DescOwn n W p d) (hb : Below W.heap.size W W') : DescOwn n W' p d := h.keep (fun b _ hl => hb.block b hl)
/-- Short lists. -/
def FewD (d : Ds) : Prop := d.exits.length ≤ 1000000 ∧ d.players.length ≤ 1000000 ∧ d.coins.length ≤ 1000000 ∧ d.items.length ≤ 1000000 ∧ d.boxes.length ≤ 1000000
/-- The world in the midst of a call that has boxed its argument and keeps its result in a block. -/
structure Two (t u : TypeId) (w v : World) (cs z : Array Value) : Prop where
  a : Blk v w.heap.size t cs
  r : Blk v (w.heap.size + 1) u z
  b : Below w.heap.size w v
section
variable {t s : TypeId} {w v v1 : World} {cs z : Array Value}
theorem Two.start (t s : TypeId) (w : World) (cs z : Array Value) : Two t s w ((w.alloc (.cells cs t)).alloc (.cells z s)) cs z :=
  ⟨(Blk.new w _ cs).alloc _, Blk.newn _ _ _ (by simp), ((Below.refl _ _).alloc (Nat.le_refl _) _).alloc (by simp) _⟩
theorem Two.call (h : Two t s w v cs z) (hb : Below v.heap.size v v1) : Two t s w v1 cs z := ⟨h.a.call hb, h.r.call hb, bl h.b (hb.mono (Nat.le_refl _))⟩
theorem Two.drew (h : Two t s w v cs z) : Two t s w v.drew cs z := ⟨h.a, h.r, ⟨h.b.os, h.b.tape, h.b.output, h.b.size, h.b.block⟩⟩
theorem Two.set (h : Two t s w v cs z) (i : Nat) (u : Value) : Two t s w (v.setCell ⟨w.heap.size, i, none⟩ u) (cs.setIfInBounds i u) z :=
  ⟨h.a.set_ i u, h.r.far (by show w.heap.size + 1 ≠ w.heap.size; omega) u, h.b.setCell (Nat.le_refl _) u⟩
theorem Two.set2 (h : Two t s w v cs z) (i : Nat) (u : Value) : Two t s w (v.setCell ⟨w.heap.size + 1, i, none⟩ u) cs (z.setIfInBounds i u) :=
  ⟨h.a.far (by show w.heap.size ≠ w.heap.size + 1; omega) u, h.r.set_ i u, h.b.setCell (by show w.heap.size ≤ w.heap.size + 1; omega) u⟩
theorem Two.alloc (h : Two t s w v cs z) (o : Obj) : Two t s w (v.alloc o) cs z := ⟨h.a.alloc o, h.r.alloc o, h.b.alloc h.b.size o⟩
theorem Two.size (h : Two t s w v cs z) : w.heap.size + 2 ≤ v.heap.size := h.r.lt
end
end Go.Proofs.Ytameelaiigljjaa
/- desc.Copy: a world, each of its lists in memory of its own. -/
namespace Go.Proofs.Ytameelaiigljjaa
open Go.ChangeShapes Go.WideShapes Go.ChangeAt Go.RowKit
set_option linter.unusedVariables false
open Go.RowKit
/-- A world whose description's lists lie from block n on, ahead of its own: each of these in a block of its own, in this order. -/
structure WorldOwn (n : Nat) (W : World) (p : Wp) (x : Wd) : Prop where
  ex : ∃ m1 m2 m3 : Nat, n ≤ m1 ∧ m1 ≤ m2 ∧ m2 ≤ m3 ∧ m3 ≤ W.heap.size ∧ DescOwn n W p.d x.d ∧ (∀ q, (p.d.ex = some q ∨ p.d.pl = some q ∨ p.d.co = some q ∨ p.d.it = some q ∨ p.d.bo = some q) → q.block < m1) ∧
    OwnR 1 3 inC m1 W p.at_ x.at_ ∧ (∀ q, p.at_ = some q → q.block < m2) ∧ OwnR 1 3 inC m2 W p.co x.coins ∧ (∀ q, p.co = some q → q.block < m3) ∧ OwnR 2 31 plC m3 W p.wh x.wher
theorem WorldOwn.world {n : Nat} {W : World} {p : Wp} {x : Wd} (h : WorldOwn n W p x) : WorldAt W p x := by
  obtain ⟨m1, m2, m3, _, _, _, _, hd, _, ha, _, hc, _, hw⟩ := h.ex
  exact ⟨hd.desc, ints_row.2 ha.row, ints_row.2 hc.row, hw.row⟩
theorem WorldOwn.call {n : Nat} {W W' : World} {p : Wp} {x : Wd} (h : WorldOwn n W p x) (hb : Below W.heap.size W W') : WorldOwn n W' p x := by
  obtain ⟨m1, m2, m3, h1, h2, h3, h4, hd, hdm, ha, ham, hc, hcm, hw⟩ := h.ex
  exact ⟨m1, m2, m3, h1, h2, h3, Nat.le_trans h4 hb.size, hd.call hb, hdm, ha.call hb, ham, hc.call hb, hcm, hw.call hb⟩
theorem WorldOwn.less {n m : Nat} {W : World} {p : Wp} {x : Wd} (h : WorldOwn n W p x) (hm : m ≤ n) : WorldOwn m W p x := by
  obtain ⟨m1, m2, m3, h1, h2, h3, h4, hd, hr⟩ := h.ex
  exact ⟨m1, m2, m3, by omega, h2, h3, h4, ⟨hd.ex.less hm, hd.pl.less hm, hd.co.less hm, hd.it.less hm, hd.bo.less hm⟩, hr⟩
theorem OwnR.in_ {α : Type} {k : Nat} {e : TypeId} {enc : α → List Value} {n : Nat} {W : World} {a : Option Addr} {xs : List α} (h : OwnR k e enc n W a xs) {q : Addr} (hq : a = some q) : q.block < W.heap.size := by
  rcases h.2 with ⟨_, h⟩ | ⟨b, cs, h, _, hb, _⟩
  · rw [h] at hq; cases hq
  · rw [h] at hq; cases hq; exact hb.lt
def FewW (x : Wd) : Prop := FewD x.d ∧ x.at_.length ≤ 1000000 ∧ x.coins.length ≤ 1000000 ∧ x.wher.length ≤ 1000000
theorem world_own {n : Nat} {w1 w2 w3 w4 : World} {p : Wp} {x : Wd} (hn : n ≤ w1.heap.size) (hd : DescOwn n w1 p.d x.d) (ha : OwnR 1 3 inC w1.heap.size w2 p.at_ x.at_) (b2 : Below w1.heap.size w1 w2)
    (hc : OwnR 1 3 inC w2.heap.size w3 p.co x.coins) (b3 : Below w2.heap.size w2 w3) (hw : OwnR 2 31 plC w3.heap.size w4 p.wh x.wher) (b4 : Below w3.heap.size w3 w4) : WorldOwn n w4 p x := by
  refine ⟨w1.heap.size, w2.heap.size, w3.heap.size, hn, b2.size, b3.size, b4.size, ((hd.call b2).call b3).call b4, ?_, (ha.call b3).call b4, fun q hq => ha.in_ hq, hc.call b4, fun q hq => hc.in_ hq, hw⟩
  rintro q (h | h | h | h | h)
  · exact hd.ex.in_ h
  · exact hd.pl.in_ h
  · exact hd.co.in_ h
  · exact hd.it.in_ h
  · exact hd.bo.in_ h
theorem WorldOwn.keep {n : Nat} {W W' : World} {p : Wp} {x : Wd} (h : WorldOwn n W p x) (hs : W.heap.size ≤ W'.heap.size) (hb : ∀ b, n ≤ b → b < W.heap.size → W'.heap[b]? = W.heap[b]?) : WorldOwn n W' p x := by
  obtain ⟨m1, m2, m3, h1, h2, h3, h4, hd, hdm, ha, ham, hc, hcm, hw⟩ := h.ex
  exact ⟨m1, m2, m3, h1, h2, h3, Nat.le_trans h4 hs, hd.keep hb, hdm, ha.keep (fun b hn => hb b (by omega)), ham, hc.keep (fun b hn => hb b (by omega)), hcm, hw.keep (fun b hn => hb b (by omega))⟩
theorem WorldOwn.set {n : Nat} {W : World} {p : Wp} {x : Wd} (h : WorldOwn n W p x) {q : Nat} (hq : q < n) (i : Nat) (u : Value) : WorldOwn n (W.setCell ⟨q, i, none⟩ u) p x :=
  h.keep (by simp [World.setCell]) (fun b hn _ => Below.heap_setCell W _ u b (by show b ≠ q; omega))
def TwoE (t s : TypeId) (w v : World) (cs : Array Value) : Prop := ∃ z, Two t s w v cs z
theorem TwoE.mk {t s : TypeId} {w v : World} {cs z : Array Value} (h : Two t s w v cs z) : TwoE t s w v cs := ⟨z, h⟩
theorem TwoE.set2 {t s : TypeId} {w v : World} {cs : Array Value} (h : TwoE t s w v cs) (i : Nat) (u : Value) : TwoE t s w (v.setCell ⟨w.heap.size + 1, i, none⟩ u) cs := h.elim fun _ h => ⟨_, h.set2 i u⟩
theorem two_S {t s : TypeId} {w v : World} {cs : Array Value} (h : TwoE t s w v cs) : Below w.heap.size w v ∧ w.heap.size < v.heap.size ∧ (∀ i, v.cell? ⟨w.heap.size, i, none⟩ = cs[i]?) ∧ w.heap.size + 1 < v.heap.size := h.elim fun _ h => ⟨h.b, h.a.lt, h.a.cell, h.r.lt⟩
end Go.Proofs.Ytameelaiigljjaa
/- desc.New: the world of a description. -/
namespace Go.Proofs.Ytameelaiigljjaa
open Go.ChangeShapes Go.WideShapes Go.ChangeAt Go.RowKit
set_option linter.unusedVariables false
open Go.RowKit
/-- What New hands back of a description that may be. -/
def NewOut (d : Ds) (w : World) (e : Ending) (w' : World) : Prop := ∃ (x : Wd) (q : Wp), x = newW d ∧ e = .returned (.tuple #[.agg #[.slice q.d.ex x.d.exits.length q.d.exc, .slice q.d.pl x.d.players.length q.d.plc, .slice q.d.co x.d.coins.length q.d.coc, .slice q.d.it x.d.items.length q.d.itc, .slice q.d.bo x.d.boxes.length q.d.boc, .int .i64 x.d.room, .int .i64 x.d.player, .int .i64 x.d.box, .slice q.at_ x.at_.length q.atc, .slice q.co x.coins.length q.coc, .slice q.wh x.wher.length q.whc], .int .i64 0]) ∧ WorldOwn w.heap.size w' q x ∧ Below w.heap.size w w'
end Go.Proofs.Ytameelaiigljjaa
/- Lists of a world held against one another: slices.Equal of them, and the document's own Places. -/
namespace Go.Proofs.Ytameelaiigljjaa
open Go.ChangeShapes Go.WideShapes Go.ChangeAt Go.RowKit
set_option linter.unusedVariables false
open Go.RowKit
theorem run_pl (a1 a2 b1 b2 : Int) (w : World) : (binOp .neq 31 (.agg #[.int .i64 a1, .int .i64 a2]) (.agg #[.int .i64 b1, .int .i64 b2])).run Try.prog w = .ok (.bool (!decide ((⟨a1, a2⟩ : Pl) = ⟨b1, b2⟩))) w := by
  by_cases e1 : a1 = b1
  · by_cases e2 : a2 = b2
    · subst e1 e2; go_simp
    · go_simp
  · go_simp
theorem run_eq4 (a1 a2 a3 a4 b1 b2 b3 b4 : Int) (w : World) : (Op.equalIn (9999 + 1) 56 (.agg #[.int .i64 a1, .int .i64 a2, .int .i64 a3, .int .i64 a4]) (.agg #[.int .i64 b1, .int .i64 b2, .int .i64 b3, .int .i64 b4])).run Try.prog w = .ok (decide ((⟨a1, a2, a3, a4⟩ : Ex) = ⟨b1, b2, b3, b4⟩)) w := by
  have hu := Try.underlying3
  unfold Op.equalIn
  simp [run_underlying Try.underlying56, List.range', go_sem]
  by_cases e1 : a1 = b1
  · by_cases e2 : a2 = b2
    · by_cases e3 : a3 = b3
      · by_cases e4 : a4 = b4
        · simp [e1, e2, e3, e4]
        · simp [e1, e2, e3, e4]
      · simp [e1, e2, e3]
    · simp [e1, e2]
  · simp [e1]
theorem run_ex (a1 a2 a3 a4 b1 b2 b3 b4 : Int) (w : World) : (binOp .neq 56 (.agg #[.int .i64 a1, .int .i64 a2, .int .i64 a3, .int .i64 a4]) (.agg #[.int .i64 b1, .int .i64 b2, .int .i64 b3, .int .i64 b4])).run Try.prog w = .ok (.bool (!decide ((⟨a1, a2, a3, a4⟩ : Ex) = ⟨b1, b2, b3, b4⟩))) w := by
  rw [run_neq_struct, run_eq4]; rfl
theorem refplaces_cells (a b : Option Addr) (ca cb : Nat) (xs ys : List Pl) (w : World) (hl : xs.length = ys.length) (h1 : PlsAt w a xs) (h2 : PlsAt w b ys) :
    Calls Try.prog 37 #[.slice a xs.length ca, .slice b ys.length cb] w fun e w' => e = .returned (.bool (decide (xs = ys))) ∧ Below w.heap.size w w' := by
  have hm := h1.len
  have H1 := Lib.hid h1
  have H2 := Lib.hid h2
  have HL := Lib.hid hl
  rw [← hl]
  clear h1 h2 hl
  go_enter Try.func37, Try.ntmps37
  go_wp2_with fail
  go_loopw [5] (fun i wr => ∃ k : Nat, k ≤ xs.length ∧ i = .int .i64 k ∧ xs.take k = ys.take k ∧ Below w.heap.size w wr) (fun i _ => xs.length - (intOf i).toNat)
  case atStart => exact ⟨0, Nat.zero_le _, rfl, rfl, Below.refl _ _⟩
  case round =>
    obtain ⟨k, hk, rfl, htk, hbel⟩ := hrel
    have HT := Lib.hid htk
    clear htk
    by_cases hlt : k < xs.length
    · have hy : k < ys.length := by have := HL.out; omega
      obtain ⟨xb, xo, rfl, hxb, c0, c1⟩ := PlsAt.cells (RowAt.below H1.out hbel (Nat.le_refl _)) hlt
      obtain ⟨yb, yo, rfl, hyb, d0, d1⟩ := PlsAt.cells (RowAt.below H2.out hbel (Nat.le_refl _)) hy
      clear H1 H2
      have HX := Lib.hid (take_eq_succ hlt hy HT.out)
      have HN : Hid (¬ xs[k] = ys[k] → ¬ xs = ys) := Lib.hid (fun h e => by subst e; exact h rfl)
      generalize hx : xs[k] = x at *
      generalize hyy : ys[k] = y at *
      have G1 := Lib.hid hx
      have G2 := Lib.hid hyy
      clear hx hyy
      have hrun := run_pl x.kind x.id y.kind y.id
      obtain ⟨x0, x1⟩ := x
      obtain ⟨y0, y1⟩ := y
      by_cases he : (⟨x0, x1⟩ : Pl) = ⟨y0, y1⟩
      · have HX2 := Lib.hid (HX.out he)
        simp only [he, decide_true, Bool.not_true] at hrun
        clear he
        go_wp2_with fail
        go_quiet (fail)
        go_wp2_with fail
        go_roundw
        case rel => exact ⟨k + 1, by omega, by go_num, HX2.out, bdrew hbel _⟩
        case measure => simp [intOf]; omega
      · have HD := Lib.hid (show decide (xs = ys) = false by simpa using HN.out he)
        simp only [he, decide_false, Bool.not_false] at hrun
        clear he
        go_wp2_with fail
        go_quiet (fail)
        go_wp2_with fail
        go_ret
        exact ⟨ret_bool (by rw [HD.out]), bdrew hbel _⟩
    · have hke : k = xs.length := by omega
      subst hke
      have HD := Lib.hid (show decide (xs = ys) = true by
        have := HT.out
        rw [List.take_of_length_le (Nat.le_refl _), HL.out, List.take_of_length_le (Nat.le_refl _)] at this
        simpa using this)
      clear H1 H2
      go_wp2_with fail
      go_ret
      exact ⟨ret_bool (by rw [HD.out]), hbel⟩
theorem refplaces_any (a b : Option Addr) (ca cb : Nat) (xs ys : List Pl) (w : World) (h1 : PlsAt w a xs) (h2 : PlsAt w b ys) :
    Calls Try.prog 37 #[.slice a xs.length ca, .slice b ys.length cb] w fun e w' => e = .returned (.bool (decide (xs = ys))) ∧ Below w.heap.size w w' := by
  by_cases h : xs.length = ys.length
  · exact refplaces_cells a b ca cb xs ys w h h1 h2
  · have HD := Lib.hid (show decide (xs = ys) = false by rw [decide_eq_false_iff_not]; intro e; exact h (by rw [e]))
    rw [HD.out]
    have hl := h1.len
    have hl2 := h2.len
    clear h1 h2
    have hb : ((xs.length : Int) == (ys.length : Int)) = false := by rw [beq_eq_false_iff_ne]; omega
    have hb2 : ((xs.length : Int) != (ys.length : Int)) = true := by rw [bne, hb]; rfl
    go_enter Try.func37, Try.ntmps37
    go_wp2_with fail
    go_ret
    exact ⟨rfl, Below.refl _ _⟩
end Go.Proofs.Ytameelaiigljjaa
/- desc.Same: are two worlds the same? -/
namespace Go.Proofs.Ytameelaiigljjaa
open Go.ChangeShapes Go.WideShapes Go.ChangeAt Go.RowKit
set_option linter.unusedVariables false
open Go.RowKit
end Go.Proofs.Ytameelaiigljjaa
