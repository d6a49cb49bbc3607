import Derived.Test.YtinjpkbpdhihjaaDoorRows
import Derived.Test.YtinjpkbpdhihjaaDoorKit
import Derived.Test.YtinjpkbpdhihjaaDoorStrs
import Derived.Test.YtinjpkbpdhihjaaDoorJTab
import Derived.Test.YtinjpkbpdhihjaaDoorJBlk
import Derived.Test.YtinjpkbpdhihjaaDoorJMath
import Derived.Test.YtinjpkbpdhihjaaDoorJCmdNames1
import Derived.Test.YtinjpkbpdhihjaaDoorJLinePart
import Derived.Test.YtinjpkbpdhihjaaDoorJLineTrade
import Derived.Test.YtinjpkbpdhihjaaDoorJAny
import Derived.Maps.Own
import Derived.Shelf.Abstract
import Derived.WalkKit
import Derived.ProofKit
import Derived.OpenShut
import Derived.IntWalk
/- line: the map of each kind's pieces: one region of 71 operations that draws its order, by an invariant. -/
namespace Go.Proofs.YtinjpkbpdhihjaaDoor
open Go.ChangeShapes Go.WideShapes Go.ChangeAt Go.RowKit
set_option linter.unusedVariables false
open Go.RowKit Go.ChangeMaps Go.MapKept
/-- Rows stay as they are. -/
def KeepC (W W' : World) : Prop := ∀ (b : Nat) (cs : Array Value) (t : TypeId) (f : Nat × Nat), W.heap[b]? = some (.cells cs t f) → W'.heap[b]? = some (.cells cs t f)
theorem KeepC.below {W W' : World} (hb : Below W.heap.size W W') : KeepC W W' := fun b cs t f h => (hb.block b (Array.getElem?_eq_some_iff.1 h).1).trans h
theorem KeepC.set {W : World} {b n : Nat} {es : Array MapEntry} (h : W.heap[b]? = some (.map es n)) (o : Obj) : KeepC W (setBlock W b o) := fun i cs t f hi => (heap_setBlock_other h o (by intro e; subst e; rw [h] at hi; cases hi)).trans hi
theorem Blk.keepc {W W' : World} {g : Nat} {t : TypeId} {cs : Array Value} (h : Blk W g t cs) (k : KeepC W W') : Blk W' g t cs := k _ _ _ _ h
theorem PartAt.keepc {W W' : World} {lo B : Nat} {pv tv : Value} {p : Pt} (h : PartAt W lo B pv tv p) (k : KeepC W W') : PartAt W' lo B pv tv p := by
  cases p with
  | one q f =>
    obtain ⟨a, b, c, h1, h2, h3, e1, e2, b1, b2, b3⟩ := h
    exact ⟨a, b, c, h1, h2, h3, e1, e2, b1.keepc k, b2.keepc k, b3.keepc k⟩
  | word x => obtain ⟨a, h1, e1, e2, b1⟩ := h; exact ⟨a, h1, e1, e2, b1.keepc k⟩
  | nums g => obtain ⟨a, h1, e1, e2, b1⟩ := h; exact ⟨a, h1, e1, e2, b1.keepc k⟩
theorem AccL.keepc {W W' : World} {lo B : Nat} (k : KeepC W W') : ∀ {l : List Value} {pts : List Pt}, AccL W lo B l pts → AccL W' lo B l pts
  | [], [], _ => trivial
  | _ :: _ :: _, _ :: _, h => ⟨h.1.keepc k, h.2.keepc k⟩
  | [_], _, h => by simp [AccL] at h
  | _ :: _ :: _, [], h => by simp [AccL] at h
  | [], _ :: _, h => by simp [AccL] at h
theorem PartsAt.keepc {W W' : World} {lo B : Nat} {v : Value} {pts : List Pt} (h : PartsAt W lo B v pts) (k : KeepC W W') : PartsAt W' lo B v pts := by
  obtain ⟨g, l, e, hg, hb, ha⟩ := h
  exact ⟨g, l, e, hg, hb.keepc k, ha.keepc k⟩

/-! ### what each operation leaves -/
inductive Role where
  | val (off : Nat)
  | part (p : Pt)
  | list (k : Int)
def Good (w0 : World) (B : Nat) (w : World) : Role → Value → Prop
  | .val off, x => x = .pointer (some ⟨B, off, none⟩)
  | .part p, x => ∃ pv tv, x = .agg #[pv, tv] ∧ PartAt w w0.heap.size B pv tv p
  | .list k, x => PartsAt w w0.heap.size B x (partsOf k)
theorem Good.keepc {w0 w w1 : World} {B : Nat} {r : Role} {x : Value} (h : Good w0 B w r x) (k : KeepC w w1) : Good w0 B w1 r x := by
  cases r with
  | val off => exact h
  | part p => obtain ⟨pv, tv, e, hp⟩ := h; exact ⟨pv, tv, e, hp.keepc k⟩
  | list q => exact PartsAt.keepc h k
def roleTab : List (Option (Nat × Role)) := [none, some (4, .val 0), some (5, .val 0), some (6, .val 1), some (7, .part (.one .way .dir)), some (8, .list 1), none, some (9, .val 0), some (10, .val 0), some (11, .val 4), some (12, .part (.one .num .who)), some (13, .val 0), some (14, .val 0), some (15, .val 1), some (16, .part (.one .way .dir)), some (17, .list 2), none, some (18, .val 0), some (19, .val 0), some (20, .val 2), some (21, .part (.one .num .item)), some (22, .list 3), none, some (23, .val 0), some (24, .val 0), some (25, .val 2), some (26, .part (.one .num .item)), some (27, .list 4), none, some (28, .val 0), some (29, .val 0), some (30, .val 2), some (31, .part (.one .num .item)), some (32, .part (.word sIn)), some (33, .val 0), some (34, .val 0), some (35, .val 3), some (36, .part (.one .num .box)), some (37, .list 5), none, some (38, .val 0), some (39, .val 0), some (40, .val 2), some (41, .part (.one .num .item)), some (42, .part (.word sFrom)), some (43, .val 0), some (44, .val 0), some (45, .val 3), some (46, .part (.one .num .box)), some (47, .list 6), none, some (48, .val 0), some (49, .val 0), some (50, .val 2), some (51, .part (.one .num .item)), some (52, .part (.word sTo)), some (53, .val 0), some (54, .val 0), some (55, .val 4), some (56, .part (.one .num .who)), some (57, .list 7), none, some (58, .val 0), some (59, .list 8), none, some (60, .list 9), none, some (61, .list 10), none, none, none]
def roleAt (i : Nat) : Option (Nat × Role) := (roleTab[i]?).bind id
def insTab : List Nat := [6, 16, 22, 28, 39, 50, 61, 64, 66, 68]
def insIdx (k : Int) : Nat := insTab.getD (k.toNat - 1) 0
/-- The map of the pieces of these kinds. -/
def MapAt (w0 : World) (B : Nat) (has : Int → Prop) (b : Nat) (w : World) : Prop :=
  w0.heap.size ≤ b ∧ ∃ es n, w.heap[b]? = some (.map es n) ∧ (∀ x ∈ es.toList, ∃ k, x.key = .int .i64 k ∧ has k ∧ PartsAt w w0.heap.size B x.val (partsOf k)) ∧ ∀ k, has k → ∃ x ∈ es.toList, x.key = .int .i64 k
theorem MapAt.below {w0 w w1 : World} {B b : Nat} {has : Int → Prop} (h : MapAt w0 B has b w) (hb : Below w.heap.size w w1) : MapAt w0 B has b w1 := by
  obtain ⟨h0, es, n, h1, h2, h3⟩ := h
  refine ⟨h0, es, n, (hb.block b (Array.getElem?_eq_some_iff.1 h1).1).trans h1, fun x hx => ?_, h3⟩
  obtain ⟨k, e1, e2, e3⟩ := h2 x hx
  exact ⟨k, e1, e2, e3.keepc (KeepC.below hb)⟩
theorem MapAt.congr {w0 w : World} {B b : Nat} {has has' : Int → Prop} (h : MapAt w0 B has b w) (hh : ∀ k, has k ↔ has' k) : MapAt w0 B has' b w := by
  obtain ⟨h0, es, n, h1, h2, h3⟩ := h
  refine ⟨h0, es, n, h1, fun x hx => ?_, fun k hk => h3 k ((hh k).2 hk)⟩
  obtain ⟨k, e1, e2, e3⟩ := h2 x hx
  exact ⟨k, e1, (hh k).1 e2, e3⟩
theorem isKey_int (k : Int) : IsKey (.int .i64) (.int .i64 k) := by simp [IsKey]
theorem MapAt.keys {w0 w : World} {B : Nat} {has : Int → Prop} {es : Array MapEntry} (h : ∀ x ∈ es.toList, ∃ k, x.key = .int .i64 k ∧ has k ∧ PartsAt w w0.heap.size B x.val (partsOf k)) : ∀ x ∈ es.toList, IsKey (.int .i64) x.key := by
  intro x hx; obtain ⟨k, e, _⟩ := h x hx; rw [e]; exact isKey_int k
theorem MapAt.insert {w0 w : World} {B b : Nat} {has : Int → Prop} (h : MapAt w0 B has b w) (hb : Below w0.heap.size w0 w) (k : Int) (hk : ¬ has k) {v : Value} (hp : PartsAt w w0.heap.size B v (partsOf k)) :
    ∃ w1, (Instr.mapUpdate 54 (.map (some b)) (.int .i64 k) v).run Tryd.prog w = .ok () w1 ∧ MapAt w0 B (fun j => has j ∨ j = k) b w1 ∧ KeepC w w1 ∧ Below w0.heap.size w0 w1 := by
  obtain ⟨h0, es, n, h1, h2, h3⟩ := h
  have hf : Instr.findNow (.int .i64) (.int .i64 k) es.toList 0 = some none := by
    rcases findNow_spec (isKey_int k) es.toList 0 (MapAt.keys h2) with ⟨e, _⟩ | ⟨j, x, _, e2, e3⟩
    · exact e
    · obtain ⟨q, e4, e5, _⟩ := h2 x (List.mem_of_getElem? e2)
      rw [e3] at e4
      obtain rfl : k = q := by simpa using e4
      exact absurd e5 hk
  have hkc := KeepC.set h1 (.map (es.push ⟨.int .i64 k, v, n⟩) (n + 1))
  refine ⟨setBlock w b (.map (es.push ⟨.int .i64 k, v, n⟩) (n + 1)), ?_, ⟨h0, es.push ⟨.int .i64 k, v, n⟩, n + 1, heap_setBlock_same h1 _, fun x hx => ?_, fun j hj => ?_⟩, hkc, ?_⟩
  · simp [Instr.mapUpdate, run_underlying Tryd.underlying54, MapKept.run_getObj_map h1, MapKept.run_checkKey Tryd.underlying3 (isKey_int k), MapKept.run_findKey Tryd.underlying3 hf, MapKept.run_setObj_map _ h1, Result.andThen, setBlock]
  · simp only [Array.toList_push, List.mem_append, List.mem_singleton] at hx
    rcases hx with hx | rfl
    · obtain ⟨q, e1, e2, e3⟩ := h2 x hx
      exact ⟨q, e1, .inl e2, e3.keepc hkc⟩
    · exact ⟨k, rfl, .inr rfl, hp.keepc hkc⟩
  · rcases hj with hj | rfl
    · obtain ⟨x, hx, e⟩ := h3 j hj
      exact ⟨x, by simp [hx], e⟩
    · exact ⟨⟨.int .i64 j, v, n⟩, by simp, rfl⟩
  · exact ⟨hb.os, hb.tape, hb.output, by simpa [setBlock] using hb.size, fun j hj => (heap_setBlock_other h1 _ (by omega)).trans (hb.block j hj)⟩
theorem MapAt.lookup {w0 w : World} {B b : Nat} {has : Int → Prop} (h : MapAt w0 B has b w) (k : Int) (hk : has k) :
    ∃ v, (Instr.lookup 54 (.map (some b)) (.int .i64 k) false).run Tryd.prog w = .ok v w ∧ PartsAt w w0.heap.size B v (partsOf k) := by
  obtain ⟨h0, es, n, h1, h2, h3⟩ := h
  rcases findNow_spec (isKey_int k) es.toList 0 (MapAt.keys h2) with ⟨_, e⟩ | ⟨j, x, e1, e2, e3⟩
  · obtain ⟨x, hx, ex⟩ := h3 k hk
    exact absurd ex (e x hx)
  · obtain ⟨q, e4, _, e6⟩ := h2 x (List.mem_of_getElem? e2)
    rw [e3] at e4
    obtain rfl : k = q := by simpa using e4
    refine ⟨x.val, ?_, e6⟩
    simp [Instr.lookup, run_underlying Tryd.underlying54, MapKept.run_getObj_map h1, MapKept.run_checkKey Tryd.underlying3 (isKey_int k), MapKept.run_findKey Tryd.underlying3 e1, Result.andThen]
def hasKind (k : Int) : Prop := 1 ≤ k ∧ k ≤ 10
def GivesMap (w : World) (B : Nat) (e : Ending) (w' : World) : Prop := ∃ b, e = .returned (.map (some b)) ∧ MapAt w B hasKind b w' ∧ Below w.heap.size w w'

structure PInv (w0 : World) (B : Nat) (listed : Array Bool) (a : Act) (w : World) : Prop where
  size : a.tmps.size = 63
  defers : a.defers = []
  tmp0 : a.tmps[0]? = some (.pointer (some ⟨B, 0, none⟩))
  below : Below w0.heap.size w0 w
  slots : ∀ i s r, roleAt i = some (s, r) → listed.getD i false = true → ∃ x, a.tmps[s]? = some x ∧ Good w0 B w r x
  map : listed.getD 0 false = true → ∃ b, a.tmps[3]? = some (.map (some b)) ∧ MapAt w0 B (fun k => hasKind k ∧ listed.getD (insIdx k) false = true) b w
  fin1 : listed.getD 69 false = true → listed.getD 0 false = true ∧ a.tmps[62]? = a.tmps[3]?
  fin2 : listed.getD 70 false = true → listed.getD 0 false = true ∧ a.tmps[2]? = a.tmps[3]?
  ins : ∀ k, hasKind k → listed.getD (insIdx k) false = true → listed.getD 0 false = true
/-- Each slot is written once. -/
def slotAt (i : Nat) : Option Nat := (roleAt i).map (·.1)
def slotsOk : Bool := (List.range 71).all fun i => match slotAt i with
  | none => true
  | some s => decide (s < 63) && decide (s ≠ 0) && decide (s ≠ 2) && decide (s ≠ 3) && decide (s ≠ 62) && decide (i ≠ 0) && decide (i ≠ 69) && decide (i ≠ 70) && !(insTab.contains i) && (List.range 71).all fun j => decide (slotAt j ≠ some s) || decide (i = j)
theorem slots_ok : slotsOk = true := by decide +kernel
theorem ins_mem {k : Int} (h : hasKind k) : insIdx k ∈ insTab ∧ insIdx k < 69 ∧ insIdx k ≠ 0 := by
  obtain ⟨h1, h2⟩ := h
  have : k = 1 ∨ k = 2 ∨ k = 3 ∨ k = 4 ∨ k = 5 ∨ k = 6 ∨ k = 7 ∨ k = 8 ∨ k = 9 ∨ k = 10 := by omega
  rcases this with rfl | rfl | rfl | rfl | rfl | rfl | rfl | rfl | rfl | rfl <;> decide
theorem ins_inj {k j : Int} (h : hasKind k) (h' : hasKind j) (e : insIdx k = insIdx j) : k = j := by
  obtain ⟨h1, h2⟩ := h
  obtain ⟨h3, h4⟩ := h'
  have : k = 1 ∨ k = 2 ∨ k = 3 ∨ k = 4 ∨ k = 5 ∨ k = 6 ∨ k = 7 ∨ k = 8 ∨ k = 9 ∨ k = 10 := by omega
  have : j = 1 ∨ j = 2 ∨ j = 3 ∨ j = 4 ∨ j = 5 ∨ j = 6 ∨ j = 7 ∨ j = 8 ∨ j = 9 ∨ j = 10 := by omega
  rcases ‹k = 1 ∨ _› with rfl | rfl | rfl | rfl | rfl | rfl | rfl | rfl | rfl | rfl <;> rcases ‹j = 1 ∨ _› with rfl | rfl | rfl | rfl | rfl | rfl | rfl | rfl | rfl | rfl <;> first | rfl | (exfalso; revert e; decide)
theorem role_lt {i s : Nat} {r : Role} (h : roleAt i = some (s, r)) : i < 71 := by
  apply Decidable.byContradiction; intro hn
  have : roleTab[i]? = none := List.getElem?_eq_none (by have : roleTab.length = 71 := by decide
                                                         omega)
  unfold roleAt at h; rw [this] at h; cases h
theorem role_facts {i s : Nat} {r : Role} (h : roleAt i = some (s, r)) : s < 63 ∧ s ≠ 0 ∧ s ≠ 2 ∧ s ≠ 3 ∧ s ≠ 62 ∧ i ≠ 0 ∧ i ≠ 69 ∧ i ≠ 70 ∧ (∀ k, hasKind k → i ≠ insIdx k) ∧ ∀ j r', roleAt j = some (s, r') → i = j := by
  have hi := role_lt h
  have h1 := List.all_eq_true.1 slots_ok i (by simpa using hi)
  have hs : slotAt i = some s := by unfold slotAt; rw [h]; rfl
  rw [hs] at h1
  simp only [Bool.and_eq_true, decide_eq_true_eq, Bool.not_eq_true'] at h1
  obtain ⟨⟨⟨⟨⟨⟨⟨⟨⟨a1, a2⟩, a3⟩, a4⟩, a5⟩, a6⟩, a7⟩, a8⟩, a9⟩, a10⟩ := h1
  refine ⟨a1, a2, a3, a4, a5, a6, a7, a8, fun k hk e => ?_, fun j r' hj => ?_⟩
  · have := (ins_mem hk).1
    rw [← e] at this
    rw [List.contains_iff_mem.2 this] at a9; cases a9
  · have hj2 := role_lt hj
    have := List.all_eq_true.1 a10 j (by simpa using hj2)
    simp only [Bool.or_eq_true, decide_eq_true_eq] at this
    rcases this with e | e
    · exact absurd (by unfold slotAt; rw [hj]; rfl) e
    · exact e
theorem getD_put {a : Act} {s t : Nat} {v : Value} (h : s ≠ t) : (a.put (some s) v).tmps[t]? = a.tmps[t]? := by simp [Act.put, Array.getElem?_setIfInBounds_ne h]
theorem getD_put_self {a : Act} {s : Nat} {v : Value} (h : s < a.tmps.size) : (a.put (some s) v).tmps[s]? = some v := by simp [Act.put, h]
theorem getD_set_self {listed : Array Bool} {i : Nat} (h : i < listed.size) : (listed.setIfInBounds i true).getD i false = true := by simp [h]
theorem PInv.put {w0 w w1 : World} {B : Nat} {listed : Array Bool} {a : Act} {i s : Nat} {r : Role} {x : Value} (h : PInv w0 B listed a w) (hr : roleAt i = some (s, r)) (hb : Below w.heap.size w w1) (hx : Good w0 B w1 r x) :
    PInv w0 B (listed.setIfInBounds i true) (a.put (some s) x) w1 := by
  obtain ⟨f1, f2, f3, f4, f5, f6, f7, f8, f9, f10⟩ := role_facts hr
  refine ⟨by simpa [Act.put] using h.size, h.defers, by rw [getD_put f2]; exact h.tmp0, bl h.below hb, fun j t q hj hl => ?_, fun hl => ?_, fun hl => ?_, fun hl => ?_, fun k hk hl => by rw [getD_set_ne false (f9 k hk)] at hl; exact getD_set_true (h.ins k hk hl)⟩
  · by_cases e : t = s
    · subst e
      obtain rfl : i = j := f10 j q hj
      rw [hr] at hj
      obtain rfl : r = q := by simpa using hj
      exact ⟨x, getD_put_self (by rw [h.size]; exact f1), hx⟩
    · have hne : i ≠ j := by intro e2; subst e2; rw [hr] at hj; exact e (by simpa using (congrArg Prod.fst (Option.some.inj hj)).symm)
      rw [getD_set_ne false hne] at hl
      obtain ⟨y, h1, h2⟩ := h.slots j t q hj hl
      exact ⟨y, by rw [getD_put (Ne.symm e)]; exact h1, h2.keepc (KeepC.below hb)⟩
  · rw [getD_set_ne false f6] at hl
    obtain ⟨b, h1, h2⟩ := h.map hl
    exact ⟨b, by rw [getD_put f4]; exact h1, (h2.below hb).congr fun k => and_congr_right fun hk => by rw [getD_set_ne false (f9 k hk)]⟩
  · rw [getD_set_ne false f7] at hl
    obtain ⟨h1, h2⟩ := h.fin1 hl
    exact ⟨getD_set_true h1, by rw [getD_put f5, getD_put f4]; exact h2⟩
  · rw [getD_set_ne false f8] at hl
    obtain ⟨h1, h2⟩ := h.fin2 hl
    exact ⟨getD_set_true h1, by rw [getD_put f3, getD_put f4]; exact h2⟩

/-! ### one operation -/
section
variable {P : Program} {ops : Array Oper} {Q : Exit → Act → World → Prop} {K : Act → World → Prop} {a : Act} {w w1 : World} {i : Nat} {o : Oper}
theorem wpOp_value (ho : ops[i]? = some o) (hg : o.guard = none) {v : Value} (hr : (execOp a.eval o).run P w = .ok (.value v) w1) (hK : K (a.put o.dst v) w1) : wpOp P ops Q i K a w :=
  wpOp_step ho fun K' hK' => by
    rw [if_pos (by simp [Region.wanted, hg])]
    unfold Oper.wp; rw [hr]; exact hK' _ _ hK
theorem wpOp_skip (ho : ops[i]? = some o) (hg : o.guard = none) (hr : (execOp a.eval o).run P w = .ok .skip w1) (hK : K (a.put o.dst undef) w1) : wpOp P ops Q i K a w :=
  wpOp_step ho fun K' hK' => by
    rw [if_pos (by simp [Region.wanted, hg])]
    unfold Oper.wp; rw [hr]; exact hK' _ _ hK
theorem wpOp_enter (ho : ops[i]? = some o) (hg : o.guard = none) {f : FuncId} {args : Array Value} {R : Ending → World → Prop} (hr : (execOp a.eval o).run P w = .ok (.enter f args) w) (hc : Calls P f args w R)
    (hK : ∀ e w', R e w' → ∃ v, e = .returned v ∧ K (a.put o.dst v) w') : wpOp P ops Q i K a w :=
  wpOp_step ho fun K' hK' => by
    rw [if_pos (by simp [Region.wanted, hg])]
    unfold Oper.wp; rw [hr, Oper.upon_enter]
    refine hc.mono fun e w' h => ?_
    obtain ⟨v, rfl, h2⟩ := hK e w' h
    exact hK' _ _ h2
end
theorem eval_tmp {a : Act} {d : Nat} {x : Value} (h : a.tmps[d]? = some x) : a.eval (.tmp d) = x := by simp [Act.eval, Array.getD_eq_getD_getElem?, h]
/-- What is known of an operation. -/
def oview (o : Oper) : Option Tmp × Op × Option (Nat × Bool) × List Nat := (o.dst, o.op, o.guard, (o.after.toList.filter (fun e => match e.ground with | .data | .chain => true | _ => false)).map (·.on))
theorem op_of {o : Oper} {d : Option Tmp} {p : Op} {l : List Nat} (h : oview o = (d, p, none, l)) : o.dst = d ∧ o.op = p ∧ o.guard = none := by
  simp only [oview, Prod.mk.injEq] at h; exact ⟨h.1, h.2.1, h.2.2.1⟩
theorem dep_of {o : Oper} {d : Option Tmp} {p : Op} {l : List Nat} {listed : Array Bool} (hall : ∀ e ∈ o.after, Region.binds .any e = true → listed.getD e.on false = true) (h : oview o = (d, p, none, l)) {j : Nat} (hj : j ∈ l) : listed.getD j false = true := by
  simp only [oview, Prod.mk.injEq] at h
  rw [← h.2.2.2] at hj
  obtain ⟨e, he, rfl⟩ := List.mem_map.1 hj
  obtain ⟨he1, he2⟩ := List.mem_filter.1 he
  refine hall e (by simpa using he1) ?_
  unfold Region.binds
  cases hg : e.ground <;> rw [hg] at he2 <;> first | rfl | cases he2
section
variable {ops : Array Oper} {Q : Exit → Act → World → Prop} {w0 : World} {B : Nat} {listed : Array Bool} {a : Act} {w : World} {i s : Nat} {o : Oper}
theorem step_move (h : PInv w0 B listed a w) (ho : ops[i]? = some o) (hv : o.dst = some s ∧ o.op = .move (.tmp 0) ∧ o.guard = none) (hr : roleAt i = some (s, .val 0)) : wpOp Tryd.prog ops Q i (PInv w0 B (listed.setIfInBounds i true)) a w := by
  refine wpOp_value (v := .pointer (some ⟨B, 0, none⟩)) (w1 := w) ho hv.2.2 ?_ (by rw [hv.1]; exact h.put hr (Below.refl _ _) rfl)
  simp [execOp, hv.2.1, eval_tmp h.tmp0]
theorem step_nil (h : PInv w0 B listed a w) (ho : ops[i]? = some o) {d j : Nat} (hv : o.dst = some s ∧ o.op = .nilCheck (.tmp d) ∧ o.guard = none) (hd : roleAt j = some (d, .val 0)) (hj : listed.getD j false = true) (hr : roleAt i = some (s, .val 0)) : wpOp Tryd.prog ops Q i (PInv w0 B (listed.setIfInBounds i true)) a w := by
  obtain ⟨x, h1, h2⟩ := h.slots j d _ hd hj
  obtain rfl : x = _ := h2
  refine wpOp_value (v := .pointer (some ⟨B, 0, none⟩)) (w1 := w) ho hv.2.2 ?_ (by rw [hv.1]; exact h.put hr (Below.refl _ _) rfl)
  simp [execOp, hv.2.1, eval_tmp h1]
theorem step_addr (h : PInv w0 B listed a w) (ho : ops[i]? = some o) {d j f : Nat} (hv : o.dst = some s ∧ o.op = .fieldAddr 24 (.tmp d) f ∧ o.guard = none) (hd : roleAt j = some (d, .val 0)) (hj : listed.getD j false = true) {off : Nat} (hr : roleAt i = some (s, .val off))
    (hrun : ∀ W, (Instr.fieldAt 24 (.pointer (some ⟨B, 0, none⟩)) f).run Tryd.prog W = .ok (.pointer (some ⟨B, off, none⟩)) W) : wpOp Tryd.prog ops Q i (PInv w0 B (listed.setIfInBounds i true)) a w := by
  obtain ⟨x, h1, h2⟩ := h.slots j d _ hd hj
  obtain rfl : x = _ := h2
  refine wpOp_value (v := .pointer (some ⟨B, off, none⟩)) (w1 := w) ho hv.2.2 ?_ (by rw [hv.1]; exact h.put hr (Below.refl _ _) rfl)
  simp [execOp, hv.2.1, eval_tmp h1, hrun, Result.andThen]
theorem step_call (h : PInv w0 B listed a w) (ho : ops[i]? = some o) {d j F t off : Nat} {p : Pt} (hv : o.dst = some s ∧ o.op = .call { callee := .value (.func F), args := #[.tmp d], argTypes := #[t] } ∧ o.guard = none) (hd : roleAt j = some (d, .val off)) (hj : listed.getD j false = true) (hr : roleAt i = some (s, .part p))
    (he : Enters Tryd.prog F) (hc : ∀ W, Calls Tryd.prog F #[.pointer (some ⟨B, off, none⟩)] W (MakesPart W B p)) : wpOp Tryd.prog ops Q i (PInv w0 B (listed.setIfInBounds i true)) a w := by
  obtain ⟨x, h1, h2⟩ := h.slots j d _ hd hj
  obtain rfl : x = _ := h2
  refine wpOp_enter ho hv.2.2 (f := F) (args := #[.pointer (some ⟨B, off, none⟩)]) ?_ (hc w) ?_
  · simp [execOp, hv.2.1, resolve, invoke, Act.eval, h1, Deferred.ofValue, he _ _]
  · rintro e w1 ⟨pv, tv, rfl, hp, hb⟩
    exact ⟨_, rfl, by rw [hv.1]; exact h.put hr hb ⟨pv, tv, rfl, hp.mono h.below.size⟩⟩
theorem step_word (h : PInv w0 B listed a w) (ho : ops[i]? = some o) {F t : Nat} {c : Value} {p : Pt} (hv : o.dst = some s ∧ o.op = .call { callee := .value (.func F), args := #[.const c], argTypes := #[t] } ∧ o.guard = none) (hr : roleAt i = some (s, .part p))
    (he : Enters Tryd.prog F) (hc : ∀ W, Calls Tryd.prog F #[c] W (MakesPart W B p)) : wpOp Tryd.prog ops Q i (PInv w0 B (listed.setIfInBounds i true)) a w := by
  refine wpOp_enter ho hv.2.2 (f := F) (args := #[c]) ?_ (hc w) ?_
  · simp [execOp, hv.2.1, resolve, invoke, Act.eval, Deferred.ofValue, he _ _]
  · rintro e w1 ⟨pv, tv, rfl, hp, hb⟩
    exact ⟨_, rfl, by rw [hv.1]; exact h.put hr hb ⟨pv, tv, rfl, hp.mono h.below.size⟩⟩
theorem step_trade (h : PInv w0 B listed a w) (ho : ops[i]? = some o) {d j t : Nat} (hv : o.dst = some s ∧ o.op = .call { callee := .value (.func 46), args := #[.tmp d], argTypes := #[t] } ∧ o.guard = none) (hd : roleAt j = some (d, .val 0)) (hj : listed.getD j false = true) (hr : roleAt i = some (s, .list 8)) :
    wpOp Tryd.prog ops Q i (PInv w0 B (listed.setIfInBounds i true)) a w := by
  obtain ⟨x, h1, h2⟩ := h.slots j d _ hd hj
  obtain rfl : x = _ := h2
  have he : Enters Tryd.prog 46 := enters_of Tryd.func46 (by kernel_rfl) rfl
  refine wpOp_enter ho hv.2.2 (f := 46) (args := #[.pointer (some ⟨B, 0, none⟩)]) ?_ (trade_make B w) ?_
  · simp [execOp, hv.2.1, resolve, invoke, Act.eval, h1, Deferred.ofValue, he _ _]
  · rintro e w1 ⟨v, rfl, hp, hb⟩
    exact ⟨_, rfl, by rw [hv.1]; exact h.put hr hb (PartsAt.mono (pts := partsOf 8) hp h.below.size)⟩
theorem part_info : (Tryd.prog.info? 50).map (fun i => (i.zero, i.size)) = some (some (.agg #[.nilFunc, .nilFunc]), 2) := by kernel_rfl
theorem run_b0 (W : World) : (Instr.buildSlice 53 0 #[]).run Tryd.prog W = .ok (.slice (some ⟨W.heap.size, 0, none⟩) 0 0) (W.alloc (.cells #[] 50)) := by go_simp
theorem run_b1 (p t : Value) (W : World) : (Instr.buildSlice 53 1 #[(0, .agg #[p, t])]).run Tryd.prog W = .ok (.slice (some ⟨W.heap.size, 0, none⟩) 1 1) (W.alloc (.cells #[p, t] 50)) := by go_simp
theorem run_b2 (p t p1 t1 : Value) (W : World) : (Instr.buildSlice 53 2 #[(0, .agg #[p, t]), (1, .agg #[p1, t1])]).run Tryd.prog W = .ok (.slice (some ⟨W.heap.size, 0, none⟩) 2 2) (W.alloc (.cells #[p, t, p1, t1] 50)) := by go_simp
theorem run_b3 (p t p1 t1 p2 t2 : Value) (W : World) : (Instr.buildSlice 53 3 #[(0, .agg #[p, t]), (1, .agg #[p1, t1]), (2, .agg #[p2, t2])]).run Tryd.prog W = .ok (.slice (some ⟨W.heap.size, 0, none⟩) 3 3) (W.alloc (.cells #[p, t, p1, t1, p2, t2] 50)) := by go_simp
theorem addr_1 (B : Nat) (W : World) : (Instr.fieldAt 24 (.pointer (some ⟨B, 0, none⟩)) 1).run Tryd.prog W = .ok (.pointer (some ⟨B, 1, none⟩)) W := by go_simp
theorem addr_2 (B : Nat) (W : World) : (Instr.fieldAt 24 (.pointer (some ⟨B, 0, none⟩)) 2).run Tryd.prog W = .ok (.pointer (some ⟨B, 2, none⟩)) W := by go_simp
theorem addr_3 (B : Nat) (W : World) : (Instr.fieldAt 24 (.pointer (some ⟨B, 0, none⟩)) 3).run Tryd.prog W = .ok (.pointer (some ⟨B, 3, none⟩)) W := by go_simp
theorem addr_4 (B : Nat) (W : World) : (Instr.fieldAt 24 (.pointer (some ⟨B, 0, none⟩)) 4).run Tryd.prog W = .ok (.pointer (some ⟨B, 4, none⟩)) W := by go_simp
theorem enters_way : Enters Tryd.prog 43 := enters_of Tryd.func43 (by kernel_rfl) rfl
theorem enters_number : Enters Tryd.prog 44 := enters_of Tryd.func44 (by kernel_rfl) rfl
theorem enters_word : Enters Tryd.prog 45 := enters_of Tryd.func45 (by kernel_rfl) rfl
/-- A list that is laid of its pieces. -/
theorem built_ {W : World} {lo : Nat} {l : List Value} {pts : List Pt} (ha : AccL W lo B l pts) (hlo : lo ≤ W.heap.size) {n : Nat} (hn : n = pts.length) :
    PartsAt (W.alloc (.cells l.toArray 50)) lo B (.slice (some ⟨W.heap.size, 0, none⟩) n n) pts ∧ Below W.heap.size W (W.alloc (.cells l.toArray 50)) := by
  subst hn
  exact ⟨⟨W.heap.size, l, rfl, hlo, Blk.new _ _ _, ha.stay (fun b _ hb => Below.heap_alloc W _ b hb)⟩, (Below.refl _ _).alloc (Nat.le_refl _) _⟩
theorem step_build0 (h : PInv w0 B listed a w) (ho : ops[i]? = some o) (hv : o.dst = some s ∧ o.op = .buildSlice 53 0 #[] ∧ o.guard = none) {k : Int} (hr : roleAt i = some (s, .list k)) (hk : partsOf k = []) : wpOp Tryd.prog ops Q i (PInv w0 B (listed.setIfInBounds i true)) a w := by
  have hb := built_ (W := w) (B := B) (lo := w0.heap.size) (l := []) (pts := []) trivial h.below.size (n := 0) rfl
  refine wpOp_value (v := .slice (some ⟨w.heap.size, 0, none⟩) 0 0) (w1 := w.alloc (.cells #[] 50)) ho hv.2.2 ?_ (by rw [hv.1]; exact h.put hr hb.2 (by show PartsAt _ _ _ _ (partsOf k); rw [hk]; exact hb.1))
  simp [execOp, hv.2.1, run_b0, Result.andThen]
theorem step_build1 (h : PInv w0 B listed a w) (ho : ops[i]? = some o) {s0 i0 : Nat} {p0 : Pt} (hv : o.dst = some s ∧ o.op = .buildSlice 53 1 #[(0, .tmp s0)] ∧ o.guard = none) (hd0 : roleAt i0 = some (s0, .part p0)) (hj0 : listed.getD i0 false = true) {k : Int} (hr : roleAt i = some (s, .list k)) (hk : partsOf k = [p0]) : wpOp Tryd.prog ops Q i (PInv w0 B (listed.setIfInBounds i true)) a w := by
  obtain ⟨x0, e0, pv0, tv0, rfl, hp0⟩ := h.slots _ _ _ hd0 hj0
  have hb := built_ (W := w) (B := B) (lo := w0.heap.size) (l := [pv0, tv0]) (pts := [p0]) ⟨hp0, trivial⟩ h.below.size (n := 1) rfl
  refine wpOp_value (v := .slice (some ⟨w.heap.size, 0, none⟩) 1 1) (w1 := w.alloc (.cells #[pv0, tv0] 50)) ho hv.2.2 ?_ (by rw [hv.1]; exact h.put hr hb.2 (by show PartsAt _ _ _ _ (partsOf k); rw [hk]; exact hb.1))
  simp [execOp, hv.2.1, eval_tmp e0, run_b1, Result.andThen]
theorem step_build2 (h : PInv w0 B listed a w) (ho : ops[i]? = some o) {s0 i0 s1 i1 : Nat} {p0 p1 : Pt} (hv : o.dst = some s ∧ o.op = .buildSlice 53 2 #[(0, .tmp s0), (1, .tmp s1)] ∧ o.guard = none) (hd0 : roleAt i0 = some (s0, .part p0)) (hj0 : listed.getD i0 false = true) (hd1 : roleAt i1 = some (s1, .part p1)) (hj1 : listed.getD i1 false = true) {k : Int} (hr : roleAt i = some (s, .list k)) (hk : partsOf k = [p0, p1]) : wpOp Tryd.prog ops Q i (PInv w0 B (listed.setIfInBounds i true)) a w := by
  obtain ⟨x0, e0, pv0, tv0, rfl, hp0⟩ := h.slots _ _ _ hd0 hj0
  obtain ⟨x1, e1, pv1, tv1, rfl, hp1⟩ := h.slots _ _ _ hd1 hj1
  have hb := built_ (W := w) (B := B) (lo := w0.heap.size) (l := [pv0, tv0, pv1, tv1]) (pts := [p0, p1]) ⟨hp0, hp1, trivial⟩ h.below.size (n := 2) rfl
  refine wpOp_value (v := .slice (some ⟨w.heap.size, 0, none⟩) 2 2) (w1 := w.alloc (.cells #[pv0, tv0, pv1, tv1] 50)) ho hv.2.2 ?_ (by rw [hv.1]; exact h.put hr hb.2 (by show PartsAt _ _ _ _ (partsOf k); rw [hk]; exact hb.1))
  simp [execOp, hv.2.1, eval_tmp e0, eval_tmp e1, run_b2, Result.andThen]
theorem step_build3 (h : PInv w0 B listed a w) (ho : ops[i]? = some o) {s0 i0 s1 i1 s2 i2 : Nat} {p0 p1 p2 : Pt} (hv : o.dst = some s ∧ o.op = .buildSlice 53 3 #[(0, .tmp s0), (1, .tmp s1), (2, .tmp s2)] ∧ o.guard = none) (hd0 : roleAt i0 = some (s0, .part p0)) (hj0 : listed.getD i0 false = true) (hd1 : roleAt i1 = some (s1, .part p1)) (hj1 : listed.getD i1 false = true) (hd2 : roleAt i2 = some (s2, .part p2)) (hj2 : listed.getD i2 false = true) {k : Int} (hr : roleAt i = some (s, .list k)) (hk : partsOf k = [p0, p1, p2]) : wpOp Tryd.prog ops Q i (PInv w0 B (listed.setIfInBounds i true)) a w := by
  obtain ⟨x0, e0, pv0, tv0, rfl, hp0⟩ := h.slots _ _ _ hd0 hj0
  obtain ⟨x1, e1, pv1, tv1, rfl, hp1⟩ := h.slots _ _ _ hd1 hj1
  obtain ⟨x2, e2, pv2, tv2, rfl, hp2⟩ := h.slots _ _ _ hd2 hj2
  have hb := built_ (W := w) (B := B) (lo := w0.heap.size) (l := [pv0, tv0, pv1, tv1, pv2, tv2]) (pts := [p0, p1, p2]) ⟨hp0, hp1, hp2, trivial⟩ h.below.size (n := 3) rfl
  refine wpOp_value (v := .slice (some ⟨w.heap.size, 0, none⟩) 3 3) (w1 := w.alloc (.cells #[pv0, tv0, pv1, tv1, pv2, tv2] 50)) ho hv.2.2 ?_ (by rw [hv.1]; exact h.put hr hb.2 (by show PartsAt _ _ _ _ (partsOf k); rw [hk]; exact hb.1))
  simp [execOp, hv.2.1, eval_tmp e0, eval_tmp e1, eval_tmp e2, run_b3, Result.andThen]
theorem step_ins (h : PInv w0 B listed a w) (ho : ops[i]? = some o) {d j : Nat} {k : Int} (hv : o.dst = none ∧ o.op = .insert 54 (.tmp 3) (.const (.int .i64 k)) (.tmp d) ∧ o.guard = none) (h1 : 1 ≤ k) (h10 : k ≤ 10) (hi : i = insIdx k) (h0 : listed.getD 0 false = true)
    (hd : roleAt j = some (d, .list k)) (hj : listed.getD j false = true) (hf : listed.getD i true = false) : wpOp Tryd.prog ops Q i (PInv w0 B (listed.setIfInBounds i true)) a w := by
  have hk : hasKind k := ⟨h1, h10⟩
  obtain ⟨f1, f2, f3⟩ := ins_mem hk
  obtain ⟨v, e1, hp⟩ := h.slots j d _ hd hj
  obtain ⟨b, e2, hm⟩ := h.map h0
  have hlt : i < listed.size := by
    apply Decidable.byContradiction; intro hn
    simp [Array.getElem?_eq_none (Nat.le_of_not_lt hn)] at hf
  have hnot : ¬ (hasKind k ∧ listed.getD (insIdx k) false = true) := by
    rintro ⟨_, e⟩
    rw [← hi] at e
    simp [hlt] at e hf; rw [hf] at e; cases e
  obtain ⟨w1, hrun, hm1, hkc, hb1⟩ := hm.insert h.below k hnot hp
  refine wpOp_skip ho hv.2.2 (w1 := w1) ?_ ?_
  · simp [execOp, hv.2.1, e1, e2, Act.eval, hrun, Result.andThen]
  · rw [hv.1]
    refine ⟨h.size, h.defers, h.tmp0, hb1, fun q t r hq hl => ?_, fun _ => ⟨b, e2, hm1.congr fun q => ?_⟩, fun hl => ?_, fun hl => ?_, fun _ _ _ => getD_set_true h0⟩
    · have hne : i ≠ q := by
        intro e; subst e
        exact (role_facts hq).2.2.2.2.2.2.2.2.1 k hk hi
      rw [getD_set_ne false hne] at hl
      obtain ⟨y, z1, z2⟩ := h.slots q t r hq hl
      exact ⟨y, z1, z2.keepc hkc⟩
    · constructor
      · rintro (⟨z1, z2⟩ | rfl)
        · exact ⟨z1, getD_set_true z2⟩
        · exact ⟨hk, by rw [← hi]; exact getD_set_self hlt⟩
      · rintro ⟨z1, z2⟩
        by_cases e : q = k
        · exact .inr e
        · have hne : i ≠ insIdx q := by rw [hi]; intro e2; exact e (ins_inj hk z1 e2).symm
          rw [getD_set_ne false hne] at z2
          exact .inl ⟨z1, z2⟩
    · rw [getD_set_ne false (by omega)] at hl
      obtain ⟨z1, z2⟩ := h.fin1 hl
      exact ⟨getD_set_true z1, z2⟩
    · rw [getD_set_ne false (by omega)] at hl
      obtain ⟨z1, z2⟩ := h.fin2 hl
      exact ⟨getD_set_true z1, z2⟩
theorem step_mk (h : PInv w0 B listed a w) (ho : ops[0]? = some o) (hlt : 0 < listed.size) (hv : o.dst = some 3 ∧ o.op = .makeMap 54 none ∧ o.guard = none) (hnone : ∀ k, hasKind k → listed.getD (insIdx k) false = false)
    (hf1 : listed.getD 69 false = false) (hf2 : listed.getD 70 false = false) : wpOp Tryd.prog ops Q 0 (PInv w0 B (listed.setIfInBounds 0 true)) a w := by
  have hb : Below w.heap.size w (w.alloc (.map #[] 0)) := (Below.refl _ _).alloc (Nat.le_refl _) _
  refine wpOp_value (v := .map (some w.heap.size)) (w1 := w.alloc (.map #[] 0)) ho hv.2.2 ?_ ?_
  · simp [execOp, hv.2.1, run_makeMap, Result.andThen]
  · rw [hv.1]
    refine ⟨by simpa [Act.put] using h.size, h.defers, by rw [getD_put (by omega)]; exact h.tmp0, bl h.below hb, fun q t r hq hl => ?_, fun _ => ⟨w.heap.size, getD_put_self (by rw [h.size]; omega), h.below.size, #[], 0, (MapKept.heap_alloc w _).1, by simp, fun k hk => ?_⟩, fun hl => ?_, fun hl => ?_, fun _ _ _ => getD_set_self hlt⟩
    · obtain ⟨f1, f2, f3, f4, f5, f6, f7⟩ := role_facts hq
      rw [getD_set_ne false (Ne.symm f6)] at hl
      obtain ⟨y, z1, z2⟩ := h.slots q t r hq hl
      exact ⟨y, by rw [getD_put (Ne.symm f4)]; exact z1, z2.keepc (KeepC.below hb)⟩
    · obtain ⟨hk1, hk2⟩ := hk
      rw [getD_set_ne false (Ne.symm (ins_mem hk1).2.2), hnone k hk1] at hk2; cases hk2
    · rw [getD_set_ne false (by omega), hf1] at hl; cases hl
    · rw [getD_set_ne false (by omega), hf2] at hl; cases hl
theorem step_fin1 (h : PInv w0 B listed a w) (ho : ops[69]? = some o) (hlt : 69 < listed.size) (hv : o.dst = some 62 ∧ o.op = .move (.tmp 3) ∧ o.guard = none) (h0 : listed.getD 0 false = true) : wpOp Tryd.prog ops Q 69 (PInv w0 B (listed.setIfInBounds 69 true)) a w := by
  obtain ⟨b, e1, hm⟩ := h.map h0
  refine wpOp_value (v := .map (some b)) (w1 := w) ho hv.2.2 ?_ ?_
  · simp [execOp, hv.2.1, e1, Act.eval]
  · rw [hv.1]
    refine ⟨by simpa [Act.put] using h.size, h.defers, by rw [getD_put (by omega)]; exact h.tmp0, h.below, fun q t r hq hl => ?_, fun _ => ⟨b, by rw [getD_put (by omega)]; exact e1, hm.congr fun k => and_congr_right fun hk => ?_⟩, fun _ => ⟨getD_set_true h0, ?_⟩, fun hl => ?_, fun _ _ _ => getD_set_true h0⟩
    · obtain ⟨f1, f2, f3, f4, f5, f6, f7, f8⟩ := role_facts hq
      rw [getD_set_ne false (Ne.symm f7)] at hl
      obtain ⟨y, z1, z2⟩ := h.slots q t r hq hl
      exact ⟨y, by rw [getD_put (Ne.symm f5)]; exact z1, z2⟩
    · rw [getD_set_ne false (by have := (ins_mem hk).2.1; omega)]
    · rw [getD_put_self (by rw [h.size]; omega), getD_put (by omega), e1]
    · rw [getD_set_ne false (by omega)] at hl
      obtain ⟨z1, z2⟩ := h.fin2 hl
      exact ⟨getD_set_true z1, by rw [getD_put (by omega), getD_put (by omega)]; exact z2⟩
theorem step_fin2 (h : PInv w0 B listed a w) (ho : ops[70]? = some o) (hlt : 70 < listed.size) (hv : o.dst = some 2 ∧ o.op = .assign (.tmp 62) ∧ o.guard = none) (h0 : listed.getD 69 false = true) : wpOp Tryd.prog ops Q 70 (PInv w0 B (listed.setIfInBounds 70 true)) a w := by
  obtain ⟨g0, g1⟩ := h.fin1 h0
  obtain ⟨b, e1, hm⟩ := h.map g0
  rw [e1] at g1
  refine wpOp_value (v := .map (some b)) (w1 := w) ho hv.2.2 ?_ ?_
  · simp [execOp, hv.2.1, g1, Act.eval]
  · rw [hv.1]
    refine ⟨by simpa [Act.put] using h.size, h.defers, by rw [getD_put (by omega)]; exact h.tmp0, h.below, fun q t r hq hl => ?_, fun _ => ⟨b, by rw [getD_put (by omega)]; exact e1, hm.congr fun k => and_congr_right fun hk => ?_⟩, fun _ => ⟨getD_set_true g0, ?_⟩, fun _ => ⟨getD_set_true g0, ?_⟩, fun _ _ _ => getD_set_true g0⟩
    · obtain ⟨f1, f2, f3, f4, f5, f6, f7, f8, f9⟩ := role_facts hq
      rw [getD_set_ne false (Ne.symm f8)] at hl
      obtain ⟨y, z1, z2⟩ := h.slots q t r hq hl
      exact ⟨y, by rw [getD_put (Ne.symm f3)]; exact z1, z2⟩
    · rw [getD_set_ne false (by have := (ins_mem hk).2.1; omega)]
    · rw [getD_put (by omega), getD_put (by omega), g1, e1]
    · rw [getD_put_self (by rw [h.size]; omega), getD_put (by omega), e1]
end
/-- The region's operations, in their order. -/
def partsView : List (Option Tmp × Op × Option (Nat × Bool) × List Nat) := [
  (some 3, .makeMap 54 none, none, []),
  (some 4, .move (.tmp 0), none, []),
  (some 5, .nilCheck (.tmp 4), none, [1]),
  (some 6, .fieldAddr 24 (.tmp 5) 1, none, [2]),
  (some 7, .call { callee := .value (.func 43), args := #[.tmp 6], argTypes := #[70] }, none, [3]),
  (some 8, .buildSlice 53 1 #[(0, .tmp 7)], none, [4]),
  (none, .insert 54 (.tmp 3) (.const (.int .i64 1)) (.tmp 8), none, [0, 5]),
  (some 9, .move (.tmp 0), none, []),
  (some 10, .nilCheck (.tmp 9), none, [7]),
  (some 11, .fieldAddr 24 (.tmp 10) 4, none, [8]),
  (some 12, .call { callee := .value (.func 44), args := #[.tmp 11], argTypes := #[70] }, none, [9, 4]),
  (some 13, .move (.tmp 0), none, []),
  (some 14, .nilCheck (.tmp 13), none, [11]),
  (some 15, .fieldAddr 24 (.tmp 14) 1, none, [12]),
  (some 16, .call { callee := .value (.func 43), args := #[.tmp 15], argTypes := #[70] }, none, [13, 10]),
  (some 17, .buildSlice 53 2 #[(0, .tmp 12), (1, .tmp 16)], none, [10, 14]),
  (none, .insert 54 (.tmp 3) (.const (.int .i64 2)) (.tmp 17), none, [0, 15]),
  (some 18, .move (.tmp 0), none, []),
  (some 19, .nilCheck (.tmp 18), none, [17]),
  (some 20, .fieldAddr 24 (.tmp 19) 2, none, [18]),
  (some 21, .call { callee := .value (.func 44), args := #[.tmp 20], argTypes := #[70] }, none, [19, 14]),
  (some 22, .buildSlice 53 1 #[(0, .tmp 21)], none, [20]),
  (none, .insert 54 (.tmp 3) (.const (.int .i64 3)) (.tmp 22), none, [0, 21]),
  (some 23, .move (.tmp 0), none, []),
  (some 24, .nilCheck (.tmp 23), none, [23]),
  (some 25, .fieldAddr 24 (.tmp 24) 2, none, [24]),
  (some 26, .call { callee := .value (.func 44), args := #[.tmp 25], argTypes := #[70] }, none, [25, 20]),
  (some 27, .buildSlice 53 1 #[(0, .tmp 26)], none, [26]),
  (none, .insert 54 (.tmp 3) (.const (.int .i64 4)) (.tmp 27), none, [0, 27]),
  (some 28, .move (.tmp 0), none, []),
  (some 29, .nilCheck (.tmp 28), none, [29]),
  (some 30, .fieldAddr 24 (.tmp 29) 2, none, [30]),
  (some 31, .call { callee := .value (.func 44), args := #[.tmp 30], argTypes := #[70] }, none, [31, 26]),
  (some 32, .call { callee := .value (.func 45), args := #[.const (.string ⟨#[105, 110]⟩)], argTypes := #[9] }, none, [32]),
  (some 33, .move (.tmp 0), none, []),
  (some 34, .nilCheck (.tmp 33), none, [34]),
  (some 35, .fieldAddr 24 (.tmp 34) 3, none, [35]),
  (some 36, .call { callee := .value (.func 44), args := #[.tmp 35], argTypes := #[70] }, none, [36, 33]),
  (some 37, .buildSlice 53 3 #[(0, .tmp 31), (1, .tmp 32), (2, .tmp 36)], none, [32, 33, 37]),
  (none, .insert 54 (.tmp 3) (.const (.int .i64 5)) (.tmp 37), none, [0, 38]),
  (some 38, .move (.tmp 0), none, []),
  (some 39, .nilCheck (.tmp 38), none, [40]),
  (some 40, .fieldAddr 24 (.tmp 39) 2, none, [41]),
  (some 41, .call { callee := .value (.func 44), args := #[.tmp 40], argTypes := #[70] }, none, [42, 37]),
  (some 42, .call { callee := .value (.func 45), args := #[.const (.string ⟨#[102, 114, 111, 109]⟩)], argTypes := #[9] }, none, [43]),
  (some 43, .move (.tmp 0), none, []),
  (some 44, .nilCheck (.tmp 43), none, [45]),
  (some 45, .fieldAddr 24 (.tmp 44) 3, none, [46]),
  (some 46, .call { callee := .value (.func 44), args := #[.tmp 45], argTypes := #[70] }, none, [47, 44]),
  (some 47, .buildSlice 53 3 #[(0, .tmp 41), (1, .tmp 42), (2, .tmp 46)], none, [43, 44, 48]),
  (none, .insert 54 (.tmp 3) (.const (.int .i64 6)) (.tmp 47), none, [0, 49]),
  (some 48, .move (.tmp 0), none, []),
  (some 49, .nilCheck (.tmp 48), none, [51]),
  (some 50, .fieldAddr 24 (.tmp 49) 2, none, [52]),
  (some 51, .call { callee := .value (.func 44), args := #[.tmp 50], argTypes := #[70] }, none, [53, 48]),
  (some 52, .call { callee := .value (.func 45), args := #[.const (.string ⟨#[116, 111]⟩)], argTypes := #[9] }, none, [54]),
  (some 53, .move (.tmp 0), none, []),
  (some 54, .nilCheck (.tmp 53), none, [56]),
  (some 55, .fieldAddr 24 (.tmp 54) 4, none, [57]),
  (some 56, .call { callee := .value (.func 44), args := #[.tmp 55], argTypes := #[70] }, none, [58, 55]),
  (some 57, .buildSlice 53 3 #[(0, .tmp 51), (1, .tmp 52), (2, .tmp 56)], none, [54, 55, 59]),
  (none, .insert 54 (.tmp 3) (.const (.int .i64 7)) (.tmp 57), none, [0, 60]),
  (some 58, .move (.tmp 0), none, []),
  (some 59, .call { callee := .value (.func 46), args := #[.tmp 58], argTypes := #[52] }, none, [62, 59]),
  (none, .insert 54 (.tmp 3) (.const (.int .i64 8)) (.tmp 59), none, [0, 63]),
  (some 60, .buildSlice 53 0 #[], none, []),
  (none, .insert 54 (.tmp 3) (.const (.int .i64 9)) (.tmp 60), none, [0, 65]),
  (some 61, .buildSlice 53 0 #[], none, []),
  (none, .insert 54 (.tmp 3) (.const (.int .i64 10)) (.tmp 61), none, [0, 67]),
  (some 62, .move (.tmp 3), none, [0, 1, 2, 3, 4, 5, 6, 7, 8, 9, 10, 11, 12, 13, 14, 15, 16, 17, 18, 19, 20, 21, 22, 23, 24, 25, 26, 27, 28, 29, 30, 31, 32, 33, 34, 35, 36, 37, 38, 39, 40, 41, 42, 43, 44, 45, 46, 47, 48, 49, 50, 51, 52, 53, 54, 55, 56, 57, 58, 59, 60, 61, 62, 63, 64, 65, 66, 67, 68]),
  (some 2, .assign (.tmp 62), none, [69, 63])]
theorem region_gen {P : Program} {Q : Exit → Act → World → Prop} {id : Nat} {ops : Array Oper} {b : Bool} {a : Act} {w : World} (h : ∀ ops', ops' = ops → (Code.region id ops' b).wp P Q a w) : (Code.region id ops b).wp P Q a w := h _ rfl
theorem mk_at {listed : Array Bool} {w0 : World} {B : Nat} {a : Act} {w : World} (h : PInv w0 B listed a w) (hs : listed.size = 71) (hf : listed.getD 0 true = false) : (∀ k, hasKind k → listed.getD (insIdx k) false = false) ∧ listed.getD 69 false = false ∧ listed.getD 70 false = false := by
  have h0 : ¬ listed.getD 0 false = true := by
    have : 0 < listed.size := by omega
    simp [this] at hf ⊢; exact hf
  refine ⟨fun k hk => ?_, ?_, ?_⟩
  · rw [Bool.eq_false_iff]; exact fun e => h0 (h.ins k hk e)
  · rw [Bool.eq_false_iff]; exact fun e => h0 (h.fin1 e).1
  · rw [Bool.eq_false_iff]; exact fun e => h0 (h.fin2 e).1
theorem vw {i : Nat} {o : Oper} {x : Option Tmp × Op × Option (Nat × Bool) × List Nat} (h : partsView[i]? = some (oview o)) (h2 : partsView[i]? = some x) : oview o = x := Option.some.inj (h.symm.trans h2)
set_option maxRecDepth 100000 in
set_option maxHeartbeats 4000000 in
theorem step_any {ops : Array Oper} {Q : Exit → Act → World → Prop} {w0 : World} {B : Nat} {listed : Array Bool} {a : Act} {w : World} {o : Oper} (h : PInv w0 B listed a w) (hs : listed.size = 71) (i : Nat) (hi : i < 71) (hv : partsView[i]? = some (oview o)) (ho : ops[i]? = some o)
    (hall : ∀ e ∈ o.after, Region.binds .any e = true → listed.getD e.on false = true) (hf : listed.getD i true = false) : wpOp Tryd.prog ops Q i (PInv w0 B (listed.setIfInBounds i true)) a w := by
  match i, hi, hv, ho, hf with
  | 0, _, hv, ho, hf => have hv := vw hv rfl; exact step_mk h ho (by omega) (op_of hv) (mk_at h hs hf).1 (mk_at h hs hf).2.1 (mk_at h hs hf).2.2
  | 1, _, hv, ho, hf => have hv := vw hv rfl; exact step_move h ho (op_of hv) rfl
  | 2, _, hv, ho, hf => have hv := vw hv rfl; exact step_nil h ho (op_of hv) (j := 1) (d := 4) rfl (dep_of hall hv (by decide)) rfl
  | 3, _, hv, ho, hf => have hv := vw hv rfl; exact step_addr h ho (op_of hv) (j := 2) (d := 5) rfl (dep_of hall hv (by decide)) rfl (addr_1 B)
  | 4, _, hv, ho, hf => have hv := vw hv rfl; exact step_call h ho (op_of hv) (j := 3) (d := 6) rfl (dep_of hall hv (by decide)) rfl enters_way (way_dirp B)
  | 5, _, hv, ho, hf => have hv := vw hv rfl; exact step_build1 h ho (op_of hv) (i0 := 4) (s0 := 7) rfl (dep_of hall hv (by decide)) rfl rfl
  | 6, _, hv, ho, hf => have hv := vw hv rfl; exact step_ins h ho (op_of hv) (k := 1) (by decide) (by decide) rfl (dep_of hall hv (by decide)) (j := 5) (d := 8) rfl (dep_of hall hv (by decide)) hf
  | 7, _, hv, ho, hf => have hv := vw hv rfl; exact step_move h ho (op_of hv) rfl
  | 8, _, hv, ho, hf => have hv := vw hv rfl; exact step_nil h ho (op_of hv) (j := 7) (d := 9) rfl (dep_of hall hv (by decide)) rfl
  | 9, _, hv, ho, hf => have hv := vw hv rfl; exact step_addr h ho (op_of hv) (j := 8) (d := 10) rfl (dep_of hall hv (by decide)) rfl (addr_4 B)
  | 10, _, hv, ho, hf => have hv := vw hv rfl; exact step_call h ho (op_of hv) (j := 9) (d := 11) rfl (dep_of hall hv (by decide)) rfl enters_number (number_who B)
  | 11, _, hv, ho, hf => have hv := vw hv rfl; exact step_move h ho (op_of hv) rfl
  | 12, _, hv, ho, hf => have hv := vw hv rfl; exact step_nil h ho (op_of hv) (j := 11) (d := 13) rfl (dep_of hall hv (by decide)) rfl
  | 13, _, hv, ho, hf => have hv := vw hv rfl; exact step_addr h ho (op_of hv) (j := 12) (d := 14) rfl (dep_of hall hv (by decide)) rfl (addr_1 B)
  | 14, _, hv, ho, hf => have hv := vw hv rfl; exact step_call h ho (op_of hv) (j := 13) (d := 15) rfl (dep_of hall hv (by decide)) rfl enters_way (way_dirp B)
  | 15, _, hv, ho, hf => have hv := vw hv rfl; exact step_build2 h ho (op_of hv) (i0 := 10) (s0 := 12) rfl (dep_of hall hv (by decide)) (i1 := 14) (s1 := 16) rfl (dep_of hall hv (by decide)) rfl rfl
  | 16, _, hv, ho, hf => have hv := vw hv rfl; exact step_ins h ho (op_of hv) (k := 2) (by decide) (by decide) rfl (dep_of hall hv (by decide)) (j := 15) (d := 17) rfl (dep_of hall hv (by decide)) hf
  | 17, _, hv, ho, hf => have hv := vw hv rfl; exact step_move h ho (op_of hv) rfl
  | 18, _, hv, ho, hf => have hv := vw hv rfl; exact step_nil h ho (op_of hv) (j := 17) (d := 18) rfl (dep_of hall hv (by decide)) rfl
  | 19, _, hv, ho, hf => have hv := vw hv rfl; exact step_addr h ho (op_of hv) (j := 18) (d := 19) rfl (dep_of hall hv (by decide)) rfl (addr_2 B)
  | 20, _, hv, ho, hf => have hv := vw hv rfl; exact step_call h ho (op_of hv) (j := 19) (d := 20) rfl (dep_of hall hv (by decide)) rfl enters_number (number_item B)
  | 21, _, hv, ho, hf => have hv := vw hv rfl; exact step_build1 h ho (op_of hv) (i0 := 20) (s0 := 21) rfl (dep_of hall hv (by decide)) rfl rfl
  | 22, _, hv, ho, hf => have hv := vw hv rfl; exact step_ins h ho (op_of hv) (k := 3) (by decide) (by decide) rfl (dep_of hall hv (by decide)) (j := 21) (d := 22) rfl (dep_of hall hv (by decide)) hf
  | 23, _, hv, ho, hf => have hv := vw hv rfl; exact step_move h ho (op_of hv) rfl
  | 24, _, hv, ho, hf => have hv := vw hv rfl; exact step_nil h ho (op_of hv) (j := 23) (d := 23) rfl (dep_of hall hv (by decide)) rfl
  | 25, _, hv, ho, hf => have hv := vw hv rfl; exact step_addr h ho (op_of hv) (j := 24) (d := 24) rfl (dep_of hall hv (by decide)) rfl (addr_2 B)
  | 26, _, hv, ho, hf => have hv := vw hv rfl; exact step_call h ho (op_of hv) (j := 25) (d := 25) rfl (dep_of hall hv (by decide)) rfl enters_number (number_item B)
  | 27, _, hv, ho, hf => have hv := vw hv rfl; exact step_build1 h ho (op_of hv) (i0 := 26) (s0 := 26) rfl (dep_of hall hv (by decide)) rfl rfl
  | 28, _, hv, ho, hf => have hv := vw hv rfl; exact step_ins h ho (op_of hv) (k := 4) (by decide) (by decide) rfl (dep_of hall hv (by decide)) (j := 27) (d := 27) rfl (dep_of hall hv (by decide)) hf
  | 29, _, hv, ho, hf => have hv := vw hv rfl; exact step_move h ho (op_of hv) rfl
  | 30, _, hv, ho, hf => have hv := vw hv rfl; exact step_nil h ho (op_of hv) (j := 29) (d := 28) rfl (dep_of hall hv (by decide)) rfl
  | 31, _, hv, ho, hf => have hv := vw hv rfl; exact step_addr h ho (op_of hv) (j := 30) (d := 29) rfl (dep_of hall hv (by decide)) rfl (addr_2 B)
  | 32, _, hv, ho, hf => have hv := vw hv rfl; exact step_call h ho (op_of hv) (j := 31) (d := 30) rfl (dep_of hall hv (by decide)) rfl enters_number (number_item B)
  | 33, _, hv, ho, hf => have hv := vw hv rfl; exact step_word h ho (op_of hv) rfl enters_word (word_in B)
  | 34, _, hv, ho, hf => have hv := vw hv rfl; exact step_move h ho (op_of hv) rfl
  | 35, _, hv, ho, hf => have hv := vw hv rfl; exact step_nil h ho (op_of hv) (j := 34) (d := 33) rfl (dep_of hall hv (by decide)) rfl
  | 36, _, hv, ho, hf => have hv := vw hv rfl; exact step_addr h ho (op_of hv) (j := 35) (d := 34) rfl (dep_of hall hv (by decide)) rfl (addr_3 B)
  | 37, _, hv, ho, hf => have hv := vw hv rfl; exact step_call h ho (op_of hv) (j := 36) (d := 35) rfl (dep_of hall hv (by decide)) rfl enters_number (number_box B)
  | 38, _, hv, ho, hf => have hv := vw hv rfl; exact step_build3 h ho (op_of hv) (i0 := 32) (s0 := 31) rfl (dep_of hall hv (by decide)) (i1 := 33) (s1 := 32) rfl (dep_of hall hv (by decide)) (i2 := 37) (s2 := 36) rfl (dep_of hall hv (by decide)) rfl rfl
  | 39, _, hv, ho, hf => have hv := vw hv rfl; exact step_ins h ho (op_of hv) (k := 5) (by decide) (by decide) rfl (dep_of hall hv (by decide)) (j := 38) (d := 37) rfl (dep_of hall hv (by decide)) hf
  | 40, _, hv, ho, hf => have hv := vw hv rfl; exact step_move h ho (op_of hv) rfl
  | 41, _, hv, ho, hf => have hv := vw hv rfl; exact step_nil h ho (op_of hv) (j := 40) (d := 38) rfl (dep_of hall hv (by decide)) rfl
  | 42, _, hv, ho, hf => have hv := vw hv rfl; exact step_addr h ho (op_of hv) (j := 41) (d := 39) rfl (dep_of hall hv (by decide)) rfl (addr_2 B)
  | 43, _, hv, ho, hf => have hv := vw hv rfl; exact step_call h ho (op_of hv) (j := 42) (d := 40) rfl (dep_of hall hv (by decide)) rfl enters_number (number_item B)
  | 44, _, hv, ho, hf => have hv := vw hv rfl; exact step_word h ho (op_of hv) rfl enters_word (word_from B)
  | 45, _, hv, ho, hf => have hv := vw hv rfl; exact step_move h ho (op_of hv) rfl
  | 46, _, hv, ho, hf => have hv := vw hv rfl; exact step_nil h ho (op_of hv) (j := 45) (d := 43) rfl (dep_of hall hv (by decide)) rfl
  | 47, _, hv, ho, hf => have hv := vw hv rfl; exact step_addr h ho (op_of hv) (j := 46) (d := 44) rfl (dep_of hall hv (by decide)) rfl (addr_3 B)
  | 48, _, hv, ho, hf => have hv := vw hv rfl; exact step_call h ho (op_of hv) (j := 47) (d := 45) rfl (dep_of hall hv (by decide)) rfl enters_number (number_box B)
  | 49, _, hv, ho, hf => have hv := vw hv rfl; exact step_build3 h ho (op_of hv) (i0 := 43) (s0 := 41) rfl (dep_of hall hv (by decide)) (i1 := 44) (s1 := 42) rfl (dep_of hall hv (by decide)) (i2 := 48) (s2 := 46) rfl (dep_of hall hv (by decide)) rfl rfl
  | 50, _, hv, ho, hf => have hv := vw hv rfl; exact step_ins h ho (op_of hv) (k := 6) (by decide) (by decide) rfl (dep_of hall hv (by decide)) (j := 49) (d := 47) rfl (dep_of hall hv (by decide)) hf
  | 51, _, hv, ho, hf => have hv := vw hv rfl; exact step_move h ho (op_of hv) rfl
  | 52, _, hv, ho, hf => have hv := vw hv rfl; exact step_nil h ho (op_of hv) (j := 51) (d := 48) rfl (dep_of hall hv (by decide)) rfl
  | 53, _, hv, ho, hf => have hv := vw hv rfl; exact step_addr h ho (op_of hv) (j := 52) (d := 49) rfl (dep_of hall hv (by decide)) rfl (addr_2 B)
  | 54, _, hv, ho, hf => have hv := vw hv rfl; exact step_call h ho (op_of hv) (j := 53) (d := 50) rfl (dep_of hall hv (by decide)) rfl enters_number (number_item B)
  | 55, _, hv, ho, hf => have hv := vw hv rfl; exact step_word h ho (op_of hv) rfl enters_word (word_to B)
  | 56, _, hv, ho, hf => have hv := vw hv rfl; exact step_move h ho (op_of hv) rfl
  | 57, _, hv, ho, hf => have hv := vw hv rfl; exact step_nil h ho (op_of hv) (j := 56) (d := 53) rfl (dep_of hall hv (by decide)) rfl
  | 58, _, hv, ho, hf => have hv := vw hv rfl; exact step_addr h ho (op_of hv) (j := 57) (d := 54) rfl (dep_of hall hv (by decide)) rfl (addr_4 B)
  | 59, _, hv, ho, hf => have hv := vw hv rfl; exact step_call h ho (op_of hv) (j := 58) (d := 55) rfl (dep_of hall hv (by decide)) rfl enters_number (number_who B)
  | 60, _, hv, ho, hf => have hv := vw hv rfl; exact step_build3 h ho (op_of hv) (i0 := 54) (s0 := 51) rfl (dep_of hall hv (by decide)) (i1 := 55) (s1 := 52) rfl (dep_of hall hv (by decide)) (i2 := 59) (s2 := 56) rfl (dep_of hall hv (by decide)) rfl rfl
  | 61, _, hv, ho, hf => have hv := vw hv rfl; exact step_ins h ho (op_of hv) (k := 7) (by decide) (by decide) rfl (dep_of hall hv (by decide)) (j := 60) (d := 57) rfl (dep_of hall hv (by decide)) hf
  | 62, _, hv, ho, hf => have hv := vw hv rfl; exact step_move h ho (op_of hv) rfl
  | 63, _, hv, ho, hf => have hv := vw hv rfl; exact step_trade h ho (op_of hv) (j := 62) (d := 58) rfl (dep_of hall hv (by decide)) rfl
  | 64, _, hv, ho, hf => have hv := vw hv rfl; exact step_ins h ho (op_of hv) (k := 8) (by decide) (by decide) rfl (dep_of hall hv (by decide)) (j := 63) (d := 59) rfl (dep_of hall hv (by decide)) hf
  | 65, _, hv, ho, hf => have hv := vw hv rfl; exact step_build0 h ho (op_of hv) rfl rfl
  | 66, _, hv, ho, hf => have hv := vw hv rfl; exact step_ins h ho (op_of hv) (k := 9) (by decide) (by decide) rfl (dep_of hall hv (by decide)) (j := 65) (d := 60) rfl (dep_of hall hv (by decide)) hf
  | 67, _, hv, ho, hf => have hv := vw hv rfl; exact step_build0 h ho (op_of hv) rfl rfl
  | 68, _, hv, ho, hf => have hv := vw hv rfl; exact step_ins h ho (op_of hv) (k := 10) (by decide) (by decide) rfl (dep_of hall hv (by decide)) (j := 67) (d := 61) rfl (dep_of hall hv (by decide)) hf
  | 69, _, hv, ho, hf => have hv := vw hv rfl; exact step_fin1 h ho (by omega) (op_of hv) (dep_of hall hv (by decide))
  | 70, _, hv, ho, hf => have hv := vw hv rfl; exact step_fin2 h ho (by omega) (op_of hv) (dep_of hall hv (by decide))
def hasPrior (l : List Oper) : Bool := l.zipIdx.all fun (o, i) => o.after.toList.all fun e => decide (e.on < i)
theorem prior_of {ops : Array Oper} (h : hasPrior ops.toList = true) (i : Nat) (o : Oper) (ho : ops[i]? = some o) : ∀ e ∈ o.after, e.on < i := by
  intro e he
  have h1 := List.all_eq_true.1 h (o, i) (by
    rw [List.mem_zipIdx_iff_getElem?]
    simpa using ho)
  have h2 := List.all_eq_true.1 h1 e (by simpa using he)
  simpa using h2
theorem cnt_all (n : Nat) : (Array.replicate n false).toList.countP (fun b => !b) ≤ n := by
  have := List.countP_le_length (p := fun b => !b) (l := (Array.replicate n false).toList)
  simpa using this
set_option maxRecDepth 100000 in
set_option maxHeartbeats 4000000 in
theorem parts_make (B : Nat) (w : World) : Calls Tryd.prog 24 #[.pointer (some ⟨B, 0, none⟩)] w (GivesMap w B) := by
  go_enter Tryd.func24, Tryd.ntmps24
  go_wp2_with fail
  refine region_gen (fun ops hops => ?_)
  have hview : ops.toList.map oview = partsView := by rw [hops]; kernel_rfl
  have hprior : hasPrior ops.toList = true := by rw [hops]; kernel_rfl
  have hn : ops.size = 71 := by rw [hops]; kernel_rfl
  clear hops
  refine wp_region_any (by kernel_rfl) ?_
  refine wpAny_inv (PInv w B) (prior_of hprior) (fun listed a W i o hs hI hf ho hall => ?_) (fun listed a W hs hall hI => ?_) _ _ _ _ (by simp) (cnt_all _) ?_
  · have hi : i < 71 := by rw [← hn]; exact (Array.getElem?_eq_some_iff.1 ho).1
    refine step_any hI (hs.trans hn) i hi ?_ ho hall hf
    rw [← hview, List.getElem?_map]
    have : ops.toList[i]? = some o := by simpa using ho
    rw [this]; rfl
  · obtain ⟨g0, g1⟩ := hI.fin2 (hall 70 (by omega))
    obtain ⟨b, e1, hm⟩ := hI.map g0
    rw [e1] at g1
    have hm2 : MapAt w B hasKind b W := hm.congr fun k => ⟨fun h => h.1, fun h => ⟨h, hall _ (by have := (ins_mem h).2.1; omega)⟩⟩
    have hB := hI.below
    have hz := hI.size
    have hd := hI.defers
    clear hI hm
    rename_i K hK
    refine hK a W (wp_ret (bodyPost_ret (results_tmp rfl _ _ _) hd ?_))
    refine ⟨b, ?_, hm2, hB⟩
    rw [Array.getD_eq_getD_getElem?, g1]; rfl
  · refine ⟨rfl, rfl, rfl, ⟨rfl, rfl, rfl, Nat.le_refl _, fun _ _ => rfl⟩, fun i s r hr hl => ?_, fun hl => ?_, fun hl => ?_, fun hl => ?_, fun k hk hl => ?_⟩
    all_goals (exfalso; simp only [Array.getD_eq_getD_getElem?, Array.getElem?_replicate] at hl; split at hl <;> cases hl)
end Go.Proofs.YtinjpkbpdhihjaaDoor
