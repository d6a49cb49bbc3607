/- desc.fit: has no place more than it may? The walk. -/
import Derived.Test.YtkhjmgedamndhaaRows
import Derived.Test.YtkhjmgedamndhaaKit
import Derived.Test.YtkhjmgedamndhaaStrs
import Derived.Test.YtkhjmgedamndhaaCoin
import Derived.Test.YtkhjmgedamndhaaBlk
import Derived.Test.YtkhjmgedamndhaaHolds
import Derived.Test.YtkhjmgedamndhaaWorldMath
import Derived.Test.YtkhjmgedamndhaaWorldAt
import Derived.Test.YtkhjmgedamndhaaDescFit
import Derived.Deep.QuietTactic
import Derived.BigQuiet
import Derived.Deep.RegionHeld3
import Derived.WalkKit
import Derived.ProofKit
import Derived.OpenShut
import Derived.IntWalk
namespace Go.Proofs.Ytkhjmgedamndhaa
open Go.ChangeShapes Go.WideShapes Go.ChangeAt Go.RowKit
set_option linter.unusedVariables false
open Go.RowKit
/-- An operation whose run is known, as one step of a region that draws its order: an entry of a map; its store. -/
theorem step_entry {P : Program} {ops : Array Oper} {o : Oper} {a : Act} {w : World} {K : Act → World → Prop} {Q : Exit → Act → World → Prop} {E : Prop}
    (hg : o.guard = none) (t : TypeId) (m x : Operand) (hop : o.op = Op.mapEntry t m x) (v u r : Value) (w' : World) (hm : a.eval m = v) (hx : a.eval x = u)
    (hrun : (Instr.mapEntry t v u).run P w = .ok r w') (hK : K (a.put o.dst r) w') : if Region.wanted o (yielded ops a.tmps) = true then Oper.wp P o a w K Q else E := by
  rw [if_pos (by simp [Region.wanted, hg])]
  unfold Oper.wp
  simp [execOp, hop, hm, hx, hrun, Result.andThen]
  exact hK
theorem step_stamp {P : Program} {ops : Array Oper} {o : Oper} {a : Act} {w : World} {K : Act → World → Prop} {Q : Exit → Act → World → Prop} {E : Prop}
    (hg : o.guard = none) (t : TypeId) (m s x : Operand) (hop : o.op = Op.entryStore t m s x) (v u y : Value) (w' : World) (hm : a.eval m = v) (hs : a.eval s = u) (hx : a.eval x = y)
    (hrun : (Instr.entryStore t v u y).run P w = .ok () w') (hK : K (a.put o.dst undef) w') : if Region.wanted o (yielded ops a.tmps) = true then Oper.wp P o a w K Q else E := by
  rw [if_pos (by simp [Region.wanted, hg])]
  unfold Oper.wp
  simp [execOp, hop, hm, hs, hx, hrun, Result.andThen]
  exact hK
theorem step_lookup {P : Program} {ops : Array Oper} {o : Oper} {a : Act} {w : World} {K : Act → World → Prop} {Q : Exit → Act → World → Prop} {E : Prop}
    (hg : o.guard = none) (t : TypeId) (m x : Operand) (c : Bool) (hop : o.op = Op.lookup t m x c) (v u r : Value) (w' : World) (hm : a.eval m = v) (hx : a.eval x = u)
    (hrun : (Instr.lookup t v u c).run P w = .ok r w') (hK : K (a.put o.dst r) w') : if Region.wanted o (yielded ops a.tmps) = true then Oper.wp P o a w K Q else E := by
  rw [if_pos (by simp [Region.wanted, hg])]
  unfold Oper.wp
  simp [execOp, hop, hm, hx, hrun, Result.andThen]
  exact hK
/-- So many of each, among the first. -/
def cntK (ps : List Pl) (k : Nat) : Pl → Nat := fun p => (ps.take k).count p
theorem cnt_bump {ps : List Pl} {k : Nat} (hk : k < ps.length) : bump (cntK ps k) ps[k] = cntK ps (k + 1) := by
  funext q
  simp only [bump, cntK]
  rw [List.take_succ_eq_append_getElem hk, List.count_append]
  by_cases e : q = ps[k]
  · rw [if_pos e, ← e]; simp
  · rw [if_neg e, show [ps[k]].count q = 0 from List.count_eq_zero.2 (by simpa using e)]; rfl
theorem cnt_le (ps : List Pl) (k : Nat) (p : Pl) : cntK ps k p ≤ ps.count p := by
  have h := List.count_append (a := p) (l₁ := ps.take k) (l₂ := ps.drop k)
  rw [List.take_append_drop] at h
  simp only [cntK]; omega
/-- Nobody has more, among the first. -/
def FitK (d : Ds) (ps : List Pl) (k : Nat) : Prop := ∀ p ∈ ps.take k, (cntK ps k p : Int) ≤ capOf d p.kind
theorem fit_step {d : Ds} {ps : List Pl} {k : Nat} (hk : k < ps.length) (h : FitK d ps k) (hc : (cntK ps (k + 1) ps[k] : Int) ≤ capOf d ps[k].kind) : FitK d ps (k + 1) := by
  intro p hp
  by_cases e : p = ps[k]
  · subst e; exact hc
  · rw [List.take_succ_eq_append_getElem hk, List.mem_append] at hp
    have hp2 : p ∈ ps.take k := by
      rcases hp with hp | hp
      · exact hp
      · exact absurd (by simpa using hp) e
    have := h p hp2
    rw [← cnt_bump hk]
    simp only [bump]
    rw [if_neg e]
    exact this
theorem fit_no {d : Ds} {ps : List Pl} {k : Nat} (hk : k < ps.length) (hc : ¬ (cntK ps (k + 1) ps[k] : Int) ≤ capOf d ps[k].kind) : fitB d ps = false := by
  refine all_not _ hk ?_
  have := cnt_le ps (k + 1) ps[k]
  simp only [decide_eq_false_iff_not]
  omega
theorem fit_end {d : Ds} {ps : List Pl} (h : FitK d ps ps.length) : fitB d ps = true := by
  simp only [fitB, List.all_eq_true, decide_eq_true_eq]
  intro p hp
  have := h p (by simpa using hp)
  simpa [cntK] using this
/-- A place's most. -/
def mostOf (d : Ds) (k : Int) : Nat → Int := fun i => if i = 0 then d.room else if i = 1 then d.player else d.box
theorem Cts.at_ {W : World} {n : Nat} (hn : W.heap.size = n) (ps : List Pl) : Cts (W.alloc (.map #[] 0)) n (cntK ps 0) := by
  subst hn
  rw [show cntK ps 0 = fun _ => 0 by funext p; simp [cntK]]
  exact Cts.new W
theorem grown_cell {W W' : World} {r : Option Nat} (hg : W.grownBy W' r) {p : Addr} (hp : p.block < W.heap.size) (hn : some p.block ≠ r) : W'.cell? p = W.cell? p := by
  simp [World.cell?, hg.block p.block hp hn]
end Go.Proofs.Ytkhjmgedamndhaa
