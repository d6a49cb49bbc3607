import Derived.Test.YtinjpkbpdhihjaaDoorRows
import Derived.Test.YtinjpkbpdhihjaaDoorKit
import Derived.Test.YtinjpkbpdhihjaaDoorStrs
import Derived.Test.YtinjpkbpdhihjaaDoorJTab
import Derived.Test.YtinjpkbpdhihjaaDoorJBlk
import Derived.Test.YtinjpkbpdhihjaaDoorClone
import Derived.Test.YtinjpkbpdhihjaaDoorJMath
import Derived.Test.YtinjpkbpdhihjaaDoorJNum
import Derived.Test.YtinjpkbpdhihjaaDoorJTokWord
import Derived.Test.YtinjpkbpdhihjaaDoorJCut
import Derived.Test.YtinjpkbpdhihjaaDoorJAppend
import Derived.Test.YtinjpkbpdhihjaaDoorJGrown
import Derived.Test.YtinjpkbpdhihjaaDoorJCmd
import Derived.Test.YtinjpkbpdhihjaaDoorJCmdNames1
import Derived.Test.YtinjpkbpdhihjaaDoorJLinePart
import Derived.Test.YtinjpkbpdhihjaaDoorJLineTrade
import Derived.Test.YtinjpkbpdhihjaaDoorJPut
import Derived.Shelf.Abstract
import Derived.WalkKit
import Derived.ProofKit
import Derived.OpenShut
import Derived.IntWalk
/- line: a piece's words put, whatever piece it is. -/
namespace Go.Proofs.YtinjpkbpdhihjaaDoor
open Go.ChangeShapes Go.WideShapes Go.ChangeAt Go.RowKit
set_option linter.unusedVariables false
open Go.RowKit Go
/-- The program's tables lie as its text lays them. -/
def Tabs (w : World) : Prop := KTab w ∧ WTab w ∧ Tab w
theorem Tabs.below {w w' : World} {B : Nat} (h : Tabs w) (hb : Below B w w') (hB : w.heap.size ≤ B) : Tabs w' :=
  ⟨h.1.below (hb.mono hB), h.2.1.below (hb.mono hB), Joins.var_stays (g := 5) (by kernel_rfl) h.2.2 hb hB⟩
/-- What the pieces of a command that may be want of its fields. -/
def fitP (c : Cm) : Pt → Bool
  | .one .num f => okN (getF c f)
  | .one _ _ => true
  | .word _ => true
  | .nums g => areB (getL c g) && decide ((getL c g).length ≤ 16)
theorem may_fit {c : Cm} (h : mayB c = true) : ∀ p ∈ partsOf c.kind, fitP c p = true := by
  obtain ⟨hk, h2, h3, h4, h5, h6, h7, h8, h9, -, l1, l2⟩ := may_fields h
  unfold partsOf
  repeat' split
  all_goals
    intro p hp
    simp only [List.mem_cons, List.not_mem_nil, or_false] at hp
  all_goals
    first
      | (subst hp; simp [fitP, getF, *]; done)
      | (rcases hp with rfl | rfl <;> simp [fitP, getF, *]; done)
      | (rcases hp with rfl | rfl | rfl <;> simp [fitP, getF, *]; done)
      | (rcases hp with rfl | rfl | rfl | rfl | rfl | rfl | rfl | rfl | rfl <;> simp [fitP, getF, getL, *]; done)
theorem put_len {c : Cm} {p : Pt} (h : fitP c p = true) : (putP c p).length ≤ 16 := by
  cases p with
  | one k f => simp [putP]
  | word x => simp [putP]
  | nums g => simp [fitP] at h; simp [putP]; exact h.2
theorem enters_one1 : Enters Tryd.prog 59 := enters_of Tryd.func59 (by kernel_rfl) rfl
theorem enters_word1 : Enters Tryd.prog 65 := enters_of Tryd.func65 (by kernel_rfl) rfl
theorem enters_nums1 : Enters Tryd.prog 72 := enters_of Tryd.func72 (by kernel_rfl) rfl
theorem field_cell {W : World} {B : Nat} {c : Cm} {ga wa : Option Addr} {gc wc : Nat} (hB : Blk W B 24 #[.int .i64 c.kind, .int .i64 c.dir, .int .i64 c.item, .int .i64 c.box, .int .i64 c.who, .slice ga c.gives.length gc, .int .i64 c.pay, .slice wa c.wants.length wc, .int .i64 c.fee]) (f : Fd) : W.cell? ⟨B, f.off, none⟩ = some (.int .i64 (getF c f)) := by
  cases f <;> exact hB.cell _
theorem side_cell {W : World} {B : Nat} {c : Cm} {ga wa : Option Addr} {gc wc : Nat} (hB : Blk W B 24 #[.int .i64 c.kind, .int .i64 c.dir, .int .i64 c.item, .int .i64 c.box, .int .i64 c.who, .slice ga c.gives.length gc, .int .i64 c.pay, .slice wa c.wants.length wc, .int .i64 c.fee]) (g : Bool) : W.cell? ⟨B, sideOff g, none⟩ = some (if g then .slice ga c.gives.length gc else .slice wa c.wants.length wc) := by
  cases g <;> exact hB.cell _
theorem piece_put {W0 W : World} {lo B base : Nat} {pv tv v : Value} {p : Pt} {c : Cm} {ga wa : Option Addr} {gc wc : Nat} {ws : List (List UInt8)} (hp : PartAt W0 lo B pv tv p) (hs : Stay lo W0 W) (hfar : ∀ q, lo ≤ q → q < W0.heap.size → some q ≠ v.ownBlock)
    (hB : Blk W B 24 #[.int .i64 c.kind, .int .i64 c.dir, .int .i64 c.item, .int .i64 c.box, .int .i64 c.who, .slice ga c.gives.length gc, .int .i64 c.pay, .slice wa c.wants.length wc, .int .i64 c.fee]) (hBo : some B ≠ v.ownBlock) (hT : ∀ W', Below base W W' → Tabs W') (hfit : fitP c p = true) (hG : IntsAt W ga c.gives) (hGo : Off ga c.gives v) (hW : IntsAt W wa c.wants) (hWo : Off wa c.wants v)
    (hrow : W.ownsRow base 9 1 v ws.length (ws.map str)) (hbase : base ≤ W.heap.size) (hl : ws.length ≤ 9000) :
    ∃ F fs, pv = .func (.func F) #[] fs ∧ Enters Tryd.prog F ∧ Calls Tryd.prog F (#[v] ++ fs) W (PutsTo W base v (ws ++ putP c p)) := by
  have hT0 := hT W (Below.refl _ _)
  cases p with
  | one k f =>
    obtain ⟨a, b, q, h1, h2, h3, e1, e2, b1, b2, b3⟩ := hp
    refine ⟨_, _, e1, enters_one1, ?_⟩
    have m1 := hfar a h1 b1.lt
    have m2 := hfar b h2 b2.lt
    have hc := field_cell hB f
    cases k with
    | name => exact one_put_name a b B f.off base (getF c f) v ws W hT0.1 (b1.stay hs h1) (b2.stay hs h2) hc hrow hbase (by omega) m1 m2 hBo
    | way => exact one_put_way a b B f.off base (getF c f) v ws W hT0.2.1 (b1.stay hs h1) (b2.stay hs h2) hc hrow hbase (by omega) m1 m2 hBo
    | num =>
      simp only [fitP, okN, Bool.and_eq_true, decide_eq_true_eq] at hfit
      exact one_put_num a b B f.off base (getF c f) v ws W hT0.2.2 hfit.1 hfit.2 (b1.stay hs h1) (b2.stay hs h2) hc hrow hbase (by omega) m1 m2 hBo
  | word x =>
    obtain ⟨a, h1, e1, e2, b1⟩ := hp
    exact ⟨_, _, e1, enters_word1, word_put a base x v ws W (b1.stay hs h1) hrow hbase (by omega)⟩
  | nums g =>
    obtain ⟨a, h1, e1, e2, b1⟩ := hp
    refine ⟨_, _, e1, enters_nums1, ?_⟩
    simp only [fitP, Bool.and_eq_true, decide_eq_true_eq] at hfit
    have hc := side_cell hB g
    cases g with
    | true => exact nums_put a base B _ ga gc c.gives v ws W (fun W' hb => (hT W' hb).2.2) (b1.stay hs h1) hc hG hGo hfit.1 hrow hbase (by have := hfit.2; simp only [getL, if_true] at this; omega)
    | false => exact nums_put a base B _ wa wc c.wants v ws W (fun W' hb => (hT W' hb).2.2) (b1.stay hs h1) hc hW hWo hfit.1 hrow hbase (by have := hfit.2; simp only [getL] at this; simp at this; omega)
end Go.Proofs.YtinjpkbpdhihjaaDoor
