import Derived.Test.YtinjpkbpdhihjaaDoorRows
import Derived.Test.YtinjpkbpdhihjaaDoorKit
import Derived.Test.YtinjpkbpdhihjaaDoorStrs
import Derived.Test.YtinjpkbpdhihjaaDoorJTab
import Derived.Test.YtinjpkbpdhihjaaDoorJBlk
import Derived.Test.YtinjpkbpdhihjaaDoorClone
import Derived.Test.YtinjpkbpdhihjaaDoorJMath
import Derived.Test.YtinjpkbpdhihjaaDoorJNum
import Derived.Test.YtinjpkbpdhihjaaDoorJTokWord
import Derived.Test.YtinjpkbpdhihjaaDoorJCut
import Derived.Test.YtinjpkbpdhihjaaDoorJAppend
import Derived.Test.YtinjpkbpdhihjaaDoorJGrown
import Derived.Test.YtinjpkbpdhihjaaDoorJCmd
import Derived.Test.YtinjpkbpdhihjaaDoorJCmdNames1
import Derived.Test.YtinjpkbpdhihjaaDoorJLinePart
import Derived.Test.YtinjpkbpdhihjaaDoorJLineTrade
import Derived.Test.YtinjpkbpdhihjaaDoorJPut
import Derived.Test.YtinjpkbpdhihjaaDoorJLinePut3
import Derived.Test.YtinjpkbpdhihjaaDoorJTake
import Derived.Shelf.Abstract
import Derived.WalkKit
import Derived.ProofKit
import Derived.OpenShut
import Derived.IntWalk
/- line: a piece taken off the beginning, whatever piece it is. -/
namespace Go.Proofs.YtinjpkbpdhihjaaDoor
open Go.ChangeShapes Go.WideShapes Go.ChangeAt Go.RowKit
set_option linter.unusedVariables false
open Go.RowKit Go
theorem ints_of_row {w : World} {base n : Nat} {a : Option Addr} {cap : Nat} {xs : List Int} (h : w.ownsRow base 3 1 (.slice a n cap) n (xs.map (Value.int .i64))) (hn : n = xs.length) (hm : xs.length ≤ maxLen) : IntsAt w a xs := by
  subst hn
  refine ⟨hm, ?_⟩
  rcases h.2 with ⟨e, h0⟩ | ⟨g, c, cur, e, hg, hh, hc, hx, hcs, htk⟩
  · exact .inl (List.length_eq_zero_iff.1 h0)
  · simp only [Value.slice.injEq] at e
    obtain ⟨rfl, -, rfl⟩ := e
    refine .inr ⟨g, 0, rfl, (Array.getElem?_eq_some_iff.1 hh).1, fun i hi => ?_⟩
    have e2 : (cur.toList.take (xs.length * 1))[i]? = (xs.map (Value.int .i64))[i]? := by rw [htk]
    rw [List.getElem?_take, if_pos (by omega)] at e2
    simp [World.cell?, hh]
    simpa [hi] using e2
/-- A list that is empty is nil. -/
def LNil (a : Option Addr) (cap : Nat) (xs : List Int) : Prop := xs = [] → a = none ∧ cap = 0
/-- A row of block B's own. -/
def bv (B : Nat) : Value := .slice (some ⟨B, 0, none⟩) 0 0
/-- A list lies above block B. -/
def Above (a : Option Addr) (xs : List Int) (B : Nat) : Prop := xs = [] ∨ ∀ p, a = some p → B < p.block
theorem Above.off {a : Option Addr} {xs : List Int} {B n : Nat} (h : Above a xs B) (hn : n ≤ B) : Off a xs (bv n) := by
  rcases h with h | h
  · exact .inl h
  · refine .inr fun p hp e => ?_
    have := h p hp
    have h3 : p.block = n := Option.some.inj e
    omega
/-- The command that is read, in block B. -/
structure TSt (W : World) (B : Nat) (c : Cm) (ga : Option Addr) (gc : Nat) (wa : Option Addr) (wc : Nat) : Prop where
  blk : Blk W B 24 #[.int .i64 c.kind, .int .i64 c.dir, .int .i64 c.item, .int .i64 c.box, .int .i64 c.who, .slice ga c.gives.length gc, .int .i64 c.pay, .slice wa c.wants.length wc, .int .i64 c.fee]
  gi : IntsAt W ga c.gives
  wi : IntsAt W wa c.wants
  gn : LNil ga gc c.gives
  wn : LNil wa wc c.wants
  go : Above ga c.gives B
  wo : Above wa c.wants B
def Takes (W : World) (B : Nat) (out : Cm × List (List UInt8) × Bool) (e : Ending) (W' : World) : Prop :=
  ∃ v' ga gc wa wc, e = .returned (.tuple #[v', .bool out.2.2]) ∧ StrsC W' v' out.2.1 ∧ TSt W' B out.1 ga gc wa wc ∧ W.grownBy W' (some B)
theorem cc_noText (c : Cm) (ga wa : Option Addr) (gc wc : Nat) : noText #[.int .i64 c.kind, .int .i64 c.dir, .int .i64 c.item, .int .i64 c.box, .int .i64 c.who, .slice ga c.gives.length gc, .int .i64 c.pay, .slice wa c.wants.length wc, .int .i64 c.fee] := by
  intro j s
  match j with
  | 0 | 1 | 2 | 3 | 4 | 5 | 6 | 7 | 8 => simp
  | j + 9 => simp
theorem strsC_nil (W : World) : StrsC W (.slice none 0 0) [] := ⟨⟨none, 0, rfl, by simp, .inl rfl⟩, none, 0, rfl, Nat.le_refl _⟩
section
variable {W W0 : World} {lo B : Nat} {c : Cm} {ga wa : Option Addr} {gc wc : Nat} {v pv tv : Value} {ws xs : List (List UInt8)} {x : List UInt8} {p : Pt}
theorem TSt.same {W' : World} (h : TSt W B c ga gc wa wc) (hh : W'.heap = W.heap) : TSt W' B c ga gc wa wc := by
  obtain ⟨h1, h2, h3, h4, h5, h6, h7⟩ := h
  refine ⟨by unfold Blk; rw [hh]; exact h1, ?_, ?_, h4, h5, h6, h7⟩
  · obtain ⟨a, b⟩ := h2; refine ⟨a, ?_⟩; simpa only [World.cell?, hh] using b
  · obtain ⟨a, b⟩ := h3; refine ⟨a, ?_⟩; simpa only [World.cell?, hh] using b
theorem grown_drewN (W : World) (n : Nat) (r : Option Nat) : W.grownBy (W.drewN n) r := ⟨rfl, rfl, rfl, Nat.le_refl _, fun _ _ _ => rfl⟩
theorem take_nothing (st : TSt W B c ga gc wa wc) (n : Nat) : Takes W B (c, [], false) (.returned (.tuple #[.slice none 0 0, .bool false])) (W.drewN n) :=
  ⟨_, ga, gc, wa, wc, rfl, strsC_nil _, st.same rfl, grown_drewN W n _⟩
theorem take_one (st : TSt W B c ga gc wa wc) (f : Fd) (n : Int) (b : Bool) {v' : Value} (hs : StrsC W v' xs) :
    Takes W B (setF c n f, xs, b) (.returned (.tuple #[v', .bool b])) (W.drew.setCell ⟨B, f.off, none⟩ (.int .i64 n)) := by
  have hg : W.grownBy (W.drew.setCell ⟨B, f.off, none⟩ (.int .i64 n)) (some B) := by
    have := grown_set W.drew ⟨B, f.off, none⟩ (.int .i64 n)
    exact ⟨this.os, this.tape, this.output, this.size, this.block⟩
  have e1 : (setF c n f).gives = c.gives := by cases f <;> rfl
  have e2 : (setF c n f).wants = c.wants := by cases f <;> rfl
  refine ⟨v', ga, gc, wa, wc, rfl, hs.grown hg st.blk (cc_noText c ga wa gc wc), ⟨?_, ?_, ?_, ?_, ?_, ?_, ?_⟩, hg⟩
  · have := Blk.set_ (w := W.drew) st.blk f.off (.int .i64 n)
    cases f <;> exact this
  · rw [e1]; exact st.gi.grown (v := bv B) hg (st.go.off (Nat.le_refl _))
  · rw [e2]; exact st.wi.grown (v := bv B) hg (st.wo.off (Nat.le_refl _))
  · rw [e1]; exact st.gn
  · rw [e2]; exact st.wn
  · rw [e1]; exact st.go
  · rw [e2]; exact st.wo
theorem take_rest (st : TSt W B c ga gc wa wc) (n : Nat) (b : Bool) {v' : Value} (hs : StrsC W v' xs) : Takes W B (c, xs, b) (.returned (.tuple #[v', .bool b])) (W.drewN n) :=
  ⟨v', ga, gc, wa, wc, rfl, hs, st.same rfl, grown_drewN W n _⟩
theorem take_list (st : TSt W B c ga gc wa wc) (g : Bool) (hnil : getL c g = []) {W' : World} {e : Ending} (h : TakesNums W B (sideOff g) #[.int .i64 c.kind, .int .i64 c.dir, .int .i64 c.item, .int .i64 c.box, .int .i64 c.who, .slice ga c.gives.length gc, .int .i64 c.pay, .slice wa c.wants.length wc, .int .i64 c.fee] ws e W') (hl : ws.length ≤ 1000000) : Takes W B (takeP c ws (.nums g)) e W' := by
  obtain ⟨v', lv, rfl, hs, hg, hb, hr, hn⟩ := h
  obtain ⟨a, cap, rfl⟩ := int_slice hr
  have hzl : (ws.takeWhile numB).length ≤ ws.length := (List.takeWhile_prefix numB).length_le
  have e0 : ((ws.takeWhile numB).map fun w => (numN w : Int)).length = (ws.takeWhile numB).length := List.length_map ..
  have em : (ws.takeWhile numB).map nv = ((ws.takeWhile numB).map fun w => (numN w : Int)).map (Value.int .i64) := by rw [List.map_map]; rfl
  have hBw := st.blk.lt
  rw [em] at hr
  have hI := ints_of_row hr e0.symm (by rw [e0]; unfold maxLen; omega)
  have hO : Above a ((ws.takeWhile numB).map fun w => (numN w : Int)) B := by
    refine .inr fun p hp => ?_
    subst hp
    have := (hr.lt p.block rfl).1
    omega
  have hN : LNil a cap ((ws.takeWhile numB).map fun w => (numN w : Int)) := fun e => by
    have : ws.takeWhile numB = [] := List.map_eq_nil_iff.1 e
    have := hn this
    simp only [Value.slice.injEq] at this
    exact ⟨this.1, this.2.2⟩
  have hs' := hs.grown hg st.blk (cc_noText c ga wa gc wc)
  rw [← e0] at hb
  generalize hz : ((ws.takeWhile numB).map fun w => (numN w : Int)) = zs at *
  cases g with
  | true =>
    have ec : takeP c ws (.nums true) = ({ c with gives := zs }, ws.dropWhile numB, true) := by
      show (setL c true (getL c true ++ _), _, _) = _
      rw [hnil, List.nil_append, hz]; rfl
    rw [ec]
    exact ⟨v', a, cap, wa, wc, rfl, hs', ⟨hb, hI, st.wi.grown (v := bv B) hg (st.wo.off (Nat.le_refl _)), hN, st.wn, hO, st.wo⟩, hg⟩
  | false =>
    have ec : takeP c ws (.nums false) = ({ c with wants := zs }, ws.dropWhile numB, true) := by
      show (setL c false (getL c false ++ _), _, _) = _
      rw [hnil, List.nil_append, hz]; rfl
    rw [ec]
    exact ⟨v', ga, gc, a, cap, rfl, hs', ⟨hb, st.gi.grown (v := bv B) hg (st.go.off (Nat.le_refl _)), hI, st.gn, hN, st.go, hO⟩, hg⟩
theorem side_nil (st : TSt W B c ga gc wa wc) (g : Bool) (h : getL c g = []) : (#[.int .i64 c.kind, .int .i64 c.dir, .int .i64 c.item, .int .i64 c.box, .int .i64 c.who, .slice ga c.gives.length gc, .int .i64 c.pay, .slice wa c.wants.length wc, .int .i64 c.fee] : Array Value)[sideOff g]? = some (.slice none 0 0) := by
  cases g with
  | true =>
    obtain ⟨e1, e2⟩ := st.gn h
    have e3 : c.gives = [] := h
    show some (Value.slice ga c.gives.length gc) = _
    rw [e1, e2, e3]; rfl
  | false =>
    obtain ⟨e1, e2⟩ := st.wn h
    have e3 : c.wants = [] := h
    show some (Value.slice wa c.wants.length wc) = _
    rw [e1, e2, e3]; rfl
theorem enters_one2 : Enters Tryd.prog 60 := enters_of Tryd.func60 (by kernel_rfl) rfl
theorem enters_word2 : Enters Tryd.prog 66 := enters_of Tryd.func66 (by kernel_rfl) rfl
theorem enters_nums2 : Enters Tryd.prog 73 := enters_of Tryd.func73 (by kernel_rfl) rfl
theorem strsC_nil_form (h : StrsC W v []) : ∃ a cap, v = .slice a 0 cap := by
  obtain ⟨⟨a, cap, rfl, _⟩, _⟩ := h
  exact ⟨a, cap, rfl⟩
theorem piece_take (hp : PartAt W0 lo B pv tv p) (hs : Stay lo W0 W) (hlo : B < lo) (ht : Tabs W) (st : TSt W B c ga gc wa wc) (hw : StrsC W v ws) (hx : ∀ x ∈ ws, x.length ≤ 1000000) (hl : ws.length ≤ 1000000) (hnil : ∀ g, p = .nums g → getL c g = []) :
    ∃ F fs, tv = .func (.func F) #[] fs ∧ (∀ (args : Array Value) (w : World), (callFunc F args).run Tryd.prog w = .ok (.enter F args) w) ∧ Calls Tryd.prog F (#[v] ++ fs) W (Takes W B (takeP c ws p)) := by
  cases p with
  | one k f =>
    obtain ⟨a, b, q, h1, h2, h3, e1, e2, b1, b2, b3⟩ := hp
    refine ⟨_, _, e2, enters_one2, ?_⟩
    have hc := field_cell st.blk f
    have hf := st.blk.frozen f.off
    cases ws with
    | nil =>
      obtain ⟨s, cap, rfl⟩ := strsC_nil_form hw
      exact (one_take_none s _ _ cap W).mono fun e w' ⟨e1, e2⟩ => by subst e1 e2; exact take_nothing st 0
    | cons x xs =>
      cases k with
      | name => exact (one_take_name a q B f.off (getF c f) v x xs W ht.1 (b1.stay hs h1) (b3.stay hs h3) hc hf hw).mono fun e w' ⟨v', e1, e2, e3⟩ => by subst e1 e3; exact take_one st f (kindN x) (kindB x) e2
      | way => exact (one_take_way a q B f.off (getF c f) v x xs W ht.2.1 (b1.stay hs h1) (b3.stay hs h3) hc hf hw).mono fun e w' ⟨v', e1, e2, e3⟩ => by subst e1 e3; exact take_one st f (dirN x) (dirB x) e2
      | num => exact (one_take_num a q B f.off (getF c f) v x xs W (by have := hx x (by simp); omega) (b1.stay hs h1) (b3.stay hs h3) hc hf hw).mono fun e w' ⟨v', e1, e2, e3⟩ => by subst e1 e3; exact take_one st f (numN x) (numB x) e2
  | word y =>
    obtain ⟨a, h1, e1, e2, b1⟩ := hp
    refine ⟨_, _, e2, enters_word2, ?_⟩
    cases ws with
    | nil =>
      obtain ⟨s, cap, rfl⟩ := strsC_nil_form hw
      exact (word_take_none s _ cap W).mono fun e w' ⟨e1, n, e2⟩ => by subst e1 e2; exact take_nothing st n
    | cons x xs =>
      by_cases hxy : x = y
      · subst hxy
        have : takeP c (x :: xs) (.word x) = (c, xs, true) := by simp [takeP]
        rw [this]
        exact (word_take_yes a v x xs W (b1.stay hs h1) hw).mono fun e w' ⟨v', e1, e2, n, e3⟩ => by subst e1 e3; exact take_rest st n true e2
      · have : takeP c (x :: xs) (.word y) = (c, [], false) := by simp [takeP, hxy]
        rw [this]
        exact (word_take_no a v x y xs W (b1.stay hs h1) hw hxy).mono fun e w' ⟨e1, n, e2⟩ => by subst e1 e2; exact take_nothing st n
  | nums g =>
    obtain ⟨a, h1, e1, e2, b1⟩ := hp
    refine ⟨_, _, e2, enters_nums2, ?_⟩
    have hn := hnil g rfl
    exact (nums_take a B (sideOff g) #[.int .i64 c.kind, .int .i64 c.dir, .int .i64 c.item, .int .i64 c.box, .int .i64 c.who, .slice ga c.gives.length gc, .int .i64 c.pay, .slice wa c.wants.length wc, .int .i64 c.fee] v ws W (b1.stay hs h1) st.blk (side_nil st g hn) (cc_noText c ga wa gc wc) (by omega) hw hx hl).mono fun e w' h => take_list st g hn h hl
end
end Go.Proofs.YtinjpkbpdhihjaaDoor
