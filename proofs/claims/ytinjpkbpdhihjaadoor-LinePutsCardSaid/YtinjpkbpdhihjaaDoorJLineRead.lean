import Derived.Test.YtinjpkbpdhihjaaDoorRows
import Derived.Test.YtinjpkbpdhihjaaDoorKit
import Derived.Test.YtinjpkbpdhihjaaDoorStrs
import Derived.Test.YtinjpkbpdhihjaaDoorJTab
import Derived.Test.YtinjpkbpdhihjaaDoorJBlk
import Derived.Test.YtinjpkbpdhihjaaDoorClone
import Derived.Test.YtinjpkbpdhihjaaDoorJMath
import Derived.Test.YtinjpkbpdhihjaaDoorJNum
import Derived.Test.YtinjpkbpdhihjaaDoorJTokWord
import Derived.Test.YtinjpkbpdhihjaaDoorJCut
import Derived.Test.YtinjpkbpdhihjaaDoorJAppend
import Derived.Test.YtinjpkbpdhihjaaDoorJGrown
import Derived.Test.YtinjpkbpdhihjaaDoorJCmd
import Derived.Test.YtinjpkbpdhihjaaDoorJCmdNames1
import Derived.Test.YtinjpkbpdhihjaaDoorJLinePart
import Derived.Test.YtinjpkbpdhihjaaDoorJLineTrade
import Derived.Test.YtinjpkbpdhihjaaDoorJAny
import Derived.Test.YtinjpkbpdhihjaaDoorJLineParts
import Derived.Test.YtinjpkbpdhihjaaDoorJPut
import Derived.Test.YtinjpkbpdhihjaaDoorJLinePut3
import Derived.Test.YtinjpkbpdhihjaaDoorJTake
import Derived.Test.YtinjpkbpdhihjaaDoorJLineTake4
import Derived.Test.YtinjpkbpdhihjaaDoorJTokJoin
import Derived.Test.YtinjpkbpdhihjaaDoorJWords
import Derived.Shelf.Abstract
import Derived.Deep.RegionHeld3
import Derived.WalkKit
import Derived.ProofKit
import Derived.OpenShut
import Derived.IntWalk
/- line: read: a command out of a line's words. -/
namespace Go.Proofs.YtinjpkbpdhihjaaDoor
open Go.ChangeShapes Go.WideShapes Go.ChangeAt Go.RowKit
set_option linter.unusedVariables false
open Go.RowKit Go
theorem take_sub (c : Cm) (ws : List (List UInt8)) (p : Pt) : (∀ x ∈ (takeP c ws p).2.1, x ∈ ws) ∧ (takeP c ws p).2.1.length ≤ ws.length := by
  cases p with
  | one k f => cases ws with
    | nil => simp [takeP]
    | cons w r => exact ⟨fun x hx => List.mem_cons_of_mem _ hx, by simp [takeP]⟩
  | word y => cases ws with
    | nil => simp [takeP]
    | cons w r =>
      simp only [takeP]
      split
      · exact ⟨fun x hx => List.mem_cons_of_mem _ hx, by simp⟩
      · simp
  | nums g => exact ⟨fun x hx => (List.dropWhile_suffix numB).mem hx, (List.dropWhile_suffix numB).length_le⟩
/-- Words that are short enough. -/
def fine (ws : List (List UInt8)) : Prop := (∀ x ∈ ws, x.length ≤ 1000000) ∧ ws.length ≤ 1000000
theorem fine.take {c : Cm} {ws : List (List UInt8)} (h : fine ws) (p : Pt) : fine (takeP c ws p).2.1 :=
  ⟨fun x hx => h.1 x ((take_sub c ws p).1 x hx), Nat.le_trans (take_sub c ws p).2 h.2⟩
/-- Between two pieces: the command so far, and the words that are left. -/
def ReadRel (w W0 : World) (lo B : Nat) (c0 : Cm) (ws0 : List (List UInt8)) (pts : List Pt) (u : Value) (k : Nat) (wr : World) : Prop :=
  ∃ c ws ga gc wa wc, runP c0 ws0 pts = runP c ws (pts.drop k) ∧ TSt wr B c ga gc wa wc ∧ StrsC wr u ws ∧ fine ws ∧ ((∀ g, .nums g ∈ pts.drop k → getL c g = []) ∧ apart (pts.drop k) = true) ∧ w.grownBy wr (some B) ∧ Stay lo W0 wr ∧ W0.heap.size ≤ wr.heap.size
/-- Behind a piece. -/
theorem rel_step {w W0 wr W1 : World} {lo B k : Nat} {c0 c : Cm} {ws0 ws : List (List UInt8)} {pts : List Pt} {v' : Value} {ga wa : Option Addr} {gc wc : Nat} (hlo : B < lo) (hk : k < pts.length) (hrun : runP c0 ws0 pts = runP c ws (pts.drop k)) (hf : fine ws)
    (hn : (∀ g, .nums g ∈ pts.drop k → getL c g = []) ∧ apart (pts.drop k) = true) (hg : w.grownBy wr (some B)) (hs : Stay lo W0 wr) (hz : W0.heap.size ≤ wr.heap.size) (hok : (takeP c ws pts[k]).2.2 = true)
    (h1 : StrsC W1 v' (takeP c ws pts[k]).2.1) (h2 : TSt W1 B (takeP c ws pts[k]).1 ga gc wa wc) (h3 : wr.grownBy W1 (some B)) : ReadRel w W0 lo B c0 ws0 pts v' (k + 1) W1 := by
  have ed : pts.drop k = pts[k] :: pts.drop (k + 1) := (List.getElem_cons_drop hk).symm
  rw [ed] at hrun hn
  obtain ⟨n1, n2⟩ := hn
  simp only [apart, Bool.and_eq_true, List.all_eq_true, decide_eq_true_eq] at n2
  refine ⟨(takeP c ws pts[k]).1, (takeP c ws pts[k]).2.1, ga, gc, wa, wc, ?_, h2, h1, hf.take _, ⟨fun g hg => ?_, n2.2⟩, grown_trans hg h3 (.inl rfl), fun b a1 a2 => (h3.block b (by omega) (fun e => by have := Option.some.inj e; omega)).trans (hs b a1 a2), Nat.le_trans hz h3.size⟩
  · rw [hrun, runP, if_pos hok]
  · have hk2 := n2.1 (.nums g) hg
    rw [getL_other c ws pts[k] g (by rcases hk2 with e | e; exact e; cases g <;> simp [Pt.key] at e)]
    exact n1 g (List.mem_cons_of_mem _ hg)
theorem TSt.kind {W : World} {B : Nat} {c : Cm} {ga wa : Option Addr} {gc wc : Nat} (h : TSt W B c ga gc wa wc) : W.cell? ⟨B, 0, none⟩ = some (.int .i64 c.kind) := h.blk.cell 0
theorem TSt.below {W W' : World} {B : Nat} {c : Cm} {ga wa : Option Addr} {gc wc : Nat} (h : TSt W B c ga gc wa wc) (hb : Below W.heap.size W W') : TSt W' B c ga gc wa wc :=
  ⟨h.blk.call hb, h.gi.below hb (Nat.le_refl _), h.wi.below hb (Nat.le_refl _), h.gn, h.wn, h.go, h.wo⟩
theorem StrsC.below {W W' : World} {v : Value} {xs : List (List UInt8)} (h : StrsC W v xs) (hb : Below W.heap.size W W') : StrsC W' v xs := ⟨h.1.below hb, h.2⟩
/-- The first word: the kind's name. -/
theorem read_first {w w1 : World} {B : Nat} {c : Cm} {ga wa : Option Addr} {gc wc : Nat} {v pv tv : Value} {ws : List (List UInt8)} (hT : ∀ W', w.grownBy W' (some B) → Tabs W') (st : TSt w B c ga gc wa wc) (hs : StrsC w v ws) (hf : fine ws) (hp : PartAt w1 w.heap.size B pv tv (.one .name .kind)) (hb : Below w.heap.size w w1) :
    ∃ F fs, tv = .func (.func F) #[] fs ∧ (∀ (args : Array Value) (w : World), (callFunc F args).run Tryd.prog w = .ok (.enter F args) w) ∧ Calls Tryd.prog F (#[v] ++ fs) w1 (Takes w1 B (takeP c ws (.one .name .kind))) :=
  piece_take hp (Stay.refl _ _) st.blk.lt (hT _ (grown_below hb _)) (st.below hb) (hs.below hb) hf.1 hf.2 (fun g e => by cases e)
theorem field_take (x y : Value) (W : World) : (Instr.field 50 (.agg #[x, y]) 1).run Tryd.prog W = .ok y W := by
  simp [Instr.field, run_underlying Tryd.underlying50, Tryd.isAgg48, asAgg, Go.part, Result.andThen]
theorem runP_fail {c : Cm} {ws : List (List UInt8)} {pts : List Pt} {k : Nat} (hk : k < pts.length) (h : (takeP c ws pts[k]).2.2 = false) : runP c ws (pts.drop k) = takeP c ws pts[k] := by
  rw [(List.getElem_cons_drop hk).symm, runP, if_neg (by rw [h]; simp)]
def ReadsTo (w : World) (B : Nat) (out : Cm × List (List UInt8) × Bool) (e : Ending) (w' : World) : Prop :=
  ∃ ga gc wa wc, e = .returned (.bool (out.2.2 && decide (out.2.1 = []))) ∧ TSt w' B out.1 ga gc wa wc ∧ w.grownBy w' (some B)
theorem readC_no {ws : List (List UInt8)} (h : (takeP zeroC ws (.one .name .kind)).2.2 = false) : readC ws = takeP zeroC ws (.one .name .kind) := by unfold readC; rw [if_neg (by rw [h]; simp)]
theorem readC_yes {ws : List (List UInt8)} (h : (takeP zeroC ws (.one .name .kind)).2.2 = true) : readC ws = runP (takeP zeroC ws (.one .name .kind)).1 (takeP zeroC ws (.one .name .kind)).2.1 (partsOf (takeP zeroC ws (.one .name .kind)).1.kind) := by unfold readC; rw [if_pos h]
theorem kind_ok {ws : List (List UInt8)} (h : (takeP zeroC ws (.one .name .kind)).2.2 = true) : hasKind (takeP zeroC ws (.one .name .kind)).1.kind := by
  cases ws with
  | nil => simp [takeP] at h
  | cons w r =>
    have h2 : kindB w = true := h
    show hasKind (kindN w)
    have hm : w ∈ kindNames := of_decide_eq_true h2
    simp only [kindNames, List.mem_cons, List.not_mem_nil, or_false] at hm
    rcases hm with rfl | rfl | rfl | rfl | rfl | rfl | rfl | rfl | rfl | rfl <;> exact ⟨by decide, by decide⟩
set_option maxRecDepth 100000 in
set_option maxHeartbeats 2000000 in
theorem read_any (B : Nat) (v : Value) (ws : List (List UInt8)) (w : World) (hT : ∀ W', w.grownBy W' (some B) → Tabs W') (st : TSt w B zeroC none 0 none 0) (hs : StrsC w v ws) (hf : fine ws) :
    Calls Tryd.prog 27 #[.pointer (some ⟨B, 0, none⟩), v] w (ReadsTo w B (readC ws)) := by
  have HT := Lib.hid hT
  have ST := Lib.hid st
  have HS := Lib.hid hs
  have HF := Lib.hid hf
  clear hT st hs hf
  go_enter Tryd.func27, Tryd.ntmps27
  go_wp2_with fail
  refine (name_make _ _).mono ?_
  rintro e w1 ⟨pv, tv, rfl, hp, b1⟩
  obtain ⟨F, fs, rfl, he, hc⟩ := read_first HT.out ST.out HS.out HF.out hp b1
  have HC := Lib.hid hc
  have HB1 := Lib.hid b1
  have hfl := field_take
  clear hp b1 hc
  go_wp2_with fail
  clear hfl he
  refine HC.out.mono ?_
  rintro e w2 ⟨v2, ga, gc, wa, wc, rfl, hs2, st2, hg2⟩
  have HS2 := Lib.hid hs2
  have ST2 := Lib.hid st2
  have HG2 := Lib.hid (grown_trans (grown_below HB1.out (some B)) hg2 (.inl rfl))
  clear hs2 st2 hg2 HC
  cases hok : (takeP zeroC ws (.one .name .kind)).2.2
  · have HE := Lib.hid (readC_no hok)
    have HK := Lib.hid hok
    clear hok
    go_wp2_with fail
    go_ret
    rw [HE.out]
    exact ⟨ga, gc, wa, wc, by rw [HK.out]; rfl, ST2.out, HG2.out⟩
  · have HE := Lib.hid (readC_yes hok)
    have HK := Lib.hid (kind_ok hok)
    have HF2 := Lib.hid (HF.out.take (c := zeroC) (.one .name .kind))
    have HL := Lib.hid (show ∀ g, getL (takeP zeroC ws (.one .name .kind)).1 g = [] by
      intro g; rw [getL_other zeroC ws _ g (by cases g <;> simp [Pt.key])]; cases g <;> rfl)
    clear hok
    generalize (takeP zeroC ws (.one .name .kind)).2.1 = ws2 at *
    generalize (takeP zeroC ws (.one .name .kind)).1 = c2 at *
    have ck := ST2.out.kind
    have S0 := Lib.hid (show B < w2.drew.heap.size ∧ w2.drew.cell? ⟨B, 0, none⟩ = some (.int .i64 c2.kind) from ⟨ST2.out.blk.lt, ck⟩)
    clear ck
    go_wp2_with fail
    refine wp_region_noPanic ?_
    refine wp_region_held_drew (S := (fun w' => B < w'.heap.size ∧ w'.cell? ⟨B, 0, none⟩ = some (.int .i64 c2.kind))) (by kernel_rfl) (by (first | (exact S0.out) | (exact hHeld) | (exact ⟨Nat.lt_of_lt_of_le hHeld.1 HBB.out.size, (HBB.out.cell (p := ⟨B, 0, none⟩) hHeld.1).trans hHeld.2⟩))) (fun hHeld => ?_)
    first
      | (refine wpAnyH_take (i := 0) (v := undef) (by simp only [List.getElem?_toArray, List.getElem?_cons_zero]; rfl) (by kernel_rfl) (by kernel_rfl) (by kernel_rfl) (fun _ _ _ h => h) (Or.inr ⟨by rfl, rfl⟩) (by assumption) ?_; try simp only [Act.put, List.setIfInBounds_toArray, List.set_cons_zero, List.set_cons_succ])
      | (refine wpAnyH_take (i := 0) (v := ?_) (by simp only [List.getElem?_toArray, List.getElem?_cons_zero]; rfl) (by kernel_rfl) (by kernel_rfl) (by kernel_rfl) (fun _ _ _ h => h) (Or.inl ⟨by rfl, ?_⟩) (by assumption) ?_
         rotate_left
         · (intro ww hSw; (try dsimp only at hSw); go_simp; (try with_reducible rfl))
         try simp only [Act.put, List.setIfInBounds_toArray, List.set_cons_zero, List.set_cons_succ])
      | (refine wpAnyH_ready (rs := [0]) (by kernel_rfl) (by simp) (AllReadyH.cons (by simp only [List.getElem?_toArray, List.getElem?_cons_succ, List.getElem?_cons_zero]; rfl) (fun K hK => ?_) AllReadyH.nil)
         go_simp
         first
           | (go_at_call 24; (with_reducible refine (parts_make _ _).mono ?_); rintro e w4 ⟨b, rfl, hmap, hbb⟩; have HBB := Lib.hid hbb; obtain ⟨v4, hlk, hP⟩ := hmap.lookup c2.kind HK.out; obtain ⟨g, lst, rfl, hlo, hblk, hacc⟩ := hP; have HP := Lib.hid (show w2.drew.heap.size ≤ g ∧ Blk w4 g 50 lst.toArray ∧ AccL w4 w2.drew.heap.size B lst (partsOf c2.kind) from ⟨hlo, hblk, hacc⟩); clear hbb hmap hlo hblk hacc)
           | (skip)
         try go_wp2_with fail
         refine hK.out _ _ (by (first | (exact S0.out) | (exact hHeld) | (exact ⟨Nat.lt_of_lt_of_le hHeld.1 HBB.out.size, (HBB.out.cell (p := ⟨B, 0, none⟩) hHeld.1).trans hHeld.2⟩))) (fun hHeld => ?_)
         clear hK K
         try simp only [Act.put, List.setIfInBounds_toArray, List.set_cons_zero, List.set_cons_succ])
    first
      | (refine wpAnyH_take (i := 2) (v := undef) (by simp only [List.getElem?_toArray, List.getElem?_cons_succ, List.getElem?_cons_zero]; rfl) (by kernel_rfl) (by kernel_rfl) (by kernel_rfl) (fun _ _ _ h => h) (Or.inr ⟨by rfl, rfl⟩) (by assumption) ?_; try simp only [Act.put, List.setIfInBounds_toArray, List.set_cons_zero, List.set_cons_succ])
      | (refine wpAnyH_take (i := 2) (v := ?_) (by simp only [List.getElem?_toArray, List.getElem?_cons_succ, List.getElem?_cons_zero]; rfl) (by kernel_rfl) (by kernel_rfl) (by kernel_rfl) (fun _ _ _ h => h) (Or.inl ⟨by rfl, ?_⟩) (by assumption) ?_
         rotate_left
         · (intro ww hSw; (try dsimp only at hSw); go_simp; (try with_reducible rfl))
         try simp only [Act.put, List.setIfInBounds_toArray, List.set_cons_zero, List.set_cons_succ])
      | (refine wpAnyH_ready (rs := [2]) (by kernel_rfl) (by simp) (AllReadyH.cons (by simp only [List.getElem?_toArray, List.getElem?_cons_succ, List.getElem?_cons_zero]; rfl) (fun K hK => ?_) AllReadyH.nil)
         go_simp
         first
           | (go_at_call 24; (with_reducible refine (parts_make _ _).mono ?_); rintro e w4 ⟨b, rfl, hmap, hbb⟩; have HBB := Lib.hid hbb; obtain ⟨v4, hlk, hP⟩ := hmap.lookup c2.kind HK.out; obtain ⟨g, lst, rfl, hlo, hblk, hacc⟩ := hP; have HP := Lib.hid (show w2.drew.heap.size ≤ g ∧ Blk w4 g 50 lst.toArray ∧ AccL w4 w2.drew.heap.size B lst (partsOf c2.kind) from ⟨hlo, hblk, hacc⟩); clear hbb hmap hlo hblk hacc)
           | (skip)
         try go_wp2_with fail
         refine hK.out _ _ (by (first | (exact S0.out) | (exact hHeld) | (exact ⟨Nat.lt_of_lt_of_le hHeld.1 HBB.out.size, (HBB.out.cell (p := ⟨B, 0, none⟩) hHeld.1).trans hHeld.2⟩))) (fun hHeld => ?_)
         clear hK K
         try simp only [Act.put, List.setIfInBounds_toArray, List.set_cons_zero, List.set_cons_succ])
    first
      | (refine wpAnyH_take (i := 3) (v := undef) (by simp only [List.getElem?_toArray, List.getElem?_cons_succ, List.getElem?_cons_zero]; rfl) (by kernel_rfl) (by kernel_rfl) (by kernel_rfl) (fun _ _ _ h => h) (Or.inr ⟨by rfl, rfl⟩) (by assumption) ?_; try simp only [Act.put, List.setIfInBounds_toArray, List.set_cons_zero, List.set_cons_succ])
      | (refine wpAnyH_take (i := 3) (v := ?_) (by simp only [List.getElem?_toArray, List.getElem?_cons_succ, List.getElem?_cons_zero]; rfl) (by kernel_rfl) (by kernel_rfl) (by kernel_rfl) (fun _ _ _ h => h) (Or.inl ⟨by rfl, ?_⟩) (by assumption) ?_
         rotate_left
         · (intro ww hSw; (try dsimp only at hSw); go_simp; (try with_reducible rfl))
         try simp only [Act.put, List.setIfInBounds_toArray, List.set_cons_zero, List.set_cons_succ])
      | (refine wpAnyH_ready (rs := [3]) (by kernel_rfl) (by simp) (AllReadyH.cons (by simp only [List.getElem?_toArray, List.getElem?_cons_succ, List.getElem?_cons_zero]; rfl) (fun K hK => ?_) AllReadyH.nil)
         go_simp
         first
           | (go_at_call 24; (with_reducible refine (parts_make _ _).mono ?_); rintro e w4 ⟨b, rfl, hmap, hbb⟩; have HBB := Lib.hid hbb; obtain ⟨v4, hlk, hP⟩ := hmap.lookup c2.kind HK.out; obtain ⟨g, lst, rfl, hlo, hblk, hacc⟩ := hP; have HP := Lib.hid (show w2.drew.heap.size ≤ g ∧ Blk w4 g 50 lst.toArray ∧ AccL w4 w2.drew.heap.size B lst (partsOf c2.kind) from ⟨hlo, hblk, hacc⟩); clear hbb hmap hlo hblk hacc)
           | (skip)
         try go_wp2_with fail
         refine hK.out _ _ (by (first | (exact S0.out) | (exact hHeld) | (exact ⟨Nat.lt_of_lt_of_le hHeld.1 HBB.out.size, (HBB.out.cell (p := ⟨B, 0, none⟩) hHeld.1).trans hHeld.2⟩))) (fun hHeld => ?_)
         clear hK K
         try simp only [Act.put, List.setIfInBounds_toArray, List.set_cons_zero, List.set_cons_succ])
    first
      | (refine wpAnyH_take (i := 4) (v := undef) (by simp only [List.getElem?_toArray, List.getElem?_cons_succ, List.getElem?_cons_zero]; rfl) (by kernel_rfl) (by kernel_rfl) (by kernel_rfl) (fun _ _ _ h => h) (Or.inr ⟨by rfl, rfl⟩) (by assumption) ?_; try simp only [Act.put, List.setIfInBounds_toArray, List.set_cons_zero, List.set_cons_succ])
      | (refine wpAnyH_take (i := 4) (v := ?_) (by simp only [List.getElem?_toArray, List.getElem?_cons_succ, List.getElem?_cons_zero]; rfl) (by kernel_rfl) (by kernel_rfl) (by kernel_rfl) (fun _ _ _ h => h) (Or.inl ⟨by rfl, ?_⟩) (by assumption) ?_
         rotate_left
         · (intro ww hSw; (try dsimp only at hSw); go_simp; (try with_reducible rfl))
         try simp only [Act.put, List.setIfInBounds_toArray, List.set_cons_zero, List.set_cons_succ])
      | (refine wpAnyH_ready (rs := [4]) (by kernel_rfl) (by simp) (AllReadyH.cons (by simp only [List.getElem?_toArray, List.getElem?_cons_succ, List.getElem?_cons_zero]; rfl) (fun K hK => ?_) AllReadyH.nil)
         go_simp
         first
           | (go_at_call 24; (with_reducible refine (parts_make _ _).mono ?_); rintro e w4 ⟨b, rfl, hmap, hbb⟩; have HBB := Lib.hid hbb; obtain ⟨v4, hlk, hP⟩ := hmap.lookup c2.kind HK.out; obtain ⟨g, lst, rfl, hlo, hblk, hacc⟩ := hP; have HP := Lib.hid (show w2.drew.heap.size ≤ g ∧ Blk w4 g 50 lst.toArray ∧ AccL w4 w2.drew.heap.size B lst (partsOf c2.kind) from ⟨hlo, hblk, hacc⟩); clear hbb hmap hlo hblk hacc)
           | (skip)
         try go_wp2_with fail
         refine hK.out _ _ (by (first | (exact S0.out) | (exact hHeld) | (exact ⟨Nat.lt_of_lt_of_le hHeld.1 HBB.out.size, (HBB.out.cell (p := ⟨B, 0, none⟩) hHeld.1).trans hHeld.2⟩))) (fun hHeld => ?_)
         clear hK K
         try simp only [Act.put, List.setIfInBounds_toArray, List.set_cons_zero, List.set_cons_succ])
    first
      | (refine wpAnyH_take (i := 5) (v := undef) (by simp only [List.getElem?_toArray, List.getElem?_cons_succ, List.getElem?_cons_zero]; rfl) (by kernel_rfl) (by kernel_rfl) (by kernel_rfl) (fun _ _ _ h => h) (Or.inr ⟨by rfl, rfl⟩) (by assumption) ?_; try simp only [Act.put, List.setIfInBounds_toArray, List.set_cons_zero, List.set_cons_succ])
      | (refine wpAnyH_take (i := 5) (v := ?_) (by simp only [List.getElem?_toArray, List.getElem?_cons_succ, List.getElem?_cons_zero]; rfl) (by kernel_rfl) (by kernel_rfl) (by kernel_rfl) (fun _ _ _ h => h) (Or.inl ⟨by rfl, ?_⟩) (by assumption) ?_
         rotate_left
         · (intro ww hSw; (try dsimp only at hSw); go_simp; (try with_reducible rfl))
         try simp only [Act.put, List.setIfInBounds_toArray, List.set_cons_zero, List.set_cons_succ])
      | (refine wpAnyH_ready (rs := [5]) (by kernel_rfl) (by simp) (AllReadyH.cons (by simp only [List.getElem?_toArray, List.getElem?_cons_succ, List.getElem?_cons_zero]; rfl) (fun K hK => ?_) AllReadyH.nil)
         go_simp
         first
           | (go_at_call 24; (with_reducible refine (parts_make _ _).mono ?_); rintro e w4 ⟨b, rfl, hmap, hbb⟩; have HBB := Lib.hid hbb; obtain ⟨v4, hlk, hP⟩ := hmap.lookup c2.kind HK.out; obtain ⟨g, lst, rfl, hlo, hblk, hacc⟩ := hP; have HP := Lib.hid (show w2.drew.heap.size ≤ g ∧ Blk w4 g 50 lst.toArray ∧ AccL w4 w2.drew.heap.size B lst (partsOf c2.kind) from ⟨hlo, hblk, hacc⟩); clear hbb hmap hlo hblk hacc)
           | (skip)
         try go_wp2_with fail
         refine hK.out _ _ (by (first | (exact S0.out) | (exact hHeld) | (exact ⟨Nat.lt_of_lt_of_le hHeld.1 HBB.out.size, (HBB.out.cell (p := ⟨B, 0, none⟩) hHeld.1).trans hHeld.2⟩))) (fun hHeld => ?_)
         clear hK K
         try simp only [Act.put, List.setIfInBounds_toArray, List.set_cons_zero, List.set_cons_succ])
    first
      | (refine wpAnyH_take (i := 8) (v := undef) (by simp only [List.getElem?_toArray, List.getElem?_cons_succ, List.getElem?_cons_zero]; rfl) (by kernel_rfl) (by kernel_rfl) (by kernel_rfl) (fun _ _ _ h => h) (Or.inr ⟨by rfl, rfl⟩) (by assumption) ?_; try simp only [Act.put, List.setIfInBounds_toArray, List.set_cons_zero, List.set_cons_succ])
      | (refine wpAnyH_take (i := 8) (v := ?_) (by simp only [List.getElem?_toArray, List.getElem?_cons_succ, List.getElem?_cons_zero]; rfl) (by kernel_rfl) (by kernel_rfl) (by kernel_rfl) (fun _ _ _ h => h) (Or.inl ⟨by rfl, ?_⟩) (by assumption) ?_
         rotate_left
         · (intro ww hSw; (try dsimp only at hSw); go_simp; (try with_reducible rfl))
         try simp only [Act.put, List.setIfInBounds_toArray, List.set_cons_zero, List.set_cons_succ])
      | (refine wpAnyH_ready (rs := [8]) (by kernel_rfl) (by simp) (AllReadyH.cons (by simp only [List.getElem?_toArray, List.getElem?_cons_succ, List.getElem?_cons_zero]; rfl) (fun K hK => ?_) AllReadyH.nil)
         go_simp
         first
           | (go_at_call 24; (with_reducible refine (parts_make _ _).mono ?_); rintro e w4 ⟨b, rfl, hmap, hbb⟩; have HBB := Lib.hid hbb; obtain ⟨v4, hlk, hP⟩ := hmap.lookup c2.kind HK.out; obtain ⟨g, lst, rfl, hlo, hblk, hacc⟩ := hP; have HP := Lib.hid (show w2.drew.heap.size ≤ g ∧ Blk w4 g 50 lst.toArray ∧ AccL w4 w2.drew.heap.size B lst (partsOf c2.kind) from ⟨hlo, hblk, hacc⟩); clear hbb hmap hlo hblk hacc)
           | (skip)
         try go_wp2_with fail
         refine hK.out _ _ (by (first | (exact S0.out) | (exact hHeld) | (exact ⟨Nat.lt_of_lt_of_le hHeld.1 HBB.out.size, (HBB.out.cell (p := ⟨B, 0, none⟩) hHeld.1).trans hHeld.2⟩))) (fun hHeld => ?_)
         clear hK K
         try simp only [Act.put, List.setIfInBounds_toArray, List.set_cons_zero, List.set_cons_succ])
    first
      | (refine wpAnyH_take (i := 1) (v := undef) (by simp only [List.getElem?_toArray, List.getElem?_cons_succ, List.getElem?_cons_zero]; rfl) (by kernel_rfl) (by kernel_rfl) (by kernel_rfl) (fun _ _ _ h => h) (Or.inr ⟨by rfl, rfl⟩) (by assumption) ?_; try simp only [Act.put, List.setIfInBounds_toArray, List.set_cons_zero, List.set_cons_succ])
      | (refine wpAnyH_take (i := 1) (v := ?_) (by simp only [List.getElem?_toArray, List.getElem?_cons_succ, List.getElem?_cons_zero]; rfl) (by kernel_rfl) (by kernel_rfl) (by kernel_rfl) (fun _ _ _ h => h) (Or.inl ⟨by rfl, ?_⟩) (by assumption) ?_
         rotate_left
         · (intro ww hSw; (try dsimp only at hSw); go_simp; (try with_reducible rfl))
         try simp only [Act.put, List.setIfInBounds_toArray, List.set_cons_zero, List.set_cons_succ])
      | (refine wpAnyH_ready (rs := [1]) (by kernel_rfl) (by simp) (AllReadyH.cons (by simp only [List.getElem?_toArray, List.getElem?_cons_succ, List.getElem?_cons_zero]; rfl) (fun K hK => ?_) AllReadyH.nil)
         go_simp
         first
           | (go_at_call 24; (with_reducible refine (parts_make _ _).mono ?_); rintro e w4 ⟨b, rfl, hmap, hbb⟩; have HBB := Lib.hid hbb; obtain ⟨v4, hlk, hP⟩ := hmap.lookup c2.kind HK.out; obtain ⟨g, lst, rfl, hlo, hblk, hacc⟩ := hP; have HP := Lib.hid (show w2.drew.heap.size ≤ g ∧ Blk w4 g 50 lst.toArray ∧ AccL w4 w2.drew.heap.size B lst (partsOf c2.kind) from ⟨hlo, hblk, hacc⟩); clear hbb hmap hlo hblk hacc)
           | (skip)
         try go_wp2_with fail
         refine hK.out _ _ (by (first | (exact S0.out) | (exact hHeld) | (exact ⟨Nat.lt_of_lt_of_le hHeld.1 HBB.out.size, (HBB.out.cell (p := ⟨B, 0, none⟩) hHeld.1).trans hHeld.2⟩))) (fun hHeld => ?_)
         clear hK K
         try simp only [Act.put, List.setIfInBounds_toArray, List.set_cons_zero, List.set_cons_succ])
    first
      | (refine wpAnyH_take (i := 6) (v := undef) (by simp only [List.getElem?_toArray, List.getElem?_cons_succ, List.getElem?_cons_zero]; rfl) (by kernel_rfl) (by kernel_rfl) (by kernel_rfl) (fun _ _ _ h => h) (Or.inr ⟨by rfl, rfl⟩) (by assumption) ?_; try simp only [Act.put, List.setIfInBounds_toArray, List.set_cons_zero, List.set_cons_succ])
      | (refine wpAnyH_take (i := 6) (v := ?_) (by simp only [List.getElem?_toArray, List.getElem?_cons_succ, List.getElem?_cons_zero]; rfl) (by kernel_rfl) (by kernel_rfl) (by kernel_rfl) (fun _ _ _ h => h) (Or.inl ⟨by rfl, ?_⟩) (by assumption) ?_
         rotate_left
         · (intro ww hSw; (try dsimp only at hSw); go_simp; (try with_reducible rfl))
         try simp only [Act.put, List.setIfInBounds_toArray, List.set_cons_zero, List.set_cons_succ])
      | (refine wpAnyH_ready (rs := [6]) (by kernel_rfl) (by simp) (AllReadyH.cons (by simp only [List.getElem?_toArray, List.getElem?_cons_succ, List.getElem?_cons_zero]; rfl) (fun K hK => ?_) AllReadyH.nil)
         go_simp
         first
           | (go_at_call 24; (with_reducible refine (parts_make _ _).mono ?_); rintro e w4 ⟨b, rfl, hmap, hbb⟩; have HBB := Lib.hid hbb; obtain ⟨v4, hlk, hP⟩ := hmap.lookup c2.kind HK.out; obtain ⟨g, lst, rfl, hlo, hblk, hacc⟩ := hP; have HP := Lib.hid (show w2.drew.heap.size ≤ g ∧ Blk w4 g 50 lst.toArray ∧ AccL w4 w2.drew.heap.size B lst (partsOf c2.kind) from ⟨hlo, hblk, hacc⟩); clear hbb hmap hlo hblk hacc)
           | (skip)
         try go_wp2_with fail
         refine hK.out _ _ (by (first | (exact S0.out) | (exact hHeld) | (exact ⟨Nat.lt_of_lt_of_le hHeld.1 HBB.out.size, (HBB.out.cell (p := ⟨B, 0, none⟩) hHeld.1).trans hHeld.2⟩))) (fun hHeld => ?_)
         clear hK K
         try simp only [Act.put, List.setIfInBounds_toArray, List.set_cons_zero, List.set_cons_succ])
    first
      | (refine wpAnyH_take (i := 7) (v := undef) (by simp only [List.getElem?_toArray, List.getElem?_cons_succ, List.getElem?_cons_zero]; rfl) (by kernel_rfl) (by kernel_rfl) (by kernel_rfl) (fun _ _ _ h => h) (Or.inr ⟨by rfl, rfl⟩) (by assumption) ?_; try simp only [Act.put, List.setIfInBounds_toArray, List.set_cons_zero, List.set_cons_succ])
      | (refine wpAnyH_take (i := 7) (v := ?_) (by simp only [List.getElem?_toArray, List.getElem?_cons_succ, List.getElem?_cons_zero]; rfl) (by kernel_rfl) (by kernel_rfl) (by kernel_rfl) (fun _ _ _ h => h) (Or.inl ⟨by rfl, ?_⟩) (by assumption) ?_
         rotate_left
         · (intro ww hSw; (try dsimp only at hSw); go_simp; (try with_reducible rfl))
         try simp only [Act.put, List.setIfInBounds_toArray, List.set_cons_zero, List.set_cons_succ])
      | (refine wpAnyH_ready (rs := [7]) (by kernel_rfl) (by simp) (AllReadyH.cons (by simp only [List.getElem?_toArray, List.getElem?_cons_succ, List.getElem?_cons_zero]; rfl) (fun K hK => ?_) AllReadyH.nil)
         go_simp
         first
           | (go_at_call 24; (with_reducible refine (parts_make _ _).mono ?_); rintro e w4 ⟨b, rfl, hmap, hbb⟩; have HBB := Lib.hid hbb; obtain ⟨v4, hlk, hP⟩ := hmap.lookup c2.kind HK.out; obtain ⟨g, lst, rfl, hlo, hblk, hacc⟩ := hP; have HP := Lib.hid (show w2.drew.heap.size ≤ g ∧ Blk w4 g 50 lst.toArray ∧ AccL w4 w2.drew.heap.size B lst (partsOf c2.kind) from ⟨hlo, hblk, hacc⟩); clear hbb hmap hlo hblk hacc)
           | (skip)
         try go_wp2_with fail
         refine hK.out _ _ (by (first | (exact S0.out) | (exact hHeld) | (exact ⟨Nat.lt_of_lt_of_le hHeld.1 HBB.out.size, (HBB.out.cell (p := ⟨B, 0, none⟩) hHeld.1).trans hHeld.2⟩))) (fun hHeld => ?_)
         clear hK K
         try simp only [Act.put, List.setIfInBounds_toArray, List.set_cons_zero, List.set_cons_succ])
    refine wpAnyH_done (by kernel_rfl) ?_ _
    refine NoPanic.normal ?_
    clear hlk hHeld
    have hb24 : Below w2.heap.size w2 w4 := ⟨HBB.out.os, HBB.out.tape, HBB.out.output, HBB.out.size, HBB.out.block⟩
    have F2 := Lib.hid (show ReadRel w w4 w2.drew.heap.size B c2 ws2 (partsOf c2.kind) v2 0 w4 from ⟨c2, ws2, ga, gc, wa, wc, rfl, ST2.out.below hb24, HS2.out.below hb24, HF2.out, ⟨fun g _ => HL.out g, (parts_apart _).1⟩, grown_trans HG2.out (grown_below hb24 (some B)) (.inl rfl), Stay.refl _ _, Nat.le_refl _⟩)
    have hnl := parts_len c2.kind
    have HLo := Lib.hid S0.out.1
    clear HBB S0 hb24 HF2 HL HS2 ST2 HG2 HF HB1 HS ST
    generalize partsOf c2.kind = pts at *
    generalize c2.kind = kk at *
    generalize w2.drew.heap.size = lo at *
    go_wp2_with fail
    go_loopw [1, 26] (fun u i wr => ∃ k : Nat, k ≤ pts.length ∧ i = .int .i64 k ∧ ReadRel w w4 lo B c2 ws2 pts u k wr) (fun _ i _ => pts.length - (intOf i).toNat)
    case atStart => exact ⟨0, Nat.zero_le _, rfl, F2.out⟩
    case round =>
      obtain ⟨k, hk, rfl, c, ws3, ga3, gc3, wa3, wc3, r1, r2, r3, r4, r5, r6, r7, r8⟩ := hrel
      have R1 := Lib.hid r1
      have R2 := Lib.hid r2
      have R3 := Lib.hid r3
      have R4 := Lib.hid r4
      have R5 := Lib.hid r5
      have R6 := Lib.hid r6
      have R7 := Lib.hid r7
      have R8 := Lib.hid r8
      clear r1 r2 r3 r4 r5 r6 r7 r8
      by_cases hlt : k < pts.length
      · obtain ⟨pv2, tv2, e1, e2, hpk⟩ := HP.out.2.2.get k hlt
        have hblk2 := HP.out.2.1.stay R7.out HP.out.1
        have hal : Below wr.heap.size wr (wr.alloc (.cells #[pv2, tv2] 50)) := (Below.refl _ _).alloc (Nat.le_refl _) _
        have ed : pts.drop k = pts[k] :: pts.drop (k + 1) := (List.getElem_cons_drop hlt).symm
        obtain ⟨F2, fs2, e3, he2, hc2⟩ := piece_take hpk (R7.out.trans R8.out (Stay.below hal)) HLo.out (HT.out _ (grown_trans R6.out (grown_below hal (some B)) (.inl rfl))) (R2.out.below hal) (R3.out.below hal) R4.out.1 R4.out.2 (fun g e => R5.out.1 g (by rw [ed, e]; exact List.mem_cons_self ..))
        obtain ⟨F3, fs3, G3, gs3, e4, e5⟩ := hpk.funcs
        have d1 := (hblk2.cell (k * 2)).trans (show lst.toArray[k * 2]? = some pv2 by simpa [Nat.mul_comm] using e1)
        have d2 := (hblk2.cell (k * 2 + 1)).trans (show lst.toArray[k * 2 + 1]? = some tv2 by simpa [Nat.mul_comm] using e2)
        subst e3 e4
        have HC := Lib.hid hc2
        have HA := Lib.hid (grown_below hal (some B))
        have HS2 := Lib.hid (R7.out.trans R8.out (Stay.below hal))
        have HZ := Lib.hid (Nat.le_trans R8.out hal.size)
        clear e1 e2 e5 hpk hblk2 hc2 hal ed
        cases hok : (takeP c ws3 pts[k]).2.2
        · have HO := Lib.hid hok
          clear hok
          go_wp2_with fail
          clear d1 d2 he2
          refine HC.out.mono ?_
          rintro e W1 ⟨v', ga4, gc4, wa4, wc4, rfl, q1, q2, q3⟩
          have Q2 := Lib.hid q2
          have Q3 := Lib.hid (grown_trans (grown_trans R6.out HA.out (.inl rfl)) q3 (.inl rfl))
          clear q1 q2 q3 HC
          rw [HO.out]
          go_wp2_with fail
          go_ret
          have hr := R1.out.trans (runP_fail hlt HO.out)
          rw [HE.out, hr]
          exact ⟨ga4, gc4, wa4, wc4, by rw [HO.out]; rfl, Q2.out, Q3.out⟩
        · have HO := Lib.hid hok
          clear hok
          go_wp2_with fail
          clear d1 d2 he2
          refine HC.out.mono ?_
          rintro e W1 ⟨v', ga4, gc4, wa4, wc4, rfl, q1, q2, q3⟩
          have HN := Lib.hid (rel_step HLo.out hlt R1.out R4.out R5.out (grown_trans R6.out HA.out (.inl rfl)) HS2.out HZ.out HO.out q1 q2 q3)
          clear q1 q2 q3 HC
          rw [HO.out]
          go_wp2_with fail
          go_roundw
          case rel => exact ⟨k + 1, by omega, by go_num, HN.out⟩
          case measure => simp [intOf]; omega
      · have hke : k = pts.length := by omega
        subst hke
        have hr := R1.out
        rw [List.drop_length] at hr
        have HR := Lib.hid (HE.out.trans hr)
        clear hr
        cases ws3 with
        | nil =>
          obtain ⟨s, cap, rfl⟩ := strsC_nil_form R3.out
          go_wp2_with fail
          go_ret
          rw [HR.out]
          exact ⟨ga3, gc3, wa3, wc3, rfl, R2.out, R6.out⟩
        | cons x xs =>
          obtain ⟨⟨s, cap, rfl, _, _⟩, _⟩ := R3.out
          have hn0 : (((xs.length : Nat) : Int) + 1 == 0) = false := by rw [beq_eq_false_iff_ne]; omega
          go_wp2_with fail
          go_ret
          rw [HR.out]
          exact ⟨ga3, gc3, wa3, wc3, rfl, R2.out, R6.out⟩
end Go.Proofs.YtinjpkbpdhihjaaDoor
