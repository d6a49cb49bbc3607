import Derived.Test.YtinjpkbpdhihjaaDoorRows
import Derived.Test.YtinjpkbpdhihjaaDoorKit
import Derived.Test.YtinjpkbpdhihjaaDoorStrs
import Derived.Test.YtinjpkbpdhihjaaDoorJTab
import Derived.Test.YtinjpkbpdhihjaaDoorJBlk
import Derived.Test.YtinjpkbpdhihjaaDoorJMath
import Derived.Test.YtinjpkbpdhihjaaDoorJNum
import Derived.Test.YtinjpkbpdhihjaaDoorJCut
import Derived.Test.YtinjpkbpdhihjaaDoorJTokCut
import Derived.Test.YtinjpkbpdhihjaaDoorJGrown
import Derived.Test.YtinjpkbpdhihjaaDoorJCmd
import Derived.Test.YtinjpkbpdhihjaaDoorJCmdMay
import Derived.Test.YtinjpkbpdhihjaaDoorJCmdNames1
import Derived.Test.YtinjpkbpdhihjaaDoorJLinePart
import Derived.Test.YtinjpkbpdhihjaaDoorJPut
import Derived.Test.YtinjpkbpdhihjaaDoorJLinePut3
import Derived.Test.YtinjpkbpdhihjaaDoorJTake
import Derived.Test.YtinjpkbpdhihjaaDoorJLineTake4
import Derived.Test.YtinjpkbpdhihjaaDoorJLineRead
import Derived.WalkKit
import Derived.ProofKit
import Derived.OpenShut
import Derived.IntWalk
/- line: Get, of whatever line. -/
namespace Go.Proofs.YtinjpkbpdhihjaaDoor
open Go.ChangeShapes Go.WideShapes Go.ChangeAt Go.RowKit
set_option linter.unusedVariables false
open Go.RowKit Go
theorem cuts_short (l : List UInt8) : ∀ x ∈ cuts l, x.length ≤ l.length := by
  induction l with
  | nil => simp [cuts]
  | cons c l ih =>
    rw [cuts_cons]
    split
    · intro x hx
      rcases List.mem_cons.1 hx with rfl | hx
      · simp
      · have := ih x hx; simp; omega
    · intro x hx
      cases hq : cuts l with
      | nil => exact absurd hq (cuts_ne l)
      | cons h t =>
        rw [hq] at hx ih
        rcases List.mem_cons.1 hx with rfl | hx
        · have := ih h (by simp); simp; omega
        · have := ih x (List.mem_cons_of_mem _ hx); simp; omega
theorem words_fine {s : ByteArray} (h : s.size ≤ 500000) : fine (words s.data.toList) := by
  have hl := words_len s.data.toList
  rw [data_len] at hl
  refine ⟨fun x hx => ?_, by omega⟩
  have := cuts_short s.data.toList x (List.mem_filter.1 hx).1
  rw [data_len] at this; omega
def Gets (w : World) (ws : List (List UInt8)) (e : Ending) (w' : World) : Prop :=
  ∃ c ga gc wa wc, c = codeC ws ∧ e = .returned (.tuple #[.agg #[.int .i64 c.kind, .int .i64 c.dir, .int .i64 c.item, .int .i64 c.box, .int .i64 c.who, .slice ga c.gives.length gc, .int .i64 c.pay, .slice wa c.wants.length wc, .int .i64 c.fee], .int .i64 (if codeB ws then 0 else 2)]) ∧ IntsAt w' ga c.gives ∧ IntsAt w' wa c.wants ∧ Below w.heap.size w w'
def zeroCells : Array Value := #[.int .i64 0, .int .i64 0, .int .i64 0, .int .i64 0, .int .i64 0, .slice none 0 0, .int .i64 0, .slice none 0 0, .int .i64 0]
/-- The block that waits for the answer, and the one that is filled. -/
def GetAt (w wr : World) : Prop := Below w.heap.size w wr ∧ w.heap.size + 2 ≤ wr.heap.size ∧ Blk wr w.heap.size 24 zeroCells
theorem GetAt.start (w : World) : GetAt w ((w.alloc (.cells zeroCells 24)).alloc (.cells zeroCells 24)) ∧ TSt ((w.alloc (.cells zeroCells 24)).alloc (.cells zeroCells 24)) (w.heap.size + 1) zeroC none 0 none 0 :=
  ⟨⟨((Below.refl _ _).alloc (Nat.le_refl _) _).alloc (by simp) _, by simp, (Blk.new _ _ _).alloc _⟩,
    ⟨Blk.newn _ _ _ (by simp), IntsAt.nil _ _, IntsAt.nil _ _, fun _ => ⟨rfl, rfl⟩, fun _ => ⟨rfl, rfl⟩, .inl rfl, .inl rfl⟩⟩
theorem GetAt.below {w wr w' : World} (h : GetAt w wr) (hb : Below wr.heap.size wr w') : GetAt w w' := ⟨bl h.1 hb, Nat.le_trans h.2.1 hb.size, h.2.2.call hb⟩
theorem GetAt.grown {w wr w' : World} (h : GetAt w wr) (hg : wr.grownBy w' (some (w.heap.size + 1))) : GetAt w w' :=
  ⟨h.1.grown hg (by have := h.2.1; omega) (fun k e => by have := Option.some.inj e; omega), Nat.le_trans h.2.1 hg.size, h.2.2.grow hg (by intro e; have := Option.some.inj e; omega)⟩
theorem fin9 {W : World} {n : Nat} (h : Blk W n 24 zeroCells) (v0 v1 v2 v3 v4 v5 v6 v7 v8 : Value) {W' : World}
    (hW : W' = (((((((((W.setCell ⟨n, 0, none⟩ v0).setCell ⟨n, 1, none⟩ v1).setCell ⟨n, 2, none⟩ v2).setCell ⟨n, 3, none⟩ v3).setCell ⟨n, 4, none⟩ v4).setCell ⟨n, 5, none⟩ v5).setCell ⟨n, 6, none⟩ v6).setCell ⟨n, 7, none⟩ v7).setCell ⟨n, 8, none⟩ v8)) :
    Blk W' n 24 #[v0, v1, v2, v3, v4, v5, v6, v7, v8] ∧ W.grownBy W' (some n) := by
  subst hW
  refine ⟨by simpa [zeroCells] using ((((((((h.set_ 0 v0).set_ 1 v1).set_ 2 v2).set_ 3 v3).set_ 4 v4).set_ 5 v5).set_ 6 v6).set_ 7 v7).set_ 8 v8, ?_⟩
  exact grown_trans (grown_trans (grown_trans (grown_trans (grown_trans (grown_trans (grown_trans (grown_trans (grown_set _ _ _) (grown_set _ _ _) (.inl rfl)) (grown_set _ _ _) (.inl rfl)) (grown_set _ _ _) (.inl rfl)) (grown_set _ _ _) (.inl rfl)) (grown_set _ _ _) (.inl rfl)) (grown_set _ _ _) (.inl rfl)) (grown_set _ _ _) (.inl rfl)) (grown_set _ _ _) (.inl rfl)
set_option maxRecDepth 100000 in
set_option maxHeartbeats 2000000 in
theorem get_any (s : ByteArray) (w : World) (hs : s.size ≤ 500000) (ht : Tabs w) : Calls Tryd.prog 13 #[.string s] w (Gets w (words s.data.toList)) := by
  have HS := Lib.hid hs
  have HT := Lib.hid ht
  have HW := Lib.hid (words_fine hs)
  clear hs ht
  obtain ⟨p0, t0⟩ := GetAt.start w
  have P0 := Lib.hid p0
  have T0 := Lib.hid t0
  clear p0 t0
  unfold zeroCells at P0 T0
  go_enter Tryd.func13, Tryd.ntmps13
  go_wp2_with fail
  refine (cut_cap s _ (by have := HS.out; omega)).mono ?_
  rintro e w1 ⟨v, rfl, hv, b1⟩
  have P1 := Lib.hid (P0.out.below b1)
  have T1 := Lib.hid (T0.out.below b1)
  have V1 := Lib.hid hv
  clear b1 hv P0 T0
  generalize words s.data.toList = ws at *
  go_wp2_with fail
  refine (read_any _ v ws _ (fun W' hg => HT.out.below ((P1.out.grown hg).1) (Nat.le_refl _)) T1.out V1.out HW.out).mono ?_
  rintro e w2 ⟨ga, gc, wa, wc, rfl, t2, hg⟩
  have P2 := Lib.hid (P1.out.grown hg)
  have T2 := Lib.hid t2
  clear t2 hg P1 T1 V1
  have hres := P2.out.2.2.cell
  have hfr := P2.out.2.2.frozen
  unfold zeroCells at hres
  cases hb : readB ws
  · have HB := Lib.hid hb
    have hq : ((readC ws).2.2 && decide ((readC ws).2.1 = [])) = false := hb
    have HQ := Lib.hid hq
    rw [HQ.out]
    clear hb hq
    go_wp2_with fail
    generalize hW : ((((((((w2.setCell ⟨w.heap.size, 0, none⟩ _).setCell ⟨w.heap.size, 1, none⟩ _).setCell ⟨w.heap.size, 2, none⟩ _).setCell ⟨w.heap.size, 3, none⟩ _).setCell ⟨w.heap.size, 4, none⟩ _).setCell ⟨w.heap.size, 5, none⟩ _).setCell ⟨w.heap.size, 6, none⟩ _).setCell ⟨w.heap.size, 7, none⟩ _).setCell ⟨w.heap.size, 8, none⟩ _ = W'
    obtain ⟨k1, k2⟩ := fin9 P2.out.2.2 _ _ _ _ _ _ _ _ _ hW.symm
    have hc := k1.cell
    have hcb : codeB ws = false := by unfold codeB; rw [HB.out]; rfl
    have hcc : codeC ws = zeroC := by unfold codeC; rw [hcb]; rfl
    refine bodyPost_ret (v := .tuple #[.agg #[.int .i64 0, .int .i64 0, .int .i64 0, .int .i64 0, .int .i64 0, .slice none 0 0, .int .i64 0, .slice none 0 0, .int .i64 0], .int .i64 2]) (by simp [results, Tryd.results13, go_sem, hc]) rfl ?_
    exact ⟨zeroC, none, 0, none, 0, hcc.symm, by rw [hcb]; rfl, IntsAt.nil _ _, IntsAt.nil _ _, P2.out.1.grown k2 (by have := P2.out.2.1; omega) (fun k e => by have := Option.some.inj e; omega)⟩
  · have HB := Lib.hid hb
    have hq : ((readC ws).2.2 && decide ((readC ws).2.1 = [])) = true := hb
    have HQ := Lib.hid hq
    rw [HQ.out]
    clear hb hq
    have HX := Lib.hid (show codeB ws = mayB (readC ws).1 ∧ codeC ws = if mayB (readC ws).1 then (readC ws).1 else zeroC by
      have : codeB ws = mayB (readC ws).1 := by unfold codeB; rw [HB.out]; rfl
      exact ⟨this, by unfold codeC; rw [this]⟩)
    clear HB HQ HW HS
    generalize (readC ws).1 = c at *
    have hcc := T2.out.blk.cell
    go_wp2_with fail
    refine (may_any c ga wa gc wc _ T2.out.gi T2.out.wi).mono ?_
    rintro e w3 ⟨rfl, b3⟩
    have P3 := Lib.hid (P2.out.below b3)
    have T3 := Lib.hid (T2.out.below b3)
    clear b3 hcc hres hfr P2 T2
    have hres := P3.out.2.2.cell
    have hfr := P3.out.2.2.frozen
    have hcc := T3.out.blk.cell
    unfold zeroCells at hres
    cases hm : mayB c
    · have HM := Lib.hid hm
      clear hm
      go_wp2_with fail
      generalize hW : ((((((((w3.setCell ⟨w.heap.size, 0, none⟩ _).setCell ⟨w.heap.size, 1, none⟩ _).setCell ⟨w.heap.size, 2, none⟩ _).setCell ⟨w.heap.size, 3, none⟩ _).setCell ⟨w.heap.size, 4, none⟩ _).setCell ⟨w.heap.size, 5, none⟩ _).setCell ⟨w.heap.size, 6, none⟩ _).setCell ⟨w.heap.size, 7, none⟩ _).setCell ⟨w.heap.size, 8, none⟩ _ = W'
      obtain ⟨k1, k2⟩ := fin9 P3.out.2.2 _ _ _ _ _ _ _ _ _ hW.symm
      have hc := k1.cell
      have hcb : codeB ws = false := by rw [HX.out.1, HM.out]
      have hcz : codeC ws = zeroC := by rw [HX.out.2, HM.out]; rfl
      refine bodyPost_ret (v := .tuple #[.agg #[.int .i64 0, .int .i64 0, .int .i64 0, .int .i64 0, .int .i64 0, .slice none 0 0, .int .i64 0, .slice none 0 0, .int .i64 0], .int .i64 2]) (by simp [results, Tryd.results13, go_sem, hc]) rfl ?_
      exact ⟨zeroC, none, 0, none, 0, hcz.symm, by rw [hcb]; rfl, IntsAt.nil _ _, IntsAt.nil _ _, P3.out.1.grown k2 (by have := P3.out.2.1; omega) (fun k e => by have := Option.some.inj e; omega)⟩
    · have HM := Lib.hid hm
      clear hm
      go_wp2_with fail
      generalize hW : ((((((((w3.setCell ⟨w.heap.size, 0, none⟩ _).setCell ⟨w.heap.size, 1, none⟩ _).setCell ⟨w.heap.size, 2, none⟩ _).setCell ⟨w.heap.size, 3, none⟩ _).setCell ⟨w.heap.size, 4, none⟩ _).setCell ⟨w.heap.size, 5, none⟩ _).setCell ⟨w.heap.size, 6, none⟩ _).setCell ⟨w.heap.size, 7, none⟩ _).setCell ⟨w.heap.size, 8, none⟩ _ = W'
      obtain ⟨k1, k2⟩ := fin9 P3.out.2.2 _ _ _ _ _ _ _ _ _ hW.symm
      have hc := k1.cell
      have hcb : codeB ws = true := by rw [HX.out.1, HM.out]
      have hcz : codeC ws = c := by rw [HX.out.2, HM.out]; rfl
      refine bodyPost_ret (v := .tuple #[.agg #[.int .i64 c.kind, .int .i64 c.dir, .int .i64 c.item, .int .i64 c.box, .int .i64 c.who, .slice ga c.gives.length gc, .int .i64 c.pay, .slice wa c.wants.length wc, .int .i64 c.fee], .int .i64 0]) (by simp [results, Tryd.results13, go_sem, hc]) rfl ?_
      exact ⟨c, ga, gc, wa, wc, hcz.symm, by rw [hcb]; rfl, T3.out.gi.grown (v := bv w.heap.size) k2 (T3.out.go.off (by omega)), T3.out.wi.grown (v := bv w.heap.size) k2 (T3.out.wo.off (by omega)), P3.out.1.grown k2 (by have := P3.out.2.1; omega) (fun k e => by have := Option.some.inj e; omega)⟩
end Go.Proofs.YtinjpkbpdhihjaaDoor
