import Derived.Test.YtinjpkbpdhihjaaDoorRows
import Derived.Test.YtinjpkbpdhihjaaDoorKit
import Derived.Test.YtinjpkbpdhihjaaDoorStrs
import Derived.Test.YtinjpkbpdhihjaaDoorJTab
import Derived.Test.YtinjpkbpdhihjaaDoorJBlk
import Derived.Test.YtinjpkbpdhihjaaDoorJMath
import Derived.Test.YtinjpkbpdhihjaaDoorJNum
import Derived.Test.YtinjpkbpdhihjaaDoorJTokJoin
import Derived.Test.YtinjpkbpdhihjaaDoorJCut
import Derived.Test.YtinjpkbpdhihjaaDoorJGrown
import Derived.Test.YtinjpkbpdhihjaaDoorJCmd
import Derived.Test.YtinjpkbpdhihjaaDoorJMay
import Derived.Test.YtinjpkbpdhihjaaDoorJCmdRefNames
import Derived.Test.YtinjpkbpdhihjaaDoorJWords
import Derived.Test.YtinjpkbpdhihjaaDoorJPut
import Derived.Test.YtinjpkbpdhihjaaDoorJLinePut3
import Derived.Test.YtinjpkbpdhihjaaDoorJTake
import Derived.Test.YtinjpkbpdhihjaaDoorJLineTake4
import Derived.Test.YtinjpkbpdhihjaaDoorJLineRead
import Derived.Test.YtinjpkbpdhihjaaDoorJLineGet
import Derived.Test.YtinjpkbpdhihjaaDoorJLinePut
import Derived.Test.YtinjpkbpdhihjaaDoorJRefA
import Derived.Test.YtinjpkbpdhihjaaDoorJLineRef3
import Derived.WalkKit
import Derived.ProofKit
import Derived.OpenShut
import Derived.IntWalk
/- line: the document's own Get, of every kind but a trade. -/
namespace Go.Proofs.YtinjpkbpdhihjaaDoor
open Go.ChangeShapes Go.WideShapes Go.ChangeAt Go.RowKit
set_option linter.unusedVariables false
open Go.RowKit Go
/-- The command that is guessed, in block C; the answer's block waits. -/
def GetG (w : World) (C : Nat) (c : Cm) (ga : Option Addr) (gc : Nat) (wa : Option Addr) (wc : Nat) (W : World) : Prop :=
  (Below w.heap.size w W ∧ w.heap.size + 1 ≤ W.heap.size ∧ Blk W w.heap.size 24 zeroCells) ∧ w.heap.size < C ∧ TSt W C c ga gc wa wc
def GetW (w W : World) : Prop := Below w.heap.size w W ∧ w.heap.size + 1 ≤ W.heap.size ∧ Blk W w.heap.size 24 zeroCells
section
variable {w w1 W W' : World} {C : Nat} {c : Cm} {ga wa : Option Addr} {gc wc : Nat} {ws : List (List UInt8)}
theorem GetW.start (w : World) : GetW w (w.alloc (.cells zeroCells 24)) := ⟨(Below.refl _ _).alloc (Nat.le_refl _) _, by simp, Blk.new _ _ _⟩
theorem GetW.below (h : GetW w W) (hb : Below W.heap.size W W') : GetW w W' := ⟨bl h.1 hb, Nat.le_trans h.2.1 hb.size, h.2.2.call hb⟩
theorem GetG.alloc (h : GetW w w1) (hg : c.gives = []) (hw : c.wants = []) {cs : Array Value} (hcs : cs = #[.int .i64 c.kind, .int .i64 c.dir, .int .i64 c.item, .int .i64 c.box, .int .i64 c.who, .slice none c.gives.length 0, .int .i64 c.pay, .slice none c.wants.length 0, .int .i64 c.fee]) : GetG w w1.heap.size c none 0 none 0 (w1.alloc (.cells cs 24)) := by
  subst hcs
  exact ⟨h.below ((Below.refl _ _).alloc (Nat.le_refl _) _), h.2.1, Blk.new _ _ _, by rw [hg]; exact IntsAt.nil _ _, by rw [hw]; exact IntsAt.nil _ _, fun _ => ⟨rfl, rfl⟩, fun _ => ⟨rfl, rfl⟩, .inl hg, .inl hw⟩
theorem GetG.below (h : GetG w C c ga gc wa wc W) (hb : Below W.heap.size W W') : GetG w C c ga gc wa wc W' := ⟨GetW.below h.1 hb, h.2.1, h.2.2.below hb⟩
theorem gets_no (h : GetW w W) {W' : World} (hW : Blk W' w.heap.size 24 zeroCells ∧ W.grownBy W' (some w.heap.size)) (hr : refB ws = false) :
    Gets w ws (.returned (.tuple #[.agg zeroCells, .int .i64 2])) W' := by
  obtain ⟨e1, e2⟩ := ref_code ws
  rw [hr] at e1 e2
  exact ⟨zeroC, none, 0, none, 0, e2, by rw [← e1]; rfl, IntsAt.nil _ _, IntsAt.nil _ _, h.1.grown hW.2 (by have := h.2.1; omega) (fun k e => by have := Option.some.inj e; omega)⟩
theorem gets_yes (h : GetG w C c ga gc wa wc W) (hc : c = guess ws) {W' : World} (hW : W.grownBy W' (some w.heap.size)) (hr : refB ws = true) :
    Gets w ws (.returned (.tuple #[.agg #[.int .i64 c.kind, .int .i64 c.dir, .int .i64 c.item, .int .i64 c.box, .int .i64 c.who, .slice ga c.gives.length gc, .int .i64 c.pay, .slice wa c.wants.length wc, .int .i64 c.fee], .int .i64 0])) W' := by
  obtain ⟨e1, e2⟩ := ref_code ws
  rw [hr, if_pos rfl] at e2
  rw [hr] at e1
  exact ⟨c, ga, gc, wa, wc, hc.trans e2, by rw [← e1]; rfl, h.2.2.gi.grown (v := bv w.heap.size) hW (h.2.2.go.off (Nat.le_of_lt h.2.1)), h.2.2.wi.grown (v := bv w.heap.size) hW (h.2.2.wo.off (Nat.le_of_lt h.2.1)), h.1.1.grown hW (by have := h.1.2.1; omega) (fun k e => by have := Option.some.inj e; omega)⟩
end
set_option maxRecDepth 100000 in
set_option maxHeartbeats 4000000 in
theorem refget_0 (s : ByteArray) (w : World) (hs : s.size ≤ 500000) (x : List UInt8) (hx : (words s.data.toList)[0]? = some x) (hk : kindN x = 0) : Calls Tryd.prog 14 #[.string s] w (Gets w (words s.data.toList)) := by
  have HS := Lib.hid hs
  have HW := Lib.hid (words_fine hs)
  have HX := Lib.hid hx
  have HK := Lib.hid hk
  clear hs hx hk
  have P0 := Lib.hid (GetW.start w)
  unfold zeroCells at P0
  go_enter Tryd.func14, Tryd.ntmps14
  go_wp2_with fail
  refine (refcut_any s _ (by have := HS.out; omega)).mono ?_
  rintro e w1 ⟨v, rfl, hv, b1⟩
  have P1 := Lib.hid (P0.out.below b1)
  clear P0 b1
  generalize words s.data.toList = ws at *
  obtain ⟨a, cap, rfl, hl, hcs⟩ := hv
  have hn : 0 < ws.length := (List.getElem?_eq_some_iff.1 HX.out).1
  obtain ⟨b, off, rfl, hb, hcs⟩ : ∃ b off, a = some ⟨b, off, none⟩ ∧ b < w1.heap.size ∧ ∀ i (hi : i < ws.length), w1.cell? ⟨b, off + i, none⟩ = some (str ws[i]) := by
    rcases hcs with h | h
    · rw [h] at hn; simp at hn
    · exact h
  have HV := Lib.hid (show Strs w1 (.slice (some ⟨b, off, none⟩) ws.length cap) ws from ⟨_, _, rfl, hl, .inr ⟨b, off, rfl, hb, hcs⟩⟩)
  have c0 := hcs 0 hn
  rw [Nat.add_zero, show ws[0] = x from (List.getElem?_eq_some_iff.1 HX.out).2] at c0
  unfold str at c0
  have hn0 : ((ws.length : Int) == 0) = false := by rw [beq_eq_false_iff_ne]; omega
  unfold maxLen at hl
  have HL := Lib.hid HW.out.2
  have HB := Lib.hid hb
  have HCS := Lib.hid hcs
  clear hb hcs
  go_wp2_with fail
  refine (refkind_any x _).mono ?_
  rintro e w2 ⟨rfl, b2⟩
  rw [HK.out]
  have c1 := fun i hi => (b2.cell (p := ⟨b, off + i, none⟩) HB.out).trans (HCS.out i hi)
  have P2 := Lib.hid (P1.out.below b2)
  have HV2 := Lib.hid (HV.out.below b2)
  have HC1 := Lib.hid c1
  clear b2 c0 hn0 P1 HV c1 HCS
  have HD := Lib.hid (show ws.getD 0 [] = x by simp [List.getD, HX.out])
  have HC := Lib.hid (show ⟨0, 0, 0, 0, 0, [], 0, [], 0⟩ = guess ws by unfold guess; rw [HD.out, HK.out]; rfl)
  have G := Lib.hid (GetG.alloc (c := ⟨0, 0, 0, 0, 0, [], 0, [], 0⟩) P2.out rfl rfl (cs := #[.int .i64 0, .int .i64 0, .int .i64 0, .int .i64 0, .int .i64 0, .slice none 0 0, .int .i64 0, .slice none 0 0, .int .i64 0]) rfl)
  have HV := Lib.hid (HV2.out.below ((Below.refl _ _).alloc (Nat.le_refl _) (.cells #[.int .i64 0, .int .i64 0, .int .i64 0, .int .i64 0, .int .i64 0, .slice none 0 0, .int .i64 0, .slice none 0 0, .int .i64 0] 24)))
  clear HV2 P2
  go_wp2_with fail
  refine (refmay_any ⟨0, 0, 0, 0, 0, [], 0, [], 0⟩ none none 0 0 _ G.out.2.2.gi G.out.2.2.wi).mono ?_
  rintro e w3 ⟨rfl, b3⟩
  have G3 := Lib.hid (G.out.below b3)
  have HV3 := Lib.hid (HV.out.below b3)
  clear b3
  have hcc := G3.out.2.2.blk.cell
  have hres := G3.out.1.2.2.cell
  have hfr := G3.out.1.2.2.frozen
  unfold zeroCells at hres
  cases hm : refMayB ⟨0, 0, 0, 0, 0, [], 0, [], 0⟩
  · have HM := Lib.hid ((may_eq _).trans hm)
    clear hm
    go_wp2_with fail
    generalize hW : ((((((((w3.setCell ⟨w.heap.size, 0, none⟩ _).setCell ⟨w.heap.size, 1, none⟩ _).setCell ⟨w.heap.size, 2, none⟩ _).setCell ⟨w.heap.size, 3, none⟩ _).setCell ⟨w.heap.size, 4, none⟩ _).setCell ⟨w.heap.size, 5, none⟩ _).setCell ⟨w.heap.size, 6, none⟩ _).setCell ⟨w.heap.size, 7, none⟩ _).setCell ⟨w.heap.size, 8, none⟩ _ = W'
    obtain ⟨k1, k2⟩ := fin9 G3.out.1.2.2 _ _ _ _ _ _ _ _ _ hW.symm
    have hc := k1.cell
    refine bodyPost_ret (v := .tuple #[.agg #[.int .i64 0, .int .i64 0, .int .i64 0, .int .i64 0, .int .i64 0, .slice none 0 0, .int .i64 0, .slice none 0 0, .int .i64 0], .int .i64 2]) (by simp [results, Tryd.results14, go_sem, hc]) rfl ?_
    exact gets_no G3.out.1 ⟨k1, k2⟩ (by unfold refB; rw [← HC.out, HM.out]; rfl)
  · have HM := Lib.hid ((may_eq _).trans hm)
    clear hm
    go_wp2_with fail
    refine (refwords_any ⟨0, 0, 0, 0, 0, [], 0, [], 0⟩ none none 0 0 _ HM.out G3.out.2.2.gi G3.out.2.2.wi).mono ?_
    rintro e w4 ⟨u, rfl, hu, b4⟩
    have G4 := Lib.hid (G3.out.below b4)
    have HV4 := Lib.hid (HV3.out.below b4)
    have HU := Lib.hid hu
    clear b4 hu hcc hres hfr
    go_wp2_with fail
    refine (strsame_any _ HU.out HV4.out).mono ?_
    rintro e w5 ⟨rfl, b5⟩
    have G5 := Lib.hid (G4.out.below b5)
    clear b5
    have hcc := G5.out.2.2.blk.cell
    have hres := G5.out.1.2.2.cell
    have hfr := G5.out.1.2.2.frozen
    unfold zeroCells at hres
    by_cases he : wordsOf ⟨0, 0, 0, 0, 0, [], 0, [], 0⟩ = ws
    · have HE := Lib.hid he
      rw [decide_eq_true he]
      clear he
      go_wp2_with fail
      generalize hW : ((((((((w5.setCell ⟨w.heap.size, 0, none⟩ _).setCell ⟨w.heap.size, 1, none⟩ _).setCell ⟨w.heap.size, 2, none⟩ _).setCell ⟨w.heap.size, 3, none⟩ _).setCell ⟨w.heap.size, 4, none⟩ _).setCell ⟨w.heap.size, 5, none⟩ _).setCell ⟨w.heap.size, 6, none⟩ _).setCell ⟨w.heap.size, 7, none⟩ _).setCell ⟨w.heap.size, 8, none⟩ _ = W'
      obtain ⟨k1, k2⟩ := fin9 G5.out.1.2.2 _ _ _ _ _ _ _ _ _ hW.symm
      have hc := k1.cell
      refine bodyPost_ret (v := .tuple #[.agg #[.int .i64 0, .int .i64 0, .int .i64 0, .int .i64 0, .int .i64 0, .slice none 0 0, .int .i64 0, .slice none 0 0, .int .i64 0], .int .i64 0]) (by simp [results, Tryd.results14, go_sem, hc]) rfl ?_
      exact gets_yes G5.out HC.out k2 (by unfold refB; rw [← HC.out, HM.out, HE.out]; simp)
    · have HE := Lib.hid he
      rw [decide_eq_false he]
      clear he
      go_wp2_with fail
      generalize hW : ((((((((w5.setCell ⟨w.heap.size, 0, none⟩ _).setCell ⟨w.heap.size, 1, none⟩ _).setCell ⟨w.heap.size, 2, none⟩ _).setCell ⟨w.heap.size, 3, none⟩ _).setCell ⟨w.heap.size, 4, none⟩ _).setCell ⟨w.heap.size, 5, none⟩ _).setCell ⟨w.heap.size, 6, none⟩ _).setCell ⟨w.heap.size, 7, none⟩ _).setCell ⟨w.heap.size, 8, none⟩ _ = W'
      obtain ⟨k1, k2⟩ := fin9 G5.out.1.2.2 _ _ _ _ _ _ _ _ _ hW.symm
      have hc := k1.cell
      refine bodyPost_ret (v := .tuple #[.agg #[.int .i64 0, .int .i64 0, .int .i64 0, .int .i64 0, .int .i64 0, .slice none 0 0, .int .i64 0, .slice none 0 0, .int .i64 0], .int .i64 2]) (by simp [results, Tryd.results14, go_sem, hc]) rfl ?_
      exact gets_no G5.out.1 ⟨k1, k2⟩ (by unfold refB; rw [← HC.out, decide_eq_false HE.out]; simp)
set_option maxRecDepth 100000 in
set_option maxHeartbeats 4000000 in
theorem refget_9 (s : ByteArray) (w : World) (hs : s.size ≤ 500000) (x : List UInt8) (hx : (words s.data.toList)[0]? = some x) (hk : kindN x = 9) : Calls Tryd.prog 14 #[.string s] w (Gets w (words s.data.toList)) := by
  have HS := Lib.hid hs
  have HW := Lib.hid (words_fine hs)
  have HX := Lib.hid hx
  have HK := Lib.hid hk
  clear hs hx hk
  have P0 := Lib.hid (GetW.start w)
  unfold zeroCells at P0
  go_enter Tryd.func14, Tryd.ntmps14
  go_wp2_with fail
  refine (refcut_any s _ (by have := HS.out; omega)).mono ?_
  rintro e w1 ⟨v, rfl, hv, b1⟩
  have P1 := Lib.hid (P0.out.below b1)
  clear P0 b1
  generalize words s.data.toList = ws at *
  obtain ⟨a, cap, rfl, hl, hcs⟩ := hv
  have hn : 0 < ws.length := (List.getElem?_eq_some_iff.1 HX.out).1
  obtain ⟨b, off, rfl, hb, hcs⟩ : ∃ b off, a = some ⟨b, off, none⟩ ∧ b < w1.heap.size ∧ ∀ i (hi : i < ws.length), w1.cell? ⟨b, off + i, none⟩ = some (str ws[i]) := by
    rcases hcs with h | h
    · rw [h] at hn; simp at hn
    · exact h
  have HV := Lib.hid (show Strs w1 (.slice (some ⟨b, off, none⟩) ws.length cap) ws from ⟨_, _, rfl, hl, .inr ⟨b, off, rfl, hb, hcs⟩⟩)
  have c0 := hcs 0 hn
  rw [Nat.add_zero, show ws[0] = x from (List.getElem?_eq_some_iff.1 HX.out).2] at c0
  unfold str at c0
  have hn0 : ((ws.length : Int) == 0) = false := by rw [beq_eq_false_iff_ne]; omega
  unfold maxLen at hl
  have HL := Lib.hid HW.out.2
  have HB := Lib.hid hb
  have HCS := Lib.hid hcs
  clear hb hcs
  go_wp2_with fail
  refine (refkind_any x _).mono ?_
  rintro e w2 ⟨rfl, b2⟩
  rw [HK.out]
  have c1 := fun i hi => (b2.cell (p := ⟨b, off + i, none⟩) HB.out).trans (HCS.out i hi)
  have P2 := Lib.hid (P1.out.below b2)
  have HV2 := Lib.hid (HV.out.below b2)
  have HC1 := Lib.hid c1
  clear b2 c0 hn0 P1 HV c1 HCS
  have HD := Lib.hid (show ws.getD 0 [] = x by simp [List.getD, HX.out])
  have HC := Lib.hid (show ⟨9, 0, 0, 0, 0, [], 0, [], 0⟩ = guess ws by unfold guess; rw [HD.out, HK.out]; rfl)
  have G := Lib.hid (GetG.alloc (c := ⟨9, 0, 0, 0, 0, [], 0, [], 0⟩) P2.out rfl rfl (cs := #[.int .i64 9, .int .i64 0, .int .i64 0, .int .i64 0, .int .i64 0, .slice none 0 0, .int .i64 0, .slice none 0 0, .int .i64 0]) rfl)
  have HV := Lib.hid (HV2.out.below ((Below.refl _ _).alloc (Nat.le_refl _) (.cells #[.int .i64 9, .int .i64 0, .int .i64 0, .int .i64 0, .int .i64 0, .slice none 0 0, .int .i64 0, .slice none 0 0, .int .i64 0] 24)))
  clear HV2 P2
  go_wp2_with fail
  refine (refmay_any ⟨9, 0, 0, 0, 0, [], 0, [], 0⟩ none none 0 0 _ G.out.2.2.gi G.out.2.2.wi).mono ?_
  rintro e w3 ⟨rfl, b3⟩
  have G3 := Lib.hid (G.out.below b3)
  have HV3 := Lib.hid (HV.out.below b3)
  clear b3
  have hcc := G3.out.2.2.blk.cell
  have hres := G3.out.1.2.2.cell
  have hfr := G3.out.1.2.2.frozen
  unfold zeroCells at hres
  cases hm : refMayB ⟨9, 0, 0, 0, 0, [], 0, [], 0⟩
  · have HM := Lib.hid ((may_eq _).trans hm)
    clear hm
    go_wp2_with fail
    generalize hW : ((((((((w3.setCell ⟨w.heap.size, 0, none⟩ _).setCell ⟨w.heap.size, 1, none⟩ _).setCell ⟨w.heap.size, 2, none⟩ _).setCell ⟨w.heap.size, 3, none⟩ _).setCell ⟨w.heap.size, 4, none⟩ _).setCell ⟨w.heap.size, 5, none⟩ _).setCell ⟨w.heap.size, 6, none⟩ _).setCell ⟨w.heap.size, 7, none⟩ _).setCell ⟨w.heap.size, 8, none⟩ _ = W'
    obtain ⟨k1, k2⟩ := fin9 G3.out.1.2.2 _ _ _ _ _ _ _ _ _ hW.symm
    have hc := k1.cell
    refine bodyPost_ret (v := .tuple #[.agg #[.int .i64 0, .int .i64 0, .int .i64 0, .int .i64 0, .int .i64 0, .slice none 0 0, .int .i64 0, .slice none 0 0, .int .i64 0], .int .i64 2]) (by simp [results, Tryd.results14, go_sem, hc]) rfl ?_
    exact gets_no G3.out.1 ⟨k1, k2⟩ (by unfold refB; rw [← HC.out, HM.out]; rfl)
  · have HM := Lib.hid ((may_eq _).trans hm)
    clear hm
    go_wp2_with fail
    refine (refwords_any ⟨9, 0, 0, 0, 0, [], 0, [], 0⟩ none none 0 0 _ HM.out G3.out.2.2.gi G3.out.2.2.wi).mono ?_
    rintro e w4 ⟨u, rfl, hu, b4⟩
    have G4 := Lib.hid (G3.out.below b4)
    have HV4 := Lib.hid (HV3.out.below b4)
    have HU := Lib.hid hu
    clear b4 hu hcc hres hfr
    go_wp2_with fail
    refine (strsame_any _ HU.out HV4.out).mono ?_
    rintro e w5 ⟨rfl, b5⟩
    have G5 := Lib.hid (G4.out.below b5)
    clear b5
    have hcc := G5.out.2.2.blk.cell
    have hres := G5.out.1.2.2.cell
    have hfr := G5.out.1.2.2.frozen
    unfold zeroCells at hres
    by_cases he : wordsOf ⟨9, 0, 0, 0, 0, [], 0, [], 0⟩ = ws
    · have HE := Lib.hid he
      rw [decide_eq_true he]
      clear he
      go_wp2_with fail
      generalize hW : ((((((((w5.setCell ⟨w.heap.size, 0, none⟩ _).setCell ⟨w.heap.size, 1, none⟩ _).setCell ⟨w.heap.size, 2, none⟩ _).setCell ⟨w.heap.size, 3, none⟩ _).setCell ⟨w.heap.size, 4, none⟩ _).setCell ⟨w.heap.size, 5, none⟩ _).setCell ⟨w.heap.size, 6, none⟩ _).setCell ⟨w.heap.size, 7, none⟩ _).setCell ⟨w.heap.size, 8, none⟩ _ = W'
      obtain ⟨k1, k2⟩ := fin9 G5.out.1.2.2 _ _ _ _ _ _ _ _ _ hW.symm
      have hc := k1.cell
      refine bodyPost_ret (v := .tuple #[.agg #[.int .i64 9, .int .i64 0, .int .i64 0, .int .i64 0, .int .i64 0, .slice none 0 0, .int .i64 0, .slice none 0 0, .int .i64 0], .int .i64 0]) (by simp [results, Tryd.results14, go_sem, hc]) rfl ?_
      exact gets_yes G5.out HC.out k2 (by unfold refB; rw [← HC.out, HM.out, HE.out]; simp)
    · have HE := Lib.hid he
      rw [decide_eq_false he]
      clear he
      go_wp2_with fail
      generalize hW : ((((((((w5.setCell ⟨w.heap.size, 0, none⟩ _).setCell ⟨w.heap.size, 1, none⟩ _).setCell ⟨w.heap.size, 2, none⟩ _).setCell ⟨w.heap.size, 3, none⟩ _).setCell ⟨w.heap.size, 4, none⟩ _).setCell ⟨w.heap.size, 5, none⟩ _).setCell ⟨w.heap.size, 6, none⟩ _).setCell ⟨w.heap.size, 7, none⟩ _).setCell ⟨w.heap.size, 8, none⟩ _ = W'
      obtain ⟨k1, k2⟩ := fin9 G5.out.1.2.2 _ _ _ _ _ _ _ _ _ hW.symm
      have hc := k1.cell
      refine bodyPost_ret (v := .tuple #[.agg #[.int .i64 0, .int .i64 0, .int .i64 0, .int .i64 0, .int .i64 0, .slice none 0 0, .int .i64 0, .slice none 0 0, .int .i64 0], .int .i64 2]) (by simp [results, Tryd.results14, go_sem, hc]) rfl ?_
      exact gets_no G5.out.1 ⟨k1, k2⟩ (by unfold refB; rw [← HC.out, decide_eq_false HE.out]; simp)
set_option maxRecDepth 100000 in
set_option maxHeartbeats 4000000 in
theorem refget_10 (s : ByteArray) (w : World) (hs : s.size ≤ 500000) (x : List UInt8) (hx : (words s.data.toList)[0]? = some x) (hk : kindN x = 10) : Calls Tryd.prog 14 #[.string s] w (Gets w (words s.data.toList)) := by
  have HS := Lib.hid hs
  have HW := Lib.hid (words_fine hs)
  have HX := Lib.hid hx
  have HK := Lib.hid hk
  clear hs hx hk
  have P0 := Lib.hid (GetW.start w)
  unfold zeroCells at P0
  go_enter Tryd.func14, Tryd.ntmps14
  go_wp2_with fail
  refine (refcut_any s _ (by have := HS.out; omega)).mono ?_
  rintro e w1 ⟨v, rfl, hv, b1⟩
  have P1 := Lib.hid (P0.out.below b1)
  clear P0 b1
  generalize words s.data.toList = ws at *
  obtain ⟨a, cap, rfl, hl, hcs⟩ := hv
  have hn : 0 < ws.length := (List.getElem?_eq_some_iff.1 HX.out).1
  obtain ⟨b, off, rfl, hb, hcs⟩ : ∃ b off, a = some ⟨b, off, none⟩ ∧ b < w1.heap.size ∧ ∀ i (hi : i < ws.length), w1.cell? ⟨b, off + i, none⟩ = some (str ws[i]) := by
    rcases hcs with h | h
    · rw [h] at hn; simp at hn
    · exact h
  have HV := Lib.hid (show Strs w1 (.slice (some ⟨b, off, none⟩) ws.length cap) ws from ⟨_, _, rfl, hl, .inr ⟨b, off, rfl, hb, hcs⟩⟩)
  have c0 := hcs 0 hn
  rw [Nat.add_zero, show ws[0] = x from (List.getElem?_eq_some_iff.1 HX.out).2] at c0
  unfold str at c0
  have hn0 : ((ws.length : Int) == 0) = false := by rw [beq_eq_false_iff_ne]; omega
  unfold maxLen at hl
  have HL := Lib.hid HW.out.2
  have HB := Lib.hid hb
  have HCS := Lib.hid hcs
  clear hb hcs
  go_wp2_with fail
  refine (refkind_any x _).mono ?_
  rintro e w2 ⟨rfl, b2⟩
  rw [HK.out]
  have c1 := fun i hi => (b2.cell (p := ⟨b, off + i, none⟩) HB.out).trans (HCS.out i hi)
  have P2 := Lib.hid (P1.out.below b2)
  have HV2 := Lib.hid (HV.out.below b2)
  have HC1 := Lib.hid c1
  clear b2 c0 hn0 P1 HV c1 HCS
  have HD := Lib.hid (show ws.getD 0 [] = x by simp [List.getD, HX.out])
  have HC := Lib.hid (show ⟨10, 0, 0, 0, 0, [], 0, [], 0⟩ = guess ws by unfold guess; rw [HD.out, HK.out]; rfl)
  have G := Lib.hid (GetG.alloc (c := ⟨10, 0, 0, 0, 0, [], 0, [], 0⟩) P2.out rfl rfl (cs := #[.int .i64 10, .int .i64 0, .int .i64 0, .int .i64 0, .int .i64 0, .slice none 0 0, .int .i64 0, .slice none 0 0, .int .i64 0]) rfl)
  have HV := Lib.hid (HV2.out.below ((Below.refl _ _).alloc (Nat.le_refl _) (.cells #[.int .i64 10, .int .i64 0, .int .i64 0, .int .i64 0, .int .i64 0, .slice none 0 0, .int .i64 0, .slice none 0 0, .int .i64 0] 24)))
  clear HV2 P2
  go_wp2_with fail
  refine (refmay_any ⟨10, 0, 0, 0, 0, [], 0, [], 0⟩ none none 0 0 _ G.out.2.2.gi G.out.2.2.wi).mono ?_
  rintro e w3 ⟨rfl, b3⟩
  have G3 := Lib.hid (G.out.below b3)
  have HV3 := Lib.hid (HV.out.below b3)
  clear b3
  have hcc := G3.out.2.2.blk.cell
  have hres := G3.out.1.2.2.cell
  have hfr := G3.out.1.2.2.frozen
  unfold zeroCells at hres
  cases hm : refMayB ⟨10, 0, 0, 0, 0, [], 0, [], 0⟩
  · have HM := Lib.hid ((may_eq _).trans hm)
    clear hm
    go_wp2_with fail
    generalize hW : ((((((((w3.setCell ⟨w.heap.size, 0, none⟩ _).setCell ⟨w.heap.size, 1, none⟩ _).setCell ⟨w.heap.size, 2, none⟩ _).setCell ⟨w.heap.size, 3, none⟩ _).setCell ⟨w.heap.size, 4, none⟩ _).setCell ⟨w.heap.size, 5, none⟩ _).setCell ⟨w.heap.size, 6, none⟩ _).setCell ⟨w.heap.size, 7, none⟩ _).setCell ⟨w.heap.size, 8, none⟩ _ = W'
    obtain ⟨k1, k2⟩ := fin9 G3.out.1.2.2 _ _ _ _ _ _ _ _ _ hW.symm
    have hc := k1.cell
    refine bodyPost_ret (v := .tuple #[.agg #[.int .i64 0, .int .i64 0, .int .i64 0, .int .i64 0, .int .i64 0, .slice none 0 0, .int .i64 0, .slice none 0 0, .int .i64 0], .int .i64 2]) (by simp [results, Tryd.results14, go_sem, hc]) rfl ?_
    exact gets_no G3.out.1 ⟨k1, k2⟩ (by unfold refB; rw [← HC.out, HM.out]; rfl)
  · have HM := Lib.hid ((may_eq _).trans hm)
    clear hm
    go_wp2_with fail
    refine (refwords_any ⟨10, 0, 0, 0, 0, [], 0, [], 0⟩ none none 0 0 _ HM.out G3.out.2.2.gi G3.out.2.2.wi).mono ?_
    rintro e w4 ⟨u, rfl, hu, b4⟩
    have G4 := Lib.hid (G3.out.below b4)
    have HV4 := Lib.hid (HV3.out.below b4)
    have HU := Lib.hid hu
    clear b4 hu hcc hres hfr
    go_wp2_with fail
    refine (strsame_any _ HU.out HV4.out).mono ?_
    rintro e w5 ⟨rfl, b5⟩
    have G5 := Lib.hid (G4.out.below b5)
    clear b5
    have hcc := G5.out.2.2.blk.cell
    have hres := G5.out.1.2.2.cell
    have hfr := G5.out.1.2.2.frozen
    unfold zeroCells at hres
    by_cases he : wordsOf ⟨10, 0, 0, 0, 0, [], 0, [], 0⟩ = ws
    · have HE := Lib.hid he
      rw [decide_eq_true he]
      clear he
      go_wp2_with fail
      generalize hW : ((((((((w5.setCell ⟨w.heap.size, 0, none⟩ _).setCell ⟨w.heap.size, 1, none⟩ _).setCell ⟨w.heap.size, 2, none⟩ _).setCell ⟨w.heap.size, 3, none⟩ _).setCell ⟨w.heap.size, 4, none⟩ _).setCell ⟨w.heap.size, 5, none⟩ _).setCell ⟨w.heap.size, 6, none⟩ _).setCell ⟨w.heap.size, 7, none⟩ _).setCell ⟨w.heap.size, 8, none⟩ _ = W'
      obtain ⟨k1, k2⟩ := fin9 G5.out.1.2.2 _ _ _ _ _ _ _ _ _ hW.symm
      have hc := k1.cell
      refine bodyPost_ret (v := .tuple #[.agg #[.int .i64 10, .int .i64 0, .int .i64 0, .int .i64 0, .int .i64 0, .slice none 0 0, .int .i64 0, .slice none 0 0, .int .i64 0], .int .i64 0]) (by simp [results, Tryd.results14, go_sem, hc]) rfl ?_
      exact gets_yes G5.out HC.out k2 (by unfold refB; rw [← HC.out, HM.out, HE.out]; simp)
    · have HE := Lib.hid he
      rw [decide_eq_false he]
      clear he
      go_wp2_with fail
      generalize hW : ((((((((w5.setCell ⟨w.heap.size, 0, none⟩ _).setCell ⟨w.heap.size, 1, none⟩ _).setCell ⟨w.heap.size, 2, none⟩ _).setCell ⟨w.heap.size, 3, none⟩ _).setCell ⟨w.heap.size, 4, none⟩ _).setCell ⟨w.heap.size, 5, none⟩ _).setCell ⟨w.heap.size, 6, none⟩ _).setCell ⟨w.heap.size, 7, none⟩ _).setCell ⟨w.heap.size, 8, none⟩ _ = W'
      obtain ⟨k1, k2⟩ := fin9 G5.out.1.2.2 _ _ _ _ _ _ _ _ _ hW.symm
      have hc := k1.cell
      refine bodyPost_ret (v := .tuple #[.agg #[.int .i64 0, .int .i64 0, .int .i64 0, .int .i64 0, .int .i64 0, .slice none 0 0, .int .i64 0, .slice none 0 0, .int .i64 0], .int .i64 2]) (by simp [results, Tryd.results14, go_sem, hc]) rfl ?_
      exact gets_no G5.out.1 ⟨k1, k2⟩ (by unfold refB; rw [← HC.out, decide_eq_false HE.out]; simp)
end Go.Proofs.YtinjpkbpdhihjaaDoor
/- line: the document's own Get, of kinds 1 to 7. -/
namespace Go.Proofs.YtinjpkbpdhihjaaDoor
open Go.ChangeShapes Go.WideShapes Go.ChangeAt Go.RowKit
set_option linter.unusedVariables false
open Go.RowKit Go
set_option maxRecDepth 100000 in
set_option maxHeartbeats 4000000 in
theorem refget_1a (s : ByteArray) (w : World) (hs : s.size ≤ 500000) (x : List UInt8) (hx : (words s.data.toList)[0]? = some x) (y : List UInt8) (hy : (words s.data.toList)[1]? = some y) (hk : kindN x = 1) : Calls Tryd.prog 14 #[.string s] w (Gets w (words s.data.toList)) := by
  have HS := Lib.hid hs
  have HW := Lib.hid (words_fine hs)
  have HX := Lib.hid hx
  have HK := Lib.hid hk
  clear hs hx hk
  have HY := Lib.hid hy
  clear hy
  have P0 := Lib.hid (GetW.start w)
  unfold zeroCells at P0
  go_enter Tryd.func14, Tryd.ntmps14
  go_wp2_with fail
  refine (refcut_any s _ (by have := HS.out; omega)).mono ?_
  rintro e w1 ⟨v, rfl, hv, b1⟩
  have P1 := Lib.hid (P0.out.below b1)
  clear P0 b1
  generalize words s.data.toList = ws at *
  obtain ⟨a, cap, rfl, hl, hcs⟩ := hv
  have hn : 0 < ws.length := (List.getElem?_eq_some_iff.1 HX.out).1
  obtain ⟨b, off, rfl, hb, hcs⟩ : ∃ b off, a = some ⟨b, off, none⟩ ∧ b < w1.heap.size ∧ ∀ i (hi : i < ws.length), w1.cell? ⟨b, off + i, none⟩ = some (str ws[i]) := by
    rcases hcs with h | h
    · rw [h] at hn; simp at hn
    · exact h
  have HV := Lib.hid (show Strs w1 (.slice (some ⟨b, off, none⟩) ws.length cap) ws from ⟨_, _, rfl, hl, .inr ⟨b, off, rfl, hb, hcs⟩⟩)
  have c0 := hcs 0 hn
  rw [Nat.add_zero, show ws[0] = x from (List.getElem?_eq_some_iff.1 HX.out).2] at c0
  unfold str at c0
  have hn0 : ((ws.length : Int) == 0) = false := by rw [beq_eq_false_iff_ne]; omega
  unfold maxLen at hl
  have HL := Lib.hid HW.out.2
  have HB := Lib.hid hb
  have HCS := Lib.hid hcs
  clear hb hcs
  go_wp2_with fail
  refine (refkind_any x _).mono ?_
  rintro e w2 ⟨rfl, b2⟩
  rw [HK.out]
  have c1 := fun i hi => (b2.cell (p := ⟨b, off + i, none⟩) HB.out).trans (HCS.out i hi)
  have P2 := Lib.hid (P1.out.below b2)
  have hbz := b2.size
  have HV2 := Lib.hid (HV.out.below b2)
  have HC1 := Lib.hid c1
  clear b2 c0 hn0 P1 HV c1 HCS
  have c1 := HC1.out 1 (by have := (List.getElem?_eq_some_iff.1 HY.out).1; omega)
  rw [show ws[1]'(List.getElem?_eq_some_iff.1 HY.out).1 = y from (List.getElem?_eq_some_iff.1 HY.out).2] at c1
  unfold str at c1
  have l0 : 1 < ws.length := (List.getElem?_eq_some_iff.1 HY.out).1
  have l1 : (1 : Int) < (ws.length : Int) := by omega
  have HE := Lib.hid (show dirAt ws 1 = dirN y by unfold dirAt; rw [if_pos l0]; simp [List.getD, HY.out])
  have hb2 : b < w2.heap.size := Nat.lt_of_lt_of_le HB.out hbz
  have c1 := fun o : Obj => (World.cell?_alloc_lt (w := w2) (a := ⟨b, off + 1, none⟩) (o := o) hb2).trans c1
  clear l0 hb2
  go_wp2_with fail
  refine (refdir_any y _).mono ?_
  rintro e w' ⟨rfl, rfl⟩
  have HD := Lib.hid (show ws.getD 0 [] = x by simp [List.getD, HX.out])
  have HC := Lib.hid (show ⟨1, dirN y, 0, 0, 0, [], 0, [], 0⟩ = guess ws by unfold guess; rw [HD.out, HK.out]; simp [guessK, zeroC, HE.out])
  have G := Lib.hid (GetG.alloc (c := ⟨1, dirN y, 0, 0, 0, [], 0, [], 0⟩) P2.out rfl rfl (cs := #[.int .i64 1, .int .i64 (dirN y), .int .i64 0, .int .i64 0, .int .i64 0, .slice none 0 0, .int .i64 0, .slice none 0 0, .int .i64 0]) rfl)
  have HV := Lib.hid (HV2.out.below ((Below.refl _ _).alloc (Nat.le_refl _) (.cells #[.int .i64 1, .int .i64 (dirN y), .int .i64 0, .int .i64 0, .int .i64 0, .slice none 0 0, .int .i64 0, .slice none 0 0, .int .i64 0] 24)))
  clear HV2 P2
  go_wp2_with fail
  refine (refmay_any ⟨1, dirN y, 0, 0, 0, [], 0, [], 0⟩ none none 0 0 _ G.out.2.2.gi G.out.2.2.wi).mono ?_
  rintro e w3 ⟨rfl, b3⟩
  have G3 := Lib.hid (G.out.below b3)
  have HV3 := Lib.hid (HV.out.below b3)
  clear b3
  have hcc := G3.out.2.2.blk.cell
  have hres := G3.out.1.2.2.cell
  have hfr := G3.out.1.2.2.frozen
  unfold zeroCells at hres
  cases hm : refMayB ⟨1, dirN y, 0, 0, 0, [], 0, [], 0⟩
  · have HM := Lib.hid ((may_eq _).trans hm)
    clear hm
    go_wp2_with fail
    generalize hW : ((((((((w3.setCell ⟨w.heap.size, 0, none⟩ _).setCell ⟨w.heap.size, 1, none⟩ _).setCell ⟨w.heap.size, 2, none⟩ _).setCell ⟨w.heap.size, 3, none⟩ _).setCell ⟨w.heap.size, 4, none⟩ _).setCell ⟨w.heap.size, 5, none⟩ _).setCell ⟨w.heap.size, 6, none⟩ _).setCell ⟨w.heap.size, 7, none⟩ _).setCell ⟨w.heap.size, 8, none⟩ _ = W'
    obtain ⟨k1, k2⟩ := fin9 G3.out.1.2.2 _ _ _ _ _ _ _ _ _ hW.symm
    have hc := k1.cell
    refine bodyPost_ret (v := .tuple #[.agg #[.int .i64 0, .int .i64 0, .int .i64 0, .int .i64 0, .int .i64 0, .slice none 0 0, .int .i64 0, .slice none 0 0, .int .i64 0], .int .i64 2]) (by simp [results, Tryd.results14, go_sem, hc]) rfl ?_
    exact gets_no G3.out.1 ⟨k1, k2⟩ (by unfold refB; rw [← HC.out, HM.out]; rfl)
  · have HM := Lib.hid ((may_eq _).trans hm)
    clear hm
    go_wp2_with fail
    refine (refwords_any ⟨1, dirN y, 0, 0, 0, [], 0, [], 0⟩ none none 0 0 _ HM.out G3.out.2.2.gi G3.out.2.2.wi).mono ?_
    rintro e w4 ⟨u, rfl, hu, b4⟩
    have G4 := Lib.hid (G3.out.below b4)
    have HV4 := Lib.hid (HV3.out.below b4)
    have HU := Lib.hid hu
    clear b4 hu hcc hres hfr
    go_wp2_with fail
    refine (strsame_any _ HU.out HV4.out).mono ?_
    rintro e w5 ⟨rfl, b5⟩
    have G5 := Lib.hid (G4.out.below b5)
    clear b5
    have hcc := G5.out.2.2.blk.cell
    have hres := G5.out.1.2.2.cell
    have hfr := G5.out.1.2.2.frozen
    unfold zeroCells at hres
    by_cases he : wordsOf ⟨1, dirN y, 0, 0, 0, [], 0, [], 0⟩ = ws
    · have HE := Lib.hid he
      rw [decide_eq_true he]
      clear he
      go_wp2_with fail
      generalize hW : ((((((((w5.setCell ⟨w.heap.size, 0, none⟩ _).setCell ⟨w.heap.size, 1, none⟩ _).setCell ⟨w.heap.size, 2, none⟩ _).setCell ⟨w.heap.size, 3, none⟩ _).setCell ⟨w.heap.size, 4, none⟩ _).setCell ⟨w.heap.size, 5, none⟩ _).setCell ⟨w.heap.size, 6, none⟩ _).setCell ⟨w.heap.size, 7, none⟩ _).setCell ⟨w.heap.size, 8, none⟩ _ = W'
      obtain ⟨k1, k2⟩ := fin9 G5.out.1.2.2 _ _ _ _ _ _ _ _ _ hW.symm
      have hc := k1.cell
      refine bodyPost_ret (v := .tuple #[.agg #[.int .i64 1, .int .i64 (dirN y), .int .i64 0, .int .i64 0, .int .i64 0, .slice none 0 0, .int .i64 0, .slice none 0 0, .int .i64 0], .int .i64 0]) (by simp [results, Tryd.results14, go_sem, hc]) rfl ?_
      exact gets_yes G5.out HC.out k2 (by unfold refB; rw [← HC.out, HM.out, HE.out]; simp)
    · have HE := Lib.hid he
      rw [decide_eq_false he]
      clear he
      go_wp2_with fail
      generalize hW : ((((((((w5.setCell ⟨w.heap.size, 0, none⟩ _).setCell ⟨w.heap.size, 1, none⟩ _).setCell ⟨w.heap.size, 2, none⟩ _).setCell ⟨w.heap.size, 3, none⟩ _).setCell ⟨w.heap.size, 4, none⟩ _).setCell ⟨w.heap.size, 5, none⟩ _).setCell ⟨w.heap.size, 6, none⟩ _).setCell ⟨w.heap.size, 7, none⟩ _).setCell ⟨w.heap.size, 8, none⟩ _ = W'
      obtain ⟨k1, k2⟩ := fin9 G5.out.1.2.2 _ _ _ _ _ _ _ _ _ hW.symm
      have hc := k1.cell
      refine bodyPost_ret (v := .tuple #[.agg #[.int .i64 0, .int .i64 0, .int .i64 0, .int .i64 0, .int .i64 0, .slice none 0 0, .int .i64 0, .slice none 0 0, .int .i64 0], .int .i64 2]) (by simp [results, Tryd.results14, go_sem, hc]) rfl ?_
      exact gets_no G5.out.1 ⟨k1, k2⟩ (by unfold refB; rw [← HC.out, decide_eq_false HE.out]; simp)
set_option maxRecDepth 100000 in
set_option maxHeartbeats 4000000 in
theorem refget_1b (s : ByteArray) (w : World) (hs : s.size ≤ 500000) (x : List UInt8) (hx : (words s.data.toList)[0]? = some x) (hy : (words s.data.toList).length ≤ 1) (hk : kindN x = 1) : Calls Tryd.prog 14 #[.string s] w (Gets w (words s.data.toList)) := by
  have HS := Lib.hid hs
  have HW := Lib.hid (words_fine hs)
  have HX := Lib.hid hx
  have HK := Lib.hid hk
  clear hs hx hk
  have HY := Lib.hid hy
  clear hy
  have P0 := Lib.hid (GetW.start w)
  unfold zeroCells at P0
  go_enter Tryd.func14, Tryd.ntmps14
  go_wp2_with fail
  refine (refcut_any s _ (by have := HS.out; omega)).mono ?_
  rintro e w1 ⟨v, rfl, hv, b1⟩
  have P1 := Lib.hid (P0.out.below b1)
  clear P0 b1
  generalize words s.data.toList = ws at *
  obtain ⟨a, cap, rfl, hl, hcs⟩ := hv
  have hn : 0 < ws.length := (List.getElem?_eq_some_iff.1 HX.out).1
  obtain ⟨b, off, rfl, hb, hcs⟩ : ∃ b off, a = some ⟨b, off, none⟩ ∧ b < w1.heap.size ∧ ∀ i (hi : i < ws.length), w1.cell? ⟨b, off + i, none⟩ = some (str ws[i]) := by
    rcases hcs with h | h
    · rw [h] at hn; simp at hn
    · exact h
  have HV := Lib.hid (show Strs w1 (.slice (some ⟨b, off, none⟩) ws.length cap) ws from ⟨_, _, rfl, hl, .inr ⟨b, off, rfl, hb, hcs⟩⟩)
  have c0 := hcs 0 hn
  rw [Nat.add_zero, show ws[0] = x from (List.getElem?_eq_some_iff.1 HX.out).2] at c0
  unfold str at c0
  have hn0 : ((ws.length : Int) == 0) = false := by rw [beq_eq_false_iff_ne]; omega
  unfold maxLen at hl
  have HL := Lib.hid HW.out.2
  have HB := Lib.hid hb
  have HCS := Lib.hid hcs
  clear hb hcs
  go_wp2_with fail
  refine (refkind_any x _).mono ?_
  rintro e w2 ⟨rfl, b2⟩
  rw [HK.out]
  have c1 := fun i hi => (b2.cell (p := ⟨b, off + i, none⟩) HB.out).trans (HCS.out i hi)
  have P2 := Lib.hid (P1.out.below b2)
  have hbz := b2.size
  have HV2 := Lib.hid (HV.out.below b2)
  have HC1 := Lib.hid c1
  clear b2 c0 hn0 P1 HV c1 HCS
  have l0 : ¬ 1 < ws.length := by have := HY.out; omega
  have l1 : ¬ (1 : Int) < (ws.length : Int) := by omega
  have HE := Lib.hid (show dirAt ws 1 = 0 by unfold dirAt; rw [if_neg l0])
  clear l0
  have HD := Lib.hid (show ws.getD 0 [] = x by simp [List.getD, HX.out])
  have HC := Lib.hid (show ⟨1, 0, 0, 0, 0, [], 0, [], 0⟩ = guess ws by unfold guess; rw [HD.out, HK.out]; simp [guessK, zeroC, HE.out])
  have G := Lib.hid (GetG.alloc (c := ⟨1, 0, 0, 0, 0, [], 0, [], 0⟩) P2.out rfl rfl (cs := #[.int .i64 1, .int .i64 0, .int .i64 0, .int .i64 0, .int .i64 0, .slice none 0 0, .int .i64 0, .slice none 0 0, .int .i64 0]) rfl)
  have HV := Lib.hid (HV2.out.below ((Below.refl _ _).alloc (Nat.le_refl _) (.cells #[.int .i64 1, .int .i64 0, .int .i64 0, .int .i64 0, .int .i64 0, .slice none 0 0, .int .i64 0, .slice none 0 0, .int .i64 0] 24)))
  clear HV2 P2
  go_wp2_with fail
  refine (refmay_any ⟨1, 0, 0, 0, 0, [], 0, [], 0⟩ none none 0 0 _ G.out.2.2.gi G.out.2.2.wi).mono ?_
  rintro e w3 ⟨rfl, b3⟩
  have G3 := Lib.hid (G.out.below b3)
  have HV3 := Lib.hid (HV.out.below b3)
  clear b3
  have hcc := G3.out.2.2.blk.cell
  have hres := G3.out.1.2.2.cell
  have hfr := G3.out.1.2.2.frozen
  unfold zeroCells at hres
  cases hm : refMayB ⟨1, 0, 0, 0, 0, [], 0, [], 0⟩
  · have HM := Lib.hid ((may_eq _).trans hm)
    clear hm
    go_wp2_with fail
    generalize hW : ((((((((w3.setCell ⟨w.heap.size, 0, none⟩ _).setCell ⟨w.heap.size, 1, none⟩ _).setCell ⟨w.heap.size, 2, none⟩ _).setCell ⟨w.heap.size, 3, none⟩ _).setCell ⟨w.heap.size, 4, none⟩ _).setCell ⟨w.heap.size, 5, none⟩ _).setCell ⟨w.heap.size, 6, none⟩ _).setCell ⟨w.heap.size, 7, none⟩ _).setCell ⟨w.heap.size, 8, none⟩ _ = W'
    obtain ⟨k1, k2⟩ := fin9 G3.out.1.2.2 _ _ _ _ _ _ _ _ _ hW.symm
    have hc := k1.cell
    refine bodyPost_ret (v := .tuple #[.agg #[.int .i64 0, .int .i64 0, .int .i64 0, .int .i64 0, .int .i64 0, .slice none 0 0, .int .i64 0, .slice none 0 0, .int .i64 0], .int .i64 2]) (by simp [results, Tryd.results14, go_sem, hc]) rfl ?_
    exact gets_no G3.out.1 ⟨k1, k2⟩ (by unfold refB; rw [← HC.out, HM.out]; rfl)
  · have HM := Lib.hid ((may_eq _).trans hm)
    clear hm
    go_wp2_with fail
    refine (refwords_any ⟨1, 0, 0, 0, 0, [], 0, [], 0⟩ none none 0 0 _ HM.out G3.out.2.2.gi G3.out.2.2.wi).mono ?_
    rintro e w4 ⟨u, rfl, hu, b4⟩
    have G4 := Lib.hid (G3.out.below b4)
    have HV4 := Lib.hid (HV3.out.below b4)
    have HU := Lib.hid hu
    clear b4 hu hcc hres hfr
    go_wp2_with fail
    refine (strsame_any _ HU.out HV4.out).mono ?_
    rintro e w5 ⟨rfl, b5⟩
    have G5 := Lib.hid (G4.out.below b5)
    clear b5
    have hcc := G5.out.2.2.blk.cell
    have hres := G5.out.1.2.2.cell
    have hfr := G5.out.1.2.2.frozen
    unfold zeroCells at hres
    by_cases he : wordsOf ⟨1, 0, 0, 0, 0, [], 0, [], 0⟩ = ws
    · have HE := Lib.hid he
      rw [decide_eq_true he]
      clear he
      go_wp2_with fail
      generalize hW : ((((((((w5.setCell ⟨w.heap.size, 0, none⟩ _).setCell ⟨w.heap.size, 1, none⟩ _).setCell ⟨w.heap.size, 2, none⟩ _).setCell ⟨w.heap.size, 3, none⟩ _).setCell ⟨w.heap.size, 4, none⟩ _).setCell ⟨w.heap.size, 5, none⟩ _).setCell ⟨w.heap.size, 6, none⟩ _).setCell ⟨w.heap.size, 7, none⟩ _).setCell ⟨w.heap.size, 8, none⟩ _ = W'
      obtain ⟨k1, k2⟩ := fin9 G5.out.1.2.2 _ _ _ _ _ _ _ _ _ hW.symm
      have hc := k1.cell
      refine bodyPost_ret (v := .tuple #[.agg #[.int .i64 1, .int .i64 0, .int .i64 0, .int .i64 0, .int .i64 0, .slice none 0 0, .int .i64 0, .slice none 0 0, .int .i64 0], .int .i64 0]) (by simp [results, Tryd.results14, go_sem, hc]) rfl ?_
      exact gets_yes G5.out HC.out k2 (by unfold refB; rw [← HC.out, HM.out, HE.out]; simp)
    · have HE := Lib.hid he
      rw [decide_eq_false he]
      clear he
      go_wp2_with fail
      generalize hW : ((((((((w5.setCell ⟨w.heap.size, 0, none⟩ _).setCell ⟨w.heap.size, 1, none⟩ _).setCell ⟨w.heap.size, 2, none⟩ _).setCell ⟨w.heap.size, 3, none⟩ _).setCell ⟨w.heap.size, 4, none⟩ _).setCell ⟨w.heap.size, 5, none⟩ _).setCell ⟨w.heap.size, 6, none⟩ _).setCell ⟨w.heap.size, 7, none⟩ _).setCell ⟨w.heap.size, 8, none⟩ _ = W'
      obtain ⟨k1, k2⟩ := fin9 G5.out.1.2.2 _ _ _ _ _ _ _ _ _ hW.symm
      have hc := k1.cell
      refine bodyPost_ret (v := .tuple #[.agg #[.int .i64 0, .int .i64 0, .int .i64 0, .int .i64 0, .int .i64 0, .slice none 0 0, .int .i64 0, .slice none 0 0, .int .i64 0], .int .i64 2]) (by simp [results, Tryd.results14, go_sem, hc]) rfl ?_
      exact gets_no G5.out.1 ⟨k1, k2⟩ (by unfold refB; rw [← HC.out, decide_eq_false HE.out]; simp)
set_option maxRecDepth 100000 in
set_option maxHeartbeats 4000000 in
theorem refget_2a (s : ByteArray) (w : World) (hs : s.size ≤ 500000) (x : List UInt8) (hx : (words s.data.toList)[0]? = some x) (y : List UInt8) (hy : (words s.data.toList)[2]? = some y) (hk : kindN x = 2) : Calls Tryd.prog 14 #[.string s] w (Gets w (words s.data.toList)) := by
  have HS := Lib.hid hs
  have HW := Lib.hid (words_fine hs)
  have HX := Lib.hid hx
  have HK := Lib.hid hk
  clear hs hx hk
  have HY := Lib.hid hy
  clear hy
  have P0 := Lib.hid (GetW.start w)
  unfold zeroCells at P0
  go_enter Tryd.func14, Tryd.ntmps14
  go_wp2_with fail
  refine (refcut_any s _ (by have := HS.out; omega)).mono ?_
  rintro e w1 ⟨v, rfl, hv, b1⟩
  have P1 := Lib.hid (P0.out.below b1)
  clear P0 b1
  generalize words s.data.toList = ws at *
  obtain ⟨a, cap, rfl, hl, hcs⟩ := hv
  have hn : 0 < ws.length := (List.getElem?_eq_some_iff.1 HX.out).1
  obtain ⟨b, off, rfl, hb, hcs⟩ : ∃ b off, a = some ⟨b, off, none⟩ ∧ b < w1.heap.size ∧ ∀ i (hi : i < ws.length), w1.cell? ⟨b, off + i, none⟩ = some (str ws[i]) := by
    rcases hcs with h | h
    · rw [h] at hn; simp at hn
    · exact h
  have HV := Lib.hid (show Strs w1 (.slice (some ⟨b, off, none⟩) ws.length cap) ws from ⟨_, _, rfl, hl, .inr ⟨b, off, rfl, hb, hcs⟩⟩)
  have c0 := hcs 0 hn
  rw [Nat.add_zero, show ws[0] = x from (List.getElem?_eq_some_iff.1 HX.out).2] at c0
  unfold str at c0
  have hn0 : ((ws.length : Int) == 0) = false := by rw [beq_eq_false_iff_ne]; omega
  unfold maxLen at hl
  have HL := Lib.hid HW.out.2
  have HB := Lib.hid hb
  have HCS := Lib.hid hcs
  clear hb hcs
  go_wp2_with fail
  refine (refkind_any x _).mono ?_
  rintro e w2 ⟨rfl, b2⟩
  rw [HK.out]
  have c1 := fun i hi => (b2.cell (p := ⟨b, off + i, none⟩) HB.out).trans (HCS.out i hi)
  have P2 := Lib.hid (P1.out.below b2)
  have hbz := b2.size
  have HV2 := Lib.hid (HV.out.below b2)
  have HC1 := Lib.hid c1
  clear b2 c0 hn0 P1 HV c1 HCS
  go_wp2_with fail
  refine (at_any 1 _ (HV2.out.below ((Below.refl _ _).alloc (Nat.le_refl _) _)) HW.out.1 HW.out.2 (by omega) (by omega)).mono ?_
  rintro e w' ⟨rfl, rfl⟩
  have c1 := HC1.out 2 (by have := (List.getElem?_eq_some_iff.1 HY.out).1; omega)
  rw [show ws[2]'(List.getElem?_eq_some_iff.1 HY.out).1 = y from (List.getElem?_eq_some_iff.1 HY.out).2] at c1
  unfold str at c1
  have l0 : 2 < ws.length := (List.getElem?_eq_some_iff.1 HY.out).1
  have l1 : (2 : Int) < (ws.length : Int) := by omega
  have HE := Lib.hid (show dirAt ws 2 = dirN y by unfold dirAt; rw [if_pos l0]; simp [List.getD, HY.out])
  have hb2 : b < w2.heap.size := Nat.lt_of_lt_of_le HB.out hbz
  have c1 := fun o : Obj => (World.cell?_alloc_lt (w := w2) (a := ⟨b, off + 2, none⟩) (o := o) hb2).trans c1
  clear l0 hb2
  go_wp2_with fail
  refine (refdir_any y _).mono ?_
  rintro e w' ⟨rfl, rfl⟩
  have HD := Lib.hid (show ws.getD 0 [] = x by simp [List.getD, HX.out])
  have HC := Lib.hid (show ⟨2, dirN y, 0, 0, atN ws 1, [], 0, [], 0⟩ = guess ws by unfold guess; rw [HD.out, HK.out]; simp [guessK, zeroC, HE.out])
  have G := Lib.hid (GetG.alloc (c := ⟨2, dirN y, 0, 0, atN ws 1, [], 0, [], 0⟩) P2.out rfl rfl (cs := #[.int .i64 2, .int .i64 (dirN y), .int .i64 0, .int .i64 0, .int .i64 (atN ws 1), .slice none 0 0, .int .i64 0, .slice none 0 0, .int .i64 0]) rfl)
  have HV := Lib.hid (HV2.out.below ((Below.refl _ _).alloc (Nat.le_refl _) (.cells #[.int .i64 2, .int .i64 (dirN y), .int .i64 0, .int .i64 0, .int .i64 (atN ws 1), .slice none 0 0, .int .i64 0, .slice none 0 0, .int .i64 0] 24)))
  clear HV2 P2
  go_wp2_with fail
  refine (refmay_any ⟨2, dirN y, 0, 0, atN ws 1, [], 0, [], 0⟩ none none 0 0 _ G.out.2.2.gi G.out.2.2.wi).mono ?_
  rintro e w3 ⟨rfl, b3⟩
  have G3 := Lib.hid (G.out.below b3)
  have HV3 := Lib.hid (HV.out.below b3)
  clear b3
  have hcc := G3.out.2.2.blk.cell
  have hres := G3.out.1.2.2.cell
  have hfr := G3.out.1.2.2.frozen
  unfold zeroCells at hres
  cases hm : refMayB ⟨2, dirN y, 0, 0, atN ws 1, [], 0, [], 0⟩
  · have HM := Lib.hid ((may_eq _).trans hm)
    clear hm
    go_wp2_with fail
    generalize hW : ((((((((w3.setCell ⟨w.heap.size, 0, none⟩ _).setCell ⟨w.heap.size, 1, none⟩ _).setCell ⟨w.heap.size, 2, none⟩ _).setCell ⟨w.heap.size, 3, none⟩ _).setCell ⟨w.heap.size, 4, none⟩ _).setCell ⟨w.heap.size, 5, none⟩ _).setCell ⟨w.heap.size, 6, none⟩ _).setCell ⟨w.heap.size, 7, none⟩ _).setCell ⟨w.heap.size, 8, none⟩ _ = W'
    obtain ⟨k1, k2⟩ := fin9 G3.out.1.2.2 _ _ _ _ _ _ _ _ _ hW.symm
    have hc := k1.cell
    refine bodyPost_ret (v := .tuple #[.agg #[.int .i64 0, .int .i64 0, .int .i64 0, .int .i64 0, .int .i64 0, .slice none 0 0, .int .i64 0, .slice none 0 0, .int .i64 0], .int .i64 2]) (by simp [results, Tryd.results14, go_sem, hc]) rfl ?_
    exact gets_no G3.out.1 ⟨k1, k2⟩ (by unfold refB; rw [← HC.out, HM.out]; rfl)
  · have HM := Lib.hid ((may_eq _).trans hm)
    clear hm
    go_wp2_with fail
    refine (refwords_any ⟨2, dirN y, 0, 0, atN ws 1, [], 0, [], 0⟩ none none 0 0 _ HM.out G3.out.2.2.gi G3.out.2.2.wi).mono ?_
    rintro e w4 ⟨u, rfl, hu, b4⟩
    have G4 := Lib.hid (G3.out.below b4)
    have HV4 := Lib.hid (HV3.out.below b4)
    have HU := Lib.hid hu
    clear b4 hu hcc hres hfr
    go_wp2_with fail
    refine (strsame_any _ HU.out HV4.out).mono ?_
    rintro e w5 ⟨rfl, b5⟩
    have G5 := Lib.hid (G4.out.below b5)
    clear b5
    have hcc := G5.out.2.2.blk.cell
    have hres := G5.out.1.2.2.cell
    have hfr := G5.out.1.2.2.frozen
    unfold zeroCells at hres
    by_cases he : wordsOf ⟨2, dirN y, 0, 0, atN ws 1, [], 0, [], 0⟩ = ws
    · have HE := Lib.hid he
      rw [decide_eq_true he]
      clear he
      go_wp2_with fail
      generalize hW : ((((((((w5.setCell ⟨w.heap.size, 0, none⟩ _).setCell ⟨w.heap.size, 1, none⟩ _).setCell ⟨w.heap.size, 2, none⟩ _).setCell ⟨w.heap.size, 3, none⟩ _).setCell ⟨w.heap.size, 4, none⟩ _).setCell ⟨w.heap.size, 5, none⟩ _).setCell ⟨w.heap.size, 6, none⟩ _).setCell ⟨w.heap.size, 7, none⟩ _).setCell ⟨w.heap.size, 8, none⟩ _ = W'
      obtain ⟨k1, k2⟩ := fin9 G5.out.1.2.2 _ _ _ _ _ _ _ _ _ hW.symm
      have hc := k1.cell
      refine bodyPost_ret (v := .tuple #[.agg #[.int .i64 2, .int .i64 (dirN y), .int .i64 0, .int .i64 0, .int .i64 (atN ws 1), .slice none 0 0, .int .i64 0, .slice none 0 0, .int .i64 0], .int .i64 0]) (by simp [results, Tryd.results14, go_sem, hc]) rfl ?_
      exact gets_yes G5.out HC.out k2 (by unfold refB; rw [← HC.out, HM.out, HE.out]; simp)
    · have HE := Lib.hid he
      rw [decide_eq_false he]
      clear he
      go_wp2_with fail
      generalize hW : ((((((((w5.setCell ⟨w.heap.size, 0, none⟩ _).setCell ⟨w.heap.size, 1, none⟩ _).setCell ⟨w.heap.size, 2, none⟩ _).setCell ⟨w.heap.size, 3, none⟩ _).setCell ⟨w.heap.size, 4, none⟩ _).setCell ⟨w.heap.size, 5, none⟩ _).setCell ⟨w.heap.size, 6, none⟩ _).setCell ⟨w.heap.size, 7, none⟩ _).setCell ⟨w.heap.size, 8, none⟩ _ = W'
      obtain ⟨k1, k2⟩ := fin9 G5.out.1.2.2 _ _ _ _ _ _ _ _ _ hW.symm
      have hc := k1.cell
      refine bodyPost_ret (v := .tuple #[.agg #[.int .i64 0, .int .i64 0, .int .i64 0, .int .i64 0, .int .i64 0, .slice none 0 0, .int .i64 0, .slice none 0 0, .int .i64 0], .int .i64 2]) (by simp [results, Tryd.results14, go_sem, hc]) rfl ?_
      exact gets_no G5.out.1 ⟨k1, k2⟩ (by unfold refB; rw [← HC.out, decide_eq_false HE.out]; simp)
set_option maxRecDepth 100000 in
set_option maxHeartbeats 4000000 in
theorem refget_2b (s : ByteArray) (w : World) (hs : s.size ≤ 500000) (x : List UInt8) (hx : (words s.data.toList)[0]? = some x) (hy : (words s.data.toList).length ≤ 2) (hk : kindN x = 2) : Calls Tryd.prog 14 #[.string s] w (Gets w (words s.data.toList)) := by
  have HS := Lib.hid hs
  have HW := Lib.hid (words_fine hs)
  have HX := Lib.hid hx
  have HK := Lib.hid hk
  clear hs hx hk
  have HY := Lib.hid hy
  clear hy
  have P0 := Lib.hid (GetW.start w)
  unfold zeroCells at P0
  go_enter Tryd.func14, Tryd.ntmps14
  go_wp2_with fail
  refine (refcut_any s _ (by have := HS.out; omega)).mono ?_
  rintro e w1 ⟨v, rfl, hv, b1⟩
  have P1 := Lib.hid (P0.out.below b1)
  clear P0 b1
  generalize words s.data.toList = ws at *
  obtain ⟨a, cap, rfl, hl, hcs⟩ := hv
  have hn : 0 < ws.length := (List.getElem?_eq_some_iff.1 HX.out).1
  obtain ⟨b, off, rfl, hb, hcs⟩ : ∃ b off, a = some ⟨b, off, none⟩ ∧ b < w1.heap.size ∧ ∀ i (hi : i < ws.length), w1.cell? ⟨b, off + i, none⟩ = some (str ws[i]) := by
    rcases hcs with h | h
    · rw [h] at hn; simp at hn
    · exact h
  have HV := Lib.hid (show Strs w1 (.slice (some ⟨b, off, none⟩) ws.length cap) ws from ⟨_, _, rfl, hl, .inr ⟨b, off, rfl, hb, hcs⟩⟩)
  have c0 := hcs 0 hn
  rw [Nat.add_zero, show ws[0] = x from (List.getElem?_eq_some_iff.1 HX.out).2] at c0
  unfold str at c0
  have hn0 : ((ws.length : Int) == 0) = false := by rw [beq_eq_false_iff_ne]; omega
  unfold maxLen at hl
  have HL := Lib.hid HW.out.2
  have HB := Lib.hid hb
  have HCS := Lib.hid hcs
  clear hb hcs
  go_wp2_with fail
  refine (refkind_any x _).mono ?_
  rintro e w2 ⟨rfl, b2⟩
  rw [HK.out]
  have c1 := fun i hi => (b2.cell (p := ⟨b, off + i, none⟩) HB.out).trans (HCS.out i hi)
  have P2 := Lib.hid (P1.out.below b2)
  have hbz := b2.size
  have HV2 := Lib.hid (HV.out.below b2)
  have HC1 := Lib.hid c1
  clear b2 c0 hn0 P1 HV c1 HCS
  go_wp2_with fail
  refine (at_any 1 _ (HV2.out.below ((Below.refl _ _).alloc (Nat.le_refl _) _)) HW.out.1 HW.out.2 (by omega) (by omega)).mono ?_
  rintro e w' ⟨rfl, rfl⟩
  have l0 : ¬ 2 < ws.length := by have := HY.out; omega
  have l1 : ¬ (2 : Int) < (ws.length : Int) := by omega
  have HE := Lib.hid (show dirAt ws 2 = 0 by unfold dirAt; rw [if_neg l0])
  clear l0
  have HD := Lib.hid (show ws.getD 0 [] = x by simp [List.getD, HX.out])
  have HC := Lib.hid (show ⟨2, 0, 0, 0, atN ws 1, [], 0, [], 0⟩ = guess ws by unfold guess; rw [HD.out, HK.out]; simp [guessK, zeroC, HE.out])
  have G := Lib.hid (GetG.alloc (c := ⟨2, 0, 0, 0, atN ws 1, [], 0, [], 0⟩) P2.out rfl rfl (cs := #[.int .i64 2, .int .i64 0, .int .i64 0, .int .i64 0, .int .i64 (atN ws 1), .slice none 0 0, .int .i64 0, .slice none 0 0, .int .i64 0]) rfl)
  have HV := Lib.hid (HV2.out.below ((Below.refl _ _).alloc (Nat.le_refl _) (.cells #[.int .i64 2, .int .i64 0, .int .i64 0, .int .i64 0, .int .i64 (atN ws 1), .slice none 0 0, .int .i64 0, .slice none 0 0, .int .i64 0] 24)))
  clear HV2 P2
  go_wp2_with fail
  refine (refmay_any ⟨2, 0, 0, 0, atN ws 1, [], 0, [], 0⟩ none none 0 0 _ G.out.2.2.gi G.out.2.2.wi).mono ?_
  rintro e w3 ⟨rfl, b3⟩
  have G3 := Lib.hid (G.out.below b3)
  have HV3 := Lib.hid (HV.out.below b3)
  clear b3
  have hcc := G3.out.2.2.blk.cell
  have hres := G3.out.1.2.2.cell
  have hfr := G3.out.1.2.2.frozen
  unfold zeroCells at hres
  cases hm : refMayB ⟨2, 0, 0, 0, atN ws 1, [], 0, [], 0⟩
  · have HM := Lib.hid ((may_eq _).trans hm)
    clear hm
    go_wp2_with fail
    generalize hW : ((((((((w3.setCell ⟨w.heap.size, 0, none⟩ _).setCell ⟨w.heap.size, 1, none⟩ _).setCell ⟨w.heap.size, 2, none⟩ _).setCell ⟨w.heap.size, 3, none⟩ _).setCell ⟨w.heap.size, 4, none⟩ _).setCell ⟨w.heap.size, 5, none⟩ _).setCell ⟨w.heap.size, 6, none⟩ _).setCell ⟨w.heap.size, 7, none⟩ _).setCell ⟨w.heap.size, 8, none⟩ _ = W'
    obtain ⟨k1, k2⟩ := fin9 G3.out.1.2.2 _ _ _ _ _ _ _ _ _ hW.symm
    have hc := k1.cell
    refine bodyPost_ret (v := .tuple #[.agg #[.int .i64 0, .int .i64 0, .int .i64 0, .int .i64 0, .int .i64 0, .slice none 0 0, .int .i64 0, .slice none 0 0, .int .i64 0], .int .i64 2]) (by simp [results, Tryd.results14, go_sem, hc]) rfl ?_
    exact gets_no G3.out.1 ⟨k1, k2⟩ (by unfold refB; rw [← HC.out, HM.out]; rfl)
  · have HM := Lib.hid ((may_eq _).trans hm)
    clear hm
    go_wp2_with fail
    refine (refwords_any ⟨2, 0, 0, 0, atN ws 1, [], 0, [], 0⟩ none none 0 0 _ HM.out G3.out.2.2.gi G3.out.2.2.wi).mono ?_
    rintro e w4 ⟨u, rfl, hu, b4⟩
    have G4 := Lib.hid (G3.out.below b4)
    have HV4 := Lib.hid (HV3.out.below b4)
    have HU := Lib.hid hu
    clear b4 hu hcc hres hfr
    go_wp2_with fail
    refine (strsame_any _ HU.out HV4.out).mono ?_
    rintro e w5 ⟨rfl, b5⟩
    have G5 := Lib.hid (G4.out.below b5)
    clear b5
    have hcc := G5.out.2.2.blk.cell
    have hres := G5.out.1.2.2.cell
    have hfr := G5.out.1.2.2.frozen
    unfold zeroCells at hres
    by_cases he : wordsOf ⟨2, 0, 0, 0, atN ws 1, [], 0, [], 0⟩ = ws
    · have HE := Lib.hid he
      rw [decide_eq_true he]
      clear he
      go_wp2_with fail
      generalize hW : ((((((((w5.setCell ⟨w.heap.size, 0, none⟩ _).setCell ⟨w.heap.size, 1, none⟩ _).setCell ⟨w.heap.size, 2, none⟩ _).setCell ⟨w.heap.size, 3, none⟩ _).setCell ⟨w.heap.size, 4, none⟩ _).setCell ⟨w.heap.size, 5, none⟩ _).setCell ⟨w.heap.size, 6, none⟩ _).setCell ⟨w.heap.size, 7, none⟩ _).setCell ⟨w.heap.size, 8, none⟩ _ = W'
      obtain ⟨k1, k2⟩ := fin9 G5.out.1.2.2 _ _ _ _ _ _ _ _ _ hW.symm
      have hc := k1.cell
      refine bodyPost_ret (v := .tuple #[.agg #[.int .i64 2, .int .i64 0, .int .i64 0, .int .i64 0, .int .i64 (atN ws 1), .slice none 0 0, .int .i64 0, .slice none 0 0, .int .i64 0], .int .i64 0]) (by simp [results, Tryd.results14, go_sem, hc]) rfl ?_
      exact gets_yes G5.out HC.out k2 (by unfold refB; rw [← HC.out, HM.out, HE.out]; simp)
    · have HE := Lib.hid he
      rw [decide_eq_false he]
      clear he
      go_wp2_with fail
      generalize hW : ((((((((w5.setCell ⟨w.heap.size, 0, none⟩ _).setCell ⟨w.heap.size, 1, none⟩ _).setCell ⟨w.heap.size, 2, none⟩ _).setCell ⟨w.heap.size, 3, none⟩ _).setCell ⟨w.heap.size, 4, none⟩ _).setCell ⟨w.heap.size, 5, none⟩ _).setCell ⟨w.heap.size, 6, none⟩ _).setCell ⟨w.heap.size, 7, none⟩ _).setCell ⟨w.heap.size, 8, none⟩ _ = W'
      obtain ⟨k1, k2⟩ := fin9 G5.out.1.2.2 _ _ _ _ _ _ _ _ _ hW.symm
      have hc := k1.cell
      refine bodyPost_ret (v := .tuple #[.agg #[.int .i64 0, .int .i64 0, .int .i64 0, .int .i64 0, .int .i64 0, .slice none 0 0, .int .i64 0, .slice none 0 0, .int .i64 0], .int .i64 2]) (by simp [results, Tryd.results14, go_sem, hc]) rfl ?_
      exact gets_no G5.out.1 ⟨k1, k2⟩ (by unfold refB; rw [← HC.out, decide_eq_false HE.out]; simp)
set_option maxRecDepth 100000 in
set_option maxHeartbeats 4000000 in
theorem refget_3 (s : ByteArray) (w : World) (hs : s.size ≤ 500000) (x : List UInt8) (hx : (words s.data.toList)[0]? = some x) (hk : kindN x = 3) : Calls Tryd.prog 14 #[.string s] w (Gets w (words s.data.toList)) := by
  have HS := Lib.hid hs
  have HW := Lib.hid (words_fine hs)
  have HX := Lib.hid hx
  have HK := Lib.hid hk
  clear hs hx hk
  have P0 := Lib.hid (GetW.start w)
  unfold zeroCells at P0
  go_enter Tryd.func14, Tryd.ntmps14
  go_wp2_with fail
  refine (refcut_any s _ (by have := HS.out; omega)).mono ?_
  rintro e w1 ⟨v, rfl, hv, b1⟩
  have P1 := Lib.hid (P0.out.below b1)
  clear P0 b1
  generalize words s.data.toList = ws at *
  obtain ⟨a, cap, rfl, hl, hcs⟩ := hv
  have hn : 0 < ws.length := (List.getElem?_eq_some_iff.1 HX.out).1
  obtain ⟨b, off, rfl, hb, hcs⟩ : ∃ b off, a = some ⟨b, off, none⟩ ∧ b < w1.heap.size ∧ ∀ i (hi : i < ws.length), w1.cell? ⟨b, off + i, none⟩ = some (str ws[i]) := by
    rcases hcs with h | h
    · rw [h] at hn; simp at hn
    · exact h
  have HV := Lib.hid (show Strs w1 (.slice (some ⟨b, off, none⟩) ws.length cap) ws from ⟨_, _, rfl, hl, .inr ⟨b, off, rfl, hb, hcs⟩⟩)
  have c0 := hcs 0 hn
  rw [Nat.add_zero, show ws[0] = x from (List.getElem?_eq_some_iff.1 HX.out).2] at c0
  unfold str at c0
  have hn0 : ((ws.length : Int) == 0) = false := by rw [beq_eq_false_iff_ne]; omega
  unfold maxLen at hl
  have HL := Lib.hid HW.out.2
  have HB := Lib.hid hb
  have HCS := Lib.hid hcs
  clear hb hcs
  go_wp2_with fail
  refine (refkind_any x _).mono ?_
  rintro e w2 ⟨rfl, b2⟩
  rw [HK.out]
  have c1 := fun i hi => (b2.cell (p := ⟨b, off + i, none⟩) HB.out).trans (HCS.out i hi)
  have P2 := Lib.hid (P1.out.below b2)
  have hbz := b2.size
  have HV2 := Lib.hid (HV.out.below b2)
  have HC1 := Lib.hid c1
  clear b2 c0 hn0 P1 HV c1 HCS
  go_wp2_with fail
  refine (at_any 1 _ (HV2.out.below ((Below.refl _ _).alloc (Nat.le_refl _) _)) HW.out.1 HW.out.2 (by omega) (by omega)).mono ?_
  rintro e w' ⟨rfl, rfl⟩
  have HD := Lib.hid (show ws.getD 0 [] = x by simp [List.getD, HX.out])
  have HC := Lib.hid (show ⟨3, 0, atN ws 1, 0, 0, [], 0, [], 0⟩ = guess ws by unfold guess; rw [HD.out, HK.out]; simp [guessK, zeroC])
  have G := Lib.hid (GetG.alloc (c := ⟨3, 0, atN ws 1, 0, 0, [], 0, [], 0⟩) P2.out rfl rfl (cs := #[.int .i64 3, .int .i64 0, .int .i64 (atN ws 1), .int .i64 0, .int .i64 0, .slice none 0 0, .int .i64 0, .slice none 0 0, .int .i64 0]) rfl)
  have HV := Lib.hid (HV2.out.below ((Below.refl _ _).alloc (Nat.le_refl _) (.cells #[.int .i64 3, .int .i64 0, .int .i64 (atN ws 1), .int .i64 0, .int .i64 0, .slice none 0 0, .int .i64 0, .slice none 0 0, .int .i64 0] 24)))
  clear HV2 P2
  go_wp2_with fail
  refine (refmay_any ⟨3, 0, atN ws 1, 0, 0, [], 0, [], 0⟩ none none 0 0 _ G.out.2.2.gi G.out.2.2.wi).mono ?_
  rintro e w3 ⟨rfl, b3⟩
  have G3 := Lib.hid (G.out.below b3)
  have HV3 := Lib.hid (HV.out.below b3)
  clear b3
  have hcc := G3.out.2.2.blk.cell
  have hres := G3.out.1.2.2.cell
  have hfr := G3.out.1.2.2.frozen
  unfold zeroCells at hres
  cases hm : refMayB ⟨3, 0, atN ws 1, 0, 0, [], 0, [], 0⟩
  · have HM := Lib.hid ((may_eq _).trans hm)
    clear hm
    go_wp2_with fail
    generalize hW : ((((((((w3.setCell ⟨w.heap.size, 0, none⟩ _).setCell ⟨w.heap.size, 1, none⟩ _).setCell ⟨w.heap.size, 2, none⟩ _).setCell ⟨w.heap.size, 3, none⟩ _).setCell ⟨w.heap.size, 4, none⟩ _).setCell ⟨w.heap.size, 5, none⟩ _).setCell ⟨w.heap.size, 6, none⟩ _).setCell ⟨w.heap.size, 7, none⟩ _).setCell ⟨w.heap.size, 8, none⟩ _ = W'
    obtain ⟨k1, k2⟩ := fin9 G3.out.1.2.2 _ _ _ _ _ _ _ _ _ hW.symm
    have hc := k1.cell
    refine bodyPost_ret (v := .tuple #[.agg #[.int .i64 0, .int .i64 0, .int .i64 0, .int .i64 0, .int .i64 0, .slice none 0 0, .int .i64 0, .slice none 0 0, .int .i64 0], .int .i64 2]) (by simp [results, Tryd.results14, go_sem, hc]) rfl ?_
    exact gets_no G3.out.1 ⟨k1, k2⟩ (by unfold refB; rw [← HC.out, HM.out]; rfl)
  · have HM := Lib.hid ((may_eq _).trans hm)
    clear hm
    go_wp2_with fail
    refine (refwords_any ⟨3, 0, atN ws 1, 0, 0, [], 0, [], 0⟩ none none 0 0 _ HM.out G3.out.2.2.gi G3.out.2.2.wi).mono ?_
    rintro e w4 ⟨u, rfl, hu, b4⟩
    have G4 := Lib.hid (G3.out.below b4)
    have HV4 := Lib.hid (HV3.out.below b4)
    have HU := Lib.hid hu
    clear b4 hu hcc hres hfr
    go_wp2_with fail
    refine (strsame_any _ HU.out HV4.out).mono ?_
    rintro e w5 ⟨rfl, b5⟩
    have G5 := Lib.hid (G4.out.below b5)
    clear b5
    have hcc := G5.out.2.2.blk.cell
    have hres := G5.out.1.2.2.cell
    have hfr := G5.out.1.2.2.frozen
    unfold zeroCells at hres
    by_cases he : wordsOf ⟨3, 0, atN ws 1, 0, 0, [], 0, [], 0⟩ = ws
    · have HE := Lib.hid he
      rw [decide_eq_true he]
      clear he
      go_wp2_with fail
      generalize hW : ((((((((w5.setCell ⟨w.heap.size, 0, none⟩ _).setCell ⟨w.heap.size, 1, none⟩ _).setCell ⟨w.heap.size, 2, none⟩ _).setCell ⟨w.heap.size, 3, none⟩ _).setCell ⟨w.heap.size, 4, none⟩ _).setCell ⟨w.heap.size, 5, none⟩ _).setCell ⟨w.heap.size, 6, none⟩ _).setCell ⟨w.heap.size, 7, none⟩ _).setCell ⟨w.heap.size, 8, none⟩ _ = W'
      obtain ⟨k1, k2⟩ := fin9 G5.out.1.2.2 _ _ _ _ _ _ _ _ _ hW.symm
      have hc := k1.cell
      refine bodyPost_ret (v := .tuple #[.agg #[.int .i64 3, .int .i64 0, .int .i64 (atN ws 1), .int .i64 0, .int .i64 0, .slice none 0 0, .int .i64 0, .slice none 0 0, .int .i64 0], .int .i64 0]) (by simp [results, Tryd.results14, go_sem, hc]) rfl ?_
      exact gets_yes G5.out HC.out k2 (by unfold refB; rw [← HC.out, HM.out, HE.out]; simp)
    · have HE := Lib.hid he
      rw [decide_eq_false he]
      clear he
      go_wp2_with fail
      generalize hW : ((((((((w5.setCell ⟨w.heap.size, 0, none⟩ _).setCell ⟨w.heap.size, 1, none⟩ _).setCell ⟨w.heap.size, 2, none⟩ _).setCell ⟨w.heap.size, 3, none⟩ _).setCell ⟨w.heap.size, 4, none⟩ _).setCell ⟨w.heap.size, 5, none⟩ _).setCell ⟨w.heap.size, 6, none⟩ _).setCell ⟨w.heap.size, 7, none⟩ _).setCell ⟨w.heap.size, 8, none⟩ _ = W'
      obtain ⟨k1, k2⟩ := fin9 G5.out.1.2.2 _ _ _ _ _ _ _ _ _ hW.symm
      have hc := k1.cell
      refine bodyPost_ret (v := .tuple #[.agg #[.int .i64 0, .int .i64 0, .int .i64 0, .int .i64 0, .int .i64 0, .slice none 0 0, .int .i64 0, .slice none 0 0, .int .i64 0], .int .i64 2]) (by simp [results, Tryd.results14, go_sem, hc]) rfl ?_
      exact gets_no G5.out.1 ⟨k1, k2⟩ (by unfold refB; rw [← HC.out, decide_eq_false HE.out]; simp)
end Go.Proofs.YtinjpkbpdhihjaaDoor
/- line: the document's own Get, of kinds 1 to 7. -/
namespace Go.Proofs.YtinjpkbpdhihjaaDoor
open Go.ChangeShapes Go.WideShapes Go.ChangeAt Go.RowKit
set_option linter.unusedVariables false
open Go.RowKit Go
set_option maxRecDepth 100000 in
set_option maxHeartbeats 4000000 in
theorem refget_4 (s : ByteArray) (w : World) (hs : s.size ≤ 500000) (x : List UInt8) (hx : (words s.data.toList)[0]? = some x) (hk : kindN x = 4) : Calls Tryd.prog 14 #[.string s] w (Gets w (words s.data.toList)) := by
  have HS := Lib.hid hs
  have HW := Lib.hid (words_fine hs)
  have HX := Lib.hid hx
  have HK := Lib.hid hk
  clear hs hx hk
  have P0 := Lib.hid (GetW.start w)
  unfold zeroCells at P0
  go_enter Tryd.func14, Tryd.ntmps14
  go_wp2_with fail
  refine (refcut_any s _ (by have := HS.out; omega)).mono ?_
  rintro e w1 ⟨v, rfl, hv, b1⟩
  have P1 := Lib.hid (P0.out.below b1)
  clear P0 b1
  generalize words s.data.toList = ws at *
  obtain ⟨a, cap, rfl, hl, hcs⟩ := hv
  have hn : 0 < ws.length := (List.getElem?_eq_some_iff.1 HX.out).1
  obtain ⟨b, off, rfl, hb, hcs⟩ : ∃ b off, a = some ⟨b, off, none⟩ ∧ b < w1.heap.size ∧ ∀ i (hi : i < ws.length), w1.cell? ⟨b, off + i, none⟩ = some (str ws[i]) := by
    rcases hcs with h | h
    · rw [h] at hn; simp at hn
    · exact h
  have HV := Lib.hid (show Strs w1 (.slice (some ⟨b, off, none⟩) ws.length cap) ws from ⟨_, _, rfl, hl, .inr ⟨b, off, rfl, hb, hcs⟩⟩)
  have c0 := hcs 0 hn
  rw [Nat.add_zero, show ws[0] = x from (List.getElem?_eq_some_iff.1 HX.out).2] at c0
  unfold str at c0
  have hn0 : ((ws.length : Int) == 0) = false := by rw [beq_eq_false_iff_ne]; omega
  unfold maxLen at hl
  have HL := Lib.hid HW.out.2
  have HB := Lib.hid hb
  have HCS := Lib.hid hcs
  clear hb hcs
  go_wp2_with fail
  refine (refkind_any x _).mono ?_
  rintro e w2 ⟨rfl, b2⟩
  rw [HK.out]
  have c1 := fun i hi => (b2.cell (p := ⟨b, off + i, none⟩) HB.out).trans (HCS.out i hi)
  have P2 := Lib.hid (P1.out.below b2)
  have HV2 := Lib.hid (HV.out.below b2)
  have HC1 := Lib.hid c1
  clear b2 c0 hn0 P1 HV c1 HCS
  go_wp2_with fail
  refine (at_any 1 _ (HV2.out.below ((Below.refl _ _).alloc (Nat.le_refl _) _)) HW.out.1 HW.out.2 (by omega) (by omega)).mono ?_
  rintro e w' ⟨rfl, rfl⟩
  have HD := Lib.hid (show ws.getD 0 [] = x by simp [List.getD, HX.out])
  have HC := Lib.hid (show ⟨4, 0, atN ws 1, 0, 0, [], 0, [], 0⟩ = guess ws by unfold guess; rw [HD.out, HK.out]; simp [guessK, zeroC])
  have G := Lib.hid (GetG.alloc (c := ⟨4, 0, atN ws 1, 0, 0, [], 0, [], 0⟩) P2.out rfl rfl (cs := #[.int .i64 4, .int .i64 0, .int .i64 (atN ws 1), .int .i64 0, .int .i64 0, .slice none 0 0, .int .i64 0, .slice none 0 0, .int .i64 0]) rfl)
  have HV := Lib.hid (HV2.out.below ((Below.refl _ _).alloc (Nat.le_refl _) (.cells #[.int .i64 4, .int .i64 0, .int .i64 (atN ws 1), .int .i64 0, .int .i64 0, .slice none 0 0, .int .i64 0, .slice none 0 0, .int .i64 0] 24)))
  clear HV2 P2
  go_wp2_with fail
  refine (refmay_any ⟨4, 0, atN ws 1, 0, 0, [], 0, [], 0⟩ none none 0 0 _ G.out.2.2.gi G.out.2.2.wi).mono ?_
  rintro e w3 ⟨rfl, b3⟩
  have G3 := Lib.hid (G.out.below b3)
  have HV3 := Lib.hid (HV.out.below b3)
  clear b3
  have hcc := G3.out.2.2.blk.cell
  have hres := G3.out.1.2.2.cell
  have hfr := G3.out.1.2.2.frozen
  unfold zeroCells at hres
  cases hm : refMayB ⟨4, 0, atN ws 1, 0, 0, [], 0, [], 0⟩
  · have HM := Lib.hid ((may_eq _).trans hm)
    clear hm
    go_wp2_with fail
    generalize hW : ((((((((w3.setCell ⟨w.heap.size, 0, none⟩ _).setCell ⟨w.heap.size, 1, none⟩ _).setCell ⟨w.heap.size, 2, none⟩ _).setCell ⟨w.heap.size, 3, none⟩ _).setCell ⟨w.heap.size, 4, none⟩ _).setCell ⟨w.heap.size, 5, none⟩ _).setCell ⟨w.heap.size, 6, none⟩ _).setCell ⟨w.heap.size, 7, none⟩ _).setCell ⟨w.heap.size, 8, none⟩ _ = W'
    obtain ⟨k1, k2⟩ := fin9 G3.out.1.2.2 _ _ _ _ _ _ _ _ _ hW.symm
    have hc := k1.cell
    refine bodyPost_ret (v := .tuple #[.agg #[.int .i64 0, .int .i64 0, .int .i64 0, .int .i64 0, .int .i64 0, .slice none 0 0, .int .i64 0, .slice none 0 0, .int .i64 0], .int .i64 2]) (by simp [results, Tryd.results14, go_sem, hc]) rfl ?_
    exact gets_no G3.out.1 ⟨k1, k2⟩ (by unfold refB; rw [← HC.out, HM.out]; rfl)
  · have HM := Lib.hid ((may_eq _).trans hm)
    clear hm
    go_wp2_with fail
    refine (refwords_any ⟨4, 0, atN ws 1, 0, 0, [], 0, [], 0⟩ none none 0 0 _ HM.out G3.out.2.2.gi G3.out.2.2.wi).mono ?_
    rintro e w4 ⟨u, rfl, hu, b4⟩
    have G4 := Lib.hid (G3.out.below b4)
    have HV4 := Lib.hid (HV3.out.below b4)
    have HU := Lib.hid hu
    clear b4 hu hcc hres hfr
    go_wp2_with fail
    refine (strsame_any _ HU.out HV4.out).mono ?_
    rintro e w5 ⟨rfl, b5⟩
    have G5 := Lib.hid (G4.out.below b5)
    clear b5
    have hcc := G5.out.2.2.blk.cell
    have hres := G5.out.1.2.2.cell
    have hfr := G5.out.1.2.2.frozen
    unfold zeroCells at hres
    by_cases he : wordsOf ⟨4, 0, atN ws 1, 0, 0, [], 0, [], 0⟩ = ws
    · have HE := Lib.hid he
      rw [decide_eq_true he]
      clear he
      go_wp2_with fail
      generalize hW : ((((((((w5.setCell ⟨w.heap.size, 0, none⟩ _).setCell ⟨w.heap.size, 1, none⟩ _).setCell ⟨w.heap.size, 2, none⟩ _).setCell ⟨w.heap.size, 3, none⟩ _).setCell ⟨w.heap.size, 4, none⟩ _).setCell ⟨w.heap.size, 5, none⟩ _).setCell ⟨w.heap.size, 6, none⟩ _).setCell ⟨w.heap.size, 7, none⟩ _).setCell ⟨w.heap.size, 8, none⟩ _ = W'
      obtain ⟨k1, k2⟩ := fin9 G5.out.1.2.2 _ _ _ _ _ _ _ _ _ hW.symm
      have hc := k1.cell
      refine bodyPost_ret (v := .tuple #[.agg #[.int .i64 4, .int .i64 0, .int .i64 (atN ws 1), .int .i64 0, .int .i64 0, .slice none 0 0, .int .i64 0, .slice none 0 0, .int .i64 0], .int .i64 0]) (by simp [results, Tryd.results14, go_sem, hc]) rfl ?_
      exact gets_yes G5.out HC.out k2 (by unfold refB; rw [← HC.out, HM.out, HE.out]; simp)
    · have HE := Lib.hid he
      rw [decide_eq_false he]
      clear he
      go_wp2_with fail
      generalize hW : ((((((((w5.setCell ⟨w.heap.size, 0, none⟩ _).setCell ⟨w.heap.size, 1, none⟩ _).setCell ⟨w.heap.size, 2, none⟩ _).setCell ⟨w.heap.size, 3, none⟩ _).setCell ⟨w.heap.size, 4, none⟩ _).setCell ⟨w.heap.size, 5, none⟩ _).setCell ⟨w.heap.size, 6, none⟩ _).setCell ⟨w.heap.size, 7, none⟩ _).setCell ⟨w.heap.size, 8, none⟩ _ = W'
      obtain ⟨k1, k2⟩ := fin9 G5.out.1.2.2 _ _ _ _ _ _ _ _ _ hW.symm
      have hc := k1.cell
      refine bodyPost_ret (v := .tuple #[.agg #[.int .i64 0, .int .i64 0, .int .i64 0, .int .i64 0, .int .i64 0, .slice none 0 0, .int .i64 0, .slice none 0 0, .int .i64 0], .int .i64 2]) (by simp [results, Tryd.results14, go_sem, hc]) rfl ?_
      exact gets_no G5.out.1 ⟨k1, k2⟩ (by unfold refB; rw [← HC.out, decide_eq_false HE.out]; simp)
set_option maxRecDepth 100000 in
set_option maxHeartbeats 4000000 in
theorem refget_5 (s : ByteArray) (w : World) (hs : s.size ≤ 500000) (x : List UInt8) (hx : (words s.data.toList)[0]? = some x) (hk : kindN x = 5) : Calls Tryd.prog 14 #[.string s] w (Gets w (words s.data.toList)) := by
  have HS := Lib.hid hs
  have HW := Lib.hid (words_fine hs)
  have HX := Lib.hid hx
  have HK := Lib.hid hk
  clear hs hx hk
  have P0 := Lib.hid (GetW.start w)
  unfold zeroCells at P0
  go_enter Tryd.func14, Tryd.ntmps14
  go_wp2_with fail
  refine (refcut_any s _ (by have := HS.out; omega)).mono ?_
  rintro e w1 ⟨v, rfl, hv, b1⟩
  have P1 := Lib.hid (P0.out.below b1)
  clear P0 b1
  generalize words s.data.toList = ws at *
  obtain ⟨a, cap, rfl, hl, hcs⟩ := hv
  have hn : 0 < ws.length := (List.getElem?_eq_some_iff.1 HX.out).1
  obtain ⟨b, off, rfl, hb, hcs⟩ : ∃ b off, a = some ⟨b, off, none⟩ ∧ b < w1.heap.size ∧ ∀ i (hi : i < ws.length), w1.cell? ⟨b, off + i, none⟩ = some (str ws[i]) := by
    rcases hcs with h | h
    · rw [h] at hn; simp at hn
    · exact h
  have HV := Lib.hid (show Strs w1 (.slice (some ⟨b, off, none⟩) ws.length cap) ws from ⟨_, _, rfl, hl, .inr ⟨b, off, rfl, hb, hcs⟩⟩)
  have c0 := hcs 0 hn
  rw [Nat.add_zero, show ws[0] = x from (List.getElem?_eq_some_iff.1 HX.out).2] at c0
  unfold str at c0
  have hn0 : ((ws.length : Int) == 0) = false := by rw [beq_eq_false_iff_ne]; omega
  unfold maxLen at hl
  have HL := Lib.hid HW.out.2
  have HB := Lib.hid hb
  have HCS := Lib.hid hcs
  clear hb hcs
  go_wp2_with fail
  refine (refkind_any x _).mono ?_
  rintro e w2 ⟨rfl, b2⟩
  rw [HK.out]
  have c1 := fun i hi => (b2.cell (p := ⟨b, off + i, none⟩) HB.out).trans (HCS.out i hi)
  have P2 := Lib.hid (P1.out.below b2)
  have HV2 := Lib.hid (HV.out.below b2)
  have HC1 := Lib.hid c1
  clear b2 c0 hn0 P1 HV c1 HCS
  go_wp2_with fail
  refine (at_any 1 _ (HV2.out.below ((Below.refl _ _).alloc (Nat.le_refl _) _)) HW.out.1 HW.out.2 (by omega) (by omega)).mono ?_
  rintro e w' ⟨rfl, rfl⟩
  go_wp2_with fail
  refine (at_any 3 _ (HV2.out.below ((Below.refl _ _).alloc (Nat.le_refl _) _)) HW.out.1 HW.out.2 (by omega) (by omega)).mono ?_
  rintro e w' ⟨rfl, rfl⟩
  have HD := Lib.hid (show ws.getD 0 [] = x by simp [List.getD, HX.out])
  have HC := Lib.hid (show ⟨5, 0, atN ws 1, atN ws 3, 0, [], 0, [], 0⟩ = guess ws by unfold guess; rw [HD.out, HK.out]; simp [guessK, zeroC])
  have G := Lib.hid (GetG.alloc (c := ⟨5, 0, atN ws 1, atN ws 3, 0, [], 0, [], 0⟩) P2.out rfl rfl (cs := #[.int .i64 5, .int .i64 0, .int .i64 (atN ws 1), .int .i64 (atN ws 3), .int .i64 0, .slice none 0 0, .int .i64 0, .slice none 0 0, .int .i64 0]) rfl)
  have HV := Lib.hid (HV2.out.below ((Below.refl _ _).alloc (Nat.le_refl _) (.cells #[.int .i64 5, .int .i64 0, .int .i64 (atN ws 1), .int .i64 (atN ws 3), .int .i64 0, .slice none 0 0, .int .i64 0, .slice none 0 0, .int .i64 0] 24)))
  clear HV2 P2
  go_wp2_with fail
  refine (refmay_any ⟨5, 0, atN ws 1, atN ws 3, 0, [], 0, [], 0⟩ none none 0 0 _ G.out.2.2.gi G.out.2.2.wi).mono ?_
  rintro e w3 ⟨rfl, b3⟩
  have G3 := Lib.hid (G.out.below b3)
  have HV3 := Lib.hid (HV.out.below b3)
  clear b3
  have hcc := G3.out.2.2.blk.cell
  have hres := G3.out.1.2.2.cell
  have hfr := G3.out.1.2.2.frozen
  unfold zeroCells at hres
  cases hm : refMayB ⟨5, 0, atN ws 1, atN ws 3, 0, [], 0, [], 0⟩
  · have HM := Lib.hid ((may_eq _).trans hm)
    clear hm
    go_wp2_with fail
    generalize hW : ((((((((w3.setCell ⟨w.heap.size, 0, none⟩ _).setCell ⟨w.heap.size, 1, none⟩ _).setCell ⟨w.heap.size, 2, none⟩ _).setCell ⟨w.heap.size, 3, none⟩ _).setCell ⟨w.heap.size, 4, none⟩ _).setCell ⟨w.heap.size, 5, none⟩ _).setCell ⟨w.heap.size, 6, none⟩ _).setCell ⟨w.heap.size, 7, none⟩ _).setCell ⟨w.heap.size, 8, none⟩ _ = W'
    obtain ⟨k1, k2⟩ := fin9 G3.out.1.2.2 _ _ _ _ _ _ _ _ _ hW.symm
    have hc := k1.cell
    refine bodyPost_ret (v := .tuple #[.agg #[.int .i64 0, .int .i64 0, .int .i64 0, .int .i64 0, .int .i64 0, .slice none 0 0, .int .i64 0, .slice none 0 0, .int .i64 0], .int .i64 2]) (by simp [results, Tryd.results14, go_sem, hc]) rfl ?_
    exact gets_no G3.out.1 ⟨k1, k2⟩ (by unfold refB; rw [← HC.out, HM.out]; rfl)
  · have HM := Lib.hid ((may_eq _).trans hm)
    clear hm
    go_wp2_with fail
    refine (refwords_any ⟨5, 0, atN ws 1, atN ws 3, 0, [], 0, [], 0⟩ none none 0 0 _ HM.out G3.out.2.2.gi G3.out.2.2.wi).mono ?_
    rintro e w4 ⟨u, rfl, hu, b4⟩
    have G4 := Lib.hid (G3.out.below b4)
    have HV4 := Lib.hid (HV3.out.below b4)
    have HU := Lib.hid hu
    clear b4 hu hcc hres hfr
    go_wp2_with fail
    refine (strsame_any _ HU.out HV4.out).mono ?_
    rintro e w5 ⟨rfl, b5⟩
    have G5 := Lib.hid (G4.out.below b5)
    clear b5
    have hcc := G5.out.2.2.blk.cell
    have hres := G5.out.1.2.2.cell
    have hfr := G5.out.1.2.2.frozen
    unfold zeroCells at hres
    by_cases he : wordsOf ⟨5, 0, atN ws 1, atN ws 3, 0, [], 0, [], 0⟩ = ws
    · have HE := Lib.hid he
      rw [decide_eq_true he]
      clear he
      go_wp2_with fail
      generalize hW : ((((((((w5.setCell ⟨w.heap.size, 0, none⟩ _).setCell ⟨w.heap.size, 1, none⟩ _).setCell ⟨w.heap.size, 2, none⟩ _).setCell ⟨w.heap.size, 3, none⟩ _).setCell ⟨w.heap.size, 4, none⟩ _).setCell ⟨w.heap.size, 5, none⟩ _).setCell ⟨w.heap.size, 6, none⟩ _).setCell ⟨w.heap.size, 7, none⟩ _).setCell ⟨w.heap.size, 8, none⟩ _ = W'
      obtain ⟨k1, k2⟩ := fin9 G5.out.1.2.2 _ _ _ _ _ _ _ _ _ hW.symm
      have hc := k1.cell
      refine bodyPost_ret (v := .tuple #[.agg #[.int .i64 5, .int .i64 0, .int .i64 (atN ws 1), .int .i64 (atN ws 3), .int .i64 0, .slice none 0 0, .int .i64 0, .slice none 0 0, .int .i64 0], .int .i64 0]) (by simp [results, Tryd.results14, go_sem, hc]) rfl ?_
      exact gets_yes G5.out HC.out k2 (by unfold refB; rw [← HC.out, HM.out, HE.out]; simp)
    · have HE := Lib.hid he
      rw [decide_eq_false he]
      clear he
      go_wp2_with fail
      generalize hW : ((((((((w5.setCell ⟨w.heap.size, 0, none⟩ _).setCell ⟨w.heap.size, 1, none⟩ _).setCell ⟨w.heap.size, 2, none⟩ _).setCell ⟨w.heap.size, 3, none⟩ _).setCell ⟨w.heap.size, 4, none⟩ _).setCell ⟨w.heap.size, 5, none⟩ _).setCell ⟨w.heap.size, 6, none⟩ _).setCell ⟨w.heap.size, 7, none⟩ _).setCell ⟨w.heap.size, 8, none⟩ _ = W'
      obtain ⟨k1, k2⟩ := fin9 G5.out.1.2.2 _ _ _ _ _ _ _ _ _ hW.symm
      have hc := k1.cell
      refine bodyPost_ret (v := .tuple #[.agg #[.int .i64 0, .int .i64 0, .int .i64 0, .int .i64 0, .int .i64 0, .slice none 0 0, .int .i64 0, .slice none 0 0, .int .i64 0], .int .i64 2]) (by simp [results, Tryd.results14, go_sem, hc]) rfl ?_
      exact gets_no G5.out.1 ⟨k1, k2⟩ (by unfold refB; rw [← HC.out, decide_eq_false HE.out]; simp)
set_option maxRecDepth 100000 in
set_option maxHeartbeats 4000000 in
theorem refget_6 (s : ByteArray) (w : World) (hs : s.size ≤ 500000) (x : List UInt8) (hx : (words s.data.toList)[0]? = some x) (hk : kindN x = 6) : Calls Tryd.prog 14 #[.string s] w (Gets w (words s.data.toList)) := by
  have HS := Lib.hid hs
  have HW := Lib.hid (words_fine hs)
  have HX := Lib.hid hx
  have HK := Lib.hid hk
  clear hs hx hk
  have P0 := Lib.hid (GetW.start w)
  unfold zeroCells at P0
  go_enter Tryd.func14, Tryd.ntmps14
  go_wp2_with fail
  refine (refcut_any s _ (by have := HS.out; omega)).mono ?_
  rintro e w1 ⟨v, rfl, hv, b1⟩
  have P1 := Lib.hid (P0.out.below b1)
  clear P0 b1
  generalize words s.data.toList = ws at *
  obtain ⟨a, cap, rfl, hl, hcs⟩ := hv
  have hn : 0 < ws.length := (List.getElem?_eq_some_iff.1 HX.out).1
  obtain ⟨b, off, rfl, hb, hcs⟩ : ∃ b off, a = some ⟨b, off, none⟩ ∧ b < w1.heap.size ∧ ∀ i (hi : i < ws.length), w1.cell? ⟨b, off + i, none⟩ = some (str ws[i]) := by
    rcases hcs with h | h
    · rw [h] at hn; simp at hn
    · exact h
  have HV := Lib.hid (show Strs w1 (.slice (some ⟨b, off, none⟩) ws.length cap) ws from ⟨_, _, rfl, hl, .inr ⟨b, off, rfl, hb, hcs⟩⟩)
  have c0 := hcs 0 hn
  rw [Nat.add_zero, show ws[0] = x from (List.getElem?_eq_some_iff.1 HX.out).2] at c0
  unfold str at c0
  have hn0 : ((ws.length : Int) == 0) = false := by rw [beq_eq_false_iff_ne]; omega
  unfold maxLen at hl
  have HL := Lib.hid HW.out.2
  have HB := Lib.hid hb
  have HCS := Lib.hid hcs
  clear hb hcs
  go_wp2_with fail
  refine (refkind_any x _).mono ?_
  rintro e w2 ⟨rfl, b2⟩
  rw [HK.out]
  have c1 := fun i hi => (b2.cell (p := ⟨b, off + i, none⟩) HB.out).trans (HCS.out i hi)
  have P2 := Lib.hid (P1.out.below b2)
  have HV2 := Lib.hid (HV.out.below b2)
  have HC1 := Lib.hid c1
  clear b2 c0 hn0 P1 HV c1 HCS
  go_wp2_with fail
  refine (at_any 1 _ (HV2.out.below ((Below.refl _ _).alloc (Nat.le_refl _) _)) HW.out.1 HW.out.2 (by omega) (by omega)).mono ?_
  rintro e w' ⟨rfl, rfl⟩
  go_wp2_with fail
  refine (at_any 3 _ (HV2.out.below ((Below.refl _ _).alloc (Nat.le_refl _) _)) HW.out.1 HW.out.2 (by omega) (by omega)).mono ?_
  rintro e w' ⟨rfl, rfl⟩
  have HD := Lib.hid (show ws.getD 0 [] = x by simp [List.getD, HX.out])
  have HC := Lib.hid (show ⟨6, 0, atN ws 1, atN ws 3, 0, [], 0, [], 0⟩ = guess ws by unfold guess; rw [HD.out, HK.out]; simp [guessK, zeroC])
  have G := Lib.hid (GetG.alloc (c := ⟨6, 0, atN ws 1, atN ws 3, 0, [], 0, [], 0⟩) P2.out rfl rfl (cs := #[.int .i64 6, .int .i64 0, .int .i64 (atN ws 1), .int .i64 (atN ws 3), .int .i64 0, .slice none 0 0, .int .i64 0, .slice none 0 0, .int .i64 0]) rfl)
  have HV := Lib.hid (HV2.out.below ((Below.refl _ _).alloc (Nat.le_refl _) (.cells #[.int .i64 6, .int .i64 0, .int .i64 (atN ws 1), .int .i64 (atN ws 3), .int .i64 0, .slice none 0 0, .int .i64 0, .slice none 0 0, .int .i64 0] 24)))
  clear HV2 P2
  go_wp2_with fail
  refine (refmay_any ⟨6, 0, atN ws 1, atN ws 3, 0, [], 0, [], 0⟩ none none 0 0 _ G.out.2.2.gi G.out.2.2.wi).mono ?_
  rintro e w3 ⟨rfl, b3⟩
  have G3 := Lib.hid (G.out.below b3)
  have HV3 := Lib.hid (HV.out.below b3)
  clear b3
  have hcc := G3.out.2.2.blk.cell
  have hres := G3.out.1.2.2.cell
  have hfr := G3.out.1.2.2.frozen
  unfold zeroCells at hres
  cases hm : refMayB ⟨6, 0, atN ws 1, atN ws 3, 0, [], 0, [], 0⟩
  · have HM := Lib.hid ((may_eq _).trans hm)
    clear hm
    go_wp2_with fail
    generalize hW : ((((((((w3.setCell ⟨w.heap.size, 0, none⟩ _).setCell ⟨w.heap.size, 1, none⟩ _).setCell ⟨w.heap.size, 2, none⟩ _).setCell ⟨w.heap.size, 3, none⟩ _).setCell ⟨w.heap.size, 4, none⟩ _).setCell ⟨w.heap.size, 5, none⟩ _).setCell ⟨w.heap.size, 6, none⟩ _).setCell ⟨w.heap.size, 7, none⟩ _).setCell ⟨w.heap.size, 8, none⟩ _ = W'
    obtain ⟨k1, k2⟩ := fin9 G3.out.1.2.2 _ _ _ _ _ _ _ _ _ hW.symm
    have hc := k1.cell
    refine bodyPost_ret (v := .tuple #[.agg #[.int .i64 0, .int .i64 0, .int .i64 0, .int .i64 0, .int .i64 0, .slice none 0 0, .int .i64 0, .slice none 0 0, .int .i64 0], .int .i64 2]) (by simp [results, Tryd.results14, go_sem, hc]) rfl ?_
    exact gets_no G3.out.1 ⟨k1, k2⟩ (by unfold refB; rw [← HC.out, HM.out]; rfl)
  · have HM := Lib.hid ((may_eq _).trans hm)
    clear hm
    go_wp2_with fail
    refine (refwords_any ⟨6, 0, atN ws 1, atN ws 3, 0, [], 0, [], 0⟩ none none 0 0 _ HM.out G3.out.2.2.gi G3.out.2.2.wi).mono ?_
    rintro e w4 ⟨u, rfl, hu, b4⟩
    have G4 := Lib.hid (G3.out.below b4)
    have HV4 := Lib.hid (HV3.out.below b4)
    have HU := Lib.hid hu
    clear b4 hu hcc hres hfr
    go_wp2_with fail
    refine (strsame_any _ HU.out HV4.out).mono ?_
    rintro e w5 ⟨rfl, b5⟩
    have G5 := Lib.hid (G4.out.below b5)
    clear b5
    have hcc := G5.out.2.2.blk.cell
    have hres := G5.out.1.2.2.cell
    have hfr := G5.out.1.2.2.frozen
    unfold zeroCells at hres
    by_cases he : wordsOf ⟨6, 0, atN ws 1, atN ws 3, 0, [], 0, [], 0⟩ = ws
    · have HE := Lib.hid he
      rw [decide_eq_true he]
      clear he
      go_wp2_with fail
      generalize hW : ((((((((w5.setCell ⟨w.heap.size, 0, none⟩ _).setCell ⟨w.heap.size, 1, none⟩ _).setCell ⟨w.heap.size, 2, none⟩ _).setCell ⟨w.heap.size, 3, none⟩ _).setCell ⟨w.heap.size, 4, none⟩ _).setCell ⟨w.heap.size, 5, none⟩ _).setCell ⟨w.heap.size, 6, none⟩ _).setCell ⟨w.heap.size, 7, none⟩ _).setCell ⟨w.heap.size, 8, none⟩ _ = W'
      obtain ⟨k1, k2⟩ := fin9 G5.out.1.2.2 _ _ _ _ _ _ _ _ _ hW.symm
      have hc := k1.cell
      refine bodyPost_ret (v := .tuple #[.agg #[.int .i64 6, .int .i64 0, .int .i64 (atN ws 1), .int .i64 (atN ws 3), .int .i64 0, .slice none 0 0, .int .i64 0, .slice none 0 0, .int .i64 0], .int .i64 0]) (by simp [results, Tryd.results14, go_sem, hc]) rfl ?_
      exact gets_yes G5.out HC.out k2 (by unfold refB; rw [← HC.out, HM.out, HE.out]; simp)
    · have HE := Lib.hid he
      rw [decide_eq_false he]
      clear he
      go_wp2_with fail
      generalize hW : ((((((((w5.setCell ⟨w.heap.size, 0, none⟩ _).setCell ⟨w.heap.size, 1, none⟩ _).setCell ⟨w.heap.size, 2, none⟩ _).setCell ⟨w.heap.size, 3, none⟩ _).setCell ⟨w.heap.size, 4, none⟩ _).setCell ⟨w.heap.size, 5, none⟩ _).setCell ⟨w.heap.size, 6, none⟩ _).setCell ⟨w.heap.size, 7, none⟩ _).setCell ⟨w.heap.size, 8, none⟩ _ = W'
      obtain ⟨k1, k2⟩ := fin9 G5.out.1.2.2 _ _ _ _ _ _ _ _ _ hW.symm
      have hc := k1.cell
      refine bodyPost_ret (v := .tuple #[.agg #[.int .i64 0, .int .i64 0, .int .i64 0, .int .i64 0, .int .i64 0, .slice none 0 0, .int .i64 0, .slice none 0 0, .int .i64 0], .int .i64 2]) (by simp [results, Tryd.results14, go_sem, hc]) rfl ?_
      exact gets_no G5.out.1 ⟨k1, k2⟩ (by unfold refB; rw [← HC.out, decide_eq_false HE.out]; simp)
set_option maxRecDepth 100000 in
set_option maxHeartbeats 4000000 in
theorem refget_7 (s : ByteArray) (w : World) (hs : s.size ≤ 500000) (x : List UInt8) (hx : (words s.data.toList)[0]? = some x) (hk : kindN x = 7) : Calls Tryd.prog 14 #[.string s] w (Gets w (words s.data.toList)) := by
  have HS := Lib.hid hs
  have HW := Lib.hid (words_fine hs)
  have HX := Lib.hid hx
  have HK := Lib.hid hk
  clear hs hx hk
  have P0 := Lib.hid (GetW.start w)
  unfold zeroCells at P0
  go_enter Tryd.func14, Tryd.ntmps14
  go_wp2_with fail
  refine (refcut_any s _ (by have := HS.out; omega)).mono ?_
  rintro e w1 ⟨v, rfl, hv, b1⟩
  have P1 := Lib.hid (P0.out.below b1)
  clear P0 b1
  generalize words s.data.toList = ws at *
  obtain ⟨a, cap, rfl, hl, hcs⟩ := hv
  have hn : 0 < ws.length := (List.getElem?_eq_some_iff.1 HX.out).1
  obtain ⟨b, off, rfl, hb, hcs⟩ : ∃ b off, a = some ⟨b, off, none⟩ ∧ b < w1.heap.size ∧ ∀ i (hi : i < ws.length), w1.cell? ⟨b, off + i, none⟩ = some (str ws[i]) := by
    rcases hcs with h | h
    · rw [h] at hn; simp at hn
    · exact h
  have HV := Lib.hid (show Strs w1 (.slice (some ⟨b, off, none⟩) ws.length cap) ws from ⟨_, _, rfl, hl, .inr ⟨b, off, rfl, hb, hcs⟩⟩)
  have c0 := hcs 0 hn
  rw [Nat.add_zero, show ws[0] = x from (List.getElem?_eq_some_iff.1 HX.out).2] at c0
  unfold str at c0
  have hn0 : ((ws.length : Int) == 0) = false := by rw [beq_eq_false_iff_ne]; omega
  unfold maxLen at hl
  have HL := Lib.hid HW.out.2
  have HB := Lib.hid hb
  have HCS := Lib.hid hcs
  clear hb hcs
  go_wp2_with fail
  refine (refkind_any x _).mono ?_
  rintro e w2 ⟨rfl, b2⟩
  rw [HK.out]
  have c1 := fun i hi => (b2.cell (p := ⟨b, off + i, none⟩) HB.out).trans (HCS.out i hi)
  have P2 := Lib.hid (P1.out.below b2)
  have HV2 := Lib.hid (HV.out.below b2)
  have HC1 := Lib.hid c1
  clear b2 c0 hn0 P1 HV c1 HCS
  go_wp2_with fail
  refine (at_any 1 _ (HV2.out.below ((Below.refl _ _).alloc (Nat.le_refl _) _)) HW.out.1 HW.out.2 (by omega) (by omega)).mono ?_
  rintro e w' ⟨rfl, rfl⟩
  go_wp2_with fail
  refine (at_any 3 _ (HV2.out.below ((Below.refl _ _).alloc (Nat.le_refl _) _)) HW.out.1 HW.out.2 (by omega) (by omega)).mono ?_
  rintro e w' ⟨rfl, rfl⟩
  have HD := Lib.hid (show ws.getD 0 [] = x by simp [List.getD, HX.out])
  have HC := Lib.hid (show ⟨7, 0, atN ws 1, 0, atN ws 3, [], 0, [], 0⟩ = guess ws by unfold guess; rw [HD.out, HK.out]; simp [guessK, zeroC])
  have G := Lib.hid (GetG.alloc (c := ⟨7, 0, atN ws 1, 0, atN ws 3, [], 0, [], 0⟩) P2.out rfl rfl (cs := #[.int .i64 7, .int .i64 0, .int .i64 (atN ws 1), .int .i64 0, .int .i64 (atN ws 3), .slice none 0 0, .int .i64 0, .slice none 0 0, .int .i64 0]) rfl)
  have HV := Lib.hid (HV2.out.below ((Below.refl _ _).alloc (Nat.le_refl _) (.cells #[.int .i64 7, .int .i64 0, .int .i64 (atN ws 1), .int .i64 0, .int .i64 (atN ws 3), .slice none 0 0, .int .i64 0, .slice none 0 0, .int .i64 0] 24)))
  clear HV2 P2
  go_wp2_with fail
  refine (refmay_any ⟨7, 0, atN ws 1, 0, atN ws 3, [], 0, [], 0⟩ none none 0 0 _ G.out.2.2.gi G.out.2.2.wi).mono ?_
  rintro e w3 ⟨rfl, b3⟩
  have G3 := Lib.hid (G.out.below b3)
  have HV3 := Lib.hid (HV.out.below b3)
  clear b3
  have hcc := G3.out.2.2.blk.cell
  have hres := G3.out.1.2.2.cell
  have hfr := G3.out.1.2.2.frozen
  unfold zeroCells at hres
  cases hm : refMayB ⟨7, 0, atN ws 1, 0, atN ws 3, [], 0, [], 0⟩
  · have HM := Lib.hid ((may_eq _).trans hm)
    clear hm
    go_wp2_with fail
    generalize hW : ((((((((w3.setCell ⟨w.heap.size, 0, none⟩ _).setCell ⟨w.heap.size, 1, none⟩ _).setCell ⟨w.heap.size, 2, none⟩ _).setCell ⟨w.heap.size, 3, none⟩ _).setCell ⟨w.heap.size, 4, none⟩ _).setCell ⟨w.heap.size, 5, none⟩ _).setCell ⟨w.heap.size, 6, none⟩ _).setCell ⟨w.heap.size, 7, none⟩ _).setCell ⟨w.heap.size, 8, none⟩ _ = W'
    obtain ⟨k1, k2⟩ := fin9 G3.out.1.2.2 _ _ _ _ _ _ _ _ _ hW.symm
    have hc := k1.cell
    refine bodyPost_ret (v := .tuple #[.agg #[.int .i64 0, .int .i64 0, .int .i64 0, .int .i64 0, .int .i64 0, .slice none 0 0, .int .i64 0, .slice none 0 0, .int .i64 0], .int .i64 2]) (by simp [results, Tryd.results14, go_sem, hc]) rfl ?_
    exact gets_no G3.out.1 ⟨k1, k2⟩ (by unfold refB; rw [← HC.out, HM.out]; rfl)
  · have HM := Lib.hid ((may_eq _).trans hm)
    clear hm
    go_wp2_with fail
    refine (refwords_any ⟨7, 0, atN ws 1, 0, atN ws 3, [], 0, [], 0⟩ none none 0 0 _ HM.out G3.out.2.2.gi G3.out.2.2.wi).mono ?_
    rintro e w4 ⟨u, rfl, hu, b4⟩
    have G4 := Lib.hid (G3.out.below b4)
    have HV4 := Lib.hid (HV3.out.below b4)
    have HU := Lib.hid hu
    clear b4 hu hcc hres hfr
    go_wp2_with fail
    refine (strsame_any _ HU.out HV4.out).mono ?_
    rintro e w5 ⟨rfl, b5⟩
    have G5 := Lib.hid (G4.out.below b5)
    clear b5
    have hcc := G5.out.2.2.blk.cell
    have hres := G5.out.1.2.2.cell
    have hfr := G5.out.1.2.2.frozen
    unfold zeroCells at hres
    by_cases he : wordsOf ⟨7, 0, atN ws 1, 0, atN ws 3, [], 0, [], 0⟩ = ws
    · have HE := Lib.hid he
      rw [decide_eq_true he]
      clear he
      go_wp2_with fail
      generalize hW : ((((((((w5.setCell ⟨w.heap.size, 0, none⟩ _).setCell ⟨w.heap.size, 1, none⟩ _).setCell ⟨w.heap.size, 2, none⟩ _).setCell ⟨w.heap.size, 3, none⟩ _).setCell ⟨w.heap.size, 4, none⟩ _).setCell ⟨w.heap.size, 5, none⟩ _).setCell ⟨w.heap.size, 6, none⟩ _).setCell ⟨w.heap.size, 7, none⟩ _).setCell ⟨w.heap.size, 8, none⟩ _ = W'
      obtain ⟨k1, k2⟩ := fin9 G5.out.1.2.2 _ _ _ _ _ _ _ _ _ hW.symm
      have hc := k1.cell
      refine bodyPost_ret (v := .tuple #[.agg #[.int .i64 7, .int .i64 0, .int .i64 (atN ws 1), .int .i64 0, .int .i64 (atN ws 3), .slice none 0 0, .int .i64 0, .slice none 0 0, .int .i64 0], .int .i64 0]) (by simp [results, Tryd.results14, go_sem, hc]) rfl ?_
      exact gets_yes G5.out HC.out k2 (by unfold refB; rw [← HC.out, HM.out, HE.out]; simp)
    · have HE := Lib.hid he
      rw [decide_eq_false he]
      clear he
      go_wp2_with fail
      generalize hW : ((((((((w5.setCell ⟨w.heap.size, 0, none⟩ _).setCell ⟨w.heap.size, 1, none⟩ _).setCell ⟨w.heap.size, 2, none⟩ _).setCell ⟨w.heap.size, 3, none⟩ _).setCell ⟨w.heap.size, 4, none⟩ _).setCell ⟨w.heap.size, 5, none⟩ _).setCell ⟨w.heap.size, 6, none⟩ _).setCell ⟨w.heap.size, 7, none⟩ _).setCell ⟨w.heap.size, 8, none⟩ _ = W'
      obtain ⟨k1, k2⟩ := fin9 G5.out.1.2.2 _ _ _ _ _ _ _ _ _ hW.symm
      have hc := k1.cell
      refine bodyPost_ret (v := .tuple #[.agg #[.int .i64 0, .int .i64 0, .int .i64 0, .int .i64 0, .int .i64 0, .slice none 0 0, .int .i64 0, .slice none 0 0, .int .i64 0], .int .i64 2]) (by simp [results, Tryd.results14, go_sem, hc]) rfl ?_
      exact gets_no G5.out.1 ⟨k1, k2⟩ (by unfold refB; rw [← HC.out, decide_eq_false HE.out]; simp)
end Go.Proofs.YtinjpkbpdhihjaaDoor
