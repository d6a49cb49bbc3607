import Derived.Test.YtinjpkbpdhihjaaDoorRows
import Derived.Test.YtinjpkbpdhihjaaDoorKit
import Derived.Test.YtinjpkbpdhihjaaDoorStrs
import Derived.Test.YtinjpkbpdhihjaaDoorJTab
import Derived.Test.YtinjpkbpdhihjaaDoorJBlk
import Derived.Test.YtinjpkbpdhihjaaDoorJMath
import Derived.Test.YtinjpkbpdhihjaaDoorJNum
import Derived.Test.YtinjpkbpdhihjaaDoorJCut
import Derived.Test.YtinjpkbpdhihjaaDoorJGrown
import Derived.Test.YtinjpkbpdhihjaaDoorJCmd
import Derived.Test.YtinjpkbpdhihjaaDoorJWords
import Derived.Test.YtinjpkbpdhihjaaDoorJPut
import Derived.Test.YtinjpkbpdhihjaaDoorJTake
import Derived.Test.YtinjpkbpdhihjaaDoorJLineTake4
import Derived.Test.YtinjpkbpdhihjaaDoorJLineRead
import Derived.Test.YtinjpkbpdhihjaaDoorJLineGet
import Derived.Test.YtinjpkbpdhihjaaDoorJRefB
import Derived.WalkKit
import Derived.ProofKit
import Derived.OpenShut
import Derived.IntWalk
import Derived.Test.YtinjpkbpdhihjaaDoorJTokJoin
import Derived.Test.YtinjpkbpdhihjaaDoorJAppend
import Derived.Test.YtinjpkbpdhihjaaDoorJMay
import Derived.Test.YtinjpkbpdhihjaaDoorJCmdRefNames
import Derived.Test.YtinjpkbpdhihjaaDoorJLinePut3
import Derived.Test.YtinjpkbpdhihjaaDoorJLinePut
import Derived.Test.YtinjpkbpdhihjaaDoorJRefA
import Derived.Test.YtinjpkbpdhihjaaDoorJLineRef3
import Derived.Deep.RegionHeld3
/- line: one side of a trade, read by the document's own Get: what a round leaves. -/
namespace Go.Proofs.YtinjpkbpdhihjaaDoor
open Go.ChangeShapes Go.WideShapes Go.ChangeAt Go.RowKit
set_option linter.unusedVariables false
open Go.RowKit Go
theorem side_go {ws : List (List UInt8)} {st j : Nat} (h : j < (sideAt ws st).length) : ∃ hi : st + j < ws.length, (sideAt ws st)[j] = ws[st + j] ∧ ¬ ws[st + j] = sCoins := by
  have hp : sideAt ws st <+: ws.drop st := List.takeWhile_prefix _
  have hl := hp.length_le
  rw [List.length_drop] at hl
  have hi : st + j < ws.length := by omega
  have e : (sideAt ws st)[j] = ws[st + j] := by
    rw [hp.getElem h, List.getElem_drop]
  refine ⟨hi, e, ?_⟩
  rw [← e]
  have := List.all_takeWhile (p := notCoins) (l := ws.drop st)
  have := List.all_eq_true.1 this (sideAt ws st)[j] (List.getElem_mem h)
  simpa [notCoins] using this
theorem side_le (ws : List (List UInt8)) (st : Nat) : (sideAt ws st).length ≤ ws.length := by
  have := (List.takeWhile_prefix (p := notCoins) (l := ws.drop st)).length_le
  rw [List.length_drop] at this
  unfold sideAt; omega
theorem take_stop {p : List UInt8 → Bool} : ∀ (l : List (List UInt8)), (l.takeWhile p).length ≥ l.length ∨ ∃ h : (l.takeWhile p).length < l.length, p (l[(l.takeWhile p).length]) = false
  | [] => .inl (Nat.le_refl _)
  | x :: l => by
    cases hx : p x
    · right; simp [hx]
    · rcases take_stop (p := p) l with h | ⟨h, e⟩
      · left; simp [hx]; exact h
      · right; simp only [List.takeWhile_cons, hx, if_true, List.length_cons]; exact ⟨by omega, by simpa using e⟩
theorem side_stop (ws : List (List UInt8)) (st : Nat) : ¬ st + (sideAt ws st).length < ws.length ∨ ∃ h : st + (sideAt ws st).length < ws.length, ws[st + (sideAt ws st).length] = sCoins := by
  rcases take_stop (p := notCoins) (ws.drop st) with h | ⟨h, e⟩
  · left; rw [List.length_drop] at h; unfold sideAt; omega
  · right
    have h2 := h
    rw [List.length_drop] at h2
    refine ⟨by unfold sideAt; omega, ?_⟩
    rw [List.getElem_drop] at e
    simpa [notCoins, sideAt] using e
/-- Between two rounds: j numbers in the list. -/
def SideRel (W0 : World) (C o : Nat) (cs : Array Value) (L : List (List UInt8)) (j : Nat) (wr : World) : Prop :=
  ∃ lv, W0.grownBy wr (some C) ∧ Blk wr C 24 (cs.setIfInBounds o lv) ∧ wr.ownsRow W0.heap.size 3 1 lv j ((L.take j).map nv) ∧ (j = 0 → lv = .slice none 0 0)
theorem set_same {cs : Array Value} {o : Nat} {v : Value} (h : cs[o]? = some v) : cs.setIfInBounds o v = cs := by
  apply Array.ext_getElem?
  intro j
  rw [Array.getElem?_setIfInBounds]
  split
  · rename_i e; subst e; rw [h]; split
    · rfl
    · rename_i h2; exact absurd (Array.getElem?_eq_some_iff.1 h).1 h2
  · rfl
theorem SideRel.start {W0 : World} {C o : Nat} {cs : Array Value} {L : List (List UInt8)} (hb : Blk W0 C 24 cs) (ho : cs[o]? = some (.slice none 0 0)) : SideRel W0 C o cs L 0 W0 :=
  ⟨.slice none 0 0, grown_refl _ _, by rw [set_same ho]; exact hb, World.ownsRow_nil _ _ _ _, fun _ => rfl⟩
theorem side_step {W0 wr W2 : World} {C o j : Nat} {cs : Array Value} {L : List (List UInt8)} {lv lv' : Value} (hC : C < W0.heap.size) (hj : j < L.length) (h3 : W0.grownBy wr (some C)) (h4 : Blk wr C 24 (cs.setIfInBounds o lv)) (h5 : wr.ownsRow W0.heap.size 3 1 lv j ((L.take j).map nv))
    (hown : W2.ownsRow W0.heap.size 3 1 lv' (j + 1) ((L.take j).map nv ++ [nv L[j]])) (hg : wr.grownBy W2 lv.ownBlock) : SideRel W0 C o cs L (j + 1) (W2.setCell ⟨C, o, none⟩ lv') := by
  have b3 := (h4.grow hg (row_ne h5 hC)).set_ o lv'
  rw [set_twice] at b3
  have hg2 : W0.grownBy W2 (some C) := ⟨hg.os.trans h3.os, hg.tape.trans h3.tape, hg.output.trans h3.output, Nat.le_trans h3.size hg.size, fun k hk hne => (hg.block k (Nat.lt_of_lt_of_le hk h3.size) (fun e => by have := (h5.lt k e.symm).1; omega)).trans (h3.block k hk hne)⟩
  refine ⟨lv', grown_trans hg2 (grown_set W2 ⟨C, o, none⟩ lv') (.inl rfl), b3, ?_, fun e => by omega⟩
  have := hown.kept (w' := W2.setCell ⟨C, o, none⟩ lv') (row := some C) (grown_set W2 ⟨C, o, none⟩ lv') (.inr (row_ne hown hC).symm)
  rw [List.take_succ_eq_append_getElem hj, List.map_append]
  exact this
section
variable {w W W0 wr : World} {C : Nat} {c : Cm} {ga wa : Option Addr} {gc wc : Nat} {L : List (List UInt8)}
theorem GetW.grown (h : GetW w W) {W' : World} (hg : W.grownBy W' (some C)) (hC : w.heap.size < C) : GetW w W' :=
  ⟨h.1.grown hg (by have := h.2.1; omega) (fun k e => by have := Option.some.inj e; omega), Nat.le_trans h.2.1 hg.size, h.2.2.grow hg (by intro e; have := Option.some.inj e; omega)⟩
theorem TSt.setF_ (st : TSt W C c ga gc wa wc) (f : Fd) (n : Int) : TSt (W.setCell ⟨C, f.off, none⟩ (.int .i64 n)) C (setF c n f) ga gc wa wc ∧ W.grownBy (W.setCell ⟨C, f.off, none⟩ (.int .i64 n)) (some C) := by
  have hg := grown_set W ⟨C, f.off, none⟩ (.int .i64 n)
  have e1 : (setF c n f).gives = c.gives := by cases f <;> rfl
  have e2 : (setF c n f).wants = c.wants := by cases f <;> rfl
  refine ⟨⟨?_, ?_, ?_, ?_, ?_, ?_, ?_⟩, hg⟩
  · have := st.blk.set_ f.off (.int .i64 n)
    cases f <;> exact this
  · rw [e1]; exact st.gi.grown (v := bv C) hg (st.go.off (Nat.le_refl _))
  · rw [e2]; exact st.wi.grown (v := bv C) hg (st.wo.off (Nat.le_refl _))
  · rw [e1]; exact st.gn
  · rw [e2]; exact st.wn
  · rw [e1]; exact st.go
  · rw [e2]; exact st.wo
theorem GetG.setF_ (h : GetG w C c ga gc wa wc W) (f : Fd) (n : Int) : GetG w C (setF c n f) ga gc wa wc (W.setCell ⟨C, f.off, none⟩ (.int .i64 n)) := by
  obtain ⟨h1, h2, h3⟩ := h
  obtain ⟨k1, k2⟩ := h3.setF_ f n
  exact ⟨GetW.grown h1 k2 h2, h2, k1⟩
theorem side_done (h : GetG w C c ga gc wa wc W0) (g : Bool) (hr : SideRel W0 C (sideOff g) #[.int .i64 c.kind, .int .i64 c.dir, .int .i64 c.item, .int .i64 c.box, .int .i64 c.who, .slice ga c.gives.length gc, .int .i64 c.pay, .slice wa c.wants.length wc, .int .i64 c.fee] L L.length wr) (hl : L.length ≤ 1000000) :
    ∃ a cap, GetG w C (setL c g (numsN L)) (if g then a else ga) (if g then cap else gc) (if g then wa else a) (if g then wc else cap) wr := by
  obtain ⟨h1, h2, st⟩ := h
  obtain ⟨lv, hg, hb, hrow, hn⟩ := hr
  obtain ⟨a, cap, rfl⟩ := int_slice hrow
  rw [List.take_of_length_le (Nat.le_refl _)] at hrow
  have em : L.map nv = (numsN L).map (Value.int .i64) := by unfold numsN; rw [List.map_map]; rfl
  have e0 : (numsN L).length = L.length := List.length_map ..
  have hC := st.blk.lt
  rw [em] at hrow
  have hI := ints_of_row hrow e0.symm (by rw [e0]; unfold maxLen; omega)
  have hO : Above a (numsN L) C := by
    refine .inr fun p hp => ?_
    subst hp
    have := (hrow.lt p.block rfl).1
    omega
  have hN : LNil a cap (numsN L) := fun e => by
    have : L.length = 0 := by rw [← e0, e]; rfl
    have := hn this
    simp only [Value.slice.injEq] at this
    exact ⟨this.1, this.2.2⟩
  rw [← e0] at hb
  refine ⟨a, cap, GetW.grown h1 hg h2, h2, ?_⟩
  cases g with
  | true => exact ⟨hb, hI, st.wi.grown (v := bv C) hg (st.wo.off (Nat.le_refl _)), hN, st.wn, hO, st.wo⟩
  | false => exact ⟨hb, st.gi.grown (v := bv C) hg (st.go.off (Nat.le_refl _)), hI, st.gn, hN, st.go, hO⟩
theorem Strs.grown {v : Value} {xs : List (List UInt8)} {W' : World} {t : TypeId} {cs : Array Value} (h : Strs W v xs) (hg : W.grownBy W' (some C)) (hB : Blk W C t cs) (hn : noText cs) : Strs W' v xs := by
  obtain ⟨a, cap, rfl, hl, h⟩ := h
  refine ⟨a, cap, rfl, hl, ?_⟩
  rcases h with h | ⟨b, off, rfl, hb, hc⟩
  · exact .inl h
  · refine .inr ⟨b, off, rfl, Nat.lt_of_lt_of_le hb hg.size, fun i hi => ?_⟩
    refine hg.cell (hc i hi) (fun e => ?_)
    obtain rfl : b = C := Option.some.inj e
    have := hc i hi
    rw [hB.cell] at this
    exact hn _ _ this
theorem Strs.cellAt {b off n cap : Nat} {xs : List (List UInt8)} (h : Strs W (.slice (some ⟨b, off, none⟩) n cap) xs) (i : Nat) (hi : i < xs.length) : W.cell? ⟨b, off + i, none⟩ = some (str xs[i]) := by
  obtain ⟨a, cap2, e, hl, h⟩ := h
  simp only [Value.slice.injEq] at e
  obtain ⟨rfl, -, -⟩ := e
  rcases h with h | ⟨b2, o2, e, hb, hc⟩
  · subst h; simp at hi
  · obtain ⟨rfl, rfl⟩ : b = b2 ∧ off = o2 := by simpa using e
    exact hc i hi
end
end Go.Proofs.YtinjpkbpdhihjaaDoor
/- line: the document's own Get, of a trade. -/
namespace Go.Proofs.YtinjpkbpdhihjaaDoor
open Go.ChangeShapes Go.WideShapes Go.ChangeAt Go.RowKit
set_option linter.unusedVariables false
open Go.RowKit Go
set_option maxRecDepth 100000 in
set_option maxHeartbeats 32000000 in
theorem refget_8 (s : ByteArray) (w : World) (hs : s.size ≤ 500000) (x : List UInt8) (hx : (words s.data.toList)[0]? = some x) (hk : kindN x = 8) : Calls Tryd.prog 14 #[.string s] w (Gets w (words s.data.toList)) := by
  have HS := Lib.hid hs
  have HW := Lib.hid (words_fine hs)
  have HX := Lib.hid hx
  have HK := Lib.hid hk
  clear hs hx hk
  have P0 := Lib.hid (GetW.start w)
  unfold zeroCells at P0
  go_enter Tryd.func14, Tryd.ntmps14
  go_wp2_with fail
  refine (refcut_any s _ (by have := HS.out; omega)).mono ?_
  rintro e w1 ⟨v, rfl, hv, b1⟩
  have P1 := Lib.hid (P0.out.below b1)
  clear P0 b1
  generalize words s.data.toList = ws at *
  obtain ⟨a, cap, rfl, hl, hcs⟩ := hv
  have hn : 0 < ws.length := (List.getElem?_eq_some_iff.1 HX.out).1
  obtain ⟨b, off, rfl, hb, hcs⟩ : ∃ b off, a = some ⟨b, off, none⟩ ∧ b < w1.heap.size ∧ ∀ i (hi : i < ws.length), w1.cell? ⟨b, off + i, none⟩ = some (str ws[i]) := by
    rcases hcs with h | h
    · rw [h] at hn; simp at hn
    · exact h
  have HV := Lib.hid (show Strs w1 (.slice (some ⟨b, off, none⟩) ws.length cap) ws from ⟨_, _, rfl, hl, .inr ⟨b, off, rfl, hb, hcs⟩⟩)
  have c0 := hcs 0 hn
  rw [Nat.add_zero, show ws[0] = x from (List.getElem?_eq_some_iff.1 HX.out).2] at c0
  unfold str at c0
  have hn0 : ((ws.length : Int) == 0) = false := by rw [beq_eq_false_iff_ne]; omega
  unfold maxLen at hl
  have HL := Lib.hid HW.out.2
  have HB := Lib.hid hb
  have HCS := Lib.hid hcs
  clear hb hcs
  go_wp2_with fail
  refine (refkind_any x _).mono ?_
  rintro e w2 ⟨rfl, b2⟩
  rw [HK.out]
  have c1 := fun i hi => (b2.cell (p := ⟨b, off + i, none⟩) HB.out).trans (HCS.out i hi)
  have P2 := Lib.hid (P1.out.below b2)
  have hbz := b2.size
  have HV2 := Lib.hid (HV.out.below b2)
  have HC1 := Lib.hid c1
  clear b2 c0 hn0 P1 HV c1 HCS
  go_wp2_with fail
  refine (at_any 1 _ (HV2.out.below ((Below.refl _ _).alloc (Nat.le_refl _) _)) HW.out.1 HW.out.2 (by omega) (by omega)).mono ?_
  rintro e w' ⟨rfl, rfl⟩
  have HD := Lib.hid (show ws.getD 0 [] = x by simp [List.getD, HX.out])
  have G0 := Lib.hid (GetG.alloc (c := ⟨8, 0, 0, 0, atN ws 1, [], 0, [], 0⟩) P2.out rfl rfl (cs := #[.int .i64 8, .int .i64 0, .int .i64 0, .int .i64 0, .int .i64 (atN ws 1), .slice none 0 0, .int .i64 0, .slice none 0 0, .int .i64 0]) rfl)
  have HV0 := Lib.hid (HV2.out.below ((Below.refl _ _).alloc (Nat.le_refl _) (.cells #[.int .i64 8, .int .i64 0, .int .i64 0, .int .i64 0, .int .i64 (atN ws 1), .slice none 0 0, .int .i64 0, .slice none 0 0, .int .i64 0] 24)))
  clear HV2 P2
  go_wp2_with fail
  generalize hW0 : w2.alloc (.cells #[.int .i64 8, .int .i64 0, .int .i64 0, .int .i64 0, .int .i64 (atN ws 1), .slice none 0 0, .int .i64 0, .slice none 0 0, .int .i64 0] 24) = W0 at *
  clear hW0
  generalize w2.heap.size = C at *
  go_loopw [8] (fun t wr => ∃ q : Nat, t = .int .i64 (q : Int) ∧ ∃ j : Nat, q = 3 + j ∧ j ≤ (sideAt ws 3).length ∧ SideRel W0 C 5 #[.int .i64 8, .int .i64 0, .int .i64 0, .int .i64 0, .int .i64 (atN ws 1), .slice none 0 0, .int .i64 0, .slice none 0 0, .int .i64 0] (sideAt ws 3) j wr) (fun t _ => ws.length + 10 - (intOf t).toNat)
  case atStart => exact ⟨3, rfl, 0, rfl, Nat.zero_le _, SideRel.start G0.out.2.2.blk rfl⟩
  case round =>
    obtain ⟨q, rfl, j, hq, hj, hr⟩ := hrel
    have HQ := Lib.hid hq
    clear hq
    by_cases hlt : j < (sideAt ws 3).length
    · obtain ⟨hi, hE, hne⟩ := side_go hlt
      obtain ⟨lv, h3, h4, h5, h6⟩ := hr
      have HVr := Lib.hid (HV0.out.grown h3 G0.out.2.2.blk (cc_noText _ _ _ _ _))
      have c1 := HVr.out.cellAt (3 + j) hi
      have HA := Lib.hid (atN_of (List.getElem?_eq_getElem hi))
      generalize hy : ws[3 + j] = y at *
      clear hy
      rw [← HQ.out] at c1 hi HA
      unfold str at c1
      have hne1 : (y != [99, 111, 105, 110, 115]) = true := by simpa [sCoins] using hne
      have hne2 : (y == [99, 111, 105, 110, 115]) = false := by simpa [sCoins] using hne
      have R3 := Lib.hid h3
      have R4 := Lib.hid h4
      have R5 := Lib.hid h5
      have HEL := Lib.hid hE
      clear h3 h4 h5 h6 hne hE
      have hsl := side_le ws 3
      obtain ⟨lv', W2, hrun, hown, hg, hm⟩ := append_int (W := wr.drew) R5.out (numN y : Int) (by have := HL.out; omega) R3.out.size
      obtain ⟨a2, cp2, rfl⟩ := int_slice hown
      have hown2 : W2.ownsRow W0.heap.size 3 1 (.slice a2 (j + 1) cp2) (j + 1) (((sideAt ws 3).take j).map nv ++ [nv (sideAt ws 3)[j]]) := by rw [HEL.out]; exact hown
      have hCw := G0.out.2.2.blk.lt
      have b2 : Blk W2 C 24 _ := Blk.grow (W := wr.drew) R4.out hg (row_ne R5.out hCw)
      have L0 : wr.drew.cell? ⟨C, 5, none⟩ = some lv := Blk.cell (w := wr.drew) R4.out 5
      have L1 : (wr.drew.alloc (.cells #[.int .i64 (numN y : Int)] 3)).cell? ⟨C, 5, none⟩ = some lv := (Blk.alloc (w := wr.drew) R4.out _).cell 5
      have L4 : wr.cell? ⟨C, 5, none⟩ = some lv := L0
      have L5 : (wr.alloc (.cells #[.int .i64 (numN y : Int)] 3)).cell? ⟨C, 5, none⟩ = some lv := L1
      have L2 : W2.cell? ⟨C, 5, none⟩ = some lv := b2.cell 5
      have L3 := b2.frozen 5
      have HVd := Lib.hid (show Strs wr.drew (.slice (some ⟨b, off, none⟩) ws.length cap) ws from HVr.out)
      have HN2 := Lib.hid (side_step hCw hlt R3.out R4.out R5.out hown2 ⟨hg.os, hg.tape, hg.output, hg.size, hg.block⟩)
      have HG := Lib.hid hrun
      clear hrun hown hg hm hCw b2 hown2 hsl
      go_wp2_with fail
      clear c1 hne1 hne2
      refine wp_region_noPanic ?_
      refine wp_region_held_drew (S := (fun _ => True)) (by kernel_rfl) (by (first | (trivial))) (fun hHeld => ?_)
      refine wpAnyH_take (i := 0) (v := ?_) (by simp only [List.getElem?_toArray, List.getElem?_cons_zero]; rfl) (by kernel_rfl) (by kernel_rfl) (by kernel_rfl) (fun _ _ _ h => h) (Or.inl ⟨by rfl, ?_⟩) (by assumption) ?_
      rotate_left
      · (intro ww hSw; (try dsimp only at hSw); go_simp; (try with_reducible rfl))
      try simp only [Act.put, List.setIfInBounds_toArray, List.set_cons_zero, List.set_cons_succ]
      refine wpAnyH_take (i := 2) (v := ?_) (by simp only [List.getElem?_toArray, List.getElem?_cons_succ, List.getElem?_cons_zero]; rfl) (by kernel_rfl) (by kernel_rfl) (by kernel_rfl) (fun _ _ _ h => h) (Or.inl ⟨by rfl, ?_⟩) (by assumption) ?_
      rotate_left
      · (intro ww hSw; (try dsimp only at hSw); go_simp; (try with_reducible rfl))
      try simp only [Act.put, List.setIfInBounds_toArray, List.set_cons_zero, List.set_cons_succ]
      refine wpAnyH_take (i := 3) (v := ?_) (by simp only [List.getElem?_toArray, List.getElem?_cons_succ, List.getElem?_cons_zero]; rfl) (by kernel_rfl) (by kernel_rfl) (by kernel_rfl) (fun _ _ _ h => h) (Or.inl ⟨by rfl, ?_⟩) (by assumption) ?_
      rotate_left
      · (intro ww hSw; (try dsimp only at hSw); go_simp; (try with_reducible rfl))
      try simp only [Act.put, List.setIfInBounds_toArray, List.set_cons_zero, List.set_cons_succ]
      refine wpAnyH_ready (rs := [1, 4]) (by kernel_rfl) (by simp) (AllReadyH.cons (by simp only [List.getElem?_toArray, List.getElem?_cons_succ, List.getElem?_cons_zero]; rfl) (fun K hK => ?_) (AllReadyH.cons (by simp only [List.getElem?_toArray, List.getElem?_cons_succ, List.getElem?_cons_zero]; rfl) (fun K hK => ?_) AllReadyH.nil))
      ·
        go_simp
        try go_wp2_with fail
        refine hK.out _ _ (by (first | (trivial))) (fun hHeld => ?_)
        clear hK K
        try simp only [Act.put, List.setIfInBounds_toArray, List.set_cons_zero, List.set_cons_succ]
        refine wpAnyH_ready (rs := [4]) (by kernel_rfl) (by simp) (AllReadyH.cons (by simp only [List.getElem?_toArray, List.getElem?_cons_succ, List.getElem?_cons_zero]; rfl) (fun K hK => ?_) AllReadyH.nil)
        go_simp
        go_at_call 31
        refine (at_any q wr.drew HVd.out HW.out.1 HW.out.2 (by omega) (by have := HL.out; omega)).mono ?_
        rintro e w' ⟨rfl, rfl⟩
        rw [HA.out]
        try go_wp2_with fail
        refine hK.out _ _ trivial (fun hHeld => ?_)
        clear hK K
        try simp only [Act.put, List.setIfInBounds_toArray, List.set_cons_zero, List.set_cons_succ]
        refine wpAnyH_ready (rs := [5]) (by kernel_rfl) (by simp) (AllReadyH.cons (by simp only [List.getElem?_toArray, List.getElem?_cons_succ, List.getElem?_cons_zero]; rfl) (fun K hK => ?_) AllReadyH.nil)
        go_simp
        try go_wp2_with fail
        refine hK.out _ _ (by (first | (trivial))) (fun hHeld => ?_)
        clear hK K
        try simp only [Act.put, List.setIfInBounds_toArray, List.set_cons_zero, List.set_cons_succ]
        refine wpAnyH_ready (rs := [6]) (by kernel_rfl) (by simp) (AllReadyH.cons (by simp only [List.getElem?_toArray, List.getElem?_cons_succ, List.getElem?_cons_zero]; rfl) (fun K hK => ?_) AllReadyH.nil)
        refine step_append rfl (.tmp 94) (.tmp 98) 22 rfl lv _ (.slice a2 (j + 1) cp2) W2 rfl rfl HG.out ?_
        refine hK.out _ _ (by (first | (trivial))) (fun hHeld => ?_)
        clear hK K
        try simp only [Act.put, List.setIfInBounds_toArray, List.set_cons_zero, List.set_cons_succ]
        refine wpAnyH_take (i := 7) (v := ?_) (by simp only [List.getElem?_toArray, List.getElem?_cons_succ, List.getElem?_cons_zero]; rfl) (by kernel_rfl) (by kernel_rfl) (by kernel_rfl) (fun _ _ _ h => h) (Or.inl ⟨by rfl, ?_⟩) (by assumption) ?_
        rotate_left
        · (intro ww hSw; (try dsimp only at hSw); go_simp; (try with_reducible rfl))
        try simp only [Act.put, List.setIfInBounds_toArray, List.set_cons_zero, List.set_cons_succ]
        refine wpAnyH_ready (rs := [8]) (by kernel_rfl) (by simp) (AllReadyH.cons (by simp only [List.getElem?_toArray, List.getElem?_cons_succ, List.getElem?_cons_zero]; rfl) (fun K hK => ?_) AllReadyH.nil)
        go_simp
        try go_wp2_with fail
        refine hK.out _ _ (by (first | (trivial))) (fun hHeld => ?_)
        clear hK K
        try simp only [Act.put, List.setIfInBounds_toArray, List.set_cons_zero, List.set_cons_succ]
        refine wpAnyH_done (by kernel_rfl) ?_ _
        refine NoPanic.normal ?_
        go_wp2_with fail
        go_roundw
        case rel => exact ⟨q + 1, by go_num, j + 1, by have := HQ.out; omega, by omega, HN2.out⟩
        case measure => simp [intOf]; omega
      ·
        go_simp
        go_at_call 31
        refine (at_any q wr.drew HVd.out HW.out.1 HW.out.2 (by omega) (by have := HL.out; omega)).mono ?_
        rintro e w' ⟨rfl, rfl⟩
        rw [HA.out]
        try go_wp2_with fail
        refine hK.out _ _ trivial (fun hHeld => ?_)
        clear hK K
        try simp only [Act.put, List.setIfInBounds_toArray, List.set_cons_zero, List.set_cons_succ]
        refine wpAnyH_ready (rs := [1, 5]) (by kernel_rfl) (by simp) (AllReadyH.cons (by simp only [List.getElem?_toArray, List.getElem?_cons_succ, List.getElem?_cons_zero]; rfl) (fun K hK => ?_) (AllReadyH.cons (by simp only [List.getElem?_toArray, List.getElem?_cons_succ, List.getElem?_cons_zero]; rfl) (fun K hK => ?_) AllReadyH.nil))
        ·
          go_simp
          try go_wp2_with fail
          refine hK.out _ _ (by (first | (trivial))) (fun hHeld => ?_)
          clear hK K
          try simp only [Act.put, List.setIfInBounds_toArray, List.set_cons_zero, List.set_cons_succ]
          refine wpAnyH_ready (rs := [5]) (by kernel_rfl) (by simp) (AllReadyH.cons (by simp only [List.getElem?_toArray, List.getElem?_cons_succ, List.getElem?_cons_zero]; rfl) (fun K hK => ?_) AllReadyH.nil)
          go_simp
          try go_wp2_with fail
          refine hK.out _ _ (by (first | (trivial))) (fun hHeld => ?_)
          clear hK K
          try simp only [Act.put, List.setIfInBounds_toArray, List.set_cons_zero, List.set_cons_succ]
          refine wpAnyH_ready (rs := [6]) (by kernel_rfl) (by simp) (AllReadyH.cons (by simp only [List.getElem?_toArray, List.getElem?_cons_succ, List.getElem?_cons_zero]; rfl) (fun K hK => ?_) AllReadyH.nil)
          refine step_append rfl (.tmp 94) (.tmp 98) 22 rfl lv _ (.slice a2 (j + 1) cp2) W2 rfl rfl HG.out ?_
          refine hK.out _ _ (by (first | (trivial))) (fun hHeld => ?_)
          clear hK K
          try simp only [Act.put, List.setIfInBounds_toArray, List.set_cons_zero, List.set_cons_succ]
          refine wpAnyH_take (i := 7) (v := ?_) (by simp only [List.getElem?_toArray, List.getElem?_cons_succ, List.getElem?_cons_zero]; rfl) (by kernel_rfl) (by kernel_rfl) (by kernel_rfl) (fun _ _ _ h => h) (Or.inl ⟨by rfl, ?_⟩) (by assumption) ?_
          rotate_left
          · (intro ww hSw; (try dsimp only at hSw); go_simp; (try with_reducible rfl))
          try simp only [Act.put, List.setIfInBounds_toArray, List.set_cons_zero, List.set_cons_succ]
          refine wpAnyH_ready (rs := [8]) (by kernel_rfl) (by simp) (AllReadyH.cons (by simp only [List.getElem?_toArray, List.getElem?_cons_succ, List.getElem?_cons_zero]; rfl) (fun K hK => ?_) AllReadyH.nil)
          go_simp
          try go_wp2_with fail
          refine hK.out _ _ (by (first | (trivial))) (fun hHeld => ?_)
          clear hK K
          try simp only [Act.put, List.setIfInBounds_toArray, List.set_cons_zero, List.set_cons_succ]
          refine wpAnyH_done (by kernel_rfl) ?_ _
          refine NoPanic.normal ?_
          go_wp2_with fail
          go_roundw
          case rel => exact ⟨q + 1, by go_num, j + 1, by have := HQ.out; omega, by omega, HN2.out⟩
          case measure => simp [intOf]; omega
        ·
          go_simp
          try go_wp2_with fail
          refine hK.out _ _ (by (first | (trivial))) (fun hHeld => ?_)
          clear hK K
          try simp only [Act.put, List.setIfInBounds_toArray, List.set_cons_zero, List.set_cons_succ]
          refine wpAnyH_ready (rs := [1]) (by kernel_rfl) (by simp) (AllReadyH.cons (by simp only [List.getElem?_toArray, List.getElem?_cons_succ, List.getElem?_cons_zero]; rfl) (fun K hK => ?_) AllReadyH.nil)
          go_simp
          try go_wp2_with fail
          refine hK.out _ _ (by (first | (trivial))) (fun hHeld => ?_)
          clear hK K
          try simp only [Act.put, List.setIfInBounds_toArray, List.set_cons_zero, List.set_cons_succ]
          refine wpAnyH_ready (rs := [6]) (by kernel_rfl) (by simp) (AllReadyH.cons (by simp only [List.getElem?_toArray, List.getElem?_cons_succ, List.getElem?_cons_zero]; rfl) (fun K hK => ?_) AllReadyH.nil)
          refine step_append rfl (.tmp 94) (.tmp 98) 22 rfl lv _ (.slice a2 (j + 1) cp2) W2 rfl rfl HG.out ?_
          refine hK.out _ _ (by (first | (trivial))) (fun hHeld => ?_)
          clear hK K
          try simp only [Act.put, List.setIfInBounds_toArray, List.set_cons_zero, List.set_cons_succ]
          refine wpAnyH_take (i := 7) (v := ?_) (by simp only [List.getElem?_toArray, List.getElem?_cons_succ, List.getElem?_cons_zero]; rfl) (by kernel_rfl) (by kernel_rfl) (by kernel_rfl) (fun _ _ _ h => h) (Or.inl ⟨by rfl, ?_⟩) (by assumption) ?_
          rotate_left
          · (intro ww hSw; (try dsimp only at hSw); go_simp; (try with_reducible rfl))
          try simp only [Act.put, List.setIfInBounds_toArray, List.set_cons_zero, List.set_cons_succ]
          refine wpAnyH_ready (rs := [8]) (by kernel_rfl) (by simp) (AllReadyH.cons (by simp only [List.getElem?_toArray, List.getElem?_cons_succ, List.getElem?_cons_zero]; rfl) (fun K hK => ?_) AllReadyH.nil)
          go_simp
          try go_wp2_with fail
          refine hK.out _ _ (by (first | (trivial))) (fun hHeld => ?_)
          clear hK K
          try simp only [Act.put, List.setIfInBounds_toArray, List.set_cons_zero, List.set_cons_succ]
          refine wpAnyH_done (by kernel_rfl) ?_ _
          refine NoPanic.normal ?_
          go_wp2_with fail
          go_roundw
          case rel => exact ⟨q + 1, by go_num, j + 1, by have := HQ.out; omega, by omega, HN2.out⟩
          case measure => simp [intOf]; omega
    · have hje : j = (sideAt ws 3).length := by omega
      subst hje
      obtain ⟨a1, p1, hG1⟩ := side_done G0.out true hr (by have := HL.out; have := side_le ws 3; omega)
      have G1 := Lib.hid (show GetG w C ⟨8, 0, 0, 0, atN ws 1, numsN (sideAt ws 3), 0, [], 0⟩ a1 p1 none 0 wr from hG1)
      obtain ⟨lv, h3, h4, h5, h6⟩ := hr
      have HVr := Lib.hid (HV0.out.grown h3 G0.out.2.2.blk (cc_noText _ _ _ _ _))
      have hql : q ≤ 1000003 := by have := HQ.out; have := side_le ws 3; have := HL.out; omega
      have HI1 := Lib.hid (show q = i1 ws from HQ.out)
      have HST := Lib.hid (side_stop ws 3)
      clear h3 h4 h5 h6 hG1 hlt hj lv
      have K6 := G1.out.2.2.blk.cell 6
      have F6 := G1.out.2.2.blk.frozen 6
      rcases HST.out with hi | ⟨hi, hco⟩
      · rw [← HQ.out] at hi
        have hi2 : ws.length ≤ q := by omega
        clear HST
        go_wp2_with fail
        refine (at_any ((q : Int) + 1) _ HVr.out HW.out.1 HW.out.2 (by omega) (by omega)).mono ?_
        rintro e w' ⟨rfl, rfl⟩
        go_wp2_with fail
        clear K6 F6
        have G2 := Lib.hid (show GetG w C ⟨8, 0, 0, 0, atN ws 1, numsN (sideAt ws 3), atN ws ((q : Int) + 1), [], 0⟩ a1 p1 none 0 (wr.setCell ⟨C, 6, none⟩ (.int .i64 (atN ws ((q : Int) + 1)))) from G1.out.setF_ .pay (atN ws ((q : Int) + 1)))
        have HV2 := Lib.hid (show Strs (wr.setCell ⟨C, 6, none⟩ (.int .i64 (atN ws ((q : Int) + 1)))) (.slice (some ⟨b, off, none⟩) ws.length cap) ws from HVr.out.grown (G1.out.2.2.setF_ .pay (atN ws ((q : Int) + 1))).2 G1.out.2.2.blk (cc_noText _ _ _ _ _))
        obtain ⟨GS, hgs⟩ : ∃ GS, GS = numsN (sideAt ws 3) := ⟨_, rfl⟩
        obtain ⟨PAY, hpay⟩ : ∃ PAY, PAY = atN ws ((q : Int) + 1) := ⟨_, rfl⟩
        rw [← hgs, ← hpay] at G2
        try rw [← hpay] at HV2
        try rw [← hpay]
        have HGS := Lib.hid hgs
        have HPAY := Lib.hid hpay
        clear hgs hpay
        generalize wr.setCell ⟨C, 6, none⟩ (.int .i64 PAY) = W1 at *
        go_loopw [8] (fun t wr => ∃ r : Nat, t = .int .i64 (r : Int) ∧ ∃ j : Nat, r = (i1 ws + 3) + j ∧ j ≤ (sideAt ws (i1 ws + 3)).length ∧ SideRel W1 C 7 #[.int .i64 8, .int .i64 0, .int .i64 0, .int .i64 0, .int .i64 (atN ws 1), .slice a1 GS.length p1, .int .i64 PAY, .slice none 0 0, .int .i64 0] (sideAt ws (i1 ws + 3)) j wr) (fun t _ => ws.length + 1000 - (intOf t).toNat)
        case atStart => exact ⟨q + 3, by go_num, 0, by have := HI1.out; omega, Nat.zero_le _, SideRel.start G2.out.2.2.blk rfl⟩
        case round =>
          obtain ⟨r, rfl, j, hq, hj, hr⟩ := hrel
          have HQb := Lib.hid hq
          clear hq
          by_cases hlt : j < (sideAt ws (i1 ws + 3)).length
          · obtain ⟨hi, hE, hne⟩ := side_go hlt
            obtain ⟨lv, h3, h4, h5, h6⟩ := hr
            have HVrb := Lib.hid (HV2.out.grown h3 G2.out.2.2.blk (cc_noText _ _ _ _ _))
            have c1 := HVrb.out.cellAt ((i1 ws + 3) + j) hi
            have HAb := Lib.hid (atN_of (List.getElem?_eq_getElem hi))
            generalize hy : ws[(i1 ws + 3) + j] = y at *
            clear hy
            rw [← HQb.out] at c1 hi HAb
            unfold str at c1
            have hne1 : (y != [99, 111, 105, 110, 115]) = true := by simpa [sCoins] using hne
            have hne2 : (y == [99, 111, 105, 110, 115]) = false := by simpa [sCoins] using hne
            have R3b := Lib.hid h3
            have R4b := Lib.hid h4
            have R5b := Lib.hid h5
            have HELb := Lib.hid hE
            clear h3 h4 h5 h6 hne hE
            have hsl := side_le ws (i1 ws + 3)
            obtain ⟨lv', W2, hrun, hown, hg, hm⟩ := append_int (W := wr.drew) R5b.out (numN y : Int) (by have := HL.out; omega) R3b.out.size
            obtain ⟨a2, cp2, rfl⟩ := int_slice hown
            have hown2 : W2.ownsRow W1.heap.size 3 1 (.slice a2 (j + 1) cp2) (j + 1) (((sideAt ws (i1 ws + 3)).take j).map nv ++ [nv (sideAt ws (i1 ws + 3))[j]]) := by rw [HELb.out]; exact hown
            have hCw := G2.out.2.2.blk.lt
            have b2 : Blk W2 C 24 _ := Blk.grow (W := wr.drew) R4b.out hg (row_ne R5b.out hCw)
            have L0 : wr.drew.cell? ⟨C, 7, none⟩ = some lv := Blk.cell (w := wr.drew) R4b.out 7
            have L1 : (wr.drew.alloc (.cells #[.int .i64 (numN y : Int)] 3)).cell? ⟨C, 7, none⟩ = some lv := (Blk.alloc (w := wr.drew) R4b.out _).cell 7
            have L4 : wr.cell? ⟨C, 7, none⟩ = some lv := L0
            have L5 : (wr.alloc (.cells #[.int .i64 (numN y : Int)] 3)).cell? ⟨C, 7, none⟩ = some lv := L1
            have L2 : W2.cell? ⟨C, 7, none⟩ = some lv := b2.cell 7
            have L3 := b2.frozen 7
            have HVdb := Lib.hid (show Strs wr.drew (.slice (some ⟨b, off, none⟩) ws.length cap) ws from HVrb.out)
            have HN2b := Lib.hid (side_step hCw hlt R3b.out R4b.out R5b.out hown2 ⟨hg.os, hg.tape, hg.output, hg.size, hg.block⟩)
            have HGb := Lib.hid hrun
            clear hrun hown hg hm hCw b2 hown2 hsl
            go_wp2_with fail
            clear c1 hne1 hne2
            refine wp_region_noPanic ?_
            refine wp_region_held_drew (S := (fun _ => True)) (by kernel_rfl) (by (first | (trivial))) (fun hHeld => ?_)
            refine wpAnyH_take (i := 0) (v := ?_) (by simp only [List.getElem?_toArray, List.getElem?_cons_zero]; rfl) (by kernel_rfl) (by kernel_rfl) (by kernel_rfl) (fun _ _ _ h => h) (Or.inl ⟨by rfl, ?_⟩) (by assumption) ?_
            rotate_left
            · (intro ww hSw; (try dsimp only at hSw); go_simp; (try with_reducible rfl))
            try simp only [Act.put, List.setIfInBounds_toArray, List.set_cons_zero, List.set_cons_succ]
            refine wpAnyH_take (i := 2) (v := ?_) (by simp only [List.getElem?_toArray, List.getElem?_cons_succ, List.getElem?_cons_zero]; rfl) (by kernel_rfl) (by kernel_rfl) (by kernel_rfl) (fun _ _ _ h => h) (Or.inl ⟨by rfl, ?_⟩) (by assumption) ?_
            rotate_left
            · (intro ww hSw; (try dsimp only at hSw); go_simp; (try with_reducible rfl))
            try simp only [Act.put, List.setIfInBounds_toArray, List.set_cons_zero, List.set_cons_succ]
            refine wpAnyH_take (i := 3) (v := ?_) (by simp only [List.getElem?_toArray, List.getElem?_cons_succ, List.getElem?_cons_zero]; rfl) (by kernel_rfl) (by kernel_rfl) (by kernel_rfl) (fun _ _ _ h => h) (Or.inl ⟨by rfl, ?_⟩) (by assumption) ?_
            rotate_left
            · (intro ww hSw; (try dsimp only at hSw); go_simp; (try with_reducible rfl))
            try simp only [Act.put, List.setIfInBounds_toArray, List.set_cons_zero, List.set_cons_succ]
            refine wpAnyH_ready (rs := [1, 4]) (by kernel_rfl) (by simp) (AllReadyH.cons (by simp only [List.getElem?_toArray, List.getElem?_cons_succ, List.getElem?_cons_zero]; rfl) (fun K hK => ?_) (AllReadyH.cons (by simp only [List.getElem?_toArray, List.getElem?_cons_succ, List.getElem?_cons_zero]; rfl) (fun K hK => ?_) AllReadyH.nil))
            ·
              go_simp
              try go_wp2_with fail
              refine hK.out _ _ (by (first | (trivial))) (fun hHeld => ?_)
              clear hK K
              try simp only [Act.put, List.setIfInBounds_toArray, List.set_cons_zero, List.set_cons_succ]
              refine wpAnyH_ready (rs := [4]) (by kernel_rfl) (by simp) (AllReadyH.cons (by simp only [List.getElem?_toArray, List.getElem?_cons_succ, List.getElem?_cons_zero]; rfl) (fun K hK => ?_) AllReadyH.nil)
              go_simp
              go_at_call 31
              refine (at_any r wr.drew HVdb.out HW.out.1 HW.out.2 (by omega) (by have := HL.out; omega)).mono ?_
              rintro e w' ⟨rfl, rfl⟩
              rw [HAb.out]
              try go_wp2_with fail
              refine hK.out _ _ trivial (fun hHeld => ?_)
              clear hK K
              try simp only [Act.put, List.setIfInBounds_toArray, List.set_cons_zero, List.set_cons_succ]
              refine wpAnyH_ready (rs := [5]) (by kernel_rfl) (by simp) (AllReadyH.cons (by simp only [List.getElem?_toArray, List.getElem?_cons_succ, List.getElem?_cons_zero]; rfl) (fun K hK => ?_) AllReadyH.nil)
              go_simp
              try go_wp2_with fail
              refine hK.out _ _ (by (first | (trivial))) (fun hHeld => ?_)
              clear hK K
              try simp only [Act.put, List.setIfInBounds_toArray, List.set_cons_zero, List.set_cons_succ]
              refine wpAnyH_ready (rs := [6]) (by kernel_rfl) (by simp) (AllReadyH.cons (by simp only [List.getElem?_toArray, List.getElem?_cons_succ, List.getElem?_cons_zero]; rfl) (fun K hK => ?_) AllReadyH.nil)
              refine step_append rfl (.tmp 122) (.tmp 126) 22 rfl lv _ (.slice a2 (j + 1) cp2) W2 rfl rfl HGb.out ?_
              refine hK.out _ _ (by (first | (trivial))) (fun hHeld => ?_)
              clear hK K
              try simp only [Act.put, List.setIfInBounds_toArray, List.set_cons_zero, List.set_cons_succ]
              refine wpAnyH_take (i := 7) (v := ?_) (by simp only [List.getElem?_toArray, List.getElem?_cons_succ, List.getElem?_cons_zero]; rfl) (by kernel_rfl) (by kernel_rfl) (by kernel_rfl) (fun _ _ _ h => h) (Or.inl ⟨by rfl, ?_⟩) (by assumption) ?_
              rotate_left
              · (intro ww hSw; (try dsimp only at hSw); go_simp; (try with_reducible rfl))
              try simp only [Act.put, List.setIfInBounds_toArray, List.set_cons_zero, List.set_cons_succ]
              refine wpAnyH_ready (rs := [8]) (by kernel_rfl) (by simp) (AllReadyH.cons (by simp only [List.getElem?_toArray, List.getElem?_cons_succ, List.getElem?_cons_zero]; rfl) (fun K hK => ?_) AllReadyH.nil)
              go_simp
              try go_wp2_with fail
              refine hK.out _ _ (by (first | (trivial))) (fun hHeld => ?_)
              clear hK K
              try simp only [Act.put, List.setIfInBounds_toArray, List.set_cons_zero, List.set_cons_succ]
              refine wpAnyH_done (by kernel_rfl) ?_ _
              refine NoPanic.normal ?_
              go_wp2_with fail
              go_roundw
              case rel => exact ⟨r + 1, by go_num, j + 1, by have := HQb.out; omega, by omega, HN2b.out⟩
              case measure => simp [intOf]; omega
            ·
              go_simp
              go_at_call 31
              refine (at_any r wr.drew HVdb.out HW.out.1 HW.out.2 (by omega) (by have := HL.out; omega)).mono ?_
              rintro e w' ⟨rfl, rfl⟩
              rw [HAb.out]
              try go_wp2_with fail
              refine hK.out _ _ trivial (fun hHeld => ?_)
              clear hK K
              try simp only [Act.put, List.setIfInBounds_toArray, List.set_cons_zero, List.set_cons_succ]
              refine wpAnyH_ready (rs := [1, 5]) (by kernel_rfl) (by simp) (AllReadyH.cons (by simp only [List.getElem?_toArray, List.getElem?_cons_succ, List.getElem?_cons_zero]; rfl) (fun K hK => ?_) (AllReadyH.cons (by simp only [List.getElem?_toArray, List.getElem?_cons_succ, List.getElem?_cons_zero]; rfl) (fun K hK => ?_) AllReadyH.nil))
              ·
                go_simp
                try go_wp2_with fail
                refine hK.out _ _ (by (first | (trivial))) (fun hHeld => ?_)
                clear hK K
                try simp only [Act.put, List.setIfInBounds_toArray, List.set_cons_zero, List.set_cons_succ]
                refine wpAnyH_ready (rs := [5]) (by kernel_rfl) (by simp) (AllReadyH.cons (by simp only [List.getElem?_toArray, List.getElem?_cons_succ, List.getElem?_cons_zero]; rfl) (fun K hK => ?_) AllReadyH.nil)
                go_simp
                try go_wp2_with fail
                refine hK.out _ _ (by (first | (trivial))) (fun hHeld => ?_)
                clear hK K
                try simp only [Act.put, List.setIfInBounds_toArray, List.set_cons_zero, List.set_cons_succ]
                refine wpAnyH_ready (rs := [6]) (by kernel_rfl) (by simp) (AllReadyH.cons (by simp only [List.getElem?_toArray, List.getElem?_cons_succ, List.getElem?_cons_zero]; rfl) (fun K hK => ?_) AllReadyH.nil)
                refine step_append rfl (.tmp 122) (.tmp 126) 22 rfl lv _ (.slice a2 (j + 1) cp2) W2 rfl rfl HGb.out ?_
                refine hK.out _ _ (by (first | (trivial))) (fun hHeld => ?_)
                clear hK K
                try simp only [Act.put, List.setIfInBounds_toArray, List.set_cons_zero, List.set_cons_succ]
                refine wpAnyH_take (i := 7) (v := ?_) (by simp only [List.getElem?_toArray, List.getElem?_cons_succ, List.getElem?_cons_zero]; rfl) (by kernel_rfl) (by kernel_rfl) (by kernel_rfl) (fun _ _ _ h => h) (Or.inl ⟨by rfl, ?_⟩) (by assumption) ?_
                rotate_left
                · (intro ww hSw; (try dsimp only at hSw); go_simp; (try with_reducible rfl))
                try simp only [Act.put, List.setIfInBounds_toArray, List.set_cons_zero, List.set_cons_succ]
                refine wpAnyH_ready (rs := [8]) (by kernel_rfl) (by simp) (AllReadyH.cons (by simp only [List.getElem?_toArray, List.getElem?_cons_succ, List.getElem?_cons_zero]; rfl) (fun K hK => ?_) AllReadyH.nil)
                go_simp
                try go_wp2_with fail
                refine hK.out _ _ (by (first | (trivial))) (fun hHeld => ?_)
                clear hK K
                try simp only [Act.put, List.setIfInBounds_toArray, List.set_cons_zero, List.set_cons_succ]
                refine wpAnyH_done (by kernel_rfl) ?_ _
                refine NoPanic.normal ?_
                go_wp2_with fail
                go_roundw
                case rel => exact ⟨r + 1, by go_num, j + 1, by have := HQb.out; omega, by omega, HN2b.out⟩
                case measure => simp [intOf]; omega
              ·
                go_simp
                try go_wp2_with fail
                refine hK.out _ _ (by (first | (trivial))) (fun hHeld => ?_)
                clear hK K
                try simp only [Act.put, List.setIfInBounds_toArray, List.set_cons_zero, List.set_cons_succ]
                refine wpAnyH_ready (rs := [1]) (by kernel_rfl) (by simp) (AllReadyH.cons (by simp only [List.getElem?_toArray, List.getElem?_cons_succ, List.getElem?_cons_zero]; rfl) (fun K hK => ?_) AllReadyH.nil)
                go_simp
                try go_wp2_with fail
                refine hK.out _ _ (by (first | (trivial))) (fun hHeld => ?_)
                clear hK K
                try simp only [Act.put, List.setIfInBounds_toArray, List.set_cons_zero, List.set_cons_succ]
                refine wpAnyH_ready (rs := [6]) (by kernel_rfl) (by simp) (AllReadyH.cons (by simp only [List.getElem?_toArray, List.getElem?_cons_succ, List.getElem?_cons_zero]; rfl) (fun K hK => ?_) AllReadyH.nil)
                refine step_append rfl (.tmp 122) (.tmp 126) 22 rfl lv _ (.slice a2 (j + 1) cp2) W2 rfl rfl HGb.out ?_
                refine hK.out _ _ (by (first | (trivial))) (fun hHeld => ?_)
                clear hK K
                try simp only [Act.put, List.setIfInBounds_toArray, List.set_cons_zero, List.set_cons_succ]
                refine wpAnyH_take (i := 7) (v := ?_) (by simp only [List.getElem?_toArray, List.getElem?_cons_succ, List.getElem?_cons_zero]; rfl) (by kernel_rfl) (by kernel_rfl) (by kernel_rfl) (fun _ _ _ h => h) (Or.inl ⟨by rfl, ?_⟩) (by assumption) ?_
                rotate_left
                · (intro ww hSw; (try dsimp only at hSw); go_simp; (try with_reducible rfl))
                try simp only [Act.put, List.setIfInBounds_toArray, List.set_cons_zero, List.set_cons_succ]
                refine wpAnyH_ready (rs := [8]) (by kernel_rfl) (by simp) (AllReadyH.cons (by simp only [List.getElem?_toArray, List.getElem?_cons_succ, List.getElem?_cons_zero]; rfl) (fun K hK => ?_) AllReadyH.nil)
                go_simp
                try go_wp2_with fail
                refine hK.out _ _ (by (first | (trivial))) (fun hHeld => ?_)
                clear hK K
                try simp only [Act.put, List.setIfInBounds_toArray, List.set_cons_zero, List.set_cons_succ]
                refine wpAnyH_done (by kernel_rfl) ?_ _
                refine NoPanic.normal ?_
                go_wp2_with fail
                go_roundw
                case rel => exact ⟨r + 1, by go_num, j + 1, by have := HQb.out; omega, by omega, HN2b.out⟩
                case measure => simp [intOf]; omega
          · have hje : j = (sideAt ws (i1 ws + 3)).length := by omega
            subst hje
            obtain ⟨a2, p2, hG3⟩ := side_done G2.out false hr (by have := HL.out; have := side_le ws (i1 ws + 3); omega)
            have G3 := Lib.hid (show GetG w C ⟨8, 0, 0, 0, atN ws 1, GS, PAY, numsN (sideAt ws (i1 ws + 3)), 0⟩ a1 p1 a2 p2 wr from hG3)
            obtain ⟨lv, h3, h4, h5, h6⟩ := hr
            have HVr2 := Lib.hid (HV2.out.grown h3 G2.out.2.2.blk (cc_noText _ _ _ _ _))
            have hrl : r ≤ 2000010 := by have := HQb.out; have := side_le ws (i1 ws + 3); have := side_le ws 3; have := HL.out; have h9 : i1 ws = 3 + (sideAt ws 3).length := rfl; omega
            have HI2 := Lib.hid (show r = i2 ws from HQb.out)
            have HSU := Lib.hid (side_stop ws (i1 ws + 3))
            clear h3 h4 h5 h6 hG3 hlt hj lv
            have K8 := G3.out.2.2.blk.cell 8
            have F8 := G3.out.2.2.blk.frozen 8
            rcases HSU.out with hi | ⟨hi, hco⟩
            · rw [← HQb.out] at hi
              have hi3 : ws.length ≤ r := by omega
              clear HSU
              go_wp2_with fail
              refine (at_any ((r : Int) + 1) _ HVr2.out HW.out.1 HW.out.2 (by omega) (by omega)).mono ?_
              rintro e w' ⟨rfl, rfl⟩
              clear K8 F8
              obtain ⟨WS, hws⟩ : ∃ WS, WS = numsN (sideAt ws (i1 ws + 3)) := ⟨_, rfl⟩
              obtain ⟨FEE, hfee⟩ : ∃ FEE, FEE = atN ws ((r : Int) + 1) := ⟨_, rfl⟩
              have G := Lib.hid (show GetG w C ⟨8, 0, 0, 0, atN ws 1, GS, PAY, WS, FEE⟩ a1 p1 a2 p2 (wr.setCell ⟨C, 8, none⟩ (.int .i64 FEE)) from by rw [hws, hfee]; exact G3.out.setF_ .fee (atN ws ((r : Int) + 1)))
              have HV := Lib.hid (show Strs (wr.setCell ⟨C, 8, none⟩ (.int .i64 FEE)) (.slice (some ⟨b, off, none⟩) ws.length cap) ws from by rw [hfee]; exact HVr2.out.grown (G3.out.2.2.setF_ .fee (atN ws ((r : Int) + 1))).2 G3.out.2.2.blk (cc_noText _ _ _ _ _))
              have HC := Lib.hid (show (⟨8, 0, 0, 0, atN ws 1, GS, PAY, WS, FEE⟩ : Cm) = guess ws by
                unfold guess; rw [HD.out, HK.out, hws, hfee, HGS.out, HPAY.out, HI2.out, HI1.out]; rfl)
              rw [← hfee]
              have K8 := G3.out.2.2.blk.cell 8
              have F8 := G3.out.2.2.blk.frozen 8
              have hcc := G.out.2.2.blk.cell
              clear hws hfee
              go_wp2_with fail
              refine (refmay_any ⟨8, 0, 0, 0, atN ws 1, GS, PAY, WS, FEE⟩ a1 a2 p1 p2 _ G.out.2.2.gi G.out.2.2.wi).mono ?_
              rintro e w3 ⟨rfl, b3⟩
              have G3 := Lib.hid (G.out.below b3)
              have HV3 := Lib.hid (HV.out.below b3)
              clear b3
              have hcc := G3.out.2.2.blk.cell
              have hres := G3.out.1.2.2.cell
              have hfr := G3.out.1.2.2.frozen
              unfold zeroCells at hres
              cases hm : refMayB ⟨8, 0, 0, 0, atN ws 1, GS, PAY, WS, FEE⟩
              · have HM := Lib.hid ((may_eq _).trans hm)
                clear hm
                go_wp2_with fail
                generalize hW : ((((((((w3.setCell ⟨w.heap.size, 0, none⟩ _).setCell ⟨w.heap.size, 1, none⟩ _).setCell ⟨w.heap.size, 2, none⟩ _).setCell ⟨w.heap.size, 3, none⟩ _).setCell ⟨w.heap.size, 4, none⟩ _).setCell ⟨w.heap.size, 5, none⟩ _).setCell ⟨w.heap.size, 6, none⟩ _).setCell ⟨w.heap.size, 7, none⟩ _).setCell ⟨w.heap.size, 8, none⟩ _ = W'
                obtain ⟨k1, k2⟩ := fin9 G3.out.1.2.2 _ _ _ _ _ _ _ _ _ hW.symm
                have hc := k1.cell
                refine bodyPost_ret (v := .tuple #[.agg #[.int .i64 0, .int .i64 0, .int .i64 0, .int .i64 0, .int .i64 0, .slice none 0 0, .int .i64 0, .slice none 0 0, .int .i64 0], .int .i64 2]) (by simp [results, Tryd.results14, go_sem, hc]) rfl ?_
                exact gets_no G3.out.1 ⟨k1, k2⟩ (by unfold refB; rw [← HC.out, HM.out]; rfl)
              · have HM := Lib.hid ((may_eq _).trans hm)
                clear hm
                go_wp2_with fail
                refine (refwords_any ⟨8, 0, 0, 0, atN ws 1, GS, PAY, WS, FEE⟩ a1 a2 p1 p2 _ HM.out G3.out.2.2.gi G3.out.2.2.wi).mono ?_
                rintro e w4 ⟨u, rfl, hu, b4⟩
                have G4 := Lib.hid (G3.out.below b4)
                have HV4 := Lib.hid (HV3.out.below b4)
                have HU := Lib.hid hu
                clear b4 hu hcc hres hfr
                go_wp2_with fail
                refine (strsame_any _ HU.out HV4.out).mono ?_
                rintro e w5 ⟨rfl, b5⟩
                have G5 := Lib.hid (G4.out.below b5)
                clear b5
                have hcc := G5.out.2.2.blk.cell
                have hres := G5.out.1.2.2.cell
                have hfr := G5.out.1.2.2.frozen
                unfold zeroCells at hres
                by_cases he : wordsOf ⟨8, 0, 0, 0, atN ws 1, GS, PAY, WS, FEE⟩ = ws
                · have HE := Lib.hid he
                  rw [decide_eq_true he]
                  clear he
                  go_wp2_with fail
                  generalize hW : ((((((((w5.setCell ⟨w.heap.size, 0, none⟩ _).setCell ⟨w.heap.size, 1, none⟩ _).setCell ⟨w.heap.size, 2, none⟩ _).setCell ⟨w.heap.size, 3, none⟩ _).setCell ⟨w.heap.size, 4, none⟩ _).setCell ⟨w.heap.size, 5, none⟩ _).setCell ⟨w.heap.size, 6, none⟩ _).setCell ⟨w.heap.size, 7, none⟩ _).setCell ⟨w.heap.size, 8, none⟩ _ = W'
                  obtain ⟨k1, k2⟩ := fin9 G5.out.1.2.2 _ _ _ _ _ _ _ _ _ hW.symm
                  have hc := k1.cell
                  refine bodyPost_ret (v := .tuple #[.agg #[.int .i64 8, .int .i64 0, .int .i64 0, .int .i64 0, .int .i64 (atN ws 1), .slice a1 GS.length p1, .int .i64 PAY, .slice a2 WS.length p2, .int .i64 FEE], .int .i64 0]) (by simp [results, Tryd.results14, go_sem, hc]) rfl ?_
                  exact gets_yes G5.out HC.out k2 (by unfold refB; rw [← HC.out, HM.out, HE.out]; simp)
                · have HE := Lib.hid he
                  rw [decide_eq_false he]
                  clear he
                  go_wp2_with fail
                  generalize hW : ((((((((w5.setCell ⟨w.heap.size, 0, none⟩ _).setCell ⟨w.heap.size, 1, none⟩ _).setCell ⟨w.heap.size, 2, none⟩ _).setCell ⟨w.heap.size, 3, none⟩ _).setCell ⟨w.heap.size, 4, none⟩ _).setCell ⟨w.heap.size, 5, none⟩ _).setCell ⟨w.heap.size, 6, none⟩ _).setCell ⟨w.heap.size, 7, none⟩ _).setCell ⟨w.heap.size, 8, none⟩ _ = W'
                  obtain ⟨k1, k2⟩ := fin9 G5.out.1.2.2 _ _ _ _ _ _ _ _ _ hW.symm
                  have hc := k1.cell
                  refine bodyPost_ret (v := .tuple #[.agg #[.int .i64 0, .int .i64 0, .int .i64 0, .int .i64 0, .int .i64 0, .slice none 0 0, .int .i64 0, .slice none 0 0, .int .i64 0], .int .i64 2]) (by simp [results, Tryd.results14, go_sem, hc]) rfl ?_
                  exact gets_no G5.out.1 ⟨k1, k2⟩ (by unfold refB; rw [← HC.out, decide_eq_false HE.out]; simp)
            · have c1 := HVr2.out.cellAt _ hi
              rw [hco, ← HQb.out] at c1
              rw [← HQb.out] at hi
              unfold str sCoins at c1
              clear HSU hco
              go_wp2_with fail
              refine (at_any ((r : Int) + 1) _ HVr2.out HW.out.1 HW.out.2 (by omega) (by omega)).mono ?_
              rintro e w' ⟨rfl, rfl⟩
              clear K8 F8
              obtain ⟨WS, hws⟩ : ∃ WS, WS = numsN (sideAt ws (i1 ws + 3)) := ⟨_, rfl⟩
              obtain ⟨FEE, hfee⟩ : ∃ FEE, FEE = atN ws ((r : Int) + 1) := ⟨_, rfl⟩
              have G := Lib.hid (show GetG w C ⟨8, 0, 0, 0, atN ws 1, GS, PAY, WS, FEE⟩ a1 p1 a2 p2 (wr.setCell ⟨C, 8, none⟩ (.int .i64 FEE)) from by rw [hws, hfee]; exact G3.out.setF_ .fee (atN ws ((r : Int) + 1)))
              have HV := Lib.hid (show Strs (wr.setCell ⟨C, 8, none⟩ (.int .i64 FEE)) (.slice (some ⟨b, off, none⟩) ws.length cap) ws from by rw [hfee]; exact HVr2.out.grown (G3.out.2.2.setF_ .fee (atN ws ((r : Int) + 1))).2 G3.out.2.2.blk (cc_noText _ _ _ _ _))
              have HC := Lib.hid (show (⟨8, 0, 0, 0, atN ws 1, GS, PAY, WS, FEE⟩ : Cm) = guess ws by
                unfold guess; rw [HD.out, HK.out, hws, hfee, HGS.out, HPAY.out, HI2.out, HI1.out]; rfl)
              rw [← hfee]
              have K8 := G3.out.2.2.blk.cell 8
              have F8 := G3.out.2.2.blk.frozen 8
              have hcc := G.out.2.2.blk.cell
              clear hws hfee
              go_wp2_with fail
              refine (refmay_any ⟨8, 0, 0, 0, atN ws 1, GS, PAY, WS, FEE⟩ a1 a2 p1 p2 _ G.out.2.2.gi G.out.2.2.wi).mono ?_
              rintro e w3 ⟨rfl, b3⟩
              have G3 := Lib.hid (G.out.below b3)
              have HV3 := Lib.hid (HV.out.below b3)
              clear b3
              have hcc := G3.out.2.2.blk.cell
              have hres := G3.out.1.2.2.cell
              have hfr := G3.out.1.2.2.frozen
              unfold zeroCells at hres
              cases hm : refMayB ⟨8, 0, 0, 0, atN ws 1, GS, PAY, WS, FEE⟩
              · have HM := Lib.hid ((may_eq _).trans hm)
                clear hm
                go_wp2_with fail
                generalize hW : ((((((((w3.setCell ⟨w.heap.size, 0, none⟩ _).setCell ⟨w.heap.size, 1, none⟩ _).setCell ⟨w.heap.size, 2, none⟩ _).setCell ⟨w.heap.size, 3, none⟩ _).setCell ⟨w.heap.size, 4, none⟩ _).setCell ⟨w.heap.size, 5, none⟩ _).setCell ⟨w.heap.size, 6, none⟩ _).setCell ⟨w.heap.size, 7, none⟩ _).setCell ⟨w.heap.size, 8, none⟩ _ = W'
                obtain ⟨k1, k2⟩ := fin9 G3.out.1.2.2 _ _ _ _ _ _ _ _ _ hW.symm
                have hc := k1.cell
                refine bodyPost_ret (v := .tuple #[.agg #[.int .i64 0, .int .i64 0, .int .i64 0, .int .i64 0, .int .i64 0, .slice none 0 0, .int .i64 0, .slice none 0 0, .int .i64 0], .int .i64 2]) (by simp [results, Tryd.results14, go_sem, hc]) rfl ?_
                exact gets_no G3.out.1 ⟨k1, k2⟩ (by unfold refB; rw [← HC.out, HM.out]; rfl)
              · have HM := Lib.hid ((may_eq _).trans hm)
                clear hm
                go_wp2_with fail
                refine (refwords_any ⟨8, 0, 0, 0, atN ws 1, GS, PAY, WS, FEE⟩ a1 a2 p1 p2 _ HM.out G3.out.2.2.gi G3.out.2.2.wi).mono ?_
                rintro e w4 ⟨u, rfl, hu, b4⟩
                have G4 := Lib.hid (G3.out.below b4)
                have HV4 := Lib.hid (HV3.out.below b4)
                have HU := Lib.hid hu
                clear b4 hu hcc hres hfr
                go_wp2_with fail
                refine (strsame_any _ HU.out HV4.out).mono ?_
                rintro e w5 ⟨rfl, b5⟩
                have G5 := Lib.hid (G4.out.below b5)
                clear b5
                have hcc := G5.out.2.2.blk.cell
                have hres := G5.out.1.2.2.cell
                have hfr := G5.out.1.2.2.frozen
                unfold zeroCells at hres
                by_cases he : wordsOf ⟨8, 0, 0, 0, atN ws 1, GS, PAY, WS, FEE⟩ = ws
                · have HE := Lib.hid he
                  rw [decide_eq_true he]
                  clear he
                  go_wp2_with fail
                  generalize hW : ((((((((w5.setCell ⟨w.heap.size, 0, none⟩ _).setCell ⟨w.heap.size, 1, none⟩ _).setCell ⟨w.heap.size, 2, none⟩ _).setCell ⟨w.heap.size, 3, none⟩ _).setCell ⟨w.heap.size, 4, none⟩ _).setCell ⟨w.heap.size, 5, none⟩ _).setCell ⟨w.heap.size, 6, none⟩ _).setCell ⟨w.heap.size, 7, none⟩ _).setCell ⟨w.heap.size, 8, none⟩ _ = W'
                  obtain ⟨k1, k2⟩ := fin9 G5.out.1.2.2 _ _ _ _ _ _ _ _ _ hW.symm
                  have hc := k1.cell
                  refine bodyPost_ret (v := .tuple #[.agg #[.int .i64 8, .int .i64 0, .int .i64 0, .int .i64 0, .int .i64 (atN ws 1), .slice a1 GS.length p1, .int .i64 PAY, .slice a2 WS.length p2, .int .i64 FEE], .int .i64 0]) (by simp [results, Tryd.results14, go_sem, hc]) rfl ?_
                  exact gets_yes G5.out HC.out k2 (by unfold refB; rw [← HC.out, HM.out, HE.out]; simp)
                · have HE := Lib.hid he
                  rw [decide_eq_false he]
                  clear he
                  go_wp2_with fail
                  generalize hW : ((((((((w5.setCell ⟨w.heap.size, 0, none⟩ _).setCell ⟨w.heap.size, 1, none⟩ _).setCell ⟨w.heap.size, 2, none⟩ _).setCell ⟨w.heap.size, 3, none⟩ _).setCell ⟨w.heap.size, 4, none⟩ _).setCell ⟨w.heap.size, 5, none⟩ _).setCell ⟨w.heap.size, 6, none⟩ _).setCell ⟨w.heap.size, 7, none⟩ _).setCell ⟨w.heap.size, 8, none⟩ _ = W'
                  obtain ⟨k1, k2⟩ := fin9 G5.out.1.2.2 _ _ _ _ _ _ _ _ _ hW.symm
                  have hc := k1.cell
                  refine bodyPost_ret (v := .tuple #[.agg #[.int .i64 0, .int .i64 0, .int .i64 0, .int .i64 0, .int .i64 0, .slice none 0 0, .int .i64 0, .slice none 0 0, .int .i64 0], .int .i64 2]) (by simp [results, Tryd.results14, go_sem, hc]) rfl ?_
                  exact gets_no G5.out.1 ⟨k1, k2⟩ (by unfold refB; rw [← HC.out, decide_eq_false HE.out]; simp)
      · have c1 := HVr.out.cellAt _ hi
        rw [hco, ← HQ.out] at c1
        rw [← HQ.out] at hi
        unfold str sCoins at c1
        clear HST hco
        go_wp2_with fail
        refine (at_any ((q : Int) + 1) _ HVr.out HW.out.1 HW.out.2 (by omega) (by omega)).mono ?_
        rintro e w' ⟨rfl, rfl⟩
        go_wp2_with fail
        clear K6 F6
        have G2 := Lib.hid (show GetG w C ⟨8, 0, 0, 0, atN ws 1, numsN (sideAt ws 3), atN ws ((q : Int) + 1), [], 0⟩ a1 p1 none 0 (wr.setCell ⟨C, 6, none⟩ (.int .i64 (atN ws ((q : Int) + 1)))) from G1.out.setF_ .pay (atN ws ((q : Int) + 1)))
        have HV2 := Lib.hid (show Strs (wr.setCell ⟨C, 6, none⟩ (.int .i64 (atN ws ((q : Int) + 1)))) (.slice (some ⟨b, off, none⟩) ws.length cap) ws from HVr.out.grown (G1.out.2.2.setF_ .pay (atN ws ((q : Int) + 1))).2 G1.out.2.2.blk (cc_noText _ _ _ _ _))
        obtain ⟨GS, hgs⟩ : ∃ GS, GS = numsN (sideAt ws 3) := ⟨_, rfl⟩
        obtain ⟨PAY, hpay⟩ : ∃ PAY, PAY = atN ws ((q : Int) + 1) := ⟨_, rfl⟩
        rw [← hgs, ← hpay] at G2
        try rw [← hpay] at HV2
        try rw [← hpay]
        have HGS := Lib.hid hgs
        have HPAY := Lib.hid hpay
        clear hgs hpay
        generalize wr.setCell ⟨C, 6, none⟩ (.int .i64 PAY) = W1 at *
        go_loopw [8] (fun t wr => ∃ r : Nat, t = .int .i64 (r : Int) ∧ ∃ j : Nat, r = (i1 ws + 3) + j ∧ j ≤ (sideAt ws (i1 ws + 3)).length ∧ SideRel W1 C 7 #[.int .i64 8, .int .i64 0, .int .i64 0, .int .i64 0, .int .i64 (atN ws 1), .slice a1 GS.length p1, .int .i64 PAY, .slice none 0 0, .int .i64 0] (sideAt ws (i1 ws + 3)) j wr) (fun t _ => ws.length + 1000 - (intOf t).toNat)
        case atStart => exact ⟨q + 3, by go_num, 0, by have := HI1.out; omega, Nat.zero_le _, SideRel.start G2.out.2.2.blk rfl⟩
        case round =>
          obtain ⟨r, rfl, j, hq, hj, hr⟩ := hrel
          have HQb := Lib.hid hq
          clear hq
          by_cases hlt : j < (sideAt ws (i1 ws + 3)).length
          · obtain ⟨hi, hE, hne⟩ := side_go hlt
            obtain ⟨lv, h3, h4, h5, h6⟩ := hr
            have HVrb := Lib.hid (HV2.out.grown h3 G2.out.2.2.blk (cc_noText _ _ _ _ _))
            have c1 := HVrb.out.cellAt ((i1 ws + 3) + j) hi
            have HAb := Lib.hid (atN_of (List.getElem?_eq_getElem hi))
            generalize hy : ws[(i1 ws + 3) + j] = y at *
            clear hy
            rw [← HQb.out] at c1 hi HAb
            unfold str at c1
            have hne1 : (y != [99, 111, 105, 110, 115]) = true := by simpa [sCoins] using hne
            have hne2 : (y == [99, 111, 105, 110, 115]) = false := by simpa [sCoins] using hne
            have R3b := Lib.hid h3
            have R4b := Lib.hid h4
            have R5b := Lib.hid h5
            have HELb := Lib.hid hE
            clear h3 h4 h5 h6 hne hE
            have hsl := side_le ws (i1 ws + 3)
            obtain ⟨lv', W2, hrun, hown, hg, hm⟩ := append_int (W := wr.drew) R5b.out (numN y : Int) (by have := HL.out; omega) R3b.out.size
            obtain ⟨a2, cp2, rfl⟩ := int_slice hown
            have hown2 : W2.ownsRow W1.heap.size 3 1 (.slice a2 (j + 1) cp2) (j + 1) (((sideAt ws (i1 ws + 3)).take j).map nv ++ [nv (sideAt ws (i1 ws + 3))[j]]) := by rw [HELb.out]; exact hown
            have hCw := G2.out.2.2.blk.lt
            have b2 : Blk W2 C 24 _ := Blk.grow (W := wr.drew) R4b.out hg (row_ne R5b.out hCw)
            have L0 : wr.drew.cell? ⟨C, 7, none⟩ = some lv := Blk.cell (w := wr.drew) R4b.out 7
            have L1 : (wr.drew.alloc (.cells #[.int .i64 (numN y : Int)] 3)).cell? ⟨C, 7, none⟩ = some lv := (Blk.alloc (w := wr.drew) R4b.out _).cell 7
            have L4 : wr.cell? ⟨C, 7, none⟩ = some lv := L0
            have L5 : (wr.alloc (.cells #[.int .i64 (numN y : Int)] 3)).cell? ⟨C, 7, none⟩ = some lv := L1
            have L2 : W2.cell? ⟨C, 7, none⟩ = some lv := b2.cell 7
            have L3 := b2.frozen 7
            have HVdb := Lib.hid (show Strs wr.drew (.slice (some ⟨b, off, none⟩) ws.length cap) ws from HVrb.out)
            have HN2b := Lib.hid (side_step hCw hlt R3b.out R4b.out R5b.out hown2 ⟨hg.os, hg.tape, hg.output, hg.size, hg.block⟩)
            have HGb := Lib.hid hrun
            clear hrun hown hg hm hCw b2 hown2 hsl
            go_wp2_with fail
            clear c1 hne1 hne2
            refine wp_region_noPanic ?_
            refine wp_region_held_drew (S := (fun _ => True)) (by kernel_rfl) (by (first | (trivial))) (fun hHeld => ?_)
            refine wpAnyH_take (i := 0) (v := ?_) (by simp only [List.getElem?_toArray, List.getElem?_cons_zero]; rfl) (by kernel_rfl) (by kernel_rfl) (by kernel_rfl) (fun _ _ _ h => h) (Or.inl ⟨by rfl, ?_⟩) (by assumption) ?_
            rotate_left
            · (intro ww hSw; (try dsimp only at hSw); go_simp; (try with_reducible rfl))
            try simp only [Act.put, List.setIfInBounds_toArray, List.set_cons_zero, List.set_cons_succ]
            refine wpAnyH_take (i := 2) (v := ?_) (by simp only [List.getElem?_toArray, List.getElem?_cons_succ, List.getElem?_cons_zero]; rfl) (by kernel_rfl) (by kernel_rfl) (by kernel_rfl) (fun _ _ _ h => h) (Or.inl ⟨by rfl, ?_⟩) (by assumption) ?_
            rotate_left
            · (intro ww hSw; (try dsimp only at hSw); go_simp; (try with_reducible rfl))
            try simp only [Act.put, List.setIfInBounds_toArray, List.set_cons_zero, List.set_cons_succ]
            refine wpAnyH_take (i := 3) (v := ?_) (by simp only [List.getElem?_toArray, List.getElem?_cons_succ, List.getElem?_cons_zero]; rfl) (by kernel_rfl) (by kernel_rfl) (by kernel_rfl) (fun _ _ _ h => h) (Or.inl ⟨by rfl, ?_⟩) (by assumption) ?_
            rotate_left
            · (intro ww hSw; (try dsimp only at hSw); go_simp; (try with_reducible rfl))
            try simp only [Act.put, List.setIfInBounds_toArray, List.set_cons_zero, List.set_cons_succ]
            refine wpAnyH_ready (rs := [1, 4]) (by kernel_rfl) (by simp) (AllReadyH.cons (by simp only [List.getElem?_toArray, List.getElem?_cons_succ, List.getElem?_cons_zero]; rfl) (fun K hK => ?_) (AllReadyH.cons (by simp only [List.getElem?_toArray, List.getElem?_cons_succ, List.getElem?_cons_zero]; rfl) (fun K hK => ?_) AllReadyH.nil))
            ·
              go_simp
              try go_wp2_with fail
              refine hK.out _ _ (by (first | (trivial))) (fun hHeld => ?_)
              clear hK K
              try simp only [Act.put, List.setIfInBounds_toArray, List.set_cons_zero, List.set_cons_succ]
              refine wpAnyH_ready (rs := [4]) (by kernel_rfl) (by simp) (AllReadyH.cons (by simp only [List.getElem?_toArray, List.getElem?_cons_succ, List.getElem?_cons_zero]; rfl) (fun K hK => ?_) AllReadyH.nil)
              go_simp
              go_at_call 31
              refine (at_any r wr.drew HVdb.out HW.out.1 HW.out.2 (by omega) (by have := HL.out; omega)).mono ?_
              rintro e w' ⟨rfl, rfl⟩
              rw [HAb.out]
              try go_wp2_with fail
              refine hK.out _ _ trivial (fun hHeld => ?_)
              clear hK K
              try simp only [Act.put, List.setIfInBounds_toArray, List.set_cons_zero, List.set_cons_succ]
              refine wpAnyH_ready (rs := [5]) (by kernel_rfl) (by simp) (AllReadyH.cons (by simp only [List.getElem?_toArray, List.getElem?_cons_succ, List.getElem?_cons_zero]; rfl) (fun K hK => ?_) AllReadyH.nil)
              go_simp
              try go_wp2_with fail
              refine hK.out _ _ (by (first | (trivial))) (fun hHeld => ?_)
              clear hK K
              try simp only [Act.put, List.setIfInBounds_toArray, List.set_cons_zero, List.set_cons_succ]
              refine wpAnyH_ready (rs := [6]) (by kernel_rfl) (by simp) (AllReadyH.cons (by simp only [List.getElem?_toArray, List.getElem?_cons_succ, List.getElem?_cons_zero]; rfl) (fun K hK => ?_) AllReadyH.nil)
              refine step_append rfl (.tmp 122) (.tmp 126) 22 rfl lv _ (.slice a2 (j + 1) cp2) W2 rfl rfl HGb.out ?_
              refine hK.out _ _ (by (first | (trivial))) (fun hHeld => ?_)
              clear hK K
              try simp only [Act.put, List.setIfInBounds_toArray, List.set_cons_zero, List.set_cons_succ]
              refine wpAnyH_take (i := 7) (v := ?_) (by simp only [List.getElem?_toArray, List.getElem?_cons_succ, List.getElem?_cons_zero]; rfl) (by kernel_rfl) (by kernel_rfl) (by kernel_rfl) (fun _ _ _ h => h) (Or.inl ⟨by rfl, ?_⟩) (by assumption) ?_
              rotate_left
              · (intro ww hSw; (try dsimp only at hSw); go_simp; (try with_reducible rfl))
              try simp only [Act.put, List.setIfInBounds_toArray, List.set_cons_zero, List.set_cons_succ]
              refine wpAnyH_ready (rs := [8]) (by kernel_rfl) (by simp) (AllReadyH.cons (by simp only [List.getElem?_toArray, List.getElem?_cons_succ, List.getElem?_cons_zero]; rfl) (fun K hK => ?_) AllReadyH.nil)
              go_simp
              try go_wp2_with fail
              refine hK.out _ _ (by (first | (trivial))) (fun hHeld => ?_)
              clear hK K
              try simp only [Act.put, List.setIfInBounds_toArray, List.set_cons_zero, List.set_cons_succ]
              refine wpAnyH_done (by kernel_rfl) ?_ _
              refine NoPanic.normal ?_
              go_wp2_with fail
              go_roundw
              case rel => exact ⟨r + 1, by go_num, j + 1, by have := HQb.out; omega, by omega, HN2b.out⟩
              case measure => simp [intOf]; omega
            ·
              go_simp
              go_at_call 31
              refine (at_any r wr.drew HVdb.out HW.out.1 HW.out.2 (by omega) (by have := HL.out; omega)).mono ?_
              rintro e w' ⟨rfl, rfl⟩
              rw [HAb.out]
              try go_wp2_with fail
              refine hK.out _ _ trivial (fun hHeld => ?_)
              clear hK K
              try simp only [Act.put, List.setIfInBounds_toArray, List.set_cons_zero, List.set_cons_succ]
              refine wpAnyH_ready (rs := [1, 5]) (by kernel_rfl) (by simp) (AllReadyH.cons (by simp only [List.getElem?_toArray, List.getElem?_cons_succ, List.getElem?_cons_zero]; rfl) (fun K hK => ?_) (AllReadyH.cons (by simp only [List.getElem?_toArray, List.getElem?_cons_succ, List.getElem?_cons_zero]; rfl) (fun K hK => ?_) AllReadyH.nil))
              ·
                go_simp
                try go_wp2_with fail
                refine hK.out _ _ (by (first | (trivial))) (fun hHeld => ?_)
                clear hK K
                try simp only [Act.put, List.setIfInBounds_toArray, List.set_cons_zero, List.set_cons_succ]
                refine wpAnyH_ready (rs := [5]) (by kernel_rfl) (by simp) (AllReadyH.cons (by simp only [List.getElem?_toArray, List.getElem?_cons_succ, List.getElem?_cons_zero]; rfl) (fun K hK => ?_) AllReadyH.nil)
                go_simp
                try go_wp2_with fail
                refine hK.out _ _ (by (first | (trivial))) (fun hHeld => ?_)
                clear hK K
                try simp only [Act.put, List.setIfInBounds_toArray, List.set_cons_zero, List.set_cons_succ]
                refine wpAnyH_ready (rs := [6]) (by kernel_rfl) (by simp) (AllReadyH.cons (by simp only [List.getElem?_toArray, List.getElem?_cons_succ, List.getElem?_cons_zero]; rfl) (fun K hK => ?_) AllReadyH.nil)
                refine step_append rfl (.tmp 122) (.tmp 126) 22 rfl lv _ (.slice a2 (j + 1) cp2) W2 rfl rfl HGb.out ?_
                refine hK.out _ _ (by (first | (trivial))) (fun hHeld => ?_)
                clear hK K
                try simp only [Act.put, List.setIfInBounds_toArray, List.set_cons_zero, List.set_cons_succ]
                refine wpAnyH_take (i := 7) (v := ?_) (by simp only [List.getElem?_toArray, List.getElem?_cons_succ, List.getElem?_cons_zero]; rfl) (by kernel_rfl) (by kernel_rfl) (by kernel_rfl) (fun _ _ _ h => h) (Or.inl ⟨by rfl, ?_⟩) (by assumption) ?_
                rotate_left
                · (intro ww hSw; (try dsimp only at hSw); go_simp; (try with_reducible rfl))
                try simp only [Act.put, List.setIfInBounds_toArray, List.set_cons_zero, List.set_cons_succ]
                refine wpAnyH_ready (rs := [8]) (by kernel_rfl) (by simp) (AllReadyH.cons (by simp only [List.getElem?_toArray, List.getElem?_cons_succ, List.getElem?_cons_zero]; rfl) (fun K hK => ?_) AllReadyH.nil)
                go_simp
                try go_wp2_with fail
                refine hK.out _ _ (by (first | (trivial))) (fun hHeld => ?_)
                clear hK K
                try simp only [Act.put, List.setIfInBounds_toArray, List.set_cons_zero, List.set_cons_succ]
                refine wpAnyH_done (by kernel_rfl) ?_ _
                refine NoPanic.normal ?_
                go_wp2_with fail
                go_roundw
                case rel => exact ⟨r + 1, by go_num, j + 1, by have := HQb.out; omega, by omega, HN2b.out⟩
                case measure => simp [intOf]; omega
              ·
                go_simp
                try go_wp2_with fail
                refine hK.out _ _ (by (first | (trivial))) (fun hHeld => ?_)
                clear hK K
                try simp only [Act.put, List.setIfInBounds_toArray, List.set_cons_zero, List.set_cons_succ]
                refine wpAnyH_ready (rs := [1]) (by kernel_rfl) (by simp) (AllReadyH.cons (by simp only [List.getElem?_toArray, List.getElem?_cons_succ, List.getElem?_cons_zero]; rfl) (fun K hK => ?_) AllReadyH.nil)
                go_simp
                try go_wp2_with fail
                refine hK.out _ _ (by (first | (trivial))) (fun hHeld => ?_)
                clear hK K
                try simp only [Act.put, List.setIfInBounds_toArray, List.set_cons_zero, List.set_cons_succ]
                refine wpAnyH_ready (rs := [6]) (by kernel_rfl) (by simp) (AllReadyH.cons (by simp only [List.getElem?_toArray, List.getElem?_cons_succ, List.getElem?_cons_zero]; rfl) (fun K hK => ?_) AllReadyH.nil)
                refine step_append rfl (.tmp 122) (.tmp 126) 22 rfl lv _ (.slice a2 (j + 1) cp2) W2 rfl rfl HGb.out ?_
                refine hK.out _ _ (by (first | (trivial))) (fun hHeld => ?_)
                clear hK K
                try simp only [Act.put, List.setIfInBounds_toArray, List.set_cons_zero, List.set_cons_succ]
                refine wpAnyH_take (i := 7) (v := ?_) (by simp only [List.getElem?_toArray, List.getElem?_cons_succ, List.getElem?_cons_zero]; rfl) (by kernel_rfl) (by kernel_rfl) (by kernel_rfl) (fun _ _ _ h => h) (Or.inl ⟨by rfl, ?_⟩) (by assumption) ?_
                rotate_left
                · (intro ww hSw; (try dsimp only at hSw); go_simp; (try with_reducible rfl))
                try simp only [Act.put, List.setIfInBounds_toArray, List.set_cons_zero, List.set_cons_succ]
                refine wpAnyH_ready (rs := [8]) (by kernel_rfl) (by simp) (AllReadyH.cons (by simp only [List.getElem?_toArray, List.getElem?_cons_succ, List.getElem?_cons_zero]; rfl) (fun K hK => ?_) AllReadyH.nil)
                go_simp
                try go_wp2_with fail
                refine hK.out _ _ (by (first | (trivial))) (fun hHeld => ?_)
                clear hK K
                try simp only [Act.put, List.setIfInBounds_toArray, List.set_cons_zero, List.set_cons_succ]
                refine wpAnyH_done (by kernel_rfl) ?_ _
                refine NoPanic.normal ?_
                go_wp2_with fail
                go_roundw
                case rel => exact ⟨r + 1, by go_num, j + 1, by have := HQb.out; omega, by omega, HN2b.out⟩
                case measure => simp [intOf]; omega
          · have hje : j = (sideAt ws (i1 ws + 3)).length := by omega
            subst hje
            obtain ⟨a2, p2, hG3⟩ := side_done G2.out false hr (by have := HL.out; have := side_le ws (i1 ws + 3); omega)
            have G3 := Lib.hid (show GetG w C ⟨8, 0, 0, 0, atN ws 1, GS, PAY, numsN (sideAt ws (i1 ws + 3)), 0⟩ a1 p1 a2 p2 wr from hG3)
            obtain ⟨lv, h3, h4, h5, h6⟩ := hr
            have HVr2 := Lib.hid (HV2.out.grown h3 G2.out.2.2.blk (cc_noText _ _ _ _ _))
            have hrl : r ≤ 2000010 := by have := HQb.out; have := side_le ws (i1 ws + 3); have := side_le ws 3; have := HL.out; have h9 : i1 ws = 3 + (sideAt ws 3).length := rfl; omega
            have HI2 := Lib.hid (show r = i2 ws from HQb.out)
            have HSU := Lib.hid (side_stop ws (i1 ws + 3))
            clear h3 h4 h5 h6 hG3 hlt hj lv
            have K8 := G3.out.2.2.blk.cell 8
            have F8 := G3.out.2.2.blk.frozen 8
            rcases HSU.out with hi | ⟨hi, hco⟩
            · rw [← HQb.out] at hi
              have hi3 : ws.length ≤ r := by omega
              clear HSU
              go_wp2_with fail
              refine (at_any ((r : Int) + 1) _ HVr2.out HW.out.1 HW.out.2 (by omega) (by omega)).mono ?_
              rintro e w' ⟨rfl, rfl⟩
              clear K8 F8
              obtain ⟨WS, hws⟩ : ∃ WS, WS = numsN (sideAt ws (i1 ws + 3)) := ⟨_, rfl⟩
              obtain ⟨FEE, hfee⟩ : ∃ FEE, FEE = atN ws ((r : Int) + 1) := ⟨_, rfl⟩
              have G := Lib.hid (show GetG w C ⟨8, 0, 0, 0, atN ws 1, GS, PAY, WS, FEE⟩ a1 p1 a2 p2 (wr.setCell ⟨C, 8, none⟩ (.int .i64 FEE)) from by rw [hws, hfee]; exact G3.out.setF_ .fee (atN ws ((r : Int) + 1)))
              have HV := Lib.hid (show Strs (wr.setCell ⟨C, 8, none⟩ (.int .i64 FEE)) (.slice (some ⟨b, off, none⟩) ws.length cap) ws from by rw [hfee]; exact HVr2.out.grown (G3.out.2.2.setF_ .fee (atN ws ((r : Int) + 1))).2 G3.out.2.2.blk (cc_noText _ _ _ _ _))
              have HC := Lib.hid (show (⟨8, 0, 0, 0, atN ws 1, GS, PAY, WS, FEE⟩ : Cm) = guess ws by
                unfold guess; rw [HD.out, HK.out, hws, hfee, HGS.out, HPAY.out, HI2.out, HI1.out]; rfl)
              rw [← hfee]
              have K8 := G3.out.2.2.blk.cell 8
              have F8 := G3.out.2.2.blk.frozen 8
              have hcc := G.out.2.2.blk.cell
              clear hws hfee
              go_wp2_with fail
              refine (refmay_any ⟨8, 0, 0, 0, atN ws 1, GS, PAY, WS, FEE⟩ a1 a2 p1 p2 _ G.out.2.2.gi G.out.2.2.wi).mono ?_
              rintro e w3 ⟨rfl, b3⟩
              have G3 := Lib.hid (G.out.below b3)
              have HV3 := Lib.hid (HV.out.below b3)
              clear b3
              have hcc := G3.out.2.2.blk.cell
              have hres := G3.out.1.2.2.cell
              have hfr := G3.out.1.2.2.frozen
              unfold zeroCells at hres
              cases hm : refMayB ⟨8, 0, 0, 0, atN ws 1, GS, PAY, WS, FEE⟩
              · have HM := Lib.hid ((may_eq _).trans hm)
                clear hm
                go_wp2_with fail
                generalize hW : ((((((((w3.setCell ⟨w.heap.size, 0, none⟩ _).setCell ⟨w.heap.size, 1, none⟩ _).setCell ⟨w.heap.size, 2, none⟩ _).setCell ⟨w.heap.size, 3, none⟩ _).setCell ⟨w.heap.size, 4, none⟩ _).setCell ⟨w.heap.size, 5, none⟩ _).setCell ⟨w.heap.size, 6, none⟩ _).setCell ⟨w.heap.size, 7, none⟩ _).setCell ⟨w.heap.size, 8, none⟩ _ = W'
                obtain ⟨k1, k2⟩ := fin9 G3.out.1.2.2 _ _ _ _ _ _ _ _ _ hW.symm
                have hc := k1.cell
                refine bodyPost_ret (v := .tuple #[.agg #[.int .i64 0, .int .i64 0, .int .i64 0, .int .i64 0, .int .i64 0, .slice none 0 0, .int .i64 0, .slice none 0 0, .int .i64 0], .int .i64 2]) (by simp [results, Tryd.results14, go_sem, hc]) rfl ?_
                exact gets_no G3.out.1 ⟨k1, k2⟩ (by unfold refB; rw [← HC.out, HM.out]; rfl)
              · have HM := Lib.hid ((may_eq _).trans hm)
                clear hm
                go_wp2_with fail
                refine (refwords_any ⟨8, 0, 0, 0, atN ws 1, GS, PAY, WS, FEE⟩ a1 a2 p1 p2 _ HM.out G3.out.2.2.gi G3.out.2.2.wi).mono ?_
                rintro e w4 ⟨u, rfl, hu, b4⟩
                have G4 := Lib.hid (G3.out.below b4)
                have HV4 := Lib.hid (HV3.out.below b4)
                have HU := Lib.hid hu
                clear b4 hu hcc hres hfr
                go_wp2_with fail
                refine (strsame_any _ HU.out HV4.out).mono ?_
                rintro e w5 ⟨rfl, b5⟩
                have G5 := Lib.hid (G4.out.below b5)
                clear b5
                have hcc := G5.out.2.2.blk.cell
                have hres := G5.out.1.2.2.cell
                have hfr := G5.out.1.2.2.frozen
                unfold zeroCells at hres
                by_cases he : wordsOf ⟨8, 0, 0, 0, atN ws 1, GS, PAY, WS, FEE⟩ = ws
                · have HE := Lib.hid he
                  rw [decide_eq_true he]
                  clear he
                  go_wp2_with fail
                  generalize hW : ((((((((w5.setCell ⟨w.heap.size, 0, none⟩ _).setCell ⟨w.heap.size, 1, none⟩ _).setCell ⟨w.heap.size, 2, none⟩ _).setCell ⟨w.heap.size, 3, none⟩ _).setCell ⟨w.heap.size, 4, none⟩ _).setCell ⟨w.heap.size, 5, none⟩ _).setCell ⟨w.heap.size, 6, none⟩ _).setCell ⟨w.heap.size, 7, none⟩ _).setCell ⟨w.heap.size, 8, none⟩ _ = W'
                  obtain ⟨k1, k2⟩ := fin9 G5.out.1.2.2 _ _ _ _ _ _ _ _ _ hW.symm
                  have hc := k1.cell
                  refine bodyPost_ret (v := .tuple #[.agg #[.int .i64 8, .int .i64 0, .int .i64 0, .int .i64 0, .int .i64 (atN ws 1), .slice a1 GS.length p1, .int .i64 PAY, .slice a2 WS.length p2, .int .i64 FEE], .int .i64 0]) (by simp [results, Tryd.results14, go_sem, hc]) rfl ?_
                  exact gets_yes G5.out HC.out k2 (by unfold refB; rw [← HC.out, HM.out, HE.out]; simp)
                · have HE := Lib.hid he
                  rw [decide_eq_false he]
                  clear he
                  go_wp2_with fail
                  generalize hW : ((((((((w5.setCell ⟨w.heap.size, 0, none⟩ _).setCell ⟨w.heap.size, 1, none⟩ _).setCell ⟨w.heap.size, 2, none⟩ _).setCell ⟨w.heap.size, 3, none⟩ _).setCell ⟨w.heap.size, 4, none⟩ _).setCell ⟨w.heap.size, 5, none⟩ _).setCell ⟨w.heap.size, 6, none⟩ _).setCell ⟨w.heap.size, 7, none⟩ _).setCell ⟨w.heap.size, 8, none⟩ _ = W'
                  obtain ⟨k1, k2⟩ := fin9 G5.out.1.2.2 _ _ _ _ _ _ _ _ _ hW.symm
                  have hc := k1.cell
                  refine bodyPost_ret (v := .tuple #[.agg #[.int .i64 0, .int .i64 0, .int .i64 0, .int .i64 0, .int .i64 0, .slice none 0 0, .int .i64 0, .slice none 0 0, .int .i64 0], .int .i64 2]) (by simp [results, Tryd.results14, go_sem, hc]) rfl ?_
                  exact gets_no G5.out.1 ⟨k1, k2⟩ (by unfold refB; rw [← HC.out, decide_eq_false HE.out]; simp)
            · have c1 := HVr2.out.cellAt _ hi
              rw [hco, ← HQb.out] at c1
              rw [← HQb.out] at hi
              unfold str sCoins at c1
              clear HSU hco
              go_wp2_with fail
              refine (at_any ((r : Int) + 1) _ HVr2.out HW.out.1 HW.out.2 (by omega) (by omega)).mono ?_
              rintro e w' ⟨rfl, rfl⟩
              clear K8 F8
              obtain ⟨WS, hws⟩ : ∃ WS, WS = numsN (sideAt ws (i1 ws + 3)) := ⟨_, rfl⟩
              obtain ⟨FEE, hfee⟩ : ∃ FEE, FEE = atN ws ((r : Int) + 1) := ⟨_, rfl⟩
              have G := Lib.hid (show GetG w C ⟨8, 0, 0, 0, atN ws 1, GS, PAY, WS, FEE⟩ a1 p1 a2 p2 (wr.setCell ⟨C, 8, none⟩ (.int .i64 FEE)) from by rw [hws, hfee]; exact G3.out.setF_ .fee (atN ws ((r : Int) + 1)))
              have HV := Lib.hid (show Strs (wr.setCell ⟨C, 8, none⟩ (.int .i64 FEE)) (.slice (some ⟨b, off, none⟩) ws.length cap) ws from by rw [hfee]; exact HVr2.out.grown (G3.out.2.2.setF_ .fee (atN ws ((r : Int) + 1))).2 G3.out.2.2.blk (cc_noText _ _ _ _ _))
              have HC := Lib.hid (show (⟨8, 0, 0, 0, atN ws 1, GS, PAY, WS, FEE⟩ : Cm) = guess ws by
                unfold guess; rw [HD.out, HK.out, hws, hfee, HGS.out, HPAY.out, HI2.out, HI1.out]; rfl)
              rw [← hfee]
              have K8 := G3.out.2.2.blk.cell 8
              have F8 := G3.out.2.2.blk.frozen 8
              have hcc := G.out.2.2.blk.cell
              clear hws hfee
              go_wp2_with fail
              refine (refmay_any ⟨8, 0, 0, 0, atN ws 1, GS, PAY, WS, FEE⟩ a1 a2 p1 p2 _ G.out.2.2.gi G.out.2.2.wi).mono ?_
              rintro e w3 ⟨rfl, b3⟩
              have G3 := Lib.hid (G.out.below b3)
              have HV3 := Lib.hid (HV.out.below b3)
              clear b3
              have hcc := G3.out.2.2.blk.cell
              have hres := G3.out.1.2.2.cell
              have hfr := G3.out.1.2.2.frozen
              unfold zeroCells at hres
              cases hm : refMayB ⟨8, 0, 0, 0, atN ws 1, GS, PAY, WS, FEE⟩
              · have HM := Lib.hid ((may_eq _).trans hm)
                clear hm
                go_wp2_with fail
                generalize hW : ((((((((w3.setCell ⟨w.heap.size, 0, none⟩ _).setCell ⟨w.heap.size, 1, none⟩ _).setCell ⟨w.heap.size, 2, none⟩ _).setCell ⟨w.heap.size, 3, none⟩ _).setCell ⟨w.heap.size, 4, none⟩ _).setCell ⟨w.heap.size, 5, none⟩ _).setCell ⟨w.heap.size, 6, none⟩ _).setCell ⟨w.heap.size, 7, none⟩ _).setCell ⟨w.heap.size, 8, none⟩ _ = W'
                obtain ⟨k1, k2⟩ := fin9 G3.out.1.2.2 _ _ _ _ _ _ _ _ _ hW.symm
                have hc := k1.cell
                refine bodyPost_ret (v := .tuple #[.agg #[.int .i64 0, .int .i64 0, .int .i64 0, .int .i64 0, .int .i64 0, .slice none 0 0, .int .i64 0, .slice none 0 0, .int .i64 0], .int .i64 2]) (by simp [results, Tryd.results14, go_sem, hc]) rfl ?_
                exact gets_no G3.out.1 ⟨k1, k2⟩ (by unfold refB; rw [← HC.out, HM.out]; rfl)
              · have HM := Lib.hid ((may_eq _).trans hm)
                clear hm
                go_wp2_with fail
                refine (refwords_any ⟨8, 0, 0, 0, atN ws 1, GS, PAY, WS, FEE⟩ a1 a2 p1 p2 _ HM.out G3.out.2.2.gi G3.out.2.2.wi).mono ?_
                rintro e w4 ⟨u, rfl, hu, b4⟩
                have G4 := Lib.hid (G3.out.below b4)
                have HV4 := Lib.hid (HV3.out.below b4)
                have HU := Lib.hid hu
                clear b4 hu hcc hres hfr
                go_wp2_with fail
                refine (strsame_any _ HU.out HV4.out).mono ?_
                rintro e w5 ⟨rfl, b5⟩
                have G5 := Lib.hid (G4.out.below b5)
                clear b5
                have hcc := G5.out.2.2.blk.cell
                have hres := G5.out.1.2.2.cell
                have hfr := G5.out.1.2.2.frozen
                unfold zeroCells at hres
                by_cases he : wordsOf ⟨8, 0, 0, 0, atN ws 1, GS, PAY, WS, FEE⟩ = ws
                · have HE := Lib.hid he
                  rw [decide_eq_true he]
                  clear he
                  go_wp2_with fail
                  generalize hW : ((((((((w5.setCell ⟨w.heap.size, 0, none⟩ _).setCell ⟨w.heap.size, 1, none⟩ _).setCell ⟨w.heap.size, 2, none⟩ _).setCell ⟨w.heap.size, 3, none⟩ _).setCell ⟨w.heap.size, 4, none⟩ _).setCell ⟨w.heap.size, 5, none⟩ _).setCell ⟨w.heap.size, 6, none⟩ _).setCell ⟨w.heap.size, 7, none⟩ _).setCell ⟨w.heap.size, 8, none⟩ _ = W'
                  obtain ⟨k1, k2⟩ := fin9 G5.out.1.2.2 _ _ _ _ _ _ _ _ _ hW.symm
                  have hc := k1.cell
                  refine bodyPost_ret (v := .tuple #[.agg #[.int .i64 8, .int .i64 0, .int .i64 0, .int .i64 0, .int .i64 (atN ws 1), .slice a1 GS.length p1, .int .i64 PAY, .slice a2 WS.length p2, .int .i64 FEE], .int .i64 0]) (by simp [results, Tryd.results14, go_sem, hc]) rfl ?_
                  exact gets_yes G5.out HC.out k2 (by unfold refB; rw [← HC.out, HM.out, HE.out]; simp)
                · have HE := Lib.hid he
                  rw [decide_eq_false he]
                  clear he
                  go_wp2_with fail
                  generalize hW : ((((((((w5.setCell ⟨w.heap.size, 0, none⟩ _).setCell ⟨w.heap.size, 1, none⟩ _).setCell ⟨w.heap.size, 2, none⟩ _).setCell ⟨w.heap.size, 3, none⟩ _).setCell ⟨w.heap.size, 4, none⟩ _).setCell ⟨w.heap.size, 5, none⟩ _).setCell ⟨w.heap.size, 6, none⟩ _).setCell ⟨w.heap.size, 7, none⟩ _).setCell ⟨w.heap.size, 8, none⟩ _ = W'
                  obtain ⟨k1, k2⟩ := fin9 G5.out.1.2.2 _ _ _ _ _ _ _ _ _ hW.symm
                  have hc := k1.cell
                  refine bodyPost_ret (v := .tuple #[.agg #[.int .i64 0, .int .i64 0, .int .i64 0, .int .i64 0, .int .i64 0, .slice none 0 0, .int .i64 0, .slice none 0 0, .int .i64 0], .int .i64 2]) (by simp [results, Tryd.results14, go_sem, hc]) rfl ?_
                  exact gets_no G5.out.1 ⟨k1, k2⟩ (by unfold refB; rw [← HC.out, decide_eq_false HE.out]; simp)
end Go.Proofs.YtinjpkbpdhihjaaDoor
