import Derived.Test.YtinjpkbpdhihjaaDoorRows
import Derived.Test.YtinjpkbpdhihjaaDoorKit
import Derived.Test.YtinjpkbpdhihjaaDoorStrs
import Derived.Test.YtinjpkbpdhihjaaDoorJTab
import Derived.Test.YtinjpkbpdhihjaaDoorJBlk
import Derived.Test.YtinjpkbpdhihjaaDoorJMath
import Derived.Test.YtinjpkbpdhihjaaDoorJNum
import Derived.Test.YtinjpkbpdhihjaaDoorJTokJoin
import Derived.Test.YtinjpkbpdhihjaaDoorJCut
import Derived.Test.YtinjpkbpdhihjaaDoorJRefCutOwn
import Derived.Test.YtinjpkbpdhihjaaDoorJCmd
import Derived.Test.YtinjpkbpdhihjaaDoorJCmdNames1
import Derived.Test.YtinjpkbpdhihjaaDoorJCmdRead
import Derived.Test.YtinjpkbpdhihjaaDoorJMay
import Derived.Test.YtinjpkbpdhihjaaDoorJCmdRefNames
import Derived.Test.YtinjpkbpdhihjaaDoorJCmdLaw
import Derived.Test.YtinjpkbpdhihjaaDoorJWords
import Derived.Test.YtinjpkbpdhihjaaDoorJLinePut3
import Derived.Test.YtinjpkbpdhihjaaDoorJLinePut
import Derived.Test.YtinjpkbpdhihjaaDoorJLineRead
import Derived.Test.YtinjpkbpdhihjaaDoorJLineGet
import Derived.Test.YtinjpkbpdhihjaaDoorJAwake
import Derived.Test.YtinjpkbpdhihjaaDoorTie
import Derived.Test.YtinjpkbpdhihjaaDoorCards
import Derived.Lay
import Derived.SevenTiedAt
import Derived.MakeChecks
import Derived.Deep.RegionHeld3
import Derived.WalkKit
import Derived.ProofKit
import Derived.OpenShut
import Derived.IntWalk
/- LineKinds: for every command and every number: a line's first word is its command's kind, and no other kind's line has it; two commands of unlike kinds have unlike lines: the statement answers true. No condition but that the program's and the library's tables lie as their text lays them (tied). -/
namespace Go.Proofs.YtinjpkbpdhihjaaDoor
open Go.ChangeShapes Go.WideShapes Go.ChangeAt Go.RowKit
set_option linter.unusedVariables false
open Go.RowKit Go
def Sees (w0 : World) (n g : Nat) (A B : Array Value) (w' : World) : Prop := Below w0.heap.size w0 w' ∧ (∀ i, w'.cell? ⟨n, i, none⟩ = (A[i]? : Option Value)) ∧ ∀ i, w'.cell? ⟨g, i, none⟩ = (B[i]? : Option Value)
theorem Sees.of {w0 w' : World} {n g : Nat} {A B : Array Value} {t u : TypeId} (hA : Blk w0 n t A) (hB : Blk w0 g u B) (h : Below w0.heap.size w0 w') : Sees w0 n g A B w' := ⟨h, (hA.call h).cell, (hB.call h).cell⟩
theorem Sees.drew {w0 w' : World} {n g : Nat} {A B : Array Value} (h : Sees w0 n g A B w') : Sees w0 n g A B w'.drew := ⟨⟨h.1.os, h.1.tape, h.1.output, h.1.size, h.1.block⟩, h.2⟩
/-- A row of words, opened: its block is whole, and may be written. -/
theorem row_open {W : World} {base : Nat} {v : Value} {xs : List (List UInt8)} (h : W.ownsRow base 9 1 v xs.length (xs.map str)) (h0 : 0 < xs.length) :
    ∃ g cap cur, v = .slice (some ⟨g, 0, none⟩) xs.length cap ∧ base ≤ g ∧ Blk W g 9 cur ∧ xs.length ≤ cap ∧ ∀ i (hi : i < xs.length), (cur[i]? : Option Value) = some (str xs[i]) := by
  rcases h.2 with ⟨_, h0⟩ | ⟨g, cap, cur, rfl, hg, hh, hc, _, hsz, htk⟩
  · omega
  · refine ⟨g, cap, cur, rfl, hg, hh, hc, fun i hi => ?_⟩
    have e2 : (cur.toList.take (xs.length * 1))[i]? = (xs.map str)[i]? := by rw [htk]
    rw [List.getElem?_take] at e2
    simpa [hi] using e2
theorem strs_set {W : World} {g cap : Nat} {cur : Array Value} {x : List UInt8} {xs : List (List UInt8)} (hb : Blk W g 9 cur) (h : ∀ i (hi : i < xs.length), (cur[i]? : Option Value) = some (str xs[i])) (hl : xs.length ≤ maxLen) (h0 : 0 < xs.length) :
    Strs (W.setCell ⟨g, 0, none⟩ (str x)) (.slice (some ⟨g, 0, none⟩) xs.length cap) (x :: xs.tail) := by
  have e : (x :: xs.tail).length = xs.length := by simp; omega
  have k := hb.set_ 0 (str x)
  refine ⟨_, cap, by rw [e], by omega, .inr ⟨g, 0, rfl, k.lt, fun i hi => ?_⟩⟩
  rw [show (⟨g, 0 + i, none⟩ : Addr) = ⟨g, i, none⟩ by simp, k.cell]
  have hc := h i (by omega)
  have hs : i < cur.size := by
    apply Decidable.byContradiction; intro hn
    rw [Array.getElem?_eq_none (by omega)] at hc; cases hc
  rcases Nat.eq_zero_or_pos i with rfl | hp
  · simp [hs]
  · rw [Array.getElem?_setIfInBounds_ne (by omega), hc]
    obtain ⟨j, rfl⟩ : ∃ j, i = j + 1 := ⟨i - 1, by omega⟩
    simp
theorem sizes_kind {c : Cm} {k : Int} (h : sizes (wordsOf c) ≤ 1595) : sizes (nameOf k :: (partsOf c.kind).flatMap (putP c)) ≤ 2000 := by
  have := name_len k
  simp only [wordsOf, sizes, List.map_cons, List.sum_cons] at h ⊢
  omega
theorem kinds_math {c : Cm} {k : Int} (hm : mayB c = true) (hk : isKindB k = true) (h : codeB (nameOf k :: (partsOf c.kind).flatMap (putP c)) = true) {d : Cm} (hd : d = codeC (nameOf k :: (partsOf c.kind).flatMap (putP c))) :
    d.kind = k ∧ (k == c.kind) = sameB c d := by
  subst hd
  obtain ⟨h1, h2⟩ := code_sound h
  have e : nameOf (codeC (nameOf k :: (partsOf c.kind).flatMap (putP c))).kind = nameOf k := by
    have := congrArg (fun l => l.getD 0 []) h2
    exact this
  have e2 : (codeC (nameOf k :: (partsOf c.kind).flatMap (putP c))).kind = k := by
    have a := (name_back (may_fields h1).1).2
    rw [e, (name_back hk).2] at a
    exact a.symm
  refine ⟨e2, ?_⟩
  rw [Bool.eq_iff_iff, beq_iff_eq, sameB_iff]
  constructor
  · intro e3
    subst e3
    exact words_inj hm h1 (h2.symm ▸ rfl)
  · intro e3
    rw [← e2, ← e3]
theorem few_of {c : Cm} (h : mayB c = true) : fewB c = true := by
  obtain ⟨-, -, -, -, -, -, -, -, -, -, h1, h2⟩ := may_fields h
  simp only [fewB, Bool.and_eq_true, decide_eq_true_eq]
  omega
set_option maxRecDepth 100000 in
set_option maxHeartbeats 4000000 in
theorem kinds_not (c : Cm) (ga wa : Option Addr) (gc wc : Nat) (n : Int) (w : World) (h1 : IntsAt w ga c.gives) (h2 : IntsAt w wa c.wants) (ht : Tabs w) (f : fewB c = false ∨ refMayB c = false) :
    Calls Tryd.prog 7 #[.agg #[.int .i64 c.kind, .int .i64 c.dir, .int .i64 c.item, .int .i64 c.box, .int .i64 c.who, .slice ga c.gives.length gc, .int .i64 c.pay, .slice wa c.wants.length wc, .int .i64 c.fee], .int .u8 n] w fun e w' => e = .returned (.bool true) ∧ Below w.heap.size w w' := by
  have HT := Lib.hid ht
  have P0 := Lib.hid (OneC.start (gc := gc) (wc := wc) h1 h2)
  clear ht h1 h2
  cases f1 : fewB c
  · have F1 := Lib.hid f1
    clear f f1
    go_enter Tryd.func7, Tryd.ntmps7
    go_wp2_with fail
    refine (awake_any _ (HT.out.call P0.out.1)).mono ?_
    rintro e w1 ⟨rfl, b1⟩
    have P1 := Lib.hid (P0.out.call b1)
    have hA := P1.out.2.1.cell
    clear b1 P0
    go_wp2_with fail
    refine (few_any _ _ _ _ _ _ P1.out.2.2.1 P1.out.2.2.2).mono ?_
    rintro e w2 ⟨rfl, b2⟩
    rw [F1.out]
    have P2 := Lib.hid (P1.out.call b2)
    clear b2 P1 hA
    have PX := Lib.hid P2.out
    go_wp2_with fail
    refine (awake_any _ (HT.out.call PX.out.1)).mono ?_
    rintro e w9 ⟨rfl, b9⟩
    have P9 := Lib.hid (PX.out.call b9)
    clear b9
    go_wp2_with fail
    go_ret
    exact ⟨rfl, P9.out.1⟩
  · have F1 := Lib.hid f1
    have F2 := Lib.hid (show refMayB c = false by rcases f with f | f; rw [f1] at f; cases f; exact f)
    clear f f1
    go_enter Tryd.func7, Tryd.ntmps7
    go_wp2_with fail
    refine (awake_any _ (HT.out.call P0.out.1)).mono ?_
    rintro e w1 ⟨rfl, b1⟩
    have P1 := Lib.hid (P0.out.call b1)
    have hA := P1.out.2.1.cell
    clear b1 P0
    go_wp2_with fail
    refine (few_any _ _ _ _ _ _ P1.out.2.2.1 P1.out.2.2.2).mono ?_
    rintro e w2 ⟨rfl, b2⟩
    rw [F1.out]
    have P2 := Lib.hid (P1.out.call b2)
    clear b2 P1 hA
    have hA := P2.out.2.1.cell
    go_wp2_with fail
    refine (refmay_any _ _ _ _ _ _ P2.out.2.2.1 P2.out.2.2.2).mono ?_
    rintro e w3 ⟨rfl, b3⟩
    rw [F2.out]
    have P3 := Lib.hid (P2.out.call b3)
    clear b3 P2 hA
    have PX := Lib.hid P3.out
    go_wp2_with fail
    refine (awake_any _ (HT.out.call PX.out.1)).mono ?_
    rintro e w9 ⟨rfl, b9⟩
    have P9 := Lib.hid (PX.out.call b9)
    clear b9
    go_wp2_with fail
    go_ret
    exact ⟨rfl, P9.out.1⟩
set_option maxRecDepth 100000 in
set_option maxHeartbeats 8000000 in
theorem kinds_go (c : Cm) (ga wa : Option Addr) (gc wc : Nat) (n : Int) (w : World) (h1 : IntsAt w ga c.gives) (h2 : IntsAt w wa c.wants) (ht : Tabs w) (hm : mayB c = true) (n0 : 0 ≤ n) (n1 : n ≤ 255) :
    Calls Tryd.prog 7 #[.agg #[.int .i64 c.kind, .int .i64 c.dir, .int .i64 c.item, .int .i64 c.box, .int .i64 c.who, .slice ga c.gives.length gc, .int .i64 c.pay, .slice wa c.wants.length wc, .int .i64 c.fee], .int .u8 n] w fun e w' => e = .returned (.bool true) ∧ Below w.heap.size w w' := by
  have HT := Lib.hid ht
  have P0 := Lib.hid (OneC.start (gc := gc) (wc := wc) h1 h2)
  have H1 := Lib.hid h1
  have H2 := Lib.hid h2
  have HM := Lib.hid hm
  have F1 := Lib.hid (few_of hm)
  have F2 := Lib.hid ((may_eq c).symm.trans hm)
  obtain ⟨A, hA1, hA2, hA3⟩ := put_yes hm
  have HA1 := Lib.hid hA1
  have HA2 := Lib.hid (show words A.data.toList = wordsOf c by rw [hA2]; exact words_of hm)
  have HA3 := Lib.hid hA3
  clear ht h1 h2 hm hA1 hA2 hA3
  go_enter Tryd.func7, Tryd.ntmps7
  go_wp2_with fail
  refine (awake_any _ (HT.out.call P0.out.1)).mono ?_
  rintro e w1 ⟨rfl, b1⟩
  have P1 := Lib.hid (P0.out.call b1)
  have hA := P1.out.2.1.cell
  clear b1 P0
  go_wp2_with fail
  refine (few_any _ _ _ _ _ _ P1.out.2.2.1 P1.out.2.2.2).mono ?_
  rintro e w2 ⟨rfl, b2⟩
  rw [F1.out]
  have P2 := Lib.hid (P1.out.call b2)
  clear b2 P1 hA
  have hA := P2.out.2.1.cell
  go_wp2_with fail
  refine (refmay_any _ _ _ _ _ _ P2.out.2.2.1 P2.out.2.2.2).mono ?_
  rintro e w3 ⟨rfl, b3⟩
  rw [F2.out]
  have P3 := Lib.hid (P2.out.call b3)
  clear b3 P2 hA
  have hA := P3.out.2.1.cell
  go_wp2_with fail
  refine (put_any _ _ _ _ _ _ P3.out.2.2.1 P3.out.2.2.2 (HT.out.call P3.out.1)).mono ?_
  rintro e w4 ⟨rfl, b4⟩
  rw [HA1.out]
  have P4 := Lib.hid (P3.out.call b4)
  clear b4 P3 hA
  go_wp2_with fail
  refine (refcut_own A _ (by have := HA3.out; omega)).mono ?_
  rintro e w5 ⟨v, rfl, hown, hlen, b5⟩
  rw [HA2.out] at hown hlen
  have P5 := Lib.hid (P4.out.call b5)
  have hw5 := b5.size
  have hw4 := P4.out.2.1.lt
  have hpos : 0 < (wordsOf c).length := by simp [wordsOf]
  have hsmall := words_sizes HM.out
  obtain ⟨g, cap, cur, rfl, hg, hblk, hcap, hcur⟩ := row_open hown hpos
  have hcur0 := hcur 0 hpos
  rw [show (wordsOf c)[0] = nameOf c.kind from rfl] at hcur0
  unfold str at hcur0
  have HB := Lib.hid hblk
  have HCUR := Lib.hid hcur
  have HLEN := Lib.hid hlen
  have HSM := Lib.hid hsmall.1
  have hl := hsmall.2
  clear hown hblk hcur hlen hsmall P4 b5
  have hn0 : (((wordsOf c).length : Int) == 0) = false := by rw [beq_eq_false_iff_ne]; omega
  go_wp2_with fail
  refine wp_region_noPanic ?_
  refine wp_region_held_drew (S := (fun w' => Below w5.heap.size w5 w' ∧ (∀ i, w'.cell? ⟨w.heap.size, i, none⟩ = (#[.int .i64 c.kind, .int .i64 c.dir, .int .i64 c.item, .int .i64 c.box, .int .i64 c.who, .slice ga c.gives.length gc, .int .i64 c.pay, .slice wa c.wants.length wc, .int .i64 c.fee][i]? : Option Value)) ∧ ∀ i, w'.cell? ⟨g, i, none⟩ = (cur[i]? : Option Value))) (by kernel_rfl) (by (first | (exact (Sees.of P5.out.2.1 HB.out (Below.refl _ _)).drew) | (exact Sees.of P5.out.2.1 HB.out (bl hHeld.1 hb)))) (fun hHeld => ?_)
  first
    | (refine wpAnyH_take (i := 0) (v := undef) (by simp only [List.getElem?_toArray, List.getElem?_cons_zero]; rfl) (by kernel_rfl) (by kernel_rfl) (by kernel_rfl) (fun _ _ _ h => h) (Or.inr ⟨by rfl, rfl⟩) (by assumption) ?_; try simp only [Act.put, List.setIfInBounds_toArray, List.set_cons_zero, List.set_cons_succ])
    | (refine wpAnyH_take (i := 0) (v := ?_) (by simp only [List.getElem?_toArray, List.getElem?_cons_zero]; rfl) (by kernel_rfl) (by kernel_rfl) (by kernel_rfl) (fun _ _ _ h => h) (Or.inl ⟨by rfl, ?_⟩) (by assumption) ?_
       rotate_left
       · (intro ww hSw; (try dsimp only at hSw); go_simp; (try with_reducible rfl))
       try simp only [Act.put, List.setIfInBounds_toArray, List.set_cons_zero, List.set_cons_succ])
    | (refine wpAnyH_ready (rs := [0]) (by kernel_rfl) (by simp) (AllReadyH.cons (by simp only [List.getElem?_toArray, List.getElem?_cons_succ, List.getElem?_cons_zero]; rfl) (fun K hK => ?_) AllReadyH.nil)
       go_simp
       first
         | (go_at_call 20; (with_reducible refine (refname_any _ _).mono ?_); rintro e w1 ⟨rfl, hb⟩)
       try go_wp2_with fail
       refine hK.out _ _ (by (first | (exact (Sees.of P5.out.2.1 HB.out (Below.refl _ _)).drew) | (exact Sees.of P5.out.2.1 HB.out (bl hHeld.1 hb)))) (fun hHeld => ?_)
       clear hK K
       try simp only [Act.put, List.setIfInBounds_toArray, List.set_cons_zero, List.set_cons_succ])
  first
    | (refine wpAnyH_take (i := 1) (v := undef) (by simp only [List.getElem?_toArray, List.getElem?_cons_succ, List.getElem?_cons_zero]; rfl) (by kernel_rfl) (by kernel_rfl) (by kernel_rfl) (fun _ _ _ h => h) (Or.inr ⟨by rfl, rfl⟩) (by assumption) ?_; try simp only [Act.put, List.setIfInBounds_toArray, List.set_cons_zero, List.set_cons_succ])
    | (refine wpAnyH_take (i := 1) (v := ?_) (by simp only [List.getElem?_toArray, List.getElem?_cons_succ, List.getElem?_cons_zero]; rfl) (by kernel_rfl) (by kernel_rfl) (by kernel_rfl) (fun _ _ _ h => h) (Or.inl ⟨by rfl, ?_⟩) (by assumption) ?_
       rotate_left
       · (intro ww hSw; (try dsimp only at hSw); go_simp; (try with_reducible rfl))
       try simp only [Act.put, List.setIfInBounds_toArray, List.set_cons_zero, List.set_cons_succ])
    | (refine wpAnyH_ready (rs := [1]) (by kernel_rfl) (by simp) (AllReadyH.cons (by simp only [List.getElem?_toArray, List.getElem?_cons_succ, List.getElem?_cons_zero]; rfl) (fun K hK => ?_) AllReadyH.nil)
       go_simp
       first
         | (go_at_call 20; (with_reducible refine (refname_any _ _).mono ?_); rintro e w1 ⟨rfl, hb⟩)
       try go_wp2_with fail
       refine hK.out _ _ (by (first | (exact (Sees.of P5.out.2.1 HB.out (Below.refl _ _)).drew) | (exact Sees.of P5.out.2.1 HB.out (bl hHeld.1 hb)))) (fun hHeld => ?_)
       clear hK K
       try simp only [Act.put, List.setIfInBounds_toArray, List.set_cons_zero, List.set_cons_succ])
  first
    | (refine wpAnyH_take (i := 2) (v := undef) (by simp only [List.getElem?_toArray, List.getElem?_cons_succ, List.getElem?_cons_zero]; rfl) (by kernel_rfl) (by kernel_rfl) (by kernel_rfl) (fun _ _ _ h => h) (Or.inr ⟨by rfl, rfl⟩) (by assumption) ?_; try simp only [Act.put, List.setIfInBounds_toArray, List.set_cons_zero, List.set_cons_succ])
    | (refine wpAnyH_take (i := 2) (v := ?_) (by simp only [List.getElem?_toArray, List.getElem?_cons_succ, List.getElem?_cons_zero]; rfl) (by kernel_rfl) (by kernel_rfl) (by kernel_rfl) (fun _ _ _ h => h) (Or.inl ⟨by rfl, ?_⟩) (by assumption) ?_
       rotate_left
       · (intro ww hSw; (try dsimp only at hSw); go_simp; (try with_reducible rfl))
       try simp only [Act.put, List.setIfInBounds_toArray, List.set_cons_zero, List.set_cons_succ])
    | (refine wpAnyH_ready (rs := [2]) (by kernel_rfl) (by simp) (AllReadyH.cons (by simp only [List.getElem?_toArray, List.getElem?_cons_succ, List.getElem?_cons_zero]; rfl) (fun K hK => ?_) AllReadyH.nil)
       go_simp
       first
         | (go_at_call 20; (with_reducible refine (refname_any _ _).mono ?_); rintro e w1 ⟨rfl, hb⟩)
       try go_wp2_with fail
       refine hK.out _ _ (by (first | (exact (Sees.of P5.out.2.1 HB.out (Below.refl _ _)).drew) | (exact Sees.of P5.out.2.1 HB.out (bl hHeld.1 hb)))) (fun hHeld => ?_)
       clear hK K
       try simp only [Act.put, List.setIfInBounds_toArray, List.set_cons_zero, List.set_cons_succ])
  first
    | (refine wpAnyH_take (i := 3) (v := undef) (by simp only [List.getElem?_toArray, List.getElem?_cons_succ, List.getElem?_cons_zero]; rfl) (by kernel_rfl) (by kernel_rfl) (by kernel_rfl) (fun _ _ _ h => h) (Or.inr ⟨by rfl, rfl⟩) (by assumption) ?_; try simp only [Act.put, List.setIfInBounds_toArray, List.set_cons_zero, List.set_cons_succ])
    | (refine wpAnyH_take (i := 3) (v := ?_) (by simp only [List.getElem?_toArray, List.getElem?_cons_succ, List.getElem?_cons_zero]; rfl) (by kernel_rfl) (by kernel_rfl) (by kernel_rfl) (fun _ _ _ h => h) (Or.inl ⟨by rfl, ?_⟩) (by assumption) ?_
       rotate_left
       · (intro ww hSw; (try dsimp only at hSw); go_simp; (try with_reducible rfl))
       try simp only [Act.put, List.setIfInBounds_toArray, List.set_cons_zero, List.set_cons_succ])
    | (refine wpAnyH_ready (rs := [3]) (by kernel_rfl) (by simp) (AllReadyH.cons (by simp only [List.getElem?_toArray, List.getElem?_cons_succ, List.getElem?_cons_zero]; rfl) (fun K hK => ?_) AllReadyH.nil)
       go_simp
       first
         | (go_at_call 20; (with_reducible refine (refname_any _ _).mono ?_); rintro e w1 ⟨rfl, hb⟩)
       try go_wp2_with fail
       refine hK.out _ _ (by (first | (exact (Sees.of P5.out.2.1 HB.out (Below.refl _ _)).drew) | (exact Sees.of P5.out.2.1 HB.out (bl hHeld.1 hb)))) (fun hHeld => ?_)
       clear hK K
       try simp only [Act.put, List.setIfInBounds_toArray, List.set_cons_zero, List.set_cons_succ])
  first
    | (refine wpAnyH_take (i := 4) (v := undef) (by simp only [List.getElem?_toArray, List.getElem?_cons_succ, List.getElem?_cons_zero]; rfl) (by kernel_rfl) (by kernel_rfl) (by kernel_rfl) (fun _ _ _ h => h) (Or.inr ⟨by rfl, rfl⟩) (by assumption) ?_; try simp only [Act.put, List.setIfInBounds_toArray, List.set_cons_zero, List.set_cons_succ])
    | (refine wpAnyH_take (i := 4) (v := ?_) (by simp only [List.getElem?_toArray, List.getElem?_cons_succ, List.getElem?_cons_zero]; rfl) (by kernel_rfl) (by kernel_rfl) (by kernel_rfl) (fun _ _ _ h => h) (Or.inl ⟨by rfl, ?_⟩) (by assumption) ?_
       rotate_left
       · (intro ww hSw; (try dsimp only at hSw); go_simp; (try with_reducible rfl))
       try simp only [Act.put, List.setIfInBounds_toArray, List.set_cons_zero, List.set_cons_succ])
    | (refine wpAnyH_ready (rs := [4]) (by kernel_rfl) (by simp) (AllReadyH.cons (by simp only [List.getElem?_toArray, List.getElem?_cons_succ, List.getElem?_cons_zero]; rfl) (fun K hK => ?_) AllReadyH.nil)
       go_simp
       first
         | (go_at_call 20; (with_reducible refine (refname_any _ _).mono ?_); rintro e w1 ⟨rfl, hb⟩)
       try go_wp2_with fail
       refine hK.out _ _ (by (first | (exact (Sees.of P5.out.2.1 HB.out (Below.refl _ _)).drew) | (exact Sees.of P5.out.2.1 HB.out (bl hHeld.1 hb)))) (fun hHeld => ?_)
       clear hK K
       try simp only [Act.put, List.setIfInBounds_toArray, List.set_cons_zero, List.set_cons_succ])
  first
    | (refine wpAnyH_take (i := 5) (v := undef) (by simp only [List.getElem?_toArray, List.getElem?_cons_succ, List.getElem?_cons_zero]; rfl) (by kernel_rfl) (by kernel_rfl) (by kernel_rfl) (fun _ _ _ h => h) (Or.inr ⟨by rfl, rfl⟩) (by assumption) ?_; try simp only [Act.put, List.setIfInBounds_toArray, List.set_cons_zero, List.set_cons_succ])
    | (refine wpAnyH_take (i := 5) (v := ?_) (by simp only [List.getElem?_toArray, List.getElem?_cons_succ, List.getElem?_cons_zero]; rfl) (by kernel_rfl) (by kernel_rfl) (by kernel_rfl) (fun _ _ _ h => h) (Or.inl ⟨by rfl, ?_⟩) (by assumption) ?_
       rotate_left
       · (intro ww hSw; (try dsimp only at hSw); go_simp; (try with_reducible rfl))
       try simp only [Act.put, List.setIfInBounds_toArray, List.set_cons_zero, List.set_cons_succ])
    | (refine wpAnyH_ready (rs := [5]) (by kernel_rfl) (by simp) (AllReadyH.cons (by simp only [List.getElem?_toArray, List.getElem?_cons_succ, List.getElem?_cons_zero]; rfl) (fun K hK => ?_) AllReadyH.nil)
       go_simp
       first
         | (go_at_call 20; (with_reducible refine (refname_any _ _).mono ?_); rintro e w1 ⟨rfl, hb⟩)
       try go_wp2_with fail
       refine hK.out _ _ (by (first | (exact (Sees.of P5.out.2.1 HB.out (Below.refl _ _)).drew) | (exact Sees.of P5.out.2.1 HB.out (bl hHeld.1 hb)))) (fun hHeld => ?_)
       clear hK K
       try simp only [Act.put, List.setIfInBounds_toArray, List.set_cons_zero, List.set_cons_succ])
  first
    | (refine wpAnyH_take (i := 6) (v := undef) (by simp only [List.getElem?_toArray, List.getElem?_cons_succ, List.getElem?_cons_zero]; rfl) (by kernel_rfl) (by kernel_rfl) (by kernel_rfl) (fun _ _ _ h => h) (Or.inr ⟨by rfl, rfl⟩) (by assumption) ?_; try simp only [Act.put, List.setIfInBounds_toArray, List.set_cons_zero, List.set_cons_succ])
    | (refine wpAnyH_take (i := 6) (v := ?_) (by simp only [List.getElem?_toArray, List.getElem?_cons_succ, List.getElem?_cons_zero]; rfl) (by kernel_rfl) (by kernel_rfl) (by kernel_rfl) (fun _ _ _ h => h) (Or.inl ⟨by rfl, ?_⟩) (by assumption) ?_
       rotate_left
       · (intro ww hSw; (try dsimp only at hSw); go_simp; (try with_reducible rfl))
       try simp only [Act.put, List.setIfInBounds_toArray, List.set_cons_zero, List.set_cons_succ])
    | (refine wpAnyH_ready (rs := [6]) (by kernel_rfl) (by simp) (AllReadyH.cons (by simp only [List.getElem?_toArray, List.getElem?_cons_succ, List.getElem?_cons_zero]; rfl) (fun K hK => ?_) AllReadyH.nil)
       go_simp
       first
         | (go_at_call 20; (with_reducible refine (refname_any _ _).mono ?_); rintro e w1 ⟨rfl, hb⟩)
       try go_wp2_with fail
       refine hK.out _ _ (by (first | (exact (Sees.of P5.out.2.1 HB.out (Below.refl _ _)).drew) | (exact Sees.of P5.out.2.1 HB.out (bl hHeld.1 hb)))) (fun hHeld => ?_)
       clear hK K
       try simp only [Act.put, List.setIfInBounds_toArray, List.set_cons_zero, List.set_cons_succ])
  first
    | (refine wpAnyH_take (i := 7) (v := undef) (by simp only [List.getElem?_toArray, List.getElem?_cons_succ, List.getElem?_cons_zero]; rfl) (by kernel_rfl) (by kernel_rfl) (by kernel_rfl) (fun _ _ _ h => h) (Or.inr ⟨by rfl, rfl⟩) (by assumption) ?_; try simp only [Act.put, List.setIfInBounds_toArray, List.set_cons_zero, List.set_cons_succ])
    | (refine wpAnyH_take (i := 7) (v := ?_) (by simp only [List.getElem?_toArray, List.getElem?_cons_succ, List.getElem?_cons_zero]; rfl) (by kernel_rfl) (by kernel_rfl) (by kernel_rfl) (fun _ _ _ h => h) (Or.inl ⟨by rfl, ?_⟩) (by assumption) ?_
       rotate_left
       · (intro ww hSw; (try dsimp only at hSw); go_simp; (try with_reducible rfl))
       try simp only [Act.put, List.setIfInBounds_toArray, List.set_cons_zero, List.set_cons_succ])
    | (refine wpAnyH_ready (rs := [7]) (by kernel_rfl) (by simp) (AllReadyH.cons (by simp only [List.getElem?_toArray, List.getElem?_cons_succ, List.getElem?_cons_zero]; rfl) (fun K hK => ?_) AllReadyH.nil)
       go_simp
       first
         | (go_at_call 20; (with_reducible refine (refname_any _ _).mono ?_); rintro e w1 ⟨rfl, hb⟩)
       try go_wp2_with fail
       refine hK.out _ _ (by (first | (exact (Sees.of P5.out.2.1 HB.out (Below.refl _ _)).drew) | (exact Sees.of P5.out.2.1 HB.out (bl hHeld.1 hb)))) (fun hHeld => ?_)
       clear hK K
       try simp only [Act.put, List.setIfInBounds_toArray, List.set_cons_zero, List.set_cons_succ])
  first
    | (refine wpAnyH_take (i := 8) (v := undef) (by simp only [List.getElem?_toArray, List.getElem?_cons_succ, List.getElem?_cons_zero]; rfl) (by kernel_rfl) (by kernel_rfl) (by kernel_rfl) (fun _ _ _ h => h) (Or.inr ⟨by rfl, rfl⟩) (by assumption) ?_; try simp only [Act.put, List.setIfInBounds_toArray, List.set_cons_zero, List.set_cons_succ])
    | (refine wpAnyH_take (i := 8) (v := ?_) (by simp only [List.getElem?_toArray, List.getElem?_cons_succ, List.getElem?_cons_zero]; rfl) (by kernel_rfl) (by kernel_rfl) (by kernel_rfl) (fun _ _ _ h => h) (Or.inl ⟨by rfl, ?_⟩) (by assumption) ?_
       rotate_left
       · (intro ww hSw; (try dsimp only at hSw); go_simp; (try with_reducible rfl))
       try simp only [Act.put, List.setIfInBounds_toArray, List.set_cons_zero, List.set_cons_succ])
    | (refine wpAnyH_ready (rs := [8]) (by kernel_rfl) (by simp) (AllReadyH.cons (by simp only [List.getElem?_toArray, List.getElem?_cons_succ, List.getElem?_cons_zero]; rfl) (fun K hK => ?_) AllReadyH.nil)
       go_simp
       first
         | (go_at_call 20; (with_reducible refine (refname_any _ _).mono ?_); rintro e w1 ⟨rfl, hb⟩)
       try go_wp2_with fail
       refine hK.out _ _ (by (first | (exact (Sees.of P5.out.2.1 HB.out (Below.refl _ _)).drew) | (exact Sees.of P5.out.2.1 HB.out (bl hHeld.1 hb)))) (fun hHeld => ?_)
       clear hK K
       try simp only [Act.put, List.setIfInBounds_toArray, List.set_cons_zero, List.set_cons_succ])
  first
    | (refine wpAnyH_take (i := 9) (v := undef) (by simp only [List.getElem?_toArray, List.getElem?_cons_succ, List.getElem?_cons_zero]; rfl) (by kernel_rfl) (by kernel_rfl) (by kernel_rfl) (fun _ _ _ h => h) (Or.inr ⟨by rfl, rfl⟩) (by assumption) ?_; try simp only [Act.put, List.setIfInBounds_toArray, List.set_cons_zero, List.set_cons_succ])
    | (refine wpAnyH_take (i := 9) (v := ?_) (by simp only [List.getElem?_toArray, List.getElem?_cons_succ, List.getElem?_cons_zero]; rfl) (by kernel_rfl) (by kernel_rfl) (by kernel_rfl) (fun _ _ _ h => h) (Or.inl ⟨by rfl, ?_⟩) (by assumption) ?_
       rotate_left
       · (intro ww hSw; (try dsimp only at hSw); go_simp; (try with_reducible rfl))
       try simp only [Act.put, List.setIfInBounds_toArray, List.set_cons_zero, List.set_cons_succ])
    | (refine wpAnyH_ready (rs := [9]) (by kernel_rfl) (by simp) (AllReadyH.cons (by simp only [List.getElem?_toArray, List.getElem?_cons_succ, List.getElem?_cons_zero]; rfl) (fun K hK => ?_) AllReadyH.nil)
       go_simp
       first
         | (go_at_call 20; (with_reducible refine (refname_any _ _).mono ?_); rintro e w1 ⟨rfl, hb⟩)
       try go_wp2_with fail
       refine hK.out _ _ (by (first | (exact (Sees.of P5.out.2.1 HB.out (Below.refl _ _)).drew) | (exact Sees.of P5.out.2.1 HB.out (bl hHeld.1 hb)))) (fun hHeld => ?_)
       clear hK K
       try simp only [Act.put, List.setIfInBounds_toArray, List.set_cons_zero, List.set_cons_succ])
  first
    | (refine wpAnyH_take (i := 10) (v := undef) (by simp only [List.getElem?_toArray, List.getElem?_cons_succ, List.getElem?_cons_zero]; rfl) (by kernel_rfl) (by kernel_rfl) (by kernel_rfl) (fun _ _ _ h => h) (Or.inr ⟨by rfl, rfl⟩) (by assumption) ?_; try simp only [Act.put, List.setIfInBounds_toArray, List.set_cons_zero, List.set_cons_succ])
    | (refine wpAnyH_take (i := 10) (v := ?_) (by simp only [List.getElem?_toArray, List.getElem?_cons_succ, List.getElem?_cons_zero]; rfl) (by kernel_rfl) (by kernel_rfl) (by kernel_rfl) (fun _ _ _ h => h) (Or.inl ⟨by rfl, ?_⟩) (by assumption) ?_
       rotate_left
       · (intro ww hSw; (try dsimp only at hSw); go_simp; (try with_reducible rfl))
       try simp only [Act.put, List.setIfInBounds_toArray, List.set_cons_zero, List.set_cons_succ])
    | (refine wpAnyH_ready (rs := [10]) (by kernel_rfl) (by simp) (AllReadyH.cons (by simp only [List.getElem?_toArray, List.getElem?_cons_succ, List.getElem?_cons_zero]; rfl) (fun K hK => ?_) AllReadyH.nil)
       go_simp
       first
         | (go_at_call 20; (with_reducible refine (refname_any _ _).mono ?_); rintro e w1 ⟨rfl, hb⟩)
       try go_wp2_with fail
       refine hK.out _ _ (by (first | (exact (Sees.of P5.out.2.1 HB.out (Below.refl _ _)).drew) | (exact Sees.of P5.out.2.1 HB.out (bl hHeld.1 hb)))) (fun hHeld => ?_)
       clear hK K
       try simp only [Act.put, List.setIfInBounds_toArray, List.set_cons_zero, List.set_cons_succ])
  first
    | (refine wpAnyH_take (i := 11) (v := undef) (by simp only [List.getElem?_toArray, List.getElem?_cons_succ, List.getElem?_cons_zero]; rfl) (by kernel_rfl) (by kernel_rfl) (by kernel_rfl) (fun _ _ _ h => h) (Or.inr ⟨by rfl, rfl⟩) (by assumption) ?_; try simp only [Act.put, List.setIfInBounds_toArray, List.set_cons_zero, List.set_cons_succ])
    | (refine wpAnyH_take (i := 11) (v := ?_) (by simp only [List.getElem?_toArray, List.getElem?_cons_succ, List.getElem?_cons_zero]; rfl) (by kernel_rfl) (by kernel_rfl) (by kernel_rfl) (fun _ _ _ h => h) (Or.inl ⟨by rfl, ?_⟩) (by assumption) ?_
       rotate_left
       · (intro ww hSw; (try dsimp only at hSw); go_simp; (try with_reducible rfl))
       try simp only [Act.put, List.setIfInBounds_toArray, List.set_cons_zero, List.set_cons_succ])
    | (refine wpAnyH_ready (rs := [11]) (by kernel_rfl) (by simp) (AllReadyH.cons (by simp only [List.getElem?_toArray, List.getElem?_cons_succ, List.getElem?_cons_zero]; rfl) (fun K hK => ?_) AllReadyH.nil)
       go_simp
       first
         | (go_at_call 20; (with_reducible refine (refname_any _ _).mono ?_); rintro e w1 ⟨rfl, hb⟩)
       try go_wp2_with fail
       refine hK.out _ _ (by (first | (exact (Sees.of P5.out.2.1 HB.out (Below.refl _ _)).drew) | (exact Sees.of P5.out.2.1 HB.out (bl hHeld.1 hb)))) (fun hHeld => ?_)
       clear hK K
       try simp only [Act.put, List.setIfInBounds_toArray, List.set_cons_zero, List.set_cons_succ])
  refine wpAnyH_done (by kernel_rfl) ?_ _
  refine NoPanic.normal ?_
  have hS : Below w5.heap.size w5 w1 := (by assumption : Below w5.heap.size w5 w1 ∧ _).1
  have P6 := Lib.hid (P5.out.call hS)
  have HB6 := Lib.hid (HB.out.call hS)
  have hw6 := hS.size
  have hk : isKindB (1 + n % 10) = true := by simp only [isKindB, Bool.and_eq_true, decide_eq_true_eq]; omega
  have HK := Lib.hid hk
  clear hk n0 n1
  generalize 1 + n % 10 = k at *
  clear hS P5 HB hcur0
  go_wp2_with fail
  refine (refname_any k _).mono ?_
  rintro e w7 ⟨rfl, b7⟩
  have P7 := Lib.hid (P6.out.call b7)
  have HB7 := Lib.hid (HB6.out.call b7)
  have hw7 := b7.size
  have hcg := HB7.out.cell
  have hfg := HB7.out.frozen
  have hc7 : ∃ y, (cur[0]? : Option Value) = some y := ⟨_, HCUR.out 0 hpos⟩
  obtain ⟨y0, hc7⟩ := hc7
  clear b7 P6 HB6
  go_wp2_with fail
  have hv := strs_set (cap := cap) (x := nameOf k) HB7.out HCUR.out HLEN.out hpos
  rw [show (wordsOf c).tail = (partsOf c.kind).flatMap (putP c) from rfl] at hv
  have P8 : OneC w c ga wa gc wc (w7.setCell ⟨g, 0, none⟩ (str (nameOf k))) := by
    have b : Below w.heap.size w (w7.setCell ⟨g, 0, none⟩ (str (nameOf k))) := P7.out.1.setCell (by show w.heap.size ≤ g; omega) _
    exact ⟨b, P7.out.2.1.far (by show w.heap.size ≠ g; omega) _, H1.out.below b (Nat.le_refl _), H2.out.below b (Nat.le_refl _)⟩
  unfold str at hv P8
  have P8 := Lib.hid P8
  have HV := Lib.hid hv
  clear hv hcg hfg hc7 P7 HB7 HCUR
  generalize hW8 : w7.setCell ⟨g, 0, none⟩ (.string ⟨(nameOf k).toArray⟩) = w8 at *
  clear hW8
  have HZ := Lib.hid (sizes_kind (k := k) HSM.out)
  refine (refjoin_any _ HV.out (by have := HZ.out; omega)).mono ?_
  rintro e w8 ⟨rfl, rfl⟩
  go_wp2_with fail
  have hpl : words (⟨(glue (nameOf k :: (partsOf c.kind).flatMap (putP c))).toArray⟩ : ByteArray).data.toList = nameOf k :: (partsOf c.kind).flatMap (putP c) := by
    show words (glue _) = _
    exact words_glue _ (fun x hx => by
      rcases List.mem_cons.1 hx with rfl | hx
      · exact name_plain HK.out
      · exact words_plain_of HM.out x (List.mem_cons_of_mem _ hx))
  have hsz : (⟨(glue (nameOf k :: (partsOf c.kind).flatMap (putP c))).toArray⟩ : ByteArray).size ≤ 500000 := by
    have := glue_len (nameOf k :: (partsOf c.kind).flatMap (putP c))
    have := HZ.out
    show (glue _).length ≤ _
    omega
  have HPL := Lib.hid hpl
  have HSZ := Lib.hid hsz
  clear hpl hsz HV
  unfold str
  generalize (⟨(glue (nameOf k :: (partsOf c.kind).flatMap (putP c))).toArray⟩ : ByteArray) = S at *
  refine (get_any S _ HSZ.out (HT.out.call P8.out.1)).mono ?_
  rw [HPL.out]
  rintro e w9 ⟨d, gd, gcd, wdd, wcd, hd, rfl, i1, i2, b9⟩
  have P9 := Lib.hid ((P8.out.call b9).alloc (.cells #[.int .i64 d.kind, .int .i64 d.dir, .int .i64 d.item, .int .i64 d.box, .int .i64 d.who, .slice gd d.gives.length gcd, .int .i64 d.pay, .slice wdd d.wants.length wcd, .int .i64 d.fee] 24))
  have D9 := Lib.hid (HoldC.new #[.int .i64 d.kind, .int .i64 d.dir, .int .i64 d.item, .int .i64 d.box, .int .i64 d.who, .slice gd d.gives.length gcd, .int .i64 d.pay, .slice wdd d.wants.length wcd, .int .i64 d.fee] i1 i2)
  have HD := Lib.hid hd
  have J1 := Lib.hid P9.out.2.2.1
  have J2 := Lib.hid P9.out.2.2.2
  have J3 := Lib.hid D9.out.2.1
  have J4 := Lib.hid D9.out.2.2
  clear b9 i1 i2 hd P8
  cases hb : codeB (nameOf k :: (partsOf c.kind).flatMap (putP c))
  · clear hb
    rw [if_neg (by decide)]
    go_wp2_with fail
    refine wp_region_noPanic ?_
    refine wp_region_held_drew (S := (fun w' => Below (w9.alloc (.cells #[.int .i64 d.kind, .int .i64 d.dir, .int .i64 d.item, .int .i64 d.box, .int .i64 d.who, .slice gd d.gives.length gcd, .int .i64 d.pay, .slice wdd d.wants.length wcd, .int .i64 d.fee] 24)).heap.size (w9.alloc (.cells #[.int .i64 d.kind, .int .i64 d.dir, .int .i64 d.item, .int .i64 d.box, .int .i64 d.who, .slice gd d.gives.length gcd, .int .i64 d.pay, .slice wdd d.wants.length wcd, .int .i64 d.fee] 24)) w' ∧ (∀ i, w'.cell? ⟨w.heap.size, i, none⟩ = (#[.int .i64 c.kind, .int .i64 c.dir, .int .i64 c.item, .int .i64 c.box, .int .i64 c.who, .slice ga c.gives.length gc, .int .i64 c.pay, .slice wa c.wants.length wc, .int .i64 c.fee][i]? : Option Value)) ∧ ∀ i, w'.cell? ⟨w9.heap.size, i, none⟩ = (#[.int .i64 d.kind, .int .i64 d.dir, .int .i64 d.item, .int .i64 d.box, .int .i64 d.who, .slice gd d.gives.length gcd, .int .i64 d.pay, .slice wdd d.wants.length wcd, .int .i64 d.fee][i]? : Option Value))) (by kernel_rfl) (by (first | (exact (Sees.of P9.out.2.1 D9.out.1 (Below.refl _ _)).drew) | (exact Sees.of P9.out.2.1 D9.out.1 (bl hHeld.1 hb)))) (fun hHeld => ?_)
    first
      | (refine wpAnyH_take (i := 0) (v := undef) (by simp only [List.getElem?_toArray, List.getElem?_cons_zero]; rfl) (by kernel_rfl) (by kernel_rfl) (by kernel_rfl) (fun _ _ _ h => h) (Or.inr ⟨by rfl, rfl⟩) (by assumption) ?_; try simp only [Act.put, List.setIfInBounds_toArray, List.set_cons_zero, List.set_cons_succ])
      | (refine wpAnyH_take (i := 0) (v := ?_) (by simp only [List.getElem?_toArray, List.getElem?_cons_zero]; rfl) (by kernel_rfl) (by kernel_rfl) (by kernel_rfl) (fun _ _ _ h => h) (Or.inl ⟨by rfl, ?_⟩) (by assumption) ?_
         rotate_left
         · (intro ww hSw; (try dsimp only at hSw); go_simp; (try with_reducible rfl))
         try simp only [Act.put, List.setIfInBounds_toArray, List.set_cons_zero, List.set_cons_succ])
      | (refine wpAnyH_ready (rs := [0]) (by kernel_rfl) (by simp) (AllReadyH.cons (by simp only [List.getElem?_toArray, List.getElem?_cons_succ, List.getElem?_cons_zero]; rfl) (fun K hK => ?_) AllReadyH.nil)
         go_simp
         first
           | (go_at_call 15; (with_reducible refine (refsame_any _ _ _ _ _ _ _ _ _ _ _ (J1.out.below hHeld.1 (Nat.le_refl _)) (J2.out.below hHeld.1 (Nat.le_refl _)) (J3.out.below hHeld.1 (Nat.le_refl _)) (J4.out.below hHeld.1 (Nat.le_refl _))).mono ?_); rintro e w1 ⟨rfl, hb⟩)
         try go_wp2_with fail
         refine hK.out _ _ (by (first | (exact (Sees.of P9.out.2.1 D9.out.1 (Below.refl _ _)).drew) | (exact Sees.of P9.out.2.1 D9.out.1 (bl hHeld.1 hb)))) (fun hHeld => ?_)
         clear hK K
         try simp only [Act.put, List.setIfInBounds_toArray, List.set_cons_zero, List.set_cons_succ])
    first
      | (refine wpAnyH_take (i := 1) (v := undef) (by simp only [List.getElem?_toArray, List.getElem?_cons_succ, List.getElem?_cons_zero]; rfl) (by kernel_rfl) (by kernel_rfl) (by kernel_rfl) (fun _ _ _ h => h) (Or.inr ⟨by rfl, rfl⟩) (by assumption) ?_; try simp only [Act.put, List.setIfInBounds_toArray, List.set_cons_zero, List.set_cons_succ])
      | (refine wpAnyH_take (i := 1) (v := ?_) (by simp only [List.getElem?_toArray, List.getElem?_cons_succ, List.getElem?_cons_zero]; rfl) (by kernel_rfl) (by kernel_rfl) (by kernel_rfl) (fun _ _ _ h => h) (Or.inl ⟨by rfl, ?_⟩) (by assumption) ?_
         rotate_left
         · (intro ww hSw; (try dsimp only at hSw); go_simp; (try with_reducible rfl))
         try simp only [Act.put, List.setIfInBounds_toArray, List.set_cons_zero, List.set_cons_succ])
      | (refine wpAnyH_ready (rs := [1]) (by kernel_rfl) (by simp) (AllReadyH.cons (by simp only [List.getElem?_toArray, List.getElem?_cons_succ, List.getElem?_cons_zero]; rfl) (fun K hK => ?_) AllReadyH.nil)
         go_simp
         first
           | (go_at_call 15; (with_reducible refine (refsame_any _ _ _ _ _ _ _ _ _ _ _ (J1.out.below hHeld.1 (Nat.le_refl _)) (J2.out.below hHeld.1 (Nat.le_refl _)) (J3.out.below hHeld.1 (Nat.le_refl _)) (J4.out.below hHeld.1 (Nat.le_refl _))).mono ?_); rintro e w1 ⟨rfl, hb⟩)
         try go_wp2_with fail
         refine hK.out _ _ (by (first | (exact (Sees.of P9.out.2.1 D9.out.1 (Below.refl _ _)).drew) | (exact Sees.of P9.out.2.1 D9.out.1 (bl hHeld.1 hb)))) (fun hHeld => ?_)
         clear hK K
         try simp only [Act.put, List.setIfInBounds_toArray, List.set_cons_zero, List.set_cons_succ])
    first
      | (refine wpAnyH_take (i := 2) (v := undef) (by simp only [List.getElem?_toArray, List.getElem?_cons_succ, List.getElem?_cons_zero]; rfl) (by kernel_rfl) (by kernel_rfl) (by kernel_rfl) (fun _ _ _ h => h) (Or.inr ⟨by rfl, rfl⟩) (by assumption) ?_; try simp only [Act.put, List.setIfInBounds_toArray, List.set_cons_zero, List.set_cons_succ])
      | (refine wpAnyH_take (i := 2) (v := ?_) (by simp only [List.getElem?_toArray, List.getElem?_cons_succ, List.getElem?_cons_zero]; rfl) (by kernel_rfl) (by kernel_rfl) (by kernel_rfl) (fun _ _ _ h => h) (Or.inl ⟨by rfl, ?_⟩) (by assumption) ?_
         rotate_left
         · (intro ww hSw; (try dsimp only at hSw); go_simp; (try with_reducible rfl))
         try simp only [Act.put, List.setIfInBounds_toArray, List.set_cons_zero, List.set_cons_succ])
      | (refine wpAnyH_ready (rs := [2]) (by kernel_rfl) (by simp) (AllReadyH.cons (by simp only [List.getElem?_toArray, List.getElem?_cons_succ, List.getElem?_cons_zero]; rfl) (fun K hK => ?_) AllReadyH.nil)
         go_simp
         first
           | (go_at_call 15; (with_reducible refine (refsame_any _ _ _ _ _ _ _ _ _ _ _ (J1.out.below hHeld.1 (Nat.le_refl _)) (J2.out.below hHeld.1 (Nat.le_refl _)) (J3.out.below hHeld.1 (Nat.le_refl _)) (J4.out.below hHeld.1 (Nat.le_refl _))).mono ?_); rintro e w1 ⟨rfl, hb⟩)
         try go_wp2_with fail
         refine hK.out _ _ (by (first | (exact (Sees.of P9.out.2.1 D9.out.1 (Below.refl _ _)).drew) | (exact Sees.of P9.out.2.1 D9.out.1 (bl hHeld.1 hb)))) (fun hHeld => ?_)
         clear hK K
         try simp only [Act.put, List.setIfInBounds_toArray, List.set_cons_zero, List.set_cons_succ])
    first
      | (refine wpAnyH_take (i := 3) (v := undef) (by simp only [List.getElem?_toArray, List.getElem?_cons_succ, List.getElem?_cons_zero]; rfl) (by kernel_rfl) (by kernel_rfl) (by kernel_rfl) (fun _ _ _ h => h) (Or.inr ⟨by rfl, rfl⟩) (by assumption) ?_; try simp only [Act.put, List.setIfInBounds_toArray, List.set_cons_zero, List.set_cons_succ])
      | (refine wpAnyH_take (i := 3) (v := ?_) (by simp only [List.getElem?_toArray, List.getElem?_cons_succ, List.getElem?_cons_zero]; rfl) (by kernel_rfl) (by kernel_rfl) (by kernel_rfl) (fun _ _ _ h => h) (Or.inl ⟨by rfl, ?_⟩) (by assumption) ?_
         rotate_left
         · (intro ww hSw; (try dsimp only at hSw); go_simp; (try with_reducible rfl))
         try simp only [Act.put, List.setIfInBounds_toArray, List.set_cons_zero, List.set_cons_succ])
      | (refine wpAnyH_ready (rs := [3]) (by kernel_rfl) (by simp) (AllReadyH.cons (by simp only [List.getElem?_toArray, List.getElem?_cons_succ, List.getElem?_cons_zero]; rfl) (fun K hK => ?_) AllReadyH.nil)
         go_simp
         first
           | (go_at_call 15; (with_reducible refine (refsame_any _ _ _ _ _ _ _ _ _ _ _ (J1.out.below hHeld.1 (Nat.le_refl _)) (J2.out.below hHeld.1 (Nat.le_refl _)) (J3.out.below hHeld.1 (Nat.le_refl _)) (J4.out.below hHeld.1 (Nat.le_refl _))).mono ?_); rintro e w1 ⟨rfl, hb⟩)
         try go_wp2_with fail
         refine hK.out _ _ (by (first | (exact (Sees.of P9.out.2.1 D9.out.1 (Below.refl _ _)).drew) | (exact Sees.of P9.out.2.1 D9.out.1 (bl hHeld.1 hb)))) (fun hHeld => ?_)
         clear hK K
         try simp only [Act.put, List.setIfInBounds_toArray, List.set_cons_zero, List.set_cons_succ])
    first
      | (refine wpAnyH_take (i := 4) (v := undef) (by simp only [List.getElem?_toArray, List.getElem?_cons_succ, List.getElem?_cons_zero]; rfl) (by kernel_rfl) (by kernel_rfl) (by kernel_rfl) (fun _ _ _ h => h) (Or.inr ⟨by rfl, rfl⟩) (by assumption) ?_; try simp only [Act.put, List.setIfInBounds_toArray, List.set_cons_zero, List.set_cons_succ])
      | (refine wpAnyH_take (i := 4) (v := ?_) (by simp only [List.getElem?_toArray, List.getElem?_cons_succ, List.getElem?_cons_zero]; rfl) (by kernel_rfl) (by kernel_rfl) (by kernel_rfl) (fun _ _ _ h => h) (Or.inl ⟨by rfl, ?_⟩) (by assumption) ?_
         rotate_left
         · (intro ww hSw; (try dsimp only at hSw); go_simp; (try with_reducible rfl))
         try simp only [Act.put, List.setIfInBounds_toArray, List.set_cons_zero, List.set_cons_succ])
      | (refine wpAnyH_ready (rs := [4]) (by kernel_rfl) (by simp) (AllReadyH.cons (by simp only [List.getElem?_toArray, List.getElem?_cons_succ, List.getElem?_cons_zero]; rfl) (fun K hK => ?_) AllReadyH.nil)
         go_simp
         first
           | (go_at_call 15; (with_reducible refine (refsame_any _ _ _ _ _ _ _ _ _ _ _ (J1.out.below hHeld.1 (Nat.le_refl _)) (J2.out.below hHeld.1 (Nat.le_refl _)) (J3.out.below hHeld.1 (Nat.le_refl _)) (J4.out.below hHeld.1 (Nat.le_refl _))).mono ?_); rintro e w1 ⟨rfl, hb⟩)
         try go_wp2_with fail
         refine hK.out _ _ (by (first | (exact (Sees.of P9.out.2.1 D9.out.1 (Below.refl _ _)).drew) | (exact Sees.of P9.out.2.1 D9.out.1 (bl hHeld.1 hb)))) (fun hHeld => ?_)
         clear hK K
         try simp only [Act.put, List.setIfInBounds_toArray, List.set_cons_zero, List.set_cons_succ])
    first
      | (refine wpAnyH_take (i := 5) (v := undef) (by simp only [List.getElem?_toArray, List.getElem?_cons_succ, List.getElem?_cons_zero]; rfl) (by kernel_rfl) (by kernel_rfl) (by kernel_rfl) (fun _ _ _ h => h) (Or.inr ⟨by rfl, rfl⟩) (by assumption) ?_; try simp only [Act.put, List.setIfInBounds_toArray, List.set_cons_zero, List.set_cons_succ])
      | (refine wpAnyH_take (i := 5) (v := ?_) (by simp only [List.getElem?_toArray, List.getElem?_cons_succ, List.getElem?_cons_zero]; rfl) (by kernel_rfl) (by kernel_rfl) (by kernel_rfl) (fun _ _ _ h => h) (Or.inl ⟨by rfl, ?_⟩) (by assumption) ?_
         rotate_left
         · (intro ww hSw; (try dsimp only at hSw); go_simp; (try with_reducible rfl))
         try simp only [Act.put, List.setIfInBounds_toArray, List.set_cons_zero, List.set_cons_succ])
      | (refine wpAnyH_ready (rs := [5]) (by kernel_rfl) (by simp) (AllReadyH.cons (by simp only [List.getElem?_toArray, List.getElem?_cons_succ, List.getElem?_cons_zero]; rfl) (fun K hK => ?_) AllReadyH.nil)
         go_simp
         first
           | (go_at_call 15; (with_reducible refine (refsame_any _ _ _ _ _ _ _ _ _ _ _ (J1.out.below hHeld.1 (Nat.le_refl _)) (J2.out.below hHeld.1 (Nat.le_refl _)) (J3.out.below hHeld.1 (Nat.le_refl _)) (J4.out.below hHeld.1 (Nat.le_refl _))).mono ?_); rintro e w1 ⟨rfl, hb⟩)
         try go_wp2_with fail
         refine hK.out _ _ (by (first | (exact (Sees.of P9.out.2.1 D9.out.1 (Below.refl _ _)).drew) | (exact Sees.of P9.out.2.1 D9.out.1 (bl hHeld.1 hb)))) (fun hHeld => ?_)
         clear hK K
         try simp only [Act.put, List.setIfInBounds_toArray, List.set_cons_zero, List.set_cons_succ])
    first
      | (refine wpAnyH_take (i := 6) (v := undef) (by simp only [List.getElem?_toArray, List.getElem?_cons_succ, List.getElem?_cons_zero]; rfl) (by kernel_rfl) (by kernel_rfl) (by kernel_rfl) (fun _ _ _ h => h) (Or.inr ⟨by rfl, rfl⟩) (by assumption) ?_; try simp only [Act.put, List.setIfInBounds_toArray, List.set_cons_zero, List.set_cons_succ])
      | (refine wpAnyH_take (i := 6) (v := ?_) (by simp only [List.getElem?_toArray, List.getElem?_cons_succ, List.getElem?_cons_zero]; rfl) (by kernel_rfl) (by kernel_rfl) (by kernel_rfl) (fun _ _ _ h => h) (Or.inl ⟨by rfl, ?_⟩) (by assumption) ?_
         rotate_left
         · (intro ww hSw; (try dsimp only at hSw); go_simp; (try with_reducible rfl))
         try simp only [Act.put, List.setIfInBounds_toArray, List.set_cons_zero, List.set_cons_succ])
      | (refine wpAnyH_ready (rs := [6]) (by kernel_rfl) (by simp) (AllReadyH.cons (by simp only [List.getElem?_toArray, List.getElem?_cons_succ, List.getElem?_cons_zero]; rfl) (fun K hK => ?_) AllReadyH.nil)
         go_simp
         first
           | (go_at_call 15; (with_reducible refine (refsame_any _ _ _ _ _ _ _ _ _ _ _ (J1.out.below hHeld.1 (Nat.le_refl _)) (J2.out.below hHeld.1 (Nat.le_refl _)) (J3.out.below hHeld.1 (Nat.le_refl _)) (J4.out.below hHeld.1 (Nat.le_refl _))).mono ?_); rintro e w1 ⟨rfl, hb⟩)
         try go_wp2_with fail
         refine hK.out _ _ (by (first | (exact (Sees.of P9.out.2.1 D9.out.1 (Below.refl _ _)).drew) | (exact Sees.of P9.out.2.1 D9.out.1 (bl hHeld.1 hb)))) (fun hHeld => ?_)
         clear hK K
         try simp only [Act.put, List.setIfInBounds_toArray, List.set_cons_zero, List.set_cons_succ])
    first
      | (refine wpAnyH_take (i := 7) (v := undef) (by simp only [List.getElem?_toArray, List.getElem?_cons_succ, List.getElem?_cons_zero]; rfl) (by kernel_rfl) (by kernel_rfl) (by kernel_rfl) (fun _ _ _ h => h) (Or.inr ⟨by rfl, rfl⟩) (by assumption) ?_; try simp only [Act.put, List.setIfInBounds_toArray, List.set_cons_zero, List.set_cons_succ])
      | (refine wpAnyH_take (i := 7) (v := ?_) (by simp only [List.getElem?_toArray, List.getElem?_cons_succ, List.getElem?_cons_zero]; rfl) (by kernel_rfl) (by kernel_rfl) (by kernel_rfl) (fun _ _ _ h => h) (Or.inl ⟨by rfl, ?_⟩) (by assumption) ?_
         rotate_left
         · (intro ww hSw; (try dsimp only at hSw); go_simp; (try with_reducible rfl))
         try simp only [Act.put, List.setIfInBounds_toArray, List.set_cons_zero, List.set_cons_succ])
      | (refine wpAnyH_ready (rs := [7]) (by kernel_rfl) (by simp) (AllReadyH.cons (by simp only [List.getElem?_toArray, List.getElem?_cons_succ, List.getElem?_cons_zero]; rfl) (fun K hK => ?_) AllReadyH.nil)
         go_simp
         first
           | (go_at_call 15; (with_reducible refine (refsame_any _ _ _ _ _ _ _ _ _ _ _ (J1.out.below hHeld.1 (Nat.le_refl _)) (J2.out.below hHeld.1 (Nat.le_refl _)) (J3.out.below hHeld.1 (Nat.le_refl _)) (J4.out.below hHeld.1 (Nat.le_refl _))).mono ?_); rintro e w1 ⟨rfl, hb⟩)
         try go_wp2_with fail
         refine hK.out _ _ (by (first | (exact (Sees.of P9.out.2.1 D9.out.1 (Below.refl _ _)).drew) | (exact Sees.of P9.out.2.1 D9.out.1 (bl hHeld.1 hb)))) (fun hHeld => ?_)
         clear hK K
         try simp only [Act.put, List.setIfInBounds_toArray, List.set_cons_zero, List.set_cons_succ])
    first
      | (refine wpAnyH_take (i := 8) (v := undef) (by simp only [List.getElem?_toArray, List.getElem?_cons_succ, List.getElem?_cons_zero]; rfl) (by kernel_rfl) (by kernel_rfl) (by kernel_rfl) (fun _ _ _ h => h) (Or.inr ⟨by rfl, rfl⟩) (by assumption) ?_; try simp only [Act.put, List.setIfInBounds_toArray, List.set_cons_zero, List.set_cons_succ])
      | (refine wpAnyH_take (i := 8) (v := ?_) (by simp only [List.getElem?_toArray, List.getElem?_cons_succ, List.getElem?_cons_zero]; rfl) (by kernel_rfl) (by kernel_rfl) (by kernel_rfl) (fun _ _ _ h => h) (Or.inl ⟨by rfl, ?_⟩) (by assumption) ?_
         rotate_left
         · (intro ww hSw; (try dsimp only at hSw); go_simp; (try with_reducible rfl))
         try simp only [Act.put, List.setIfInBounds_toArray, List.set_cons_zero, List.set_cons_succ])
      | (refine wpAnyH_ready (rs := [8]) (by kernel_rfl) (by simp) (AllReadyH.cons (by simp only [List.getElem?_toArray, List.getElem?_cons_succ, List.getElem?_cons_zero]; rfl) (fun K hK => ?_) AllReadyH.nil)
         go_simp
         first
           | (go_at_call 15; (with_reducible refine (refsame_any _ _ _ _ _ _ _ _ _ _ _ (J1.out.below hHeld.1 (Nat.le_refl _)) (J2.out.below hHeld.1 (Nat.le_refl _)) (J3.out.below hHeld.1 (Nat.le_refl _)) (J4.out.below hHeld.1 (Nat.le_refl _))).mono ?_); rintro e w1 ⟨rfl, hb⟩)
         try go_wp2_with fail
         refine hK.out _ _ (by (first | (exact (Sees.of P9.out.2.1 D9.out.1 (Below.refl _ _)).drew) | (exact Sees.of P9.out.2.1 D9.out.1 (bl hHeld.1 hb)))) (fun hHeld => ?_)
         clear hK K
         try simp only [Act.put, List.setIfInBounds_toArray, List.set_cons_zero, List.set_cons_succ])
    first
      | (refine wpAnyH_take (i := 9) (v := undef) (by simp only [List.getElem?_toArray, List.getElem?_cons_succ, List.getElem?_cons_zero]; rfl) (by kernel_rfl) (by kernel_rfl) (by kernel_rfl) (fun _ _ _ h => h) (Or.inr ⟨by rfl, rfl⟩) (by assumption) ?_; try simp only [Act.put, List.setIfInBounds_toArray, List.set_cons_zero, List.set_cons_succ])
      | (refine wpAnyH_take (i := 9) (v := ?_) (by simp only [List.getElem?_toArray, List.getElem?_cons_succ, List.getElem?_cons_zero]; rfl) (by kernel_rfl) (by kernel_rfl) (by kernel_rfl) (fun _ _ _ h => h) (Or.inl ⟨by rfl, ?_⟩) (by assumption) ?_
         rotate_left
         · (intro ww hSw; (try dsimp only at hSw); go_simp; (try with_reducible rfl))
         try simp only [Act.put, List.setIfInBounds_toArray, List.set_cons_zero, List.set_cons_succ])
      | (refine wpAnyH_ready (rs := [9]) (by kernel_rfl) (by simp) (AllReadyH.cons (by simp only [List.getElem?_toArray, List.getElem?_cons_succ, List.getElem?_cons_zero]; rfl) (fun K hK => ?_) AllReadyH.nil)
         go_simp
         first
           | (go_at_call 15; (with_reducible refine (refsame_any _ _ _ _ _ _ _ _ _ _ _ (J1.out.below hHeld.1 (Nat.le_refl _)) (J2.out.below hHeld.1 (Nat.le_refl _)) (J3.out.below hHeld.1 (Nat.le_refl _)) (J4.out.below hHeld.1 (Nat.le_refl _))).mono ?_); rintro e w1 ⟨rfl, hb⟩)
         try go_wp2_with fail
         refine hK.out _ _ (by (first | (exact (Sees.of P9.out.2.1 D9.out.1 (Below.refl _ _)).drew) | (exact Sees.of P9.out.2.1 D9.out.1 (bl hHeld.1 hb)))) (fun hHeld => ?_)
         clear hK K
         try simp only [Act.put, List.setIfInBounds_toArray, List.set_cons_zero, List.set_cons_succ])
    first
      | (refine wpAnyH_take (i := 10) (v := undef) (by simp only [List.getElem?_toArray, List.getElem?_cons_succ, List.getElem?_cons_zero]; rfl) (by kernel_rfl) (by kernel_rfl) (by kernel_rfl) (fun _ _ _ h => h) (Or.inr ⟨by rfl, rfl⟩) (by assumption) ?_; try simp only [Act.put, List.setIfInBounds_toArray, List.set_cons_zero, List.set_cons_succ])
      | (refine wpAnyH_take (i := 10) (v := ?_) (by simp only [List.getElem?_toArray, List.getElem?_cons_succ, List.getElem?_cons_zero]; rfl) (by kernel_rfl) (by kernel_rfl) (by kernel_rfl) (fun _ _ _ h => h) (Or.inl ⟨by rfl, ?_⟩) (by assumption) ?_
         rotate_left
         · (intro ww hSw; (try dsimp only at hSw); go_simp; (try with_reducible rfl))
         try simp only [Act.put, List.setIfInBounds_toArray, List.set_cons_zero, List.set_cons_succ])
      | (refine wpAnyH_ready (rs := [10]) (by kernel_rfl) (by simp) (AllReadyH.cons (by simp only [List.getElem?_toArray, List.getElem?_cons_succ, List.getElem?_cons_zero]; rfl) (fun K hK => ?_) AllReadyH.nil)
         go_simp
         first
           | (go_at_call 15; (with_reducible refine (refsame_any _ _ _ _ _ _ _ _ _ _ _ (J1.out.below hHeld.1 (Nat.le_refl _)) (J2.out.below hHeld.1 (Nat.le_refl _)) (J3.out.below hHeld.1 (Nat.le_refl _)) (J4.out.below hHeld.1 (Nat.le_refl _))).mono ?_); rintro e w1 ⟨rfl, hb⟩)
         try go_wp2_with fail
         refine hK.out _ _ (by (first | (exact (Sees.of P9.out.2.1 D9.out.1 (Below.refl _ _)).drew) | (exact Sees.of P9.out.2.1 D9.out.1 (bl hHeld.1 hb)))) (fun hHeld => ?_)
         clear hK K
         try simp only [Act.put, List.setIfInBounds_toArray, List.set_cons_zero, List.set_cons_succ])
    first
      | (refine wpAnyH_take (i := 11) (v := undef) (by simp only [List.getElem?_toArray, List.getElem?_cons_succ, List.getElem?_cons_zero]; rfl) (by kernel_rfl) (by kernel_rfl) (by kernel_rfl) (fun _ _ _ h => h) (Or.inr ⟨by rfl, rfl⟩) (by assumption) ?_; try simp only [Act.put, List.setIfInBounds_toArray, List.set_cons_zero, List.set_cons_succ])
      | (refine wpAnyH_take (i := 11) (v := ?_) (by simp only [List.getElem?_toArray, List.getElem?_cons_succ, List.getElem?_cons_zero]; rfl) (by kernel_rfl) (by kernel_rfl) (by kernel_rfl) (fun _ _ _ h => h) (Or.inl ⟨by rfl, ?_⟩) (by assumption) ?_
         rotate_left
         · (intro ww hSw; (try dsimp only at hSw); go_simp; (try with_reducible rfl))
         try simp only [Act.put, List.setIfInBounds_toArray, List.set_cons_zero, List.set_cons_succ])
      | (refine wpAnyH_ready (rs := [11]) (by kernel_rfl) (by simp) (AllReadyH.cons (by simp only [List.getElem?_toArray, List.getElem?_cons_succ, List.getElem?_cons_zero]; rfl) (fun K hK => ?_) AllReadyH.nil)
         go_simp
         first
           | (go_at_call 15; (with_reducible refine (refsame_any _ _ _ _ _ _ _ _ _ _ _ (J1.out.below hHeld.1 (Nat.le_refl _)) (J2.out.below hHeld.1 (Nat.le_refl _)) (J3.out.below hHeld.1 (Nat.le_refl _)) (J4.out.below hHeld.1 (Nat.le_refl _))).mono ?_); rintro e w1 ⟨rfl, hb⟩)
         try go_wp2_with fail
         refine hK.out _ _ (by (first | (exact (Sees.of P9.out.2.1 D9.out.1 (Below.refl _ _)).drew) | (exact Sees.of P9.out.2.1 D9.out.1 (bl hHeld.1 hb)))) (fun hHeld => ?_)
         clear hK K
         try simp only [Act.put, List.setIfInBounds_toArray, List.set_cons_zero, List.set_cons_succ])
    first
      | (refine wpAnyH_take (i := 12) (v := undef) (by simp only [List.getElem?_toArray, List.getElem?_cons_succ, List.getElem?_cons_zero]; rfl) (by kernel_rfl) (by kernel_rfl) (by kernel_rfl) (fun _ _ _ h => h) (Or.inr ⟨by rfl, rfl⟩) (by assumption) ?_; try simp only [Act.put, List.setIfInBounds_toArray, List.set_cons_zero, List.set_cons_succ])
      | (refine wpAnyH_take (i := 12) (v := ?_) (by simp only [List.getElem?_toArray, List.getElem?_cons_succ, List.getElem?_cons_zero]; rfl) (by kernel_rfl) (by kernel_rfl) (by kernel_rfl) (fun _ _ _ h => h) (Or.inl ⟨by rfl, ?_⟩) (by assumption) ?_
         rotate_left
         · (intro ww hSw; (try dsimp only at hSw); go_simp; (try with_reducible rfl))
         try simp only [Act.put, List.setIfInBounds_toArray, List.set_cons_zero, List.set_cons_succ])
      | (refine wpAnyH_ready (rs := [12]) (by kernel_rfl) (by simp) (AllReadyH.cons (by simp only [List.getElem?_toArray, List.getElem?_cons_succ, List.getElem?_cons_zero]; rfl) (fun K hK => ?_) AllReadyH.nil)
         go_simp
         first
           | (go_at_call 15; (with_reducible refine (refsame_any _ _ _ _ _ _ _ _ _ _ _ (J1.out.below hHeld.1 (Nat.le_refl _)) (J2.out.below hHeld.1 (Nat.le_refl _)) (J3.out.below hHeld.1 (Nat.le_refl _)) (J4.out.below hHeld.1 (Nat.le_refl _))).mono ?_); rintro e w1 ⟨rfl, hb⟩)
         try go_wp2_with fail
         refine hK.out _ _ (by (first | (exact (Sees.of P9.out.2.1 D9.out.1 (Below.refl _ _)).drew) | (exact Sees.of P9.out.2.1 D9.out.1 (bl hHeld.1 hb)))) (fun hHeld => ?_)
         clear hK K
         try simp only [Act.put, List.setIfInBounds_toArray, List.set_cons_zero, List.set_cons_succ])
    first
      | (refine wpAnyH_take (i := 13) (v := undef) (by simp only [List.getElem?_toArray, List.getElem?_cons_succ, List.getElem?_cons_zero]; rfl) (by kernel_rfl) (by kernel_rfl) (by kernel_rfl) (fun _ _ _ h => h) (Or.inr ⟨by rfl, rfl⟩) (by assumption) ?_; try simp only [Act.put, List.setIfInBounds_toArray, List.set_cons_zero, List.set_cons_succ])
      | (refine wpAnyH_take (i := 13) (v := ?_) (by simp only [List.getElem?_toArray, List.getElem?_cons_succ, List.getElem?_cons_zero]; rfl) (by kernel_rfl) (by kernel_rfl) (by kernel_rfl) (fun _ _ _ h => h) (Or.inl ⟨by rfl, ?_⟩) (by assumption) ?_
         rotate_left
         · (intro ww hSw; (try dsimp only at hSw); go_simp; (try with_reducible rfl))
         try simp only [Act.put, List.setIfInBounds_toArray, List.set_cons_zero, List.set_cons_succ])
      | (refine wpAnyH_ready (rs := [13]) (by kernel_rfl) (by simp) (AllReadyH.cons (by simp only [List.getElem?_toArray, List.getElem?_cons_succ, List.getElem?_cons_zero]; rfl) (fun K hK => ?_) AllReadyH.nil)
         go_simp
         first
           | (go_at_call 15; (with_reducible refine (refsame_any _ _ _ _ _ _ _ _ _ _ _ (J1.out.below hHeld.1 (Nat.le_refl _)) (J2.out.below hHeld.1 (Nat.le_refl _)) (J3.out.below hHeld.1 (Nat.le_refl _)) (J4.out.below hHeld.1 (Nat.le_refl _))).mono ?_); rintro e w1 ⟨rfl, hb⟩)
         try go_wp2_with fail
         refine hK.out _ _ (by (first | (exact (Sees.of P9.out.2.1 D9.out.1 (Below.refl _ _)).drew) | (exact Sees.of P9.out.2.1 D9.out.1 (bl hHeld.1 hb)))) (fun hHeld => ?_)
         clear hK K
         try simp only [Act.put, List.setIfInBounds_toArray, List.set_cons_zero, List.set_cons_succ])
    first
      | (refine wpAnyH_take (i := 14) (v := undef) (by simp only [List.getElem?_toArray, List.getElem?_cons_succ, List.getElem?_cons_zero]; rfl) (by kernel_rfl) (by kernel_rfl) (by kernel_rfl) (fun _ _ _ h => h) (Or.inr ⟨by rfl, rfl⟩) (by assumption) ?_; try simp only [Act.put, List.setIfInBounds_toArray, List.set_cons_zero, List.set_cons_succ])
      | (refine wpAnyH_take (i := 14) (v := ?_) (by simp only [List.getElem?_toArray, List.getElem?_cons_succ, List.getElem?_cons_zero]; rfl) (by kernel_rfl) (by kernel_rfl) (by kernel_rfl) (fun _ _ _ h => h) (Or.inl ⟨by rfl, ?_⟩) (by assumption) ?_
         rotate_left
         · (intro ww hSw; (try dsimp only at hSw); go_simp; (try with_reducible rfl))
         try simp only [Act.put, List.setIfInBounds_toArray, List.set_cons_zero, List.set_cons_succ])
      | (refine wpAnyH_ready (rs := [14]) (by kernel_rfl) (by simp) (AllReadyH.cons (by simp only [List.getElem?_toArray, List.getElem?_cons_succ, List.getElem?_cons_zero]; rfl) (fun K hK => ?_) AllReadyH.nil)
         go_simp
         first
           | (go_at_call 15; (with_reducible refine (refsame_any _ _ _ _ _ _ _ _ _ _ _ (J1.out.below hHeld.1 (Nat.le_refl _)) (J2.out.below hHeld.1 (Nat.le_refl _)) (J3.out.below hHeld.1 (Nat.le_refl _)) (J4.out.below hHeld.1 (Nat.le_refl _))).mono ?_); rintro e w1 ⟨rfl, hb⟩)
         try go_wp2_with fail
         refine hK.out _ _ (by (first | (exact (Sees.of P9.out.2.1 D9.out.1 (Below.refl _ _)).drew) | (exact Sees.of P9.out.2.1 D9.out.1 (bl hHeld.1 hb)))) (fun hHeld => ?_)
         clear hK K
         try simp only [Act.put, List.setIfInBounds_toArray, List.set_cons_zero, List.set_cons_succ])
    first
      | (refine wpAnyH_take (i := 15) (v := undef) (by simp only [List.getElem?_toArray, List.getElem?_cons_succ, List.getElem?_cons_zero]; rfl) (by kernel_rfl) (by kernel_rfl) (by kernel_rfl) (fun _ _ _ h => h) (Or.inr ⟨by rfl, rfl⟩) (by assumption) ?_; try simp only [Act.put, List.setIfInBounds_toArray, List.set_cons_zero, List.set_cons_succ])
      | (refine wpAnyH_take (i := 15) (v := ?_) (by simp only [List.getElem?_toArray, List.getElem?_cons_succ, List.getElem?_cons_zero]; rfl) (by kernel_rfl) (by kernel_rfl) (by kernel_rfl) (fun _ _ _ h => h) (Or.inl ⟨by rfl, ?_⟩) (by assumption) ?_
         rotate_left
         · (intro ww hSw; (try dsimp only at hSw); go_simp; (try with_reducible rfl))
         try simp only [Act.put, List.setIfInBounds_toArray, List.set_cons_zero, List.set_cons_succ])
      | (refine wpAnyH_ready (rs := [15]) (by kernel_rfl) (by simp) (AllReadyH.cons (by simp only [List.getElem?_toArray, List.getElem?_cons_succ, List.getElem?_cons_zero]; rfl) (fun K hK => ?_) AllReadyH.nil)
         go_simp
         first
           | (go_at_call 15; (with_reducible refine (refsame_any _ _ _ _ _ _ _ _ _ _ _ (J1.out.below hHeld.1 (Nat.le_refl _)) (J2.out.below hHeld.1 (Nat.le_refl _)) (J3.out.below hHeld.1 (Nat.le_refl _)) (J4.out.below hHeld.1 (Nat.le_refl _))).mono ?_); rintro e w1 ⟨rfl, hb⟩)
         try go_wp2_with fail
         refine hK.out _ _ (by (first | (exact (Sees.of P9.out.2.1 D9.out.1 (Below.refl _ _)).drew) | (exact Sees.of P9.out.2.1 D9.out.1 (bl hHeld.1 hb)))) (fun hHeld => ?_)
         clear hK K
         try simp only [Act.put, List.setIfInBounds_toArray, List.set_cons_zero, List.set_cons_succ])
    first
      | (refine wpAnyH_take (i := 16) (v := undef) (by simp only [List.getElem?_toArray, List.getElem?_cons_succ, List.getElem?_cons_zero]; rfl) (by kernel_rfl) (by kernel_rfl) (by kernel_rfl) (fun _ _ _ h => h) (Or.inr ⟨by rfl, rfl⟩) (by assumption) ?_; try simp only [Act.put, List.setIfInBounds_toArray, List.set_cons_zero, List.set_cons_succ])
      | (refine wpAnyH_take (i := 16) (v := ?_) (by simp only [List.getElem?_toArray, List.getElem?_cons_succ, List.getElem?_cons_zero]; rfl) (by kernel_rfl) (by kernel_rfl) (by kernel_rfl) (fun _ _ _ h => h) (Or.inl ⟨by rfl, ?_⟩) (by assumption) ?_
         rotate_left
         · (intro ww hSw; (try dsimp only at hSw); go_simp; (try with_reducible rfl))
         try simp only [Act.put, List.setIfInBounds_toArray, List.set_cons_zero, List.set_cons_succ])
      | (refine wpAnyH_ready (rs := [16]) (by kernel_rfl) (by simp) (AllReadyH.cons (by simp only [List.getElem?_toArray, List.getElem?_cons_succ, List.getElem?_cons_zero]; rfl) (fun K hK => ?_) AllReadyH.nil)
         go_simp
         first
           | (go_at_call 15; (with_reducible refine (refsame_any _ _ _ _ _ _ _ _ _ _ _ (J1.out.below hHeld.1 (Nat.le_refl _)) (J2.out.below hHeld.1 (Nat.le_refl _)) (J3.out.below hHeld.1 (Nat.le_refl _)) (J4.out.below hHeld.1 (Nat.le_refl _))).mono ?_); rintro e w1 ⟨rfl, hb⟩)
         try go_wp2_with fail
         refine hK.out _ _ (by (first | (exact (Sees.of P9.out.2.1 D9.out.1 (Below.refl _ _)).drew) | (exact Sees.of P9.out.2.1 D9.out.1 (bl hHeld.1 hb)))) (fun hHeld => ?_)
         clear hK K
         try simp only [Act.put, List.setIfInBounds_toArray, List.set_cons_zero, List.set_cons_succ])
    first
      | (refine wpAnyH_take (i := 17) (v := undef) (by simp only [List.getElem?_toArray, List.getElem?_cons_succ, List.getElem?_cons_zero]; rfl) (by kernel_rfl) (by kernel_rfl) (by kernel_rfl) (fun _ _ _ h => h) (Or.inr ⟨by rfl, rfl⟩) (by assumption) ?_; try simp only [Act.put, List.setIfInBounds_toArray, List.set_cons_zero, List.set_cons_succ])
      | (refine wpAnyH_take (i := 17) (v := ?_) (by simp only [List.getElem?_toArray, List.getElem?_cons_succ, List.getElem?_cons_zero]; rfl) (by kernel_rfl) (by kernel_rfl) (by kernel_rfl) (fun _ _ _ h => h) (Or.inl ⟨by rfl, ?_⟩) (by assumption) ?_
         rotate_left
         · (intro ww hSw; (try dsimp only at hSw); go_simp; (try with_reducible rfl))
         try simp only [Act.put, List.setIfInBounds_toArray, List.set_cons_zero, List.set_cons_succ])
      | (refine wpAnyH_ready (rs := [17]) (by kernel_rfl) (by simp) (AllReadyH.cons (by simp only [List.getElem?_toArray, List.getElem?_cons_succ, List.getElem?_cons_zero]; rfl) (fun K hK => ?_) AllReadyH.nil)
         go_simp
         first
           | (go_at_call 15; (with_reducible refine (refsame_any _ _ _ _ _ _ _ _ _ _ _ (J1.out.below hHeld.1 (Nat.le_refl _)) (J2.out.below hHeld.1 (Nat.le_refl _)) (J3.out.below hHeld.1 (Nat.le_refl _)) (J4.out.below hHeld.1 (Nat.le_refl _))).mono ?_); rintro e w1 ⟨rfl, hb⟩)
         try go_wp2_with fail
         refine hK.out _ _ (by (first | (exact (Sees.of P9.out.2.1 D9.out.1 (Below.refl _ _)).drew) | (exact Sees.of P9.out.2.1 D9.out.1 (bl hHeld.1 hb)))) (fun hHeld => ?_)
         clear hK K
         try simp only [Act.put, List.setIfInBounds_toArray, List.set_cons_zero, List.set_cons_succ])
    first
      | (refine wpAnyH_take (i := 18) (v := undef) (by simp only [List.getElem?_toArray, List.getElem?_cons_succ, List.getElem?_cons_zero]; rfl) (by kernel_rfl) (by kernel_rfl) (by kernel_rfl) (fun _ _ _ h => h) (Or.inr ⟨by rfl, rfl⟩) (by assumption) ?_; try simp only [Act.put, List.setIfInBounds_toArray, List.set_cons_zero, List.set_cons_succ])
      | (refine wpAnyH_take (i := 18) (v := ?_) (by simp only [List.getElem?_toArray, List.getElem?_cons_succ, List.getElem?_cons_zero]; rfl) (by kernel_rfl) (by kernel_rfl) (by kernel_rfl) (fun _ _ _ h => h) (Or.inl ⟨by rfl, ?_⟩) (by assumption) ?_
         rotate_left
         · (intro ww hSw; (try dsimp only at hSw); go_simp; (try with_reducible rfl))
         try simp only [Act.put, List.setIfInBounds_toArray, List.set_cons_zero, List.set_cons_succ])
      | (refine wpAnyH_ready (rs := [18]) (by kernel_rfl) (by simp) (AllReadyH.cons (by simp only [List.getElem?_toArray, List.getElem?_cons_succ, List.getElem?_cons_zero]; rfl) (fun K hK => ?_) AllReadyH.nil)
         go_simp
         first
           | (go_at_call 15; (with_reducible refine (refsame_any _ _ _ _ _ _ _ _ _ _ _ (J1.out.below hHeld.1 (Nat.le_refl _)) (J2.out.below hHeld.1 (Nat.le_refl _)) (J3.out.below hHeld.1 (Nat.le_refl _)) (J4.out.below hHeld.1 (Nat.le_refl _))).mono ?_); rintro e w1 ⟨rfl, hb⟩)
         try go_wp2_with fail
         refine hK.out _ _ (by (first | (exact (Sees.of P9.out.2.1 D9.out.1 (Below.refl _ _)).drew) | (exact Sees.of P9.out.2.1 D9.out.1 (bl hHeld.1 hb)))) (fun hHeld => ?_)
         clear hK K
         try simp only [Act.put, List.setIfInBounds_toArray, List.set_cons_zero, List.set_cons_succ])
    refine wpAnyH_done (by kernel_rfl) ?_ _
    refine NoPanic.normal ?_
    have hS : Below (w9.alloc (.cells #[.int .i64 d.kind, .int .i64 d.dir, .int .i64 d.item, .int .i64 d.box, .int .i64 d.who, .slice gd d.gives.length gcd, .int .i64 d.pay, .slice wdd d.wants.length wcd, .int .i64 d.fee] 24)).heap.size (w9.alloc (.cells #[.int .i64 d.kind, .int .i64 d.dir, .int .i64 d.item, .int .i64 d.box, .int .i64 d.who, .slice gd d.gives.length gcd, .int .i64 d.pay, .slice wdd d.wants.length wcd, .int .i64 d.fee] 24)) _ := (by assumption : Below (w9.alloc (.cells #[.int .i64 d.kind, .int .i64 d.dir, .int .i64 d.item, .int .i64 d.box, .int .i64 d.who, .slice gd d.gives.length gcd, .int .i64 d.pay, .slice wdd d.wants.length wcd, .int .i64 d.fee] 24)).heap.size (w9.alloc (.cells #[.int .i64 d.kind, .int .i64 d.dir, .int .i64 d.item, .int .i64 d.box, .int .i64 d.who, .slice gd d.gives.length gcd, .int .i64 d.pay, .slice wdd d.wants.length wcd, .int .i64 d.fee] 24)) _ ∧ _).1
    have P10 := Lib.hid (P9.out.call hS)
    clear hS
    go_wp2_with fail
    go_ret
    exact ⟨rfl, P10.out.1⟩
  · obtain ⟨m1, m2⟩ := kinds_math HM.out HK.out hb HD.out
    clear hb
    rw [if_pos rfl]
    have hm1 : (d.kind == k) = true := by rw [m1]; simp
    clear m1
    go_wp2_with fail
    refine wp_region_noPanic ?_
    refine wp_region_held_drew (S := (fun w' => Below (w9.alloc (.cells #[.int .i64 d.kind, .int .i64 d.dir, .int .i64 d.item, .int .i64 d.box, .int .i64 d.who, .slice gd d.gives.length gcd, .int .i64 d.pay, .slice wdd d.wants.length wcd, .int .i64 d.fee] 24)).heap.size (w9.alloc (.cells #[.int .i64 d.kind, .int .i64 d.dir, .int .i64 d.item, .int .i64 d.box, .int .i64 d.who, .slice gd d.gives.length gcd, .int .i64 d.pay, .slice wdd d.wants.length wcd, .int .i64 d.fee] 24)) w' ∧ (∀ i, w'.cell? ⟨w.heap.size, i, none⟩ = (#[.int .i64 c.kind, .int .i64 c.dir, .int .i64 c.item, .int .i64 c.box, .int .i64 c.who, .slice ga c.gives.length gc, .int .i64 c.pay, .slice wa c.wants.length wc, .int .i64 c.fee][i]? : Option Value)) ∧ ∀ i, w'.cell? ⟨w9.heap.size, i, none⟩ = (#[.int .i64 d.kind, .int .i64 d.dir, .int .i64 d.item, .int .i64 d.box, .int .i64 d.who, .slice gd d.gives.length gcd, .int .i64 d.pay, .slice wdd d.wants.length wcd, .int .i64 d.fee][i]? : Option Value))) (by kernel_rfl) (by (first | (exact (Sees.of P9.out.2.1 D9.out.1 (Below.refl _ _)).drew) | (exact Sees.of P9.out.2.1 D9.out.1 (bl hHeld.1 hb)))) (fun hHeld => ?_)
    first
      | (refine wpAnyH_take (i := 0) (v := undef) (by simp only [List.getElem?_toArray, List.getElem?_cons_zero]; rfl) (by kernel_rfl) (by kernel_rfl) (by kernel_rfl) (fun _ _ _ h => h) (Or.inr ⟨by rfl, rfl⟩) (by assumption) ?_; try simp only [Act.put, List.setIfInBounds_toArray, List.set_cons_zero, List.set_cons_succ])
      | (refine wpAnyH_take (i := 0) (v := ?_) (by simp only [List.getElem?_toArray, List.getElem?_cons_zero]; rfl) (by kernel_rfl) (by kernel_rfl) (by kernel_rfl) (fun _ _ _ h => h) (Or.inl ⟨by rfl, ?_⟩) (by assumption) ?_
         rotate_left
         · (intro ww hSw; (try dsimp only at hSw); go_simp; (try with_reducible rfl))
         try simp only [Act.put, List.setIfInBounds_toArray, List.set_cons_zero, List.set_cons_succ])
      | (refine wpAnyH_ready (rs := [0]) (by kernel_rfl) (by simp) (AllReadyH.cons (by simp only [List.getElem?_toArray, List.getElem?_cons_succ, List.getElem?_cons_zero]; rfl) (fun K hK => ?_) AllReadyH.nil)
         go_simp
         first
           | (go_at_call 15; (with_reducible refine (refsame_any _ _ _ _ _ _ _ _ _ _ _ (J1.out.below hHeld.1 (Nat.le_refl _)) (J2.out.below hHeld.1 (Nat.le_refl _)) (J3.out.below hHeld.1 (Nat.le_refl _)) (J4.out.below hHeld.1 (Nat.le_refl _))).mono ?_); rintro e w1 ⟨rfl, hb⟩)
         try go_wp2_with fail
         refine hK.out _ _ (by (first | (exact (Sees.of P9.out.2.1 D9.out.1 (Below.refl _ _)).drew) | (exact Sees.of P9.out.2.1 D9.out.1 (bl hHeld.1 hb)))) (fun hHeld => ?_)
         clear hK K
         try simp only [Act.put, List.setIfInBounds_toArray, List.set_cons_zero, List.set_cons_succ])
    first
      | (refine wpAnyH_take (i := 1) (v := undef) (by simp only [List.getElem?_toArray, List.getElem?_cons_succ, List.getElem?_cons_zero]; rfl) (by kernel_rfl) (by kernel_rfl) (by kernel_rfl) (fun _ _ _ h => h) (Or.inr ⟨by rfl, rfl⟩) (by assumption) ?_; try simp only [Act.put, List.setIfInBounds_toArray, List.set_cons_zero, List.set_cons_succ])
      | (refine wpAnyH_take (i := 1) (v := ?_) (by simp only [List.getElem?_toArray, List.getElem?_cons_succ, List.getElem?_cons_zero]; rfl) (by kernel_rfl) (by kernel_rfl) (by kernel_rfl) (fun _ _ _ h => h) (Or.inl ⟨by rfl, ?_⟩) (by assumption) ?_
         rotate_left
         · (intro ww hSw; (try dsimp only at hSw); go_simp; (try with_reducible rfl))
         try simp only [Act.put, List.setIfInBounds_toArray, List.set_cons_zero, List.set_cons_succ])
      | (refine wpAnyH_ready (rs := [1]) (by kernel_rfl) (by simp) (AllReadyH.cons (by simp only [List.getElem?_toArray, List.getElem?_cons_succ, List.getElem?_cons_zero]; rfl) (fun K hK => ?_) AllReadyH.nil)
         go_simp
         first
           | (go_at_call 15; (with_reducible refine (refsame_any _ _ _ _ _ _ _ _ _ _ _ (J1.out.below hHeld.1 (Nat.le_refl _)) (J2.out.below hHeld.1 (Nat.le_refl _)) (J3.out.below hHeld.1 (Nat.le_refl _)) (J4.out.below hHeld.1 (Nat.le_refl _))).mono ?_); rintro e w1 ⟨rfl, hb⟩)
         try go_wp2_with fail
         refine hK.out _ _ (by (first | (exact (Sees.of P9.out.2.1 D9.out.1 (Below.refl _ _)).drew) | (exact Sees.of P9.out.2.1 D9.out.1 (bl hHeld.1 hb)))) (fun hHeld => ?_)
         clear hK K
         try simp only [Act.put, List.setIfInBounds_toArray, List.set_cons_zero, List.set_cons_succ])
    first
      | (refine wpAnyH_take (i := 2) (v := undef) (by simp only [List.getElem?_toArray, List.getElem?_cons_succ, List.getElem?_cons_zero]; rfl) (by kernel_rfl) (by kernel_rfl) (by kernel_rfl) (fun _ _ _ h => h) (Or.inr ⟨by rfl, rfl⟩) (by assumption) ?_; try simp only [Act.put, List.setIfInBounds_toArray, List.set_cons_zero, List.set_cons_succ])
      | (refine wpAnyH_take (i := 2) (v := ?_) (by simp only [List.getElem?_toArray, List.getElem?_cons_succ, List.getElem?_cons_zero]; rfl) (by kernel_rfl) (by kernel_rfl) (by kernel_rfl) (fun _ _ _ h => h) (Or.inl ⟨by rfl, ?_⟩) (by assumption) ?_
         rotate_left
         · (intro ww hSw; (try dsimp only at hSw); go_simp; (try with_reducible rfl))
         try simp only [Act.put, List.setIfInBounds_toArray, List.set_cons_zero, List.set_cons_succ])
      | (refine wpAnyH_ready (rs := [2]) (by kernel_rfl) (by simp) (AllReadyH.cons (by simp only [List.getElem?_toArray, List.getElem?_cons_succ, List.getElem?_cons_zero]; rfl) (fun K hK => ?_) AllReadyH.nil)
         go_simp
         first
           | (go_at_call 15; (with_reducible refine (refsame_any _ _ _ _ _ _ _ _ _ _ _ (J1.out.below hHeld.1 (Nat.le_refl _)) (J2.out.below hHeld.1 (Nat.le_refl _)) (J3.out.below hHeld.1 (Nat.le_refl _)) (J4.out.below hHeld.1 (Nat.le_refl _))).mono ?_); rintro e w1 ⟨rfl, hb⟩)
         try go_wp2_with fail
         refine hK.out _ _ (by (first | (exact (Sees.of P9.out.2.1 D9.out.1 (Below.refl _ _)).drew) | (exact Sees.of P9.out.2.1 D9.out.1 (bl hHeld.1 hb)))) (fun hHeld => ?_)
         clear hK K
         try simp only [Act.put, List.setIfInBounds_toArray, List.set_cons_zero, List.set_cons_succ])
    first
      | (refine wpAnyH_take (i := 3) (v := undef) (by simp only [List.getElem?_toArray, List.getElem?_cons_succ, List.getElem?_cons_zero]; rfl) (by kernel_rfl) (by kernel_rfl) (by kernel_rfl) (fun _ _ _ h => h) (Or.inr ⟨by rfl, rfl⟩) (by assumption) ?_; try simp only [Act.put, List.setIfInBounds_toArray, List.set_cons_zero, List.set_cons_succ])
      | (refine wpAnyH_take (i := 3) (v := ?_) (by simp only [List.getElem?_toArray, List.getElem?_cons_succ, List.getElem?_cons_zero]; rfl) (by kernel_rfl) (by kernel_rfl) (by kernel_rfl) (fun _ _ _ h => h) (Or.inl ⟨by rfl, ?_⟩) (by assumption) ?_
         rotate_left
         · (intro ww hSw; (try dsimp only at hSw); go_simp; (try with_reducible rfl))
         try simp only [Act.put, List.setIfInBounds_toArray, List.set_cons_zero, List.set_cons_succ])
      | (refine wpAnyH_ready (rs := [3]) (by kernel_rfl) (by simp) (AllReadyH.cons (by simp only [List.getElem?_toArray, List.getElem?_cons_succ, List.getElem?_cons_zero]; rfl) (fun K hK => ?_) AllReadyH.nil)
         go_simp
         first
           | (go_at_call 15; (with_reducible refine (refsame_any _ _ _ _ _ _ _ _ _ _ _ (J1.out.below hHeld.1 (Nat.le_refl _)) (J2.out.below hHeld.1 (Nat.le_refl _)) (J3.out.below hHeld.1 (Nat.le_refl _)) (J4.out.below hHeld.1 (Nat.le_refl _))).mono ?_); rintro e w1 ⟨rfl, hb⟩)
         try go_wp2_with fail
         refine hK.out _ _ (by (first | (exact (Sees.of P9.out.2.1 D9.out.1 (Below.refl _ _)).drew) | (exact Sees.of P9.out.2.1 D9.out.1 (bl hHeld.1 hb)))) (fun hHeld => ?_)
         clear hK K
         try simp only [Act.put, List.setIfInBounds_toArray, List.set_cons_zero, List.set_cons_succ])
    first
      | (refine wpAnyH_take (i := 4) (v := undef) (by simp only [List.getElem?_toArray, List.getElem?_cons_succ, List.getElem?_cons_zero]; rfl) (by kernel_rfl) (by kernel_rfl) (by kernel_rfl) (fun _ _ _ h => h) (Or.inr ⟨by rfl, rfl⟩) (by assumption) ?_; try simp only [Act.put, List.setIfInBounds_toArray, List.set_cons_zero, List.set_cons_succ])
      | (refine wpAnyH_take (i := 4) (v := ?_) (by simp only [List.getElem?_toArray, List.getElem?_cons_succ, List.getElem?_cons_zero]; rfl) (by kernel_rfl) (by kernel_rfl) (by kernel_rfl) (fun _ _ _ h => h) (Or.inl ⟨by rfl, ?_⟩) (by assumption) ?_
         rotate_left
         · (intro ww hSw; (try dsimp only at hSw); go_simp; (try with_reducible rfl))
         try simp only [Act.put, List.setIfInBounds_toArray, List.set_cons_zero, List.set_cons_succ])
      | (refine wpAnyH_ready (rs := [4]) (by kernel_rfl) (by simp) (AllReadyH.cons (by simp only [List.getElem?_toArray, List.getElem?_cons_succ, List.getElem?_cons_zero]; rfl) (fun K hK => ?_) AllReadyH.nil)
         go_simp
         first
           | (go_at_call 15; (with_reducible refine (refsame_any _ _ _ _ _ _ _ _ _ _ _ (J1.out.below hHeld.1 (Nat.le_refl _)) (J2.out.below hHeld.1 (Nat.le_refl _)) (J3.out.below hHeld.1 (Nat.le_refl _)) (J4.out.below hHeld.1 (Nat.le_refl _))).mono ?_); rintro e w1 ⟨rfl, hb⟩)
         try go_wp2_with fail
         refine hK.out _ _ (by (first | (exact (Sees.of P9.out.2.1 D9.out.1 (Below.refl _ _)).drew) | (exact Sees.of P9.out.2.1 D9.out.1 (bl hHeld.1 hb)))) (fun hHeld => ?_)
         clear hK K
         try simp only [Act.put, List.setIfInBounds_toArray, List.set_cons_zero, List.set_cons_succ])
    first
      | (refine wpAnyH_take (i := 5) (v := undef) (by simp only [List.getElem?_toArray, List.getElem?_cons_succ, List.getElem?_cons_zero]; rfl) (by kernel_rfl) (by kernel_rfl) (by kernel_rfl) (fun _ _ _ h => h) (Or.inr ⟨by rfl, rfl⟩) (by assumption) ?_; try simp only [Act.put, List.setIfInBounds_toArray, List.set_cons_zero, List.set_cons_succ])
      | (refine wpAnyH_take (i := 5) (v := ?_) (by simp only [List.getElem?_toArray, List.getElem?_cons_succ, List.getElem?_cons_zero]; rfl) (by kernel_rfl) (by kernel_rfl) (by kernel_rfl) (fun _ _ _ h => h) (Or.inl ⟨by rfl, ?_⟩) (by assumption) ?_
         rotate_left
         · (intro ww hSw; (try dsimp only at hSw); go_simp; (try with_reducible rfl))
         try simp only [Act.put, List.setIfInBounds_toArray, List.set_cons_zero, List.set_cons_succ])
      | (refine wpAnyH_ready (rs := [5]) (by kernel_rfl) (by simp) (AllReadyH.cons (by simp only [List.getElem?_toArray, List.getElem?_cons_succ, List.getElem?_cons_zero]; rfl) (fun K hK => ?_) AllReadyH.nil)
         go_simp
         first
           | (go_at_call 15; (with_reducible refine (refsame_any _ _ _ _ _ _ _ _ _ _ _ (J1.out.below hHeld.1 (Nat.le_refl _)) (J2.out.below hHeld.1 (Nat.le_refl _)) (J3.out.below hHeld.1 (Nat.le_refl _)) (J4.out.below hHeld.1 (Nat.le_refl _))).mono ?_); rintro e w1 ⟨rfl, hb⟩)
         try go_wp2_with fail
         refine hK.out _ _ (by (first | (exact (Sees.of P9.out.2.1 D9.out.1 (Below.refl _ _)).drew) | (exact Sees.of P9.out.2.1 D9.out.1 (bl hHeld.1 hb)))) (fun hHeld => ?_)
         clear hK K
         try simp only [Act.put, List.setIfInBounds_toArray, List.set_cons_zero, List.set_cons_succ])
    first
      | (refine wpAnyH_take (i := 6) (v := undef) (by simp only [List.getElem?_toArray, List.getElem?_cons_succ, List.getElem?_cons_zero]; rfl) (by kernel_rfl) (by kernel_rfl) (by kernel_rfl) (fun _ _ _ h => h) (Or.inr ⟨by rfl, rfl⟩) (by assumption) ?_; try simp only [Act.put, List.setIfInBounds_toArray, List.set_cons_zero, List.set_cons_succ])
      | (refine wpAnyH_take (i := 6) (v := ?_) (by simp only [List.getElem?_toArray, List.getElem?_cons_succ, List.getElem?_cons_zero]; rfl) (by kernel_rfl) (by kernel_rfl) (by kernel_rfl) (fun _ _ _ h => h) (Or.inl ⟨by rfl, ?_⟩) (by assumption) ?_
         rotate_left
         · (intro ww hSw; (try dsimp only at hSw); go_simp; (try with_reducible rfl))
         try simp only [Act.put, List.setIfInBounds_toArray, List.set_cons_zero, List.set_cons_succ])
      | (refine wpAnyH_ready (rs := [6]) (by kernel_rfl) (by simp) (AllReadyH.cons (by simp only [List.getElem?_toArray, List.getElem?_cons_succ, List.getElem?_cons_zero]; rfl) (fun K hK => ?_) AllReadyH.nil)
         go_simp
         first
           | (go_at_call 15; (with_reducible refine (refsame_any _ _ _ _ _ _ _ _ _ _ _ (J1.out.below hHeld.1 (Nat.le_refl _)) (J2.out.below hHeld.1 (Nat.le_refl _)) (J3.out.below hHeld.1 (Nat.le_refl _)) (J4.out.below hHeld.1 (Nat.le_refl _))).mono ?_); rintro e w1 ⟨rfl, hb⟩)
         try go_wp2_with fail
         refine hK.out _ _ (by (first | (exact (Sees.of P9.out.2.1 D9.out.1 (Below.refl _ _)).drew) | (exact Sees.of P9.out.2.1 D9.out.1 (bl hHeld.1 hb)))) (fun hHeld => ?_)
         clear hK K
         try simp only [Act.put, List.setIfInBounds_toArray, List.set_cons_zero, List.set_cons_succ])
    first
      | (refine wpAnyH_take (i := 7) (v := undef) (by simp only [List.getElem?_toArray, List.getElem?_cons_succ, List.getElem?_cons_zero]; rfl) (by kernel_rfl) (by kernel_rfl) (by kernel_rfl) (fun _ _ _ h => h) (Or.inr ⟨by rfl, rfl⟩) (by assumption) ?_; try simp only [Act.put, List.setIfInBounds_toArray, List.set_cons_zero, List.set_cons_succ])
      | (refine wpAnyH_take (i := 7) (v := ?_) (by simp only [List.getElem?_toArray, List.getElem?_cons_succ, List.getElem?_cons_zero]; rfl) (by kernel_rfl) (by kernel_rfl) (by kernel_rfl) (fun _ _ _ h => h) (Or.inl ⟨by rfl, ?_⟩) (by assumption) ?_
         rotate_left
         · (intro ww hSw; (try dsimp only at hSw); go_simp; (try with_reducible rfl))
         try simp only [Act.put, List.setIfInBounds_toArray, List.set_cons_zero, List.set_cons_succ])
      | (refine wpAnyH_ready (rs := [7]) (by kernel_rfl) (by simp) (AllReadyH.cons (by simp only [List.getElem?_toArray, List.getElem?_cons_succ, List.getElem?_cons_zero]; rfl) (fun K hK => ?_) AllReadyH.nil)
         go_simp
         first
           | (go_at_call 15; (with_reducible refine (refsame_any _ _ _ _ _ _ _ _ _ _ _ (J1.out.below hHeld.1 (Nat.le_refl _)) (J2.out.below hHeld.1 (Nat.le_refl _)) (J3.out.below hHeld.1 (Nat.le_refl _)) (J4.out.below hHeld.1 (Nat.le_refl _))).mono ?_); rintro e w1 ⟨rfl, hb⟩)
         try go_wp2_with fail
         refine hK.out _ _ (by (first | (exact (Sees.of P9.out.2.1 D9.out.1 (Below.refl _ _)).drew) | (exact Sees.of P9.out.2.1 D9.out.1 (bl hHeld.1 hb)))) (fun hHeld => ?_)
         clear hK K
         try simp only [Act.put, List.setIfInBounds_toArray, List.set_cons_zero, List.set_cons_succ])
    first
      | (refine wpAnyH_take (i := 8) (v := undef) (by simp only [List.getElem?_toArray, List.getElem?_cons_succ, List.getElem?_cons_zero]; rfl) (by kernel_rfl) (by kernel_rfl) (by kernel_rfl) (fun _ _ _ h => h) (Or.inr ⟨by rfl, rfl⟩) (by assumption) ?_; try simp only [Act.put, List.setIfInBounds_toArray, List.set_cons_zero, List.set_cons_succ])
      | (refine wpAnyH_take (i := 8) (v := ?_) (by simp only [List.getElem?_toArray, List.getElem?_cons_succ, List.getElem?_cons_zero]; rfl) (by kernel_rfl) (by kernel_rfl) (by kernel_rfl) (fun _ _ _ h => h) (Or.inl ⟨by rfl, ?_⟩) (by assumption) ?_
         rotate_left
         · (intro ww hSw; (try dsimp only at hSw); go_simp; (try with_reducible rfl))
         try simp only [Act.put, List.setIfInBounds_toArray, List.set_cons_zero, List.set_cons_succ])
      | (refine wpAnyH_ready (rs := [8]) (by kernel_rfl) (by simp) (AllReadyH.cons (by simp only [List.getElem?_toArray, List.getElem?_cons_succ, List.getElem?_cons_zero]; rfl) (fun K hK => ?_) AllReadyH.nil)
         go_simp
         first
           | (go_at_call 15; (with_reducible refine (refsame_any _ _ _ _ _ _ _ _ _ _ _ (J1.out.below hHeld.1 (Nat.le_refl _)) (J2.out.below hHeld.1 (Nat.le_refl _)) (J3.out.below hHeld.1 (Nat.le_refl _)) (J4.out.below hHeld.1 (Nat.le_refl _))).mono ?_); rintro e w1 ⟨rfl, hb⟩)
         try go_wp2_with fail
         refine hK.out _ _ (by (first | (exact (Sees.of P9.out.2.1 D9.out.1 (Below.refl _ _)).drew) | (exact Sees.of P9.out.2.1 D9.out.1 (bl hHeld.1 hb)))) (fun hHeld => ?_)
         clear hK K
         try simp only [Act.put, List.setIfInBounds_toArray, List.set_cons_zero, List.set_cons_succ])
    first
      | (refine wpAnyH_take (i := 9) (v := undef) (by simp only [List.getElem?_toArray, List.getElem?_cons_succ, List.getElem?_cons_zero]; rfl) (by kernel_rfl) (by kernel_rfl) (by kernel_rfl) (fun _ _ _ h => h) (Or.inr ⟨by rfl, rfl⟩) (by assumption) ?_; try simp only [Act.put, List.setIfInBounds_toArray, List.set_cons_zero, List.set_cons_succ])
      | (refine wpAnyH_take (i := 9) (v := ?_) (by simp only [List.getElem?_toArray, List.getElem?_cons_succ, List.getElem?_cons_zero]; rfl) (by kernel_rfl) (by kernel_rfl) (by kernel_rfl) (fun _ _ _ h => h) (Or.inl ⟨by rfl, ?_⟩) (by assumption) ?_
         rotate_left
         · (intro ww hSw; (try dsimp only at hSw); go_simp; (try with_reducible rfl))
         try simp only [Act.put, List.setIfInBounds_toArray, List.set_cons_zero, List.set_cons_succ])
      | (refine wpAnyH_ready (rs := [9]) (by kernel_rfl) (by simp) (AllReadyH.cons (by simp only [List.getElem?_toArray, List.getElem?_cons_succ, List.getElem?_cons_zero]; rfl) (fun K hK => ?_) AllReadyH.nil)
         go_simp
         first
           | (go_at_call 15; (with_reducible refine (refsame_any _ _ _ _ _ _ _ _ _ _ _ (J1.out.below hHeld.1 (Nat.le_refl _)) (J2.out.below hHeld.1 (Nat.le_refl _)) (J3.out.below hHeld.1 (Nat.le_refl _)) (J4.out.below hHeld.1 (Nat.le_refl _))).mono ?_); rintro e w1 ⟨rfl, hb⟩)
         try go_wp2_with fail
         refine hK.out _ _ (by (first | (exact (Sees.of P9.out.2.1 D9.out.1 (Below.refl _ _)).drew) | (exact Sees.of P9.out.2.1 D9.out.1 (bl hHeld.1 hb)))) (fun hHeld => ?_)
         clear hK K
         try simp only [Act.put, List.setIfInBounds_toArray, List.set_cons_zero, List.set_cons_succ])
    first
      | (refine wpAnyH_take (i := 10) (v := undef) (by simp only [List.getElem?_toArray, List.getElem?_cons_succ, List.getElem?_cons_zero]; rfl) (by kernel_rfl) (by kernel_rfl) (by kernel_rfl) (fun _ _ _ h => h) (Or.inr ⟨by rfl, rfl⟩) (by assumption) ?_; try simp only [Act.put, List.setIfInBounds_toArray, List.set_cons_zero, List.set_cons_succ])
      | (refine wpAnyH_take (i := 10) (v := ?_) (by simp only [List.getElem?_toArray, List.getElem?_cons_succ, List.getElem?_cons_zero]; rfl) (by kernel_rfl) (by kernel_rfl) (by kernel_rfl) (fun _ _ _ h => h) (Or.inl ⟨by rfl, ?_⟩) (by assumption) ?_
         rotate_left
         · (intro ww hSw; (try dsimp only at hSw); go_simp; (try with_reducible rfl))
         try simp only [Act.put, List.setIfInBounds_toArray, List.set_cons_zero, List.set_cons_succ])
      | (refine wpAnyH_ready (rs := [10]) (by kernel_rfl) (by simp) (AllReadyH.cons (by simp only [List.getElem?_toArray, List.getElem?_cons_succ, List.getElem?_cons_zero]; rfl) (fun K hK => ?_) AllReadyH.nil)
         go_simp
         first
           | (go_at_call 15; (with_reducible refine (refsame_any _ _ _ _ _ _ _ _ _ _ _ (J1.out.below hHeld.1 (Nat.le_refl _)) (J2.out.below hHeld.1 (Nat.le_refl _)) (J3.out.below hHeld.1 (Nat.le_refl _)) (J4.out.below hHeld.1 (Nat.le_refl _))).mono ?_); rintro e w1 ⟨rfl, hb⟩)
         try go_wp2_with fail
         refine hK.out _ _ (by (first | (exact (Sees.of P9.out.2.1 D9.out.1 (Below.refl _ _)).drew) | (exact Sees.of P9.out.2.1 D9.out.1 (bl hHeld.1 hb)))) (fun hHeld => ?_)
         clear hK K
         try simp only [Act.put, List.setIfInBounds_toArray, List.set_cons_zero, List.set_cons_succ])
    first
      | (refine wpAnyH_take (i := 11) (v := undef) (by simp only [List.getElem?_toArray, List.getElem?_cons_succ, List.getElem?_cons_zero]; rfl) (by kernel_rfl) (by kernel_rfl) (by kernel_rfl) (fun _ _ _ h => h) (Or.inr ⟨by rfl, rfl⟩) (by assumption) ?_; try simp only [Act.put, List.setIfInBounds_toArray, List.set_cons_zero, List.set_cons_succ])
      | (refine wpAnyH_take (i := 11) (v := ?_) (by simp only [List.getElem?_toArray, List.getElem?_cons_succ, List.getElem?_cons_zero]; rfl) (by kernel_rfl) (by kernel_rfl) (by kernel_rfl) (fun _ _ _ h => h) (Or.inl ⟨by rfl, ?_⟩) (by assumption) ?_
         rotate_left
         · (intro ww hSw; (try dsimp only at hSw); go_simp; (try with_reducible rfl))
         try simp only [Act.put, List.setIfInBounds_toArray, List.set_cons_zero, List.set_cons_succ])
      | (refine wpAnyH_ready (rs := [11]) (by kernel_rfl) (by simp) (AllReadyH.cons (by simp only [List.getElem?_toArray, List.getElem?_cons_succ, List.getElem?_cons_zero]; rfl) (fun K hK => ?_) AllReadyH.nil)
         go_simp
         first
           | (go_at_call 15; (with_reducible refine (refsame_any _ _ _ _ _ _ _ _ _ _ _ (J1.out.below hHeld.1 (Nat.le_refl _)) (J2.out.below hHeld.1 (Nat.le_refl _)) (J3.out.below hHeld.1 (Nat.le_refl _)) (J4.out.below hHeld.1 (Nat.le_refl _))).mono ?_); rintro e w1 ⟨rfl, hb⟩)
         try go_wp2_with fail
         refine hK.out _ _ (by (first | (exact (Sees.of P9.out.2.1 D9.out.1 (Below.refl _ _)).drew) | (exact Sees.of P9.out.2.1 D9.out.1 (bl hHeld.1 hb)))) (fun hHeld => ?_)
         clear hK K
         try simp only [Act.put, List.setIfInBounds_toArray, List.set_cons_zero, List.set_cons_succ])
    first
      | (refine wpAnyH_take (i := 12) (v := undef) (by simp only [List.getElem?_toArray, List.getElem?_cons_succ, List.getElem?_cons_zero]; rfl) (by kernel_rfl) (by kernel_rfl) (by kernel_rfl) (fun _ _ _ h => h) (Or.inr ⟨by rfl, rfl⟩) (by assumption) ?_; try simp only [Act.put, List.setIfInBounds_toArray, List.set_cons_zero, List.set_cons_succ])
      | (refine wpAnyH_take (i := 12) (v := ?_) (by simp only [List.getElem?_toArray, List.getElem?_cons_succ, List.getElem?_cons_zero]; rfl) (by kernel_rfl) (by kernel_rfl) (by kernel_rfl) (fun _ _ _ h => h) (Or.inl ⟨by rfl, ?_⟩) (by assumption) ?_
         rotate_left
         · (intro ww hSw; (try dsimp only at hSw); go_simp; (try with_reducible rfl))
         try simp only [Act.put, List.setIfInBounds_toArray, List.set_cons_zero, List.set_cons_succ])
      | (refine wpAnyH_ready (rs := [12]) (by kernel_rfl) (by simp) (AllReadyH.cons (by simp only [List.getElem?_toArray, List.getElem?_cons_succ, List.getElem?_cons_zero]; rfl) (fun K hK => ?_) AllReadyH.nil)
         go_simp
         first
           | (go_at_call 15; (with_reducible refine (refsame_any _ _ _ _ _ _ _ _ _ _ _ (J1.out.below hHeld.1 (Nat.le_refl _)) (J2.out.below hHeld.1 (Nat.le_refl _)) (J3.out.below hHeld.1 (Nat.le_refl _)) (J4.out.below hHeld.1 (Nat.le_refl _))).mono ?_); rintro e w1 ⟨rfl, hb⟩)
         try go_wp2_with fail
         refine hK.out _ _ (by (first | (exact (Sees.of P9.out.2.1 D9.out.1 (Below.refl _ _)).drew) | (exact Sees.of P9.out.2.1 D9.out.1 (bl hHeld.1 hb)))) (fun hHeld => ?_)
         clear hK K
         try simp only [Act.put, List.setIfInBounds_toArray, List.set_cons_zero, List.set_cons_succ])
    first
      | (refine wpAnyH_take (i := 13) (v := undef) (by simp only [List.getElem?_toArray, List.getElem?_cons_succ, List.getElem?_cons_zero]; rfl) (by kernel_rfl) (by kernel_rfl) (by kernel_rfl) (fun _ _ _ h => h) (Or.inr ⟨by rfl, rfl⟩) (by assumption) ?_; try simp only [Act.put, List.setIfInBounds_toArray, List.set_cons_zero, List.set_cons_succ])
      | (refine wpAnyH_take (i := 13) (v := ?_) (by simp only [List.getElem?_toArray, List.getElem?_cons_succ, List.getElem?_cons_zero]; rfl) (by kernel_rfl) (by kernel_rfl) (by kernel_rfl) (fun _ _ _ h => h) (Or.inl ⟨by rfl, ?_⟩) (by assumption) ?_
         rotate_left
         · (intro ww hSw; (try dsimp only at hSw); go_simp; (try with_reducible rfl))
         try simp only [Act.put, List.setIfInBounds_toArray, List.set_cons_zero, List.set_cons_succ])
      | (refine wpAnyH_ready (rs := [13]) (by kernel_rfl) (by simp) (AllReadyH.cons (by simp only [List.getElem?_toArray, List.getElem?_cons_succ, List.getElem?_cons_zero]; rfl) (fun K hK => ?_) AllReadyH.nil)
         go_simp
         first
           | (go_at_call 15; (with_reducible refine (refsame_any _ _ _ _ _ _ _ _ _ _ _ (J1.out.below hHeld.1 (Nat.le_refl _)) (J2.out.below hHeld.1 (Nat.le_refl _)) (J3.out.below hHeld.1 (Nat.le_refl _)) (J4.out.below hHeld.1 (Nat.le_refl _))).mono ?_); rintro e w1 ⟨rfl, hb⟩)
         try go_wp2_with fail
         refine hK.out _ _ (by (first | (exact (Sees.of P9.out.2.1 D9.out.1 (Below.refl _ _)).drew) | (exact Sees.of P9.out.2.1 D9.out.1 (bl hHeld.1 hb)))) (fun hHeld => ?_)
         clear hK K
         try simp only [Act.put, List.setIfInBounds_toArray, List.set_cons_zero, List.set_cons_succ])
    first
      | (refine wpAnyH_take (i := 14) (v := undef) (by simp only [List.getElem?_toArray, List.getElem?_cons_succ, List.getElem?_cons_zero]; rfl) (by kernel_rfl) (by kernel_rfl) (by kernel_rfl) (fun _ _ _ h => h) (Or.inr ⟨by rfl, rfl⟩) (by assumption) ?_; try simp only [Act.put, List.setIfInBounds_toArray, List.set_cons_zero, List.set_cons_succ])
      | (refine wpAnyH_take (i := 14) (v := ?_) (by simp only [List.getElem?_toArray, List.getElem?_cons_succ, List.getElem?_cons_zero]; rfl) (by kernel_rfl) (by kernel_rfl) (by kernel_rfl) (fun _ _ _ h => h) (Or.inl ⟨by rfl, ?_⟩) (by assumption) ?_
         rotate_left
         · (intro ww hSw; (try dsimp only at hSw); go_simp; (try with_reducible rfl))
         try simp only [Act.put, List.setIfInBounds_toArray, List.set_cons_zero, List.set_cons_succ])
      | (refine wpAnyH_ready (rs := [14]) (by kernel_rfl) (by simp) (AllReadyH.cons (by simp only [List.getElem?_toArray, List.getElem?_cons_succ, List.getElem?_cons_zero]; rfl) (fun K hK => ?_) AllReadyH.nil)
         go_simp
         first
           | (go_at_call 15; (with_reducible refine (refsame_any _ _ _ _ _ _ _ _ _ _ _ (J1.out.below hHeld.1 (Nat.le_refl _)) (J2.out.below hHeld.1 (Nat.le_refl _)) (J3.out.below hHeld.1 (Nat.le_refl _)) (J4.out.below hHeld.1 (Nat.le_refl _))).mono ?_); rintro e w1 ⟨rfl, hb⟩)
         try go_wp2_with fail
         refine hK.out _ _ (by (first | (exact (Sees.of P9.out.2.1 D9.out.1 (Below.refl _ _)).drew) | (exact Sees.of P9.out.2.1 D9.out.1 (bl hHeld.1 hb)))) (fun hHeld => ?_)
         clear hK K
         try simp only [Act.put, List.setIfInBounds_toArray, List.set_cons_zero, List.set_cons_succ])
    first
      | (refine wpAnyH_take (i := 15) (v := undef) (by simp only [List.getElem?_toArray, List.getElem?_cons_succ, List.getElem?_cons_zero]; rfl) (by kernel_rfl) (by kernel_rfl) (by kernel_rfl) (fun _ _ _ h => h) (Or.inr ⟨by rfl, rfl⟩) (by assumption) ?_; try simp only [Act.put, List.setIfInBounds_toArray, List.set_cons_zero, List.set_cons_succ])
      | (refine wpAnyH_take (i := 15) (v := ?_) (by simp only [List.getElem?_toArray, List.getElem?_cons_succ, List.getElem?_cons_zero]; rfl) (by kernel_rfl) (by kernel_rfl) (by kernel_rfl) (fun _ _ _ h => h) (Or.inl ⟨by rfl, ?_⟩) (by assumption) ?_
         rotate_left
         · (intro ww hSw; (try dsimp only at hSw); go_simp; (try with_reducible rfl))
         try simp only [Act.put, List.setIfInBounds_toArray, List.set_cons_zero, List.set_cons_succ])
      | (refine wpAnyH_ready (rs := [15]) (by kernel_rfl) (by simp) (AllReadyH.cons (by simp only [List.getElem?_toArray, List.getElem?_cons_succ, List.getElem?_cons_zero]; rfl) (fun K hK => ?_) AllReadyH.nil)
         go_simp
         first
           | (go_at_call 15; (with_reducible refine (refsame_any _ _ _ _ _ _ _ _ _ _ _ (J1.out.below hHeld.1 (Nat.le_refl _)) (J2.out.below hHeld.1 (Nat.le_refl _)) (J3.out.below hHeld.1 (Nat.le_refl _)) (J4.out.below hHeld.1 (Nat.le_refl _))).mono ?_); rintro e w1 ⟨rfl, hb⟩)
         try go_wp2_with fail
         refine hK.out _ _ (by (first | (exact (Sees.of P9.out.2.1 D9.out.1 (Below.refl _ _)).drew) | (exact Sees.of P9.out.2.1 D9.out.1 (bl hHeld.1 hb)))) (fun hHeld => ?_)
         clear hK K
         try simp only [Act.put, List.setIfInBounds_toArray, List.set_cons_zero, List.set_cons_succ])
    first
      | (refine wpAnyH_take (i := 16) (v := undef) (by simp only [List.getElem?_toArray, List.getElem?_cons_succ, List.getElem?_cons_zero]; rfl) (by kernel_rfl) (by kernel_rfl) (by kernel_rfl) (fun _ _ _ h => h) (Or.inr ⟨by rfl, rfl⟩) (by assumption) ?_; try simp only [Act.put, List.setIfInBounds_toArray, List.set_cons_zero, List.set_cons_succ])
      | (refine wpAnyH_take (i := 16) (v := ?_) (by simp only [List.getElem?_toArray, List.getElem?_cons_succ, List.getElem?_cons_zero]; rfl) (by kernel_rfl) (by kernel_rfl) (by kernel_rfl) (fun _ _ _ h => h) (Or.inl ⟨by rfl, ?_⟩) (by assumption) ?_
         rotate_left
         · (intro ww hSw; (try dsimp only at hSw); go_simp; (try with_reducible rfl))
         try simp only [Act.put, List.setIfInBounds_toArray, List.set_cons_zero, List.set_cons_succ])
      | (refine wpAnyH_ready (rs := [16]) (by kernel_rfl) (by simp) (AllReadyH.cons (by simp only [List.getElem?_toArray, List.getElem?_cons_succ, List.getElem?_cons_zero]; rfl) (fun K hK => ?_) AllReadyH.nil)
         go_simp
         first
           | (go_at_call 15; (with_reducible refine (refsame_any _ _ _ _ _ _ _ _ _ _ _ (J1.out.below hHeld.1 (Nat.le_refl _)) (J2.out.below hHeld.1 (Nat.le_refl _)) (J3.out.below hHeld.1 (Nat.le_refl _)) (J4.out.below hHeld.1 (Nat.le_refl _))).mono ?_); rintro e w1 ⟨rfl, hb⟩)
         try go_wp2_with fail
         refine hK.out _ _ (by (first | (exact (Sees.of P9.out.2.1 D9.out.1 (Below.refl _ _)).drew) | (exact Sees.of P9.out.2.1 D9.out.1 (bl hHeld.1 hb)))) (fun hHeld => ?_)
         clear hK K
         try simp only [Act.put, List.setIfInBounds_toArray, List.set_cons_zero, List.set_cons_succ])
    first
      | (refine wpAnyH_take (i := 17) (v := undef) (by simp only [List.getElem?_toArray, List.getElem?_cons_succ, List.getElem?_cons_zero]; rfl) (by kernel_rfl) (by kernel_rfl) (by kernel_rfl) (fun _ _ _ h => h) (Or.inr ⟨by rfl, rfl⟩) (by assumption) ?_; try simp only [Act.put, List.setIfInBounds_toArray, List.set_cons_zero, List.set_cons_succ])
      | (refine wpAnyH_take (i := 17) (v := ?_) (by simp only [List.getElem?_toArray, List.getElem?_cons_succ, List.getElem?_cons_zero]; rfl) (by kernel_rfl) (by kernel_rfl) (by kernel_rfl) (fun _ _ _ h => h) (Or.inl ⟨by rfl, ?_⟩) (by assumption) ?_
         rotate_left
         · (intro ww hSw; (try dsimp only at hSw); go_simp; (try with_reducible rfl))
         try simp only [Act.put, List.setIfInBounds_toArray, List.set_cons_zero, List.set_cons_succ])
      | (refine wpAnyH_ready (rs := [17]) (by kernel_rfl) (by simp) (AllReadyH.cons (by simp only [List.getElem?_toArray, List.getElem?_cons_succ, List.getElem?_cons_zero]; rfl) (fun K hK => ?_) AllReadyH.nil)
         go_simp
         first
           | (go_at_call 15; (with_reducible refine (refsame_any _ _ _ _ _ _ _ _ _ _ _ (J1.out.below hHeld.1 (Nat.le_refl _)) (J2.out.below hHeld.1 (Nat.le_refl _)) (J3.out.below hHeld.1 (Nat.le_refl _)) (J4.out.below hHeld.1 (Nat.le_refl _))).mono ?_); rintro e w1 ⟨rfl, hb⟩)
         try go_wp2_with fail
         refine hK.out _ _ (by (first | (exact (Sees.of P9.out.2.1 D9.out.1 (Below.refl _ _)).drew) | (exact Sees.of P9.out.2.1 D9.out.1 (bl hHeld.1 hb)))) (fun hHeld => ?_)
         clear hK K
         try simp only [Act.put, List.setIfInBounds_toArray, List.set_cons_zero, List.set_cons_succ])
    first
      | (refine wpAnyH_take (i := 18) (v := undef) (by simp only [List.getElem?_toArray, List.getElem?_cons_succ, List.getElem?_cons_zero]; rfl) (by kernel_rfl) (by kernel_rfl) (by kernel_rfl) (fun _ _ _ h => h) (Or.inr ⟨by rfl, rfl⟩) (by assumption) ?_; try simp only [Act.put, List.setIfInBounds_toArray, List.set_cons_zero, List.set_cons_succ])
      | (refine wpAnyH_take (i := 18) (v := ?_) (by simp only [List.getElem?_toArray, List.getElem?_cons_succ, List.getElem?_cons_zero]; rfl) (by kernel_rfl) (by kernel_rfl) (by kernel_rfl) (fun _ _ _ h => h) (Or.inl ⟨by rfl, ?_⟩) (by assumption) ?_
         rotate_left
         · (intro ww hSw; (try dsimp only at hSw); go_simp; (try with_reducible rfl))
         try simp only [Act.put, List.setIfInBounds_toArray, List.set_cons_zero, List.set_cons_succ])
      | (refine wpAnyH_ready (rs := [18]) (by kernel_rfl) (by simp) (AllReadyH.cons (by simp only [List.getElem?_toArray, List.getElem?_cons_succ, List.getElem?_cons_zero]; rfl) (fun K hK => ?_) AllReadyH.nil)
         go_simp
         first
           | (go_at_call 15; (with_reducible refine (refsame_any _ _ _ _ _ _ _ _ _ _ _ (J1.out.below hHeld.1 (Nat.le_refl _)) (J2.out.below hHeld.1 (Nat.le_refl _)) (J3.out.below hHeld.1 (Nat.le_refl _)) (J4.out.below hHeld.1 (Nat.le_refl _))).mono ?_); rintro e w1 ⟨rfl, hb⟩)
         try go_wp2_with fail
         refine hK.out _ _ (by (first | (exact (Sees.of P9.out.2.1 D9.out.1 (Below.refl _ _)).drew) | (exact Sees.of P9.out.2.1 D9.out.1 (bl hHeld.1 hb)))) (fun hHeld => ?_)
         clear hK K
         try simp only [Act.put, List.setIfInBounds_toArray, List.set_cons_zero, List.set_cons_succ])
    refine wpAnyH_done (by kernel_rfl) ?_ _
    refine NoPanic.normal ?_
    have hS : Below (w9.alloc (.cells #[.int .i64 d.kind, .int .i64 d.dir, .int .i64 d.item, .int .i64 d.box, .int .i64 d.who, .slice gd d.gives.length gcd, .int .i64 d.pay, .slice wdd d.wants.length wcd, .int .i64 d.fee] 24)).heap.size (w9.alloc (.cells #[.int .i64 d.kind, .int .i64 d.dir, .int .i64 d.item, .int .i64 d.box, .int .i64 d.who, .slice gd d.gives.length gcd, .int .i64 d.pay, .slice wdd d.wants.length wcd, .int .i64 d.fee] 24)) _ := (by assumption : Below (w9.alloc (.cells #[.int .i64 d.kind, .int .i64 d.dir, .int .i64 d.item, .int .i64 d.box, .int .i64 d.who, .slice gd d.gives.length gcd, .int .i64 d.pay, .slice wdd d.wants.length wcd, .int .i64 d.fee] 24)).heap.size (w9.alloc (.cells #[.int .i64 d.kind, .int .i64 d.dir, .int .i64 d.item, .int .i64 d.box, .int .i64 d.who, .slice gd d.gives.length gcd, .int .i64 d.pay, .slice wdd d.wants.length wcd, .int .i64 d.fee] 24)) _ ∧ _).1
    have P10 := Lib.hid (P9.out.call hS)
    clear hS
    go_wp2_with fail
    go_ret
    exact ⟨rfl, P10.out.1⟩
theorem walk_lineKinds (c : Cm) (ga wa : Option Addr) (gc wc : Nat) (n : Int) (w : World) (w1 : (Lit.int .u8 n).wf = true) (h1 : IntsAt w ga c.gives) (h2 : IntsAt w wa c.wants) (_ : c.Wf) (hk : KTab w) (hw : WTab w) (ht : Tab w) :
    Calls Tryd.prog 7 #[.agg #[.int .i64 c.kind, .int .i64 c.dir, .int .i64 c.item, .int .i64 c.box, .int .i64 c.who, .slice ga c.gives.length gc, .int .i64 c.pay, .slice wa c.wants.length wc, .int .i64 c.fee], .int .u8 n] w fun e w' => e = .returned (.bool true) ∧ Below w.heap.size w w' := by
  have HT : Tabs w := ⟨hk, hw, ht⟩
  obtain ⟨n0, n1⟩ := wf_u8 w1
  cases hm : mayB c
  · exact kinds_not c ga wa gc wc n w h1 h2 HT (.inr ((may_eq c).symm.trans hm))
  · exact kinds_go c ga wa gc wc n w h1 h2 HT hm n0 n1
set_option maxRecDepth 100000 in
theorem lifted_lineKinds (os : Os) (started : os.Started) (H : Type) (enc : TypeId × Value → H) :
    ReturnsInHanded {} Tryd.checked os 7 .any (fun w args => (Rows.lineKindsSpec.pre enc Tryd.prog Tryd.f7 [] false w args ∧ laidMetH Tryd.prog Rows.lineKindsRow.laid w) ∧ sizedMet enc Tryd.prog Tryd.f7 (OpenSpec.ofChange Rows.lineKindsSpec) false w args) (Rows.lineKindsSpec.post enc Tryd.prog Tryd.f7 false true false false) := by
  refine returnsInHanded_of_change_and (C := Tryd.checked) (X := fun w _ => laidMetH Tryd.prog Rows.lineKindsRow.laid w) (fun _ _ _ hh h => h.of_heap hh) (by kernel_rfl) started (by kernel_rfl) Tryd.func7
    (ChangeSpec.witness_shaped (enc := enc) (C := Tryd.checked) (os := os) (X := fun w _ => laidMetH Tryd.prog Rows.lineKindsRow.laid w) false (World.laidAll Tryd.prog os Rows.lineKindsRow.laid) #[.agg #[.int .i64 0, .int .i64 0, .int .i64 0, .int .i64 0, .int .i64 0, .slice none 0 0, .int .i64 0, .slice none 0 0, .int .i64 0], .int .u8 0] 8 (World.laidAll_os _ _ _)
      (World.shaped_of_ZipB (by kernel_rfl) (by kernel_rfl)) (by kernel_rfl) (by kernel_rfl) (by kernel_rfl)
      (by rw [MakeChecks.laidMetH_plain _ _ _ (by kernel_rfl)]; exact laidMet_laidAll _ (by kernel_rfl) (by kernel_rfl))) ?_
  intro W base args ds gs before hval0 hW hcnd hsized hL _
  have hval : ∀ (j : Nat) t v, Tryd.f7.params[j]? = some t → args[j]? = some v → Value.okWide Tryd.prog W .any base t v := hval0
  have hW' := hW
  obtain ⟨p, q, hA0, hV, rfl, hfz, hnd⟩ := hW
  have hA : DataW.TrodAll enc Tryd.prog W 0 (fun _ => true) true Tryd.f7.params.toList args.toList ds p := hA0
  rw [Tryd.params7] at hA hval
  obtain ⟨v0, vs0, d0, ds0, p0, q0, hargs, rfl, rfl, h0, r0⟩ := trodAll_cons hA
  obtain ⟨v1, vs1, d1, ds1, p1, q1, rfl, rfl, rfl, h1, r1⟩ := trodAll_cons r0
  obtain ⟨rfl, rfl, rfl⟩ := trodAll_nil r1
  obtain rfl : args = #[v0, v1] := by cases args; simp_all
  obtain ⟨rfl, rfl⟩ := trodVars_none hV
  obtain ⟨c0, ga0, wa0, gc0, wc0, rfl, m0, u0, g0⟩ := read_cmd (hval 0 24 v0 rfl rfl) h0
  obtain ⟨a1, rfl, rfl, rfl, w1⟩ := open_int Tryd.underlying5 (hval 1 5 v1 rfl rfl) h1
  clear hA0 hval0
  simp only [List.append_nil] at hW'
  rw [MakeChecks.laidMetH_plain _ _ _ (by kernel_rfl)] at hL
  have fKTab := KTab_laid W (hL.tail.tail.tail.tail)
  have fWTab := WTab_laid W (hL.tail.tail.tail.tail.tail)
  have fTab := Tab_laid W (hL.tail.tail)
  refine (walk_lineKinds c0 ga0 wa0 gc0 wc0 a1 W w1 m0 u0 g0 fKTab fWTab fTab).mono fun e W' ⟨he, hg⟩ => ?_
  subst he
  exact ⟨_, rfl, law_post (by kernel_rfl) rfl (by rw [Tryd.params7]; decide +kernel) rfl rfl Tryd.underlying4 hW' hg⟩

theorem row_lineKinds : Rows.LineKindsSaid :=
  OpenClaim.holds_of_wide 7 Tryd.f7 rfl rfl rfl rfl rfl rfl rfl ⟨rfl, rfl, rfl, rfl, rfl⟩ rfl rfl rfl rfl rfl (by kernel_rfl) Tryd.func7 (by kernel_rfl)
    (of_decide_eq_true (by kernel_rfl)) (by unfold Func.isWrapper; first | (rw [if_pos (by decide +kernel)]; kernel_rfl) | (rw [if_neg (by decide +kernel)]; exact ⟨rfl, rfl⟩))
    (fun os started H enc _ => lifted_lineKinds os started H enc)
/-- ████ THE STATEMENT ████ -/
theorem proved_lineKinds : Rows.LineKindsCardSaid :=
  Claim7.holds_tied_plain_at .later [] Rows.lineKindsCard.laidKinds true Rows.lineKindsCard.stood.harness false row_lineKinds (fun _ h => by cases h) (by kernel_rfl) (fun _ h => by cases h) lineKinds_row_tie rfl ⟨rfl, rfl⟩ (by kernel_rfl) rfl
    (fun f fn hf hfn => by
      obtain rfl : f = 7 := Option.some.inj ((show Tryd.prog.funcNamed "innkeep/innkeeplaw04.LineKinds" = some 7 by kernel_rfl).symm.trans hf) |>.symm
      obtain rfl : fn = Tryd.f7 := (Option.some.inj (Tryd.func7.symm.trans hfn)).symm
      exact ⟨by kernel_rfl, fun j t ht => by
        rw [Tryd.params7] at ht
        have hm : t ∈ [24, 5] := by simpa using Array.mem_of_getElem? ht
        have hall : ([24, 5].all fun u => !Tryd.prog.wantsStandIn u) = true := by kernel_rfl
        exact (show Tryd.prog.wantsStandIn t = false by simpa using List.all_eq_true.1 hall t hm)⟩)
    (by kernel_rfl)
#print axioms proved_lineKinds
end Go.Proofs.YtinjpkbpdhihjaaDoor
