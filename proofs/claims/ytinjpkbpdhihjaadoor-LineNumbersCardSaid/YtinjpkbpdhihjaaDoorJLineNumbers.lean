import Derived.Test.YtinjpkbpdhihjaaDoorRows
import Derived.Test.YtinjpkbpdhihjaaDoorKit
import Derived.Test.YtinjpkbpdhihjaaDoorStrs
import Derived.Test.YtinjpkbpdhihjaaDoorJTab
import Derived.Test.YtinjpkbpdhihjaaDoorJBlk
import Derived.Test.YtinjpkbpdhihjaaDoorJMath
import Derived.Test.YtinjpkbpdhihjaaDoorJNum
import Derived.Test.YtinjpkbpdhihjaaDoorJTokJoin
import Derived.Test.YtinjpkbpdhihjaaDoorJTokRefWord
import Derived.Test.YtinjpkbpdhihjaaDoorJCmd
import Derived.Test.YtinjpkbpdhihjaaDoorJCmdNames1
import Derived.Test.YtinjpkbpdhihjaaDoorJCmdRead
import Derived.Test.YtinjpkbpdhihjaaDoorJCmdLaw
import Derived.Test.YtinjpkbpdhihjaaDoorJWords
import Derived.Test.YtinjpkbpdhihjaaDoorJLinePut3
import Derived.Test.YtinjpkbpdhihjaaDoorJLinePut
import Derived.Test.YtinjpkbpdhihjaaDoorJLineGet
import Derived.Test.YtinjpkbpdhihjaaDoorJAwake
import Derived.Test.YtinjpkbpdhihjaaDoorTie
import Derived.Test.YtinjpkbpdhihjaaDoorCards
import Derived.Lay
import Derived.SevenTiedAt
import Derived.MakeChecks
import Derived.WalkKit
import Derived.ProofKit
import Derived.OpenShut
import Derived.IntWalk
/- LineNumbers: for every two numbers: a line in which one number's word is another number's is read as the command of that; with a 0 ahead of it it is malformed: the statement answers true. No condition but that the program's and the library's tables lie as their text lays them (tied). -/
namespace Go.Proofs.YtinjpkbpdhihjaaDoor
open Go.ChangeShapes Go.WideShapes Go.ChangeAt Go.RowKit
set_option linter.unusedVariables false
open Go.RowKit Go
def sPut : List UInt8 := [112, 117, 116]
def sTake : List UInt8 := [116, 97, 107, 101]
def sTrade : List UInt8 := [116, 114, 97, 100, 101]
/-- The text's bytes, as one sum after another lays them. -/
def TextIs (s : ByteArray) (l : List UInt8) : Prop := s.data.toList = l
theorem TextIs.len {s : ByteArray} {l : List UInt8} (h : TextIs s l) : s.size = l.length := by rw [← h]; simp
theorem sum_is {P : Program} (s t : ByteArray) {l r : List UInt8} (h : TextIs s l) (k : TextIs t r) (hl : (l ++ r).length ≤ 1000) :
    ∃ R : ByteArray, TextIs R (l ++ r) ∧ ∀ w, (Op.stringOp .add s t).run P w = .ok (.string R) w :=
  ⟨s ++ t, by unfold TextIs at *; rw [ByteArray.data_append, Array.toList_append, h, k], fun w => run_string_add_sum (w := w) s t (by have := h.len; have := k.len; rw [List.length_append] at hl; omega)⟩
theorem put_is {x y : Int} (hx : okN x = true) (hy : okN y = true) : mayB ⟨5, 0, x, y, 0, [], 0, [], 0⟩ = true ∧ wordsOf ⟨5, 0, x, y, 0, [], 0, [], 0⟩ = [sPut, wd x, sIn, wd y] := by
  have h0 : okN 0 = true := by decide
  exact ⟨by simp [mayB, isKindB, withinB, isDirB, areB, sideB, sameB, numsB, ownC, keep, keepL, hx, hy, h0], by simp [wordsOf, partsOf, putP, getF, Kd.word, nameOf, kindNames, sPut]⟩
theorem take_is {x y : Int} (hx : okN x = true) (hy : okN y = true) : mayB ⟨6, 0, x, y, 0, [], 0, [], 0⟩ = true ∧ wordsOf ⟨6, 0, x, y, 0, [], 0, [], 0⟩ = [sTake, wd x, sFrom, wd y] := by
  have h0 : okN 0 = true := by decide
  exact ⟨by simp [mayB, isKindB, withinB, isDirB, areB, sideB, sameB, numsB, ownC, keep, keepL, hx, hy, h0], by simp [wordsOf, partsOf, putP, getF, Kd.word, nameOf, kindNames, sTake]⟩
theorem trade_is {x y : Int} (hx : okN x = true) (hy : okN y = true) : mayB ⟨8, 0, 0, 0, y, [x, x], y, [y], x⟩ = true ∧ wordsOf ⟨8, 0, 0, 0, y, [x, x], y, [y], x⟩ = [sTrade, wd y, sGive, wd x, wd x, sCoins, wd y, sFor, wd y, sCoins, wd x] := by
  have h0 : okN 0 = true := by decide
  exact ⟨by simp [mayB, isKindB, withinB, isDirB, areB, sideB, sameB, numsB, ownC, keep, keepL, hx, hy, h0], by simp [wordsOf, partsOf, putP, getF, getL, Kd.word, nameOf, kindNames, sTrade]⟩
theorem zero_no (x : Int) : numB (48 :: wd x) = false := by
  apply numB_zero
  rw [zeroAhead_iff]
  refine ⟨?_, rfl⟩
  have := (word_val x.toNat).2.2.1
  have : 0 < (wd x).length := List.length_pos_iff.2 this
  simp; omega
theorem zero_plain (x : Int) : plain (48 :: wd x) = true := dig_plain (by
  rw [show (48 :: wd x : List UInt8) = [48] ++ wd x from rfl, dig_append]
  rw [show dig (wd x) = true from (word_val x.toNat).1]; rfl) (by simp)
theorem kind_head {ws : List (List UInt8)} {k : Int} {tl : List (List UInt8)} (hk : isKindB k = true) (h : codeB ws = true) (he : ws = nameOf k :: tl) : (codeC ws).kind = k ∧ mayB (codeC ws) = true ∧ (partsOf k).flatMap (putP (codeC ws)) = tl := by
  obtain ⟨h1, h2⟩ := code_sound h
  have e : nameOf (codeC ws).kind = nameOf k := by
    have := congrArg (fun l => l.getD 0 []) (h2.trans he)
    exact this
  have e2 : (codeC ws).kind = k := by
    have a := (name_back (may_fields h1).1).2
    rw [e, (name_back hk).2] at a
    exact a.symm
  refine ⟨e2, h1, ?_⟩
  have e3 := congrArg List.tail (h2.trans he)
  rw [← e2]
  exact e3
theorem put_zero (x y : Int) : codeB [sPut, 48 :: wd x, sIn, wd y] = false := by
  rw [Bool.eq_false_iff]; intro h
  obtain ⟨e1, e2, e3⟩ := kind_head (k := 5) (tl := [48 :: wd x, sIn, wd y]) (by decide) h rfl
  generalize codeC [sPut, 48 :: wd x, sIn, wd y] = c at *
  have := (wd_back (may_fields e2).2.2.1).1
  simp [partsOf, putP, getF, Kd.word] at e3
  rw [e3.1, zero_no] at this; cases this
theorem give_zero (x y : Int) : codeB [sGive, wd x, sTo, 48 :: wd y] = false := by
  rw [Bool.eq_false_iff]; intro h
  obtain ⟨e1, e2, e3⟩ := kind_head (k := 7) (tl := [wd x, sTo, 48 :: wd y]) (by decide) h rfl
  generalize codeC [sGive, wd x, sTo, 48 :: wd y] = c at *
  have := (wd_back (may_fields e2).2.2.2.2.1).1
  simp [partsOf, putP, getF, Kd.word] at e3
  rw [e3.2, zero_no] at this; cases this
theorem get_text {s : ByteArray} {l : List UInt8} {ws : List (List UInt8)} {c : Cm} {b : Bool} {n : Int} (w : World) (h : TextIs s l) (hl : l.length ≤ 1000) (he : l = glue ws) (hp : ∀ x ∈ ws, plain x = true) (hb : codeB ws = b) (hc : codeC ws = c) (hn : (if b then 0 else 2) = n) (ht : Tabs w) :
    Calls Tryd.prog 13 #[.string s] w fun e w' => ∃ ga gc wa wc, e = .returned (.tuple #[.agg #[.int .i64 c.kind, .int .i64 c.dir, .int .i64 c.item, .int .i64 c.box, .int .i64 c.who, .slice ga c.gives.length gc, .int .i64 c.pay, .slice wa c.wants.length wc, .int .i64 c.fee], .int .i64 n]) ∧ IntsAt w' ga c.gives ∧ IntsAt w' wa c.wants ∧ Below w.heap.size w w' := by
  subst hb hc hn
  have hw : words s.data.toList = ws := by rw [h, he]; exact words_glue ws hp
  refine (get_any s w (by rw [h.len]; omega) ht).mono ?_
  rw [hw]
  rintro e w' ⟨c, ga, gc, wa, wc, rfl, he, h1, h2, h3⟩
  exact ⟨ga, gc, wa, wc, he, h1, h2, h3⟩
theorem word_of (x : Nat) (w : World) (h : x ≤ 1073741824) (A : ByteArray) (hA : A = ⟨(wd (x : Int)).toArray⟩) : Calls Tryd.prog 21 #[.int .i64 (x : Int)] w fun e w' => e = .returned (.string A) ∧ Below w.heap.size w w' := by
  subst hA; exact refword_any x w h
theorem ints_1 (x : Int) (w : World) : IntsAt (w.alloc (.cells #[.int .i64 x] 3)) (some ⟨w.heap.size, 0, none⟩) [x] := by
  refine (Blk.new w 3 #[.int .i64 x]).ints (by simp [maxLen]) (fun i hi => ?_)
  match i, hi with
  | 0, _ => rfl
set_option maxRecDepth 100000 in
set_option maxHeartbeats 16000000 in
theorem numbers_go (x y : Nat) (w : World) (hx : x ≤ 1073741824) (hy : y ≤ 1073741824) (ht : Tabs w) :
    Calls Tryd.prog 8 #[.int .u32 (x : Int), .int .u32 (y : Int)] w fun e w' => e = .returned (.bool true) ∧ Below w.heap.size w w' := by
  have HT := Lib.hid ht
  have ox : okN (x : Int) = true := by simp only [okN, Bool.and_eq_true, decide_eq_true_eq]; omega
  have oy : okN (y : Int) = true := by simp only [okN, Bool.and_eq_true, decide_eq_true_eq]; omega
  have lx := wd_len ox
  have ly := wd_len oy
  obtain ⟨A, hA⟩ : ∃ A : ByteArray, A = ⟨(wd (x : Int)).toArray⟩ := ⟨_, rfl⟩
  obtain ⟨B, hB⟩ : ∃ B : ByteArray, B = ⟨(wd (y : Int)).toArray⟩ := ⟨_, rfl⟩
  have tA : TextIs A (wd (x : Int)) := by subst hA; rfl
  have tB : TextIs B (wd (y : Int)) := by subst hB; rfl
  obtain ⟨P1, tP1, eP1⟩ := sum_is (P := Tryd.prog) ⟨#[112, 117, 116, 32]⟩ A (show TextIs ⟨#[112, 117, 116, 32]⟩ [112, 117, 116, 32] from rfl) tA (by simp; omega)
  obtain ⟨P2, tP2, eP2⟩ := sum_is (P := Tryd.prog) P1 ⟨#[32, 105, 110, 32]⟩ tP1 (show TextIs ⟨#[32, 105, 110, 32]⟩ [32, 105, 110, 32] from rfl) (by simp; omega)
  obtain ⟨P3, tP3, eP3⟩ := sum_is (P := Tryd.prog) P2 B tP2 tB (by simp; omega)
  obtain ⟨T1, tT1, eT1⟩ := sum_is (P := Tryd.prog) ⟨#[116, 97, 107, 101, 32]⟩ A (show TextIs ⟨#[116, 97, 107, 101, 32]⟩ [116, 97, 107, 101, 32] from rfl) tA (by simp; omega)
  obtain ⟨T2, tT2, eT2⟩ := sum_is (P := Tryd.prog) T1 ⟨#[32, 102, 114, 111, 109, 32]⟩ tT1 (show TextIs ⟨#[32, 102, 114, 111, 109, 32]⟩ [32, 102, 114, 111, 109, 32] from rfl) (by simp; omega)
  obtain ⟨T3, tT3, eT3⟩ := sum_is (P := Tryd.prog) T2 B tT2 tB (by simp; omega)
  obtain ⟨Z1, tZ1, eZ1⟩ := sum_is (P := Tryd.prog) ⟨#[112, 117, 116, 32, 48]⟩ A (show TextIs ⟨#[112, 117, 116, 32, 48]⟩ [112, 117, 116, 32, 48] from rfl) tA (by simp; omega)
  obtain ⟨Z2, tZ2, eZ2⟩ := sum_is (P := Tryd.prog) Z1 ⟨#[32, 105, 110, 32]⟩ tZ1 (show TextIs ⟨#[32, 105, 110, 32]⟩ [32, 105, 110, 32] from rfl) (by simp; omega)
  obtain ⟨Z3, tZ3, eZ3⟩ := sum_is (P := Tryd.prog) Z2 B tZ2 tB (by simp; omega)
  obtain ⟨G1, tG1, eG1⟩ := sum_is (P := Tryd.prog) ⟨#[103, 105, 118, 101, 32]⟩ A (show TextIs ⟨#[103, 105, 118, 101, 32]⟩ [103, 105, 118, 101, 32] from rfl) tA (by simp; omega)
  obtain ⟨G2, tG2, eG2⟩ := sum_is (P := Tryd.prog) G1 ⟨#[32, 116, 111, 32, 48]⟩ tG1 (show TextIs ⟨#[32, 116, 111, 32, 48]⟩ [32, 116, 111, 32, 48] from rfl) (by simp; omega)
  obtain ⟨G3, tG3, eG3⟩ := sum_is (P := Tryd.prog) G2 B tG2 tB (by simp; omega)
  obtain ⟨M1, tM1, eM1⟩ := sum_is (P := Tryd.prog) ⟨#[116, 114, 97, 100, 101, 32]⟩ B (show TextIs ⟨#[116, 114, 97, 100, 101, 32]⟩ [116, 114, 97, 100, 101, 32] from rfl) tB (by simp; omega)
  obtain ⟨M2, tM2, eM2⟩ := sum_is (P := Tryd.prog) M1 ⟨#[32, 103, 105, 118, 101, 32]⟩ tM1 (show TextIs ⟨#[32, 103, 105, 118, 101, 32]⟩ [32, 103, 105, 118, 101, 32] from rfl) (by simp; omega)
  obtain ⟨M3, tM3, eM3⟩ := sum_is (P := Tryd.prog) M2 A tM2 tA (by simp; omega)
  obtain ⟨M4, tM4, eM4⟩ := sum_is (P := Tryd.prog) M3 ⟨#[32]⟩ tM3 (show TextIs ⟨#[32]⟩ [32] from rfl) (by simp; omega)
  obtain ⟨M5, tM5, eM5⟩ := sum_is (P := Tryd.prog) M4 A tM4 tA (by simp; omega)
  obtain ⟨M6, tM6, eM6⟩ := sum_is (P := Tryd.prog) M5 ⟨#[32, 99, 111, 105, 110, 115, 32]⟩ tM5 (show TextIs ⟨#[32, 99, 111, 105, 110, 115, 32]⟩ [32, 99, 111, 105, 110, 115, 32] from rfl) (by simp; omega)
  obtain ⟨M7, tM7, eM7⟩ := sum_is (P := Tryd.prog) M6 B tM6 tB (by simp; omega)
  obtain ⟨M8, tM8, eM8⟩ := sum_is (P := Tryd.prog) M7 ⟨#[32, 102, 111, 114, 32]⟩ tM7 (show TextIs ⟨#[32, 102, 111, 114, 32]⟩ [32, 102, 111, 114, 32] from rfl) (by simp; omega)
  obtain ⟨M9, tM9, eM9⟩ := sum_is (P := Tryd.prog) M8 B tM8 tB (by simp; omega)
  obtain ⟨M10, tM10, eM10⟩ := sum_is (P := Tryd.prog) M9 ⟨#[32, 99, 111, 105, 110, 115, 32]⟩ tM9 (show TextIs ⟨#[32, 99, 111, 105, 110, 115, 32]⟩ [32, 99, 111, 105, 110, 115, 32] from rfl) (by simp; omega)
  obtain ⟨M11, tM11, eM11⟩ := sum_is (P := Tryd.prog) M10 A tM10 tA (by simp; omega)
  have HA := Lib.hid hA
  have HB := Lib.hid hB
  have L1 := Lib.hid (put_is ox oy)
  have L2 := Lib.hid (take_is ox oy)
  have L3 := Lib.hid (trade_is ox oy)
  have GP := Lib.hid (fun (w : World) (ht : Tabs w) => get_text (ws := [sPut, wd (x : Int), sIn, wd (y : Int)]) (c := ⟨5, 0, x, y, 0, [], 0, [], 0⟩) (n := 0) w tP3 (by simp; omega) (by simp [glue, sPut, sIn]) (by intro z hz; simp only [List.mem_cons, List.not_mem_nil, or_false] at hz; rcases hz with rfl | rfl | rfl | rfl <;> first | exact wd_plain _ | exact zero_plain _ | decide) (L1.out.2 ▸ (code_complete L1.out.1).1) (L1.out.2 ▸ (code_complete L1.out.1).2) rfl ht)
  have GT := Lib.hid (fun (w : World) (ht : Tabs w) => get_text (ws := [sTake, wd (x : Int), sFrom, wd (y : Int)]) (c := ⟨6, 0, x, y, 0, [], 0, [], 0⟩) (n := 0) w tT3 (by simp; omega) (by simp [glue, sTake, sFrom]) (by intro z hz; simp only [List.mem_cons, List.not_mem_nil, or_false] at hz; rcases hz with rfl | rfl | rfl | rfl <;> first | exact wd_plain _ | exact zero_plain _ | decide) (L2.out.2 ▸ (code_complete L2.out.1).1) (L2.out.2 ▸ (code_complete L2.out.1).2) rfl ht)
  have GZ := Lib.hid (fun (w : World) (ht : Tabs w) => get_text (ws := [sPut, 48 :: wd (x : Int), sIn, wd (y : Int)]) (c := zeroC) (n := 2) w tZ3 (by simp; omega) (by simp [glue, sPut, sIn]) (by intro z hz; simp only [List.mem_cons, List.not_mem_nil, or_false] at hz; rcases hz with rfl | rfl | rfl | rfl <;> first | exact wd_plain _ | exact zero_plain _ | decide) (put_zero x y) (no_code (put_zero x y)) rfl ht)
  have GG := Lib.hid (fun (w : World) (ht : Tabs w) => get_text (ws := [sGive, wd (x : Int), sTo, 48 :: wd (y : Int)]) (c := zeroC) (n := 2) w tG3 (by simp; omega) (by simp [glue, sGive, sTo]) (by intro z hz; simp only [List.mem_cons, List.not_mem_nil, or_false] at hz; rcases hz with rfl | rfl | rfl | rfl <;> first | exact wd_plain _ | exact zero_plain _ | decide) (give_zero x y) (no_code (give_zero x y)) rfl ht)
  have GM := Lib.hid (fun (w : World) (ht : Tabs w) => get_text (ws := [sTrade, wd (y : Int), sGive, wd (x : Int), wd (x : Int), sCoins, wd (y : Int), sFor, wd (y : Int), sCoins, wd (x : Int)]) (c := ⟨8, 0, 0, 0, y, [x, x], y, [y], x⟩) (n := 0) w tM11 (by simp; omega) (by simp [glue, sTrade, sGive, sFor, sCoins]) (by intro z hz; simp only [List.mem_cons, List.not_mem_nil, or_false] at hz; rcases hz with rfl | rfl | rfl | rfl | rfl | rfl | rfl | rfl | rfl | rfl | rfl <;> first | exact wd_plain _ | exact zero_plain _ | decide) (L3.out.2 ▸ (code_complete L3.out.1).1) (L3.out.2 ▸ (code_complete L3.out.1).2) rfl ht)
  clear tP1 tP2 tT1 tT2 tZ1 tZ2 tG1 tG2 tM1 tM2 tM3 tM4 tM5 tM6 tM7 tM8 tM9 tM10 tP3 tT3 tZ3 tG3 tM11 tA tB hA hB lx ly ht
  go_enter Tryd.func8, Tryd.ntmps8
  go_wp2_with fail
  refine (awake_any _ HT.out).mono ?_
  rintro e w1 ⟨rfl, b1⟩
  go_wp2_with fail
  refine (word_of x _ hx A HA.out).mono ?_
  rintro e w2 ⟨rfl, b2⟩
  go_wp2_with fail
  have B2 := Lib.hid (bl b1 b2)
  clear b1 b2
  refine (word_of y _ hy B HB.out).mono ?_
  rintro e w3 ⟨rfl, b3⟩
  go_wp2_with fail
  have B3 := Lib.hid (bl B2.out b3)
  clear b3 B2
  refine (GP.out _ (HT.out.call B3.out)).mono ?_
  rintro e w4 ⟨gP, gcP, wPa, wcP, rfl, i1, i2, b4⟩
  have B4 := Lib.hid ((bl B3.out b4).alloc (bl B3.out b4).size (.cells #[.int .i64 5, .int .i64 0, .int .i64 x, .int .i64 y, .int .i64 0, .slice gP 0 gcP, .int .i64 0, .slice wPa 0 wcP, .int .i64 0] 24))
  have HP4 := Lib.hid (HoldC.new (c := ⟨5, 0, x, y, 0, [], 0, [], 0⟩) #[.int .i64 5, .int .i64 0, .int .i64 x, .int .i64 y, .int .i64 0, .slice gP 0 gcP, .int .i64 0, .slice wPa 0 wcP, .int .i64 0] i1 i2)
  clear b4 i1 i2 B3 eP1 eP2 eP3
  go_wp2_with fail
  refine (GT.out _ (HT.out.call B4.out)).mono ?_
  rintro e w5 ⟨gT, gcT, wTa, wcT, rfl, i1, i2, b5⟩
  have B5 := Lib.hid ((bl B4.out b5).alloc (bl B4.out b5).size (.cells #[.int .i64 6, .int .i64 0, .int .i64 x, .int .i64 y, .int .i64 0, .slice gT 0 gcT, .int .i64 0, .slice wTa 0 wcT, .int .i64 0] 24))
  have HP5 := Lib.hid ((HP4.out.call b5).alloc (.cells #[.int .i64 6, .int .i64 0, .int .i64 x, .int .i64 y, .int .i64 0, .slice gT 0 gcT, .int .i64 0, .slice wTa 0 wcT, .int .i64 0] 24))
  have HQ5 := Lib.hid (HoldC.new (c := ⟨6, 0, x, y, 0, [], 0, [], 0⟩) #[.int .i64 6, .int .i64 0, .int .i64 x, .int .i64 y, .int .i64 0, .slice gT 0 gcT, .int .i64 0, .slice wTa 0 wcT, .int .i64 0] i1 i2)
  clear b5 i1 i2 B4 HP4 eT1 eT2 eT3
  go_wp2_with fail
  refine (GZ.out _ (HT.out.call B5.out)).mono ?_
  rintro e w6 ⟨gZ, gcZ, wZa, wcZ, rfl, i1, i2, b6⟩
  have B6 := Lib.hid ((bl B5.out b6).alloc (bl B5.out b6).size (.cells #[.int .i64 0, .int .i64 0, .int .i64 0, .int .i64 0, .int .i64 0, .slice gZ 0 gcZ, .int .i64 0, .slice wZa 0 wcZ, .int .i64 0] 24))
  have HP6 := Lib.hid ((HP5.out.call b6).alloc (.cells #[.int .i64 0, .int .i64 0, .int .i64 0, .int .i64 0, .int .i64 0, .slice gZ 0 gcZ, .int .i64 0, .slice wZa 0 wcZ, .int .i64 0] 24))
  have HQ6 := Lib.hid ((HQ5.out.call b6).alloc (.cells #[.int .i64 0, .int .i64 0, .int .i64 0, .int .i64 0, .int .i64 0, .slice gZ 0 gcZ, .int .i64 0, .slice wZa 0 wcZ, .int .i64 0] 24))
  clear b6 i1 i2 B5 HP5 HQ5 eZ1 eZ2 eZ3
  go_wp2_with fail
  refine (GG.out _ (HT.out.call B6.out)).mono ?_
  rintro e w7 ⟨gG, gcG, wGa, wcG, rfl, i1, i2, b7⟩
  have B7 := Lib.hid ((bl B6.out b7).alloc (bl B6.out b7).size (.cells #[.int .i64 0, .int .i64 0, .int .i64 0, .int .i64 0, .int .i64 0, .slice gG 0 gcG, .int .i64 0, .slice wGa 0 wcG, .int .i64 0] 24))
  have HP7 := Lib.hid ((HP6.out.call b7).alloc (.cells #[.int .i64 0, .int .i64 0, .int .i64 0, .int .i64 0, .int .i64 0, .slice gG 0 gcG, .int .i64 0, .slice wGa 0 wcG, .int .i64 0] 24))
  have HQ7 := Lib.hid ((HQ6.out.call b7).alloc (.cells #[.int .i64 0, .int .i64 0, .int .i64 0, .int .i64 0, .int .i64 0, .slice gG 0 gcG, .int .i64 0, .slice wGa 0 wcG, .int .i64 0] 24))
  clear b7 i1 i2 B6 HP6 HQ6 eG1 eG2 eG3
  go_wp2_with fail
  refine (GM.out _ (HT.out.call B7.out)).mono ?_
  rintro e w8 ⟨gM, gcM, wMa, wcM, rfl, i1, i2, b8⟩
  have B8 := Lib.hid ((bl B7.out b8).alloc (bl B7.out b8).size (.cells #[.int .i64 8, .int .i64 0, .int .i64 0, .int .i64 0, .int .i64 y, .slice gM 2 gcM, .int .i64 y, .slice wMa 1 wcM, .int .i64 x] 24))
  have HP8 := Lib.hid ((HP7.out.call b8).alloc (.cells #[.int .i64 8, .int .i64 0, .int .i64 0, .int .i64 0, .int .i64 y, .slice gM 2 gcM, .int .i64 y, .slice wMa 1 wcM, .int .i64 x] 24))
  have HQ8 := Lib.hid ((HQ7.out.call b8).alloc (.cells #[.int .i64 8, .int .i64 0, .int .i64 0, .int .i64 0, .int .i64 y, .slice gM 2 gcM, .int .i64 y, .slice wMa 1 wcM, .int .i64 x] 24))
  have HM8 := Lib.hid (HoldC.new (c := ⟨8, 0, 0, 0, y, [x, x], y, [y], x⟩) #[.int .i64 8, .int .i64 0, .int .i64 0, .int .i64 0, .int .i64 y, .slice gM 2 gcM, .int .i64 y, .slice wMa 1 wcM, .int .i64 x] i1 i2)
  clear b8 i1 i2 B7 HP7 HQ7 eM1 eM2 eM3 eM4 eM5 eM6 eM7 eM8 eM9 eM10 eM11
  have c1 := HP8.out.1.cell
  have c2 := HQ8.out.1.cell
  have c3 := HM8.out.1.cell
  go_wp2_with fail
  refine (refsame_any ⟨5, 0, x, y, 0, [], 0, [], 0⟩ ⟨5, 0, x, y, 0, [], 0, [], 0⟩ _ _ none none _ _ 0 0 _ HP8.out.2.1 HP8.out.2.2 (IntsAt.nil _ _) (IntsAt.nil _ _)).mono ?_
  rintro e w9 ⟨rfl, b9⟩
  rw [same_self]
  have B9 := Lib.hid (bl B8.out b9)
  have HQ9 := Lib.hid (HQ8.out.call b9)
  have HM9 := Lib.hid (HM8.out.call b9)
  clear b9 B8 HP8 HQ8 HM8 c1 c2 c3
  have c2 := HQ9.out.1.cell
  go_wp2_with fail
  refine (refsame_any ⟨6, 0, x, y, 0, [], 0, [], 0⟩ ⟨6, 0, x, y, 0, [], 0, [], 0⟩ _ _ none none _ _ 0 0 _ HQ9.out.2.1 HQ9.out.2.2 (IntsAt.nil _ _) (IntsAt.nil _ _)).mono ?_
  rintro e w10 ⟨rfl, b10⟩
  rw [same_self]
  have B10 := Lib.hid (bl B9.out b10)
  have HM10 := Lib.hid (HM9.out.call b10)
  clear b10 B9 HQ9 HM9 c2
  have c3 := HM10.out.1.cell
  have q0 : Below w10.heap.size w10 ((w10.alloc (.cells #[.int .i64 x, .int .i64 x] 3)).alloc (.cells #[.int .i64 y] 3)) := ((Below.refl _ _).alloc (Nat.le_refl _) _).alloc (by simp) _
  have q1 := Lib.hid ((ints_two x x w10).below ((Below.refl _ _).alloc (Nat.le_refl _) (.cells #[.int .i64 y] 3)) (Nat.le_refl _))
  have q2 := ints_1 y (w10.alloc (.cells #[.int .i64 x, .int .i64 x] 3))
  rw [show (w10.alloc (.cells #[.int .i64 x, .int .i64 x] 3)).heap.size = w10.heap.size + 1 by simp] at q2
  have Q2 := Lib.hid q2
  have B11 := Lib.hid (bl B10.out q0)
  have HM11 := Lib.hid (HM10.out.call q0)
  clear q0 q2 B10
  go_wp2_with fail
  refine (refsame_any ⟨8, 0, 0, 0, y, [x, x], y, [y], x⟩ ⟨8, 0, 0, 0, y, [x, x], y, [y], x⟩ _ _ (some ⟨w10.heap.size, 0, none⟩) (some ⟨w10.heap.size + 1, 0, none⟩) _ _ 2 1 _ HM11.out.2.1 HM11.out.2.2 q1.out Q2.out).mono ?_
  rintro e w12 ⟨rfl, b12⟩
  rw [same_self]
  have B12 := Lib.hid (bl B11.out b12)
  clear b12 c3
  go_wp2_with fail
  go_ret
  exact ⟨rfl, B12.out⟩
theorem numbers_not (x y : Int) (w : World) (h : 1073741824 < x ∨ (x ≤ 1073741824 ∧ 1073741824 < y)) (ht : Tabs w) :
    Calls Tryd.prog 8 #[.int .u32 x, .int .u32 y] w fun e w' => e = .returned (.bool true) ∧ Below w.heap.size w w' := by
  have HT := Lib.hid ht
  clear ht
  rcases h with h | ⟨h, h'⟩
  ·
    go_enter Tryd.func8, Tryd.ntmps8
    go_wp2_with fail
    refine (awake_any _ HT.out).mono ?_
    rintro e wA ⟨rfl, bA⟩
    go_wp2_with fail
    have T1 := Lib.hid (HT.out.call bA)
    refine (awake_any _ T1.out).mono ?_
    rintro e wB ⟨rfl, bB⟩
    go_wp2_with fail
    go_ret
    exact ⟨rfl, bl bA bB⟩
  ·
    go_enter Tryd.func8, Tryd.ntmps8
    go_wp2_with fail
    refine (awake_any _ HT.out).mono ?_
    rintro e wA ⟨rfl, bA⟩
    go_wp2_with fail
    have T1 := Lib.hid (HT.out.call bA)
    refine (awake_any _ T1.out).mono ?_
    rintro e wB ⟨rfl, bB⟩
    go_wp2_with fail
    go_ret
    exact ⟨rfl, bl bA bB⟩
theorem walk_lineNumbers (x y : Int) (w : World) (w1 : (Lit.int .u32 x).wf = true) (w2 : (Lit.int .u32 y).wf = true) (hk : KTab w) (hw : WTab w) (ht : Tab w) :
    Calls Tryd.prog 8 #[.int .u32 x, .int .u32 y] w fun e w' => e = .returned (.bool true) ∧ Below w.heap.size w w' := by
  have HT : Tabs w := ⟨hk, hw, ht⟩
  obtain ⟨x0, -⟩ := wf_u32 w1
  obtain ⟨y0, -⟩ := wf_u32 w2
  obtain ⟨x, rfl⟩ := Int.eq_ofNat_of_zero_le x0
  obtain ⟨y, rfl⟩ := Int.eq_ofNat_of_zero_le y0
  by_cases h1 : x ≤ 1073741824
  · by_cases h2 : y ≤ 1073741824
    · exact numbers_go x y w h1 h2 HT
    · exact numbers_not _ _ w (.inr ⟨by omega, by omega⟩) HT
  · exact numbers_not _ _ w (.inl (by omega)) HT
set_option maxRecDepth 100000 in
theorem lifted_lineNumbers (os : Os) (started : os.Started) (H : Type) (enc : TypeId × Value → H) :
    ReturnsInHanded {} Tryd.checked os 8 .any (fun w args => (Rows.lineNumbersSpec.pre enc Tryd.prog Tryd.f8 [] false w args ∧ laidMetH Tryd.prog Rows.lineNumbersRow.laid w) ∧ sizedMet enc Tryd.prog Tryd.f8 (OpenSpec.ofChange Rows.lineNumbersSpec) false w args) (Rows.lineNumbersSpec.post enc Tryd.prog Tryd.f8 false true false false) := by
  refine returnsInHanded_of_change_and (C := Tryd.checked) (X := fun w _ => laidMetH Tryd.prog Rows.lineNumbersRow.laid w) (fun _ _ _ hh h => h.of_heap hh) (by kernel_rfl) started (by kernel_rfl) Tryd.func8
    (ChangeSpec.witness_shaped (enc := enc) (C := Tryd.checked) (os := os) (X := fun w _ => laidMetH Tryd.prog Rows.lineNumbersRow.laid w) false (World.laidAll Tryd.prog os Rows.lineNumbersRow.laid) #[.int .u32 0, .int .u32 0] 8 (World.laidAll_os _ _ _)
      (World.shaped_of_ZipB (by kernel_rfl) (by kernel_rfl)) (by kernel_rfl) (by kernel_rfl) (by kernel_rfl)
      (by rw [MakeChecks.laidMetH_plain _ _ _ (by kernel_rfl)]; exact laidMet_laidAll _ (by kernel_rfl) (by kernel_rfl))) ?_
  intro W base args ds gs before hval0 hW hcnd hsized hL _
  have hval : ∀ (j : Nat) t v, Tryd.f8.params[j]? = some t → args[j]? = some v → Value.okWide Tryd.prog W .any base t v := hval0
  have hW' := hW
  obtain ⟨p, q, hA0, hV, rfl, hfz, hnd⟩ := hW
  have hA : DataW.TrodAll enc Tryd.prog W 0 (fun _ => true) true Tryd.f8.params.toList args.toList ds p := hA0
  rw [Tryd.params8] at hA hval
  obtain ⟨v0, vs0, d0, ds0, p0, q0, hargs, rfl, rfl, h0, r0⟩ := trodAll_cons hA
  obtain ⟨v1, vs1, d1, ds1, p1, q1, rfl, rfl, rfl, h1, r1⟩ := trodAll_cons r0
  obtain ⟨rfl, rfl, rfl⟩ := trodAll_nil r1
  obtain rfl : args = #[v0, v1] := by cases args; simp_all
  obtain ⟨rfl, rfl⟩ := trodVars_none hV
  obtain ⟨a0, rfl, rfl, rfl, w0⟩ := open_int Tryd.underlying45 (hval 0 45 v0 rfl rfl) h0
  obtain ⟨a1, rfl, rfl, rfl, w1⟩ := open_int Tryd.underlying45 (hval 1 45 v1 rfl rfl) h1
  clear hA0 hval0
  simp only [List.append_nil] at hW'
  rw [MakeChecks.laidMetH_plain _ _ _ (by kernel_rfl)] at hL
  have fKTab := KTab_laid W (hL.tail.tail.tail.tail)
  have fWTab := WTab_laid W (hL.tail.tail.tail.tail.tail)
  have fTab := Tab_laid W (hL.tail.tail)
  refine (walk_lineNumbers a0 a1 W w0 w1 fKTab fWTab fTab).mono fun e W' ⟨he, hg⟩ => ?_
  subst he
  exact ⟨_, rfl, law_post (by kernel_rfl) rfl (by rw [Tryd.params8]; decide +kernel) rfl rfl Tryd.underlying4 hW' hg⟩

theorem row_lineNumbers : Rows.LineNumbersSaid :=
  OpenClaim.holds_of_wide 8 Tryd.f8 rfl rfl rfl rfl rfl rfl rfl ⟨rfl, rfl, rfl, rfl, rfl⟩ rfl rfl rfl rfl rfl (by kernel_rfl) Tryd.func8 (by kernel_rfl)
    (of_decide_eq_true (by kernel_rfl)) (by unfold Func.isWrapper; first | (rw [if_pos (by decide +kernel)]; kernel_rfl) | (rw [if_neg (by decide +kernel)]; exact ⟨rfl, rfl⟩))
    (fun os started H enc _ => lifted_lineNumbers os started H enc)
/-- ████ THE STATEMENT ████ -/
theorem proved_lineNumbers : Rows.LineNumbersCardSaid :=
  Claim7.holds_tied_plain_at .later [] Rows.lineNumbersCard.laidKinds true Rows.lineNumbersCard.stood.harness false row_lineNumbers (fun _ h => by cases h) (by kernel_rfl) (fun _ h => by cases h) lineNumbers_row_tie rfl ⟨rfl, rfl⟩ (by kernel_rfl) rfl
    (fun f fn hf hfn => by
      obtain rfl : f = 8 := Option.some.inj ((show Tryd.prog.funcNamed "innkeep/innkeeplaw04.LineNumbers" = some 8 by kernel_rfl).symm.trans hf) |>.symm
      obtain rfl : fn = Tryd.f8 := (Option.some.inj (Tryd.func8.symm.trans hfn)).symm
      exact ⟨by kernel_rfl, fun j t ht => by
        rw [Tryd.params8] at ht
        have hm : t ∈ [45, 45] := by simpa using Array.mem_of_getElem? ht
        have hall : ([45, 45].all fun u => !Tryd.prog.wantsStandIn u) = true := by kernel_rfl
        exact (show Tryd.prog.wantsStandIn t = false by simpa using List.all_eq_true.1 hall t hm)⟩)
    (by kernel_rfl)
#print axioms proved_lineNumbers
end Go.Proofs.YtinjpkbpdhihjaaDoor
