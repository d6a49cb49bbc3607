import Derived.Test.YtinjpkbpdhihjaaDoorRows
import Derived.Test.YtinjpkbpdhihjaaDoorKit
import Derived.Test.YtinjpkbpdhihjaaDoorStrs
import Derived.Test.YtinjpkbpdhihjaaDoorJTab
import Derived.Test.YtinjpkbpdhihjaaDoorJBlk
import Derived.Test.YtinjpkbpdhihjaaDoorJMath
import Derived.Test.YtinjpkbpdhihjaaDoorJNum
import Derived.Test.YtinjpkbpdhihjaaDoorJCut
import Derived.Test.YtinjpkbpdhihjaaDoorJTokJoin
import Derived.Test.YtinjpkbpdhihjaaDoorJRefCutOwn
import Derived.Test.YtinjpkbpdhihjaaDoorJCmd
import Derived.Test.YtinjpkbpdhihjaaDoorJCmdNames1
import Derived.Test.YtinjpkbpdhihjaaDoorJCmdRead
import Derived.Test.YtinjpkbpdhihjaaDoorJMay
import Derived.Test.YtinjpkbpdhihjaaDoorJCmdLaw
import Derived.Test.YtinjpkbpdhihjaaDoorJWords
import Derived.Test.YtinjpkbpdhihjaaDoorJLinePut3
import Derived.Test.YtinjpkbpdhihjaaDoorJLinePut
import Derived.Test.YtinjpkbpdhihjaaDoorJLineGet
import Derived.Test.YtinjpkbpdhihjaaDoorJAwake
import Derived.Test.YtinjpkbpdhihjaaDoorTie
import Derived.Test.YtinjpkbpdhihjaaDoorCards
import Derived.Lay
import Derived.SevenTiedAt
import Derived.MakeChecks
import Derived.WalkKit
import Derived.ProofKit
import Derived.OpenShut
import Derived.IntWalk
/- LineShort: for every command and every word: its line with a word less at the end, or one more, is another command's, or malformed; a line of nothing is malformed: the statement answers true. No condition but that the program's and the library's tables lie as their text lays them (tied). -/
namespace Go.Proofs.YtinjpkbpdhihjaaDoor
open Go.ChangeShapes Go.WideShapes Go.ChangeAt Go.RowKit
set_option linter.unusedVariables false
open Go.RowKit Go
/-- A row of words, opened: its block is whole, and may be written. -/
theorem row_open {W : World} {base : Nat} {v : Value} {xs : List (List UInt8)} (h : W.ownsRow base 9 1 v xs.length (xs.map str)) (h0 : 0 < xs.length) :
    ∃ g cap cur, v = .slice (some ⟨g, 0, none⟩) xs.length cap ∧ base ≤ g ∧ Blk W g 9 cur ∧ xs.length ≤ cap ∧ ∀ i (hi : i < xs.length), (cur[i]? : Option Value) = some (str xs[i]) := by
  rcases h.2 with ⟨_, h0⟩ | ⟨g, cap, cur, rfl, hg, hh, hc, _, hsz, htk⟩
  · omega
  · refine ⟨g, cap, cur, rfl, hg, hh, hc, fun i hi => ?_⟩
    have e2 : (cur.toList.take (xs.length * 1))[i]? = (xs.map str)[i]? := by rw [htk]
    rw [List.getElem?_take] at e2
    simpa [hi] using e2
theorem few_of {c : Cm} (h : mayB c = true) : fewB c = true := by
  obtain ⟨-, -, -, -, -, -, -, -, -, -, h1, h2⟩ := may_fields h
  simp only [fewB, Bool.and_eq_true, decide_eq_true_eq]
  omega
theorem strs_less {W : World} {g cap : Nat} {cur : Array Value} {xs : List (List UInt8)} (hb : Blk W g 9 cur) (h : ∀ i (hi : i < xs.length), (cur[i]? : Option Value) = some (str xs[i])) (hl : xs.length ≤ maxLen) :
    Strs W (.slice (some ⟨g, 0, none⟩) (xs.length - 1) cap) xs.dropLast := by
  refine ⟨_, cap, by rw [List.length_dropLast], by rw [List.length_dropLast]; omega, .inr ⟨g, 0, rfl, hb.lt, fun i hi => ?_⟩⟩
  rw [List.length_dropLast] at hi
  rw [show (⟨g, 0 + i, none⟩ : Addr) = ⟨g, i, none⟩ by simp, hb.cell, h i (by omega)]
  simp
theorem less_no {c : Cm} (hm : mayB c = true) (ws : List (List UInt8)) (hn : ws.length ≠ (wordsOf c).length) (h : codeB ws = true) {a : Cm} (ha : a = codeC ws) : sameB a c = false := by
  rw [Bool.eq_false_iff]; intro e
  have e := (sameB_iff _ _).1 e
  have h2 := (code_sound h).2
  rw [← ha, e] at h2
  exact hn (by rw [h2])
theorem sizes_less {xs : List (List UInt8)} : sizes xs.dropLast ≤ sizes xs := by
  induction xs with
  | nil => simp
  | cons x xs ih =>
    cases xs with
    | nil => simp [sizes]
    | cons y r =>
      rw [List.dropLast_cons_cons]
      simp only [sizes, List.map_cons, List.sum_cons] at ih ⊢
      omega
theorem words_more (l x : List UInt8) (h : plain x = true) : words (l ++ 32 :: x) = words l ++ [x] := by
  rw [words_both]
  congr 1
  have := words_word x [] h (.inl rfl)
  rw [List.append_nil, words_nil] at this
  exact this
theorem words_none : words [32, 32, 32] = [] := by decide
theorem none_no : codeB [] = false := by decide
set_option maxRecDepth 100000 in
set_option maxHeartbeats 4000000 in
theorem short_not (c : Cm) (ga wa : Option Addr) (gc wc : Nat) (s : ByteArray) (w : World) (h1 : IntsAt w ga c.gives) (h2 : IntsAt w wa c.wants) (hs : s.size ≤ 9223372036854775807) (ht : Tabs w)
    (f : fewB c = false ∨ refMayB c = false ∨ 100 < s.size ∨ plain s.data.toList = false) :
    Calls Tryd.prog 6 #[.agg #[.int .i64 c.kind, .int .i64 c.dir, .int .i64 c.item, .int .i64 c.box, .int .i64 c.who, .slice ga c.gives.length gc, .int .i64 c.pay, .slice wa c.wants.length wc, .int .i64 c.fee], .string s] w fun e w' => e = .returned (.bool true) ∧ Below w.heap.size w w' := by
  have HT := Lib.hid ht
  have P0 := Lib.hid (OneC.start (gc := gc) (wc := wc) h1 h2)
  clear ht h1 h2
  cases f1 : fewB c
  · have F1 := Lib.hid f1
    clear f f1
    go_enter Tryd.func6, Tryd.ntmps6
    go_wp2_with fail
    refine (awake_any _ (HT.out.call P0.out.1)).mono ?_
    rintro e w1 ⟨rfl, b1⟩
    have P1 := Lib.hid (P0.out.call b1)
    have hA := P1.out.2.1.cell
    clear b1 P0
    go_wp2_with fail
    refine (few_any _ _ _ _ _ _ P1.out.2.2.1 P1.out.2.2.2).mono ?_
    rintro e w2 ⟨rfl, b2⟩
    rw [F1.out]
    have P2 := Lib.hid (P1.out.call b2)
    clear b2 P1 hA
    have PX := Lib.hid P2.out
    go_wp2_with fail
    refine (awake_any _ (HT.out.call PX.out.1)).mono ?_
    rintro e w9 ⟨rfl, b9⟩
    have P9 := Lib.hid (PX.out.call b9)
    clear b9
    go_wp2_with fail
    go_ret
    exact ⟨rfl, P9.out.1⟩
  · have F1 := Lib.hid f1
    cases f2 : refMayB c
    · have F2 := Lib.hid f2
      clear f f1 f2
      go_enter Tryd.func6, Tryd.ntmps6
      go_wp2_with fail
      refine (awake_any _ (HT.out.call P0.out.1)).mono ?_
      rintro e w1 ⟨rfl, b1⟩
      have P1 := Lib.hid (P0.out.call b1)
      have hA := P1.out.2.1.cell
      clear b1 P0
      go_wp2_with fail
      refine (few_any _ _ _ _ _ _ P1.out.2.2.1 P1.out.2.2.2).mono ?_
      rintro e w2 ⟨rfl, b2⟩
      rw [F1.out]
      have P2 := Lib.hid (P1.out.call b2)
      clear b2 P1 hA
      have hA := P2.out.2.1.cell
      go_wp2_with fail
      refine (refmay_any _ _ _ _ _ _ P2.out.2.2.1 P2.out.2.2.2).mono ?_
      rintro e w3 ⟨rfl, b3⟩
      rw [F2.out]
      have P3 := Lib.hid (P2.out.call b3)
      clear b3 P2 hA
      have PX := Lib.hid P3.out
      go_wp2_with fail
      refine (awake_any _ (HT.out.call PX.out.1)).mono ?_
      rintro e w9 ⟨rfl, b9⟩
      have P9 := Lib.hid (PX.out.call b9)
      clear b9
      go_wp2_with fail
      go_ret
      exact ⟨rfl, P9.out.1⟩
    · have F2 := Lib.hid f2
      by_cases f3 : 100 < s.size
      · clear f f1 f2
        go_enter Tryd.func6, Tryd.ntmps6
        go_wp2_with fail
        refine (awake_any _ (HT.out.call P0.out.1)).mono ?_
        rintro e w1 ⟨rfl, b1⟩
        have P1 := Lib.hid (P0.out.call b1)
        have hA := P1.out.2.1.cell
        clear b1 P0
        go_wp2_with fail
        refine (few_any _ _ _ _ _ _ P1.out.2.2.1 P1.out.2.2.2).mono ?_
        rintro e w2 ⟨rfl, b2⟩
        rw [F1.out]
        have P2 := Lib.hid (P1.out.call b2)
        clear b2 P1 hA
        have hA := P2.out.2.1.cell
        go_wp2_with fail
        refine (refmay_any _ _ _ _ _ _ P2.out.2.2.1 P2.out.2.2.2).mono ?_
        rintro e w3 ⟨rfl, b3⟩
        rw [F2.out]
        have P3 := Lib.hid (P2.out.call b3)
        clear b3 P2 hA
        have PX := Lib.hid P3.out
        go_wp2_with fail
        refine (awake_any _ (HT.out.call PX.out.1)).mono ?_
        rintro e w9 ⟨rfl, b9⟩
        have P9 := Lib.hid (PX.out.call b9)
        clear b9
        go_wp2_with fail
        go_ret
        exact ⟨rfl, P9.out.1⟩
      · have F4 := Lib.hid (show plain s.data.toList = false by rw [f1, f2] at f; rcases f with f | f | f | f <;> first | exact f | exact absurd f f3 | cases f)
        have f5 : s.size ≤ 100 := by omega
        have hpl := fun w => plain_any s w hs
        have HPL := Lib.hid hpl
        clear f f1 f2 f3 hpl
        go_enter Tryd.func6, Tryd.ntmps6
        go_wp2_with fail
        refine (awake_any _ (HT.out.call P0.out.1)).mono ?_
        rintro e w1 ⟨rfl, b1⟩
        have P1 := Lib.hid (P0.out.call b1)
        have hA := P1.out.2.1.cell
        clear b1 P0
        go_wp2_with fail
        refine (few_any _ _ _ _ _ _ P1.out.2.2.1 P1.out.2.2.2).mono ?_
        rintro e w2 ⟨rfl, b2⟩
        rw [F1.out]
        have P2 := Lib.hid (P1.out.call b2)
        clear b2 P1 hA
        have hA := P2.out.2.1.cell
        go_wp2_with fail
        refine (refmay_any _ _ _ _ _ _ P2.out.2.2.1 P2.out.2.2.2).mono ?_
        rintro e w3 ⟨rfl, b3⟩
        rw [F2.out]
        have P3 := Lib.hid (P2.out.call b3)
        clear b3 P2 hA
        go_wp2_with fail
        refine (HPL.out _).mono ?_
        rintro e w4 ⟨rfl, rfl⟩
        rw [F4.out]
        have PX := Lib.hid P3.out
        go_wp2_with fail
        refine (awake_any _ (HT.out.call PX.out.1)).mono ?_
        rintro e w9 ⟨rfl, b9⟩
        have P9 := Lib.hid (PX.out.call b9)
        clear b9
        go_wp2_with fail
        go_ret
        exact ⟨rfl, P9.out.1⟩
set_option maxRecDepth 100000 in
set_option maxHeartbeats 8000000 in
theorem short_go (c : Cm) (ga wa : Option Addr) (gc wc : Nat) (s : ByteArray) (w : World) (h1 : IntsAt w ga c.gives) (h2 : IntsAt w wa c.wants) (hs : s.size ≤ 100) (hp : plain s.data.toList = true) (ht : Tabs w) (hm : mayB c = true) :
    Calls Tryd.prog 6 #[.agg #[.int .i64 c.kind, .int .i64 c.dir, .int .i64 c.item, .int .i64 c.box, .int .i64 c.who, .slice ga c.gives.length gc, .int .i64 c.pay, .slice wa c.wants.length wc, .int .i64 c.fee], .string s] w fun e w' => e = .returned (.bool true) ∧ Below w.heap.size w w' := by
  have HT := Lib.hid ht
  have P0 := Lib.hid (OneC.start (gc := gc) (wc := wc) h1 h2)
  have HM := Lib.hid hm
  have HP := Lib.hid hp
  have F1 := Lib.hid (few_of hm)
  have F2 := Lib.hid ((may_eq c).symm.trans hm)
  obtain ⟨A, hA1, hA2, hA3⟩ := put_yes hm
  have z1 : (⟨#[32]⟩ : ByteArray).size = 1 := rfl
  have ha1 := fun w => run_string_add_sum (P := Tryd.prog) (w := w) A ⟨#[32]⟩ (by omega)
  have ha2 := fun w => run_string_add_sum (P := Tryd.prog) (w := w) (A ++ ⟨#[32]⟩) s (by rw [ByteArray.size_append]; omega)
  have z2 : (A ++ ⟨#[32]⟩ ++ s : ByteArray).size ≤ 500000 := by rw [ByteArray.size_append, ByteArray.size_append]; omega
  have z3 : words (A ++ ⟨#[32]⟩ ++ s : ByteArray).data.toList = wordsOf c ++ [s.data.toList] := by
    rw [show (A ++ ⟨#[32]⟩ ++ s : ByteArray).data.toList = A.data.toList ++ 32 :: s.data.toList by simp, words_more _ _ hp, hA2, words_of hm]
  have Z2 := Lib.hid z2
  have Z3 := Lib.hid z3
  have HA1 := Lib.hid hA1
  have HA2 := Lib.hid (show words A.data.toList = wordsOf c by rw [hA2]; exact words_of hm)
  have HA3 := Lib.hid hA3
  generalize A ++ ⟨#[32]⟩ ++ s = S at *
  generalize A ++ ⟨#[32]⟩ = S1 at *
  clear ht h1 h2 hm hA1 hA2 hA3 z1 z2 z3 hp
  go_enter Tryd.func6, Tryd.ntmps6
  go_wp2_with fail
  refine (awake_any _ (HT.out.call P0.out.1)).mono ?_
  rintro e w1 ⟨rfl, b1⟩
  have P1 := Lib.hid (P0.out.call b1)
  have hA := P1.out.2.1.cell
  clear b1 P0
  go_wp2_with fail
  refine (few_any _ _ _ _ _ _ P1.out.2.2.1 P1.out.2.2.2).mono ?_
  rintro e w2 ⟨rfl, b2⟩
  rw [F1.out]
  have P2 := Lib.hid (P1.out.call b2)
  clear b2 P1 hA
  have hA := P2.out.2.1.cell
  go_wp2_with fail
  refine (refmay_any _ _ _ _ _ _ P2.out.2.2.1 P2.out.2.2.2).mono ?_
  rintro e w3 ⟨rfl, b3⟩
  rw [F2.out]
  have P3 := Lib.hid (P2.out.call b3)
  clear b3 P2 hA
  go_wp2_with fail
  refine (plain_any s _ (by omega)).mono ?_
  rintro e w4 ⟨rfl, rfl⟩
  rw [HP.out]
  have hA := P3.out.2.1.cell
  go_wp2_with fail
  refine (put_any _ _ _ _ _ _ P3.out.2.2.1 P3.out.2.2.2 (HT.out.call P3.out.1)).mono ?_
  rintro e w4 ⟨rfl, b4⟩
  rw [HA1.out]
  have P4 := Lib.hid (P3.out.call b4)
  clear b4 P3 hA
  go_wp2_with fail
  refine (refcut_own A _ (by have := HA3.out; omega)).mono ?_
  rintro e w5 ⟨v, rfl, hown, hlen, b5⟩
  rw [HA2.out] at hown hlen
  have P5 := Lib.hid (P4.out.call b5)
  have hpos : 0 < (wordsOf c).length := by simp [wordsOf]
  have hsmall := words_sizes HM.out
  obtain ⟨g, cap, cur, rfl, hg, hblk, hcap, hcur⟩ := row_open hown hpos
  have hv := strs_less (cap := cap) hblk hcur hlen
  have HV := Lib.hid hv
  have HSM := Lib.hid hsmall.1
  have hl := hsmall.2
  have hn0 : (((wordsOf c).length : Int) == 0) = false := by rw [beq_eq_false_iff_ne]; omega
  clear hown hblk hcur hlen hsmall P4 b5 hv hg cur
  go_wp2_with fail
  refine (refjoin_any _ HV.out (by have := HSM.out; have := sizes_less (xs := wordsOf c); omega)).mono ?_
  rintro e w6 ⟨rfl, rfl⟩
  have hpl : words (⟨(glue (wordsOf c).dropLast).toArray⟩ : ByteArray).data.toList = (wordsOf c).dropLast := by
    show words (glue _) = _
    exact words_glue _ (fun x hx => words_plain_of HM.out x (List.dropLast_subset _ hx))
  have hsz : (⟨(glue (wordsOf c).dropLast).toArray⟩ : ByteArray).size ≤ 500000 := by
    have h1 := glue_len (wordsOf c).dropLast
    have h2 := sizes_less (xs := wordsOf c)
    have h3 := HSM.out
    show (glue _).length ≤ _
    omega
  have HPL := Lib.hid hpl
  have HSZ := Lib.hid hsz
  clear hpl hsz HV
  unfold str
  generalize (⟨(glue (wordsOf c).dropLast).toArray⟩ : ByteArray) = S0 at *
  have N1 := Lib.hid (fun (h : codeB (wordsOf c).dropLast = true) (a : Cm) (ha : a = codeC (wordsOf c).dropLast) => less_no HM.out _ (by rw [List.length_dropLast]; omega) h ha)
  have N2 := Lib.hid (fun (h : codeB (wordsOf c ++ [s.data.toList]) = true) (a : Cm) (ha : a = codeC (wordsOf c ++ [s.data.toList])) => less_no HM.out _ (by rw [List.length_append]; simp) h ha)
  generalize (wordsOf c).dropLast = ws1 at *
  generalize wordsOf c ++ [s.data.toList] = ws2 at *
  go_wp2_with fail
  refine (get_any S0 _ HSZ.out (HT.out.call P5.out.1)).mono ?_
  rw [HPL.out]
  rintro e w7 ⟨a, gd, gcd, wdd, wcd, hd, rfl, i1, i2, b7⟩
  have P7 := Lib.hid ((P5.out.call b7).alloc (.cells #[.int .i64 a.kind, .int .i64 a.dir, .int .i64 a.item, .int .i64 a.box, .int .i64 a.who, .slice gd a.gives.length gcd, .int .i64 a.pay, .slice wdd a.wants.length wcd, .int .i64 a.fee] 24))
  have D7 := Lib.hid (HoldC.new #[.int .i64 a.kind, .int .i64 a.dir, .int .i64 a.item, .int .i64 a.box, .int .i64 a.who, .slice gd a.gives.length gcd, .int .i64 a.pay, .slice wdd a.wants.length wcd, .int .i64 a.fee] i1 i2)
  have N3 := Lib.hid (fun h => N1.out h a hd)
  clear b7 i1 i2 hd P5 N1 hn0
  generalize hE1 : codeB ws1 = e1 at *
  clear hE1
  generalize hm1 : (if e1 = true then (0 : Int) else 2) = m1
  have HM1 := Lib.hid hm1
  clear hm1
  go_wp2_with fail
  refine (get_any S _ Z2.out (HT.out.call P7.out.1)).mono ?_
  rw [Z3.out]
  rintro e w8 ⟨b, ge, gce, we, wce, hd, rfl, i1, i2, b8⟩
  have P8 := Lib.hid ((P7.out.call b8).alloc (.cells #[.int .i64 b.kind, .int .i64 b.dir, .int .i64 b.item, .int .i64 b.box, .int .i64 b.who, .slice ge b.gives.length gce, .int .i64 b.pay, .slice we b.wants.length wce, .int .i64 b.fee] 24))
  have D8 := Lib.hid ((D7.out.call b8).alloc (.cells #[.int .i64 b.kind, .int .i64 b.dir, .int .i64 b.item, .int .i64 b.box, .int .i64 b.who, .slice ge b.gives.length gce, .int .i64 b.pay, .slice we b.wants.length wce, .int .i64 b.fee] 24))
  have E8 := Lib.hid (HoldC.new #[.int .i64 b.kind, .int .i64 b.dir, .int .i64 b.item, .int .i64 b.box, .int .i64 b.who, .slice ge b.gives.length gce, .int .i64 b.pay, .slice we b.wants.length wce, .int .i64 b.fee] i1 i2)
  have N4 := Lib.hid (fun h => N2.out h b hd)
  clear b8 i1 i2 hd P7 D7 N2 ha1 ha2
  generalize hE2 : codeB ws2 = e2 at *
  clear hE2
  generalize hm2 : (if e2 = true then (0 : Int) else 2) = m2
  have HM2 := Lib.hid hm2
  clear hm2
  go_wp2_with fail
  refine (get_lit (l := [32, 32, 32]) (c := zeroC) (n := 2) _ (by decide) words_none none_no (no_code none_no) rfl (HT.out.call P8.out.1)).mono ?_
  rintro e w9 ⟨gz, gcz, wz, wcz, rfl, i1, i2, b9⟩
  have P9 := Lib.hid ((P8.out.call b9).alloc (.cells #[.int .i64 0, .int .i64 0, .int .i64 0, .int .i64 0, .int .i64 0, .slice gz 0 gcz, .int .i64 0, .slice wz 0 wcz, .int .i64 0] 24))
  have D9 := Lib.hid ((D8.out.call b9).alloc (.cells #[.int .i64 0, .int .i64 0, .int .i64 0, .int .i64 0, .int .i64 0, .slice gz 0 gcz, .int .i64 0, .slice wz 0 wcz, .int .i64 0] 24))
  have E9 := Lib.hid ((E8.out.call b9).alloc (.cells #[.int .i64 0, .int .i64 0, .int .i64 0, .int .i64 0, .int .i64 0, .slice gz 0 gcz, .int .i64 0, .slice wz 0 wcz, .int .i64 0] 24))
  clear b9 i1 i2 P8 D8 E8
  unfold zeroC
  have k1 := HM1.out
  have k2 := HM2.out
  cases e1
  · rw [if_neg (by decide)] at k1
    subst k1
    cases e2
    · rw [if_neg (by decide)] at k2
      subst k2
      go_wp2_with fail
      go_ret
      exact ⟨rfl, P9.out.1⟩
    · rw [if_pos rfl] at k2
      subst k2
      have c1 := P9.out.2.1.cell
      have c3 := E9.out.1.cell
      go_wp2_with fail
      refine (refsame_any _ _ _ _ _ _ _ _ _ _ _ E9.out.2.1 E9.out.2.2 P9.out.2.2.1 P9.out.2.2.2).mono ?_
      rintro e w10 ⟨rfl, b10⟩
      rw [N4.out (by first | rfl | trivial)]
      have P10 := Lib.hid (P9.out.call b10)
      clear b10 c1 c3
      go_wp2_with fail
      go_ret
      exact ⟨rfl, P10.out.1⟩
  · rw [if_pos rfl] at k1
    subst k1
    have c1 := P9.out.2.1.cell
    have c2 := D9.out.1.cell
    cases e2
    · rw [if_neg (by decide)] at k2
      subst k2
      go_wp2_with fail
      refine (refsame_any _ _ _ _ _ _ _ _ _ _ _ D9.out.2.1 D9.out.2.2 P9.out.2.2.1 P9.out.2.2.2).mono ?_
      rintro e w10 ⟨rfl, b10⟩
      rw [N3.out (by first | rfl | trivial)]
      have P10 := Lib.hid (P9.out.call b10)
      clear b10 c1 c2
      go_wp2_with fail
      go_ret
      exact ⟨rfl, P10.out.1⟩
    · rw [if_pos rfl] at k2
      subst k2
      go_wp2_with fail
      refine (refsame_any _ _ _ _ _ _ _ _ _ _ _ D9.out.2.1 D9.out.2.2 P9.out.2.2.1 P9.out.2.2.2).mono ?_
      rintro e w10 ⟨rfl, b10⟩
      rw [N3.out (by first | rfl | trivial)]
      have P10 := Lib.hid (P9.out.call b10)
      have E10 := Lib.hid (E9.out.call b10)
      clear b10 c1 c2
      have c1 := P10.out.2.1.cell
      have c3 := E10.out.1.cell
      go_wp2_with fail
      refine (refsame_any _ _ _ _ _ _ _ _ _ _ _ E10.out.2.1 E10.out.2.2 P10.out.2.2.1 P10.out.2.2.2).mono ?_
      rintro e w11 ⟨rfl, b11⟩
      rw [N4.out (by first | rfl | trivial)]
      have P11 := Lib.hid (P10.out.call b11)
      clear b11 c1 c3
      go_wp2_with fail
      go_ret
      exact ⟨rfl, P11.out.1⟩
theorem walk_lineShort (c : Cm) (ga wa : Option Addr) (gc wc : Nat) (s : ByteArray) (w : World) (h1 : IntsAt w ga c.gives) (h2 : IntsAt w wa c.wants) (_ : c.Wf) (hs : s.size ≤ maxLen) (hk : KTab w) (hw : WTab w) (ht : Tab w) :
    Calls Tryd.prog 6 #[.agg #[.int .i64 c.kind, .int .i64 c.dir, .int .i64 c.item, .int .i64 c.box, .int .i64 c.who, .slice ga c.gives.length gc, .int .i64 c.pay, .slice wa c.wants.length wc, .int .i64 c.fee], .string s] w fun e w' => e = .returned (.bool true) ∧ Below w.heap.size w w' := by
  have HT : Tabs w := ⟨hk, hw, ht⟩
  have hs2 : s.size ≤ 9223372036854775807 := by unfold maxLen at hs; omega
  cases hm : mayB c
  · exact short_not c ga wa gc wc s w h1 h2 hs2 HT (.inr (.inl ((may_eq c).symm.trans hm)))
  · by_cases h3 : s.size ≤ 100
    · cases hp : plain s.data.toList
      · exact short_not c ga wa gc wc s w h1 h2 hs2 HT (.inr (.inr (.inr hp)))
      · exact short_go c ga wa gc wc s w h1 h2 h3 hp HT hm
    · exact short_not c ga wa gc wc s w h1 h2 hs2 HT (.inr (.inr (.inl (by omega))))
set_option maxRecDepth 100000 in
theorem lifted_lineShort (os : Os) (started : os.Started) (H : Type) (enc : TypeId × Value → H) :
    ReturnsInHanded {} Tryd.checked os 6 .any (fun w args => (Rows.lineShortSpec.pre enc Tryd.prog Tryd.f6 [] false w args ∧ laidMetH Tryd.prog Rows.lineShortRow.laid w) ∧ sizedMet enc Tryd.prog Tryd.f6 (OpenSpec.ofChange Rows.lineShortSpec) false w args) (Rows.lineShortSpec.post enc Tryd.prog Tryd.f6 false true false false) := by
  refine returnsInHanded_of_change_and (C := Tryd.checked) (X := fun w _ => laidMetH Tryd.prog Rows.lineShortRow.laid w) (fun _ _ _ hh h => h.of_heap hh) (by kernel_rfl) started (by kernel_rfl) Tryd.func6
    (ChangeSpec.witness_shaped (enc := enc) (C := Tryd.checked) (os := os) (X := fun w _ => laidMetH Tryd.prog Rows.lineShortRow.laid w) false (World.laidAll Tryd.prog os Rows.lineShortRow.laid) #[.agg #[.int .i64 0, .int .i64 0, .int .i64 0, .int .i64 0, .int .i64 0, .slice none 0 0, .int .i64 0, .slice none 0 0, .int .i64 0], .string ByteArray.empty] 8 (World.laidAll_os _ _ _)
      (World.shaped_of_ZipB (by kernel_rfl) (by kernel_rfl)) (by kernel_rfl) (by kernel_rfl) (by kernel_rfl)
      (by rw [MakeChecks.laidMetH_plain _ _ _ (by kernel_rfl)]; exact laidMet_laidAll _ (by kernel_rfl) (by kernel_rfl))) ?_
  intro W base args ds gs before hval0 hW hcnd hsized hL _
  have hval : ∀ (j : Nat) t v, Tryd.f6.params[j]? = some t → args[j]? = some v → Value.okWide Tryd.prog W .any base t v := hval0
  have hW' := hW
  obtain ⟨p, q, hA0, hV, rfl, hfz, hnd⟩ := hW
  have hA : DataW.TrodAll enc Tryd.prog W 0 (fun _ => true) true Tryd.f6.params.toList args.toList ds p := hA0
  rw [Tryd.params6] at hA hval
  obtain ⟨v0, vs0, d0, ds0, p0, q0, hargs, rfl, rfl, h0, r0⟩ := trodAll_cons hA
  obtain ⟨v1, vs1, d1, ds1, p1, q1, rfl, rfl, rfl, h1, r1⟩ := trodAll_cons r0
  obtain ⟨rfl, rfl, rfl⟩ := trodAll_nil r1
  obtain rfl : args = #[v0, v1] := by cases args; simp_all
  obtain ⟨rfl, rfl⟩ := trodVars_none hV
  obtain ⟨c0, ga0, wa0, gc0, wc0, rfl, m0, u0, g0⟩ := read_cmd (hval 0 24 v0 rfl rfl) h0
  obtain ⟨s1, rfl, rfl, rfl, b1⟩ := ChangeMaps.open_string Tryd.underlying9 (hval 1 9 v1 rfl rfl) h1
  clear hA0 hval0
  simp only [List.append_nil] at hW'
  rw [MakeChecks.laidMetH_plain _ _ _ (by kernel_rfl)] at hL
  have fKTab := KTab_laid W (hL.tail.tail.tail.tail)
  have fWTab := WTab_laid W (hL.tail.tail.tail.tail.tail)
  have fTab := Tab_laid W (hL.tail.tail)
  refine (walk_lineShort c0 ga0 wa0 gc0 wc0 s1 W m0 u0 g0 b1 fKTab fWTab fTab).mono fun e W' ⟨he, hg⟩ => ?_
  subst he
  exact ⟨_, rfl, law_post (by kernel_rfl) rfl (by rw [Tryd.params6]; decide +kernel) rfl rfl Tryd.underlying4 hW' hg⟩

theorem row_lineShort : Rows.LineShortSaid :=
  OpenClaim.holds_of_wide 6 Tryd.f6 rfl rfl rfl rfl rfl rfl rfl ⟨rfl, rfl, rfl, rfl, rfl⟩ rfl rfl rfl rfl rfl (by kernel_rfl) Tryd.func6 (by kernel_rfl)
    (of_decide_eq_true (by kernel_rfl)) (by unfold Func.isWrapper; first | (rw [if_pos (by decide +kernel)]; kernel_rfl) | (rw [if_neg (by decide +kernel)]; exact ⟨rfl, rfl⟩))
    (fun os started H enc _ => lifted_lineShort os started H enc)
/-- ████ THE STATEMENT ████ -/
theorem proved_lineShort : Rows.LineShortCardSaid :=
  Claim7.holds_tied_plain_at .later [] Rows.lineShortCard.laidKinds true Rows.lineShortCard.stood.harness false row_lineShort (fun _ h => by cases h) (by kernel_rfl) (fun _ h => by cases h) lineShort_row_tie rfl ⟨rfl, rfl⟩ (by kernel_rfl) rfl
    (fun f fn hf hfn => by
      obtain rfl : f = 6 := Option.some.inj ((show Tryd.prog.funcNamed "innkeep/innkeeplaw04.LineShort" = some 6 by kernel_rfl).symm.trans hf) |>.symm
      obtain rfl : fn = Tryd.f6 := (Option.some.inj (Tryd.func6.symm.trans hfn)).symm
      exact ⟨by kernel_rfl, fun j t ht => by
        rw [Tryd.params6] at ht
        have hm : t ∈ [24, 9] := by simpa using Array.mem_of_getElem? ht
        have hall : ([24, 9].all fun u => !Tryd.prog.wantsStandIn u) = true := by kernel_rfl
        exact (show Tryd.prog.wantsStandIn t = false by simpa using List.all_eq_true.1 hall t hm)⟩)
    (by kernel_rfl)
#print axioms proved_lineShort
end Go.Proofs.YtinjpkbpdhihjaaDoor
