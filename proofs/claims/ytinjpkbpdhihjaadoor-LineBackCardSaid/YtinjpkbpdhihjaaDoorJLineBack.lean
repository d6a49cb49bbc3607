import Derived.Test.YtinjpkbpdhihjaaDoorRows
import Derived.Test.YtinjpkbpdhihjaaDoorKit
import Derived.Test.YtinjpkbpdhihjaaDoorStrs
import Derived.Test.YtinjpkbpdhihjaaDoorJTab
import Derived.Test.YtinjpkbpdhihjaaDoorJBlk
import Derived.Test.YtinjpkbpdhihjaaDoorJMath
import Derived.Test.YtinjpkbpdhihjaaDoorJNum
import Derived.Test.YtinjpkbpdhihjaaDoorJTokJoin
import Derived.Test.YtinjpkbpdhihjaaDoorJCut
import Derived.Test.YtinjpkbpdhihjaaDoorJCmd
import Derived.Test.YtinjpkbpdhihjaaDoorJCmdNames1
import Derived.Test.YtinjpkbpdhihjaaDoorJCmdRead
import Derived.Test.YtinjpkbpdhihjaaDoorJCmdLaw
import Derived.Test.YtinjpkbpdhihjaaDoorJWords
import Derived.Test.YtinjpkbpdhihjaaDoorJLinePut3
import Derived.Test.YtinjpkbpdhihjaaDoorJLinePut
import Derived.Test.YtinjpkbpdhihjaaDoorJLineGet
import Derived.Test.YtinjpkbpdhihjaaDoorJAwake
import Derived.Test.YtinjpkbpdhihjaaDoorTie
import Derived.Test.YtinjpkbpdhihjaaDoorCards
import Derived.Lay
import Derived.SevenTiedAt
import Derived.MakeChecks
import Derived.WalkKit
import Derived.ProofKit
import Derived.OpenShut
import Derived.IntWalk
/- LineBack: for every two commands and every line: a command is read of its line as it was, with gaps more; unlike commands have unlike lines; a line that is read has the words of its command's line: the statement answers true. No condition but that the program's and the library's tables lie as their text lays them (tied). -/
namespace Go.Proofs.YtinjpkbpdhihjaaDoor
open Go.ChangeShapes Go.WideShapes Go.ChangeAt Go.RowKit
set_option linter.unusedVariables false
open Go.RowKit Go
theorem get_of {s : ByteArray} {c : Cm} (w : World) (h : mayB c = true) (hw : words s.data.toList = wordsOf c) (hs : s.size ≤ 500000) (ht : Tabs w) :
    Calls Tryd.prog 13 #[.string s] w fun e w' => ∃ d ga gc wa wc, d = c ∧ e = .returned (.tuple #[.agg #[.int .i64 d.kind, .int .i64 d.dir, .int .i64 d.item, .int .i64 d.box, .int .i64 d.who, .slice ga d.gives.length gc, .int .i64 d.pay, .slice wa d.wants.length wc, .int .i64 d.fee], .int .i64 0]) ∧ IntsAt w' ga d.gives ∧ IntsAt w' wa d.wants ∧ Below w.heap.size w w' := by
  refine (get_any s w hs ht).mono ?_
  rintro e w' ⟨d, ga, gc, wa, wc, hd, he, h1, h2, h3⟩
  rw [hw, (code_complete h).2] at hd
  rw [hw, (code_complete h).1] at he
  exact ⟨d, ga, gc, wa, wc, hd, he, h1, h2, h3⟩
theorem put_code {ws : List (List UInt8)} {c : Cm} (h : codeB ws = true) (hc : c = codeC ws) : putOut c = .tuple #[.string ⟨(glue ws).toArray⟩, .int .i64 0] := by
  subst hc
  obtain ⟨h1, h2⟩ := code_sound h
  unfold putOut
  rw [h1, if_pos rfl, if_pos rfl, h2]
  rfl
theorem sizes_fine : ∀ {xs : List (List UInt8)} {n : Nat}, (∀ x ∈ xs, x.length ≤ n) → sizes xs ≤ (n + 1) * xs.length
  | [], _, _ => by simp [sizes]
  | x :: r, n, h => by
    have h1 := h x (by simp)
    have h2 := sizes_fine (fun y hy => h y (List.mem_cons_of_mem _ hy))
    simp only [sizes, List.map_cons, List.sum_cons, List.length_cons, Nat.mul_add] at h2 ⊢
    omega
theorem words_size (s : ByteArray) (h : s.size ≤ 1000) : sizes (words s.data.toList) ≤ 1000000000000000000 := by
  have h1 := words_len s.data.toList
  have h2 := sizes_fine (xs := words s.data.toList) (n := 1000) (fun x hx => by
    have := cuts_short s.data.toList x (List.mem_filter.1 hx).1
    rw [data_len] at this; omega)
  rw [data_len] at h1
  have : (1000 + 1) * (words s.data.toList).length ≤ 1001 * 1001 := Nat.mul_le_mul_left _ (by omega)
  omega
set_option maxRecDepth 100000 in
set_option maxHeartbeats 16000000 in
theorem back_go (c d : Cm) (ga wa gb wb : Option Addr) (gc wc gcb wcb : Nat) (s : ByteArray) (w : World) (h1 : IntsAt w ga c.gives) (h2 : IntsAt w wa c.wants) (h3 : IntsAt w gb d.gives) (h4 : IntsAt w wb d.wants)
    (hs : s.size ≤ 1000) (ht : Tabs w) (f1 : fewB c = true) (f2 : fewB d = true) :
    Calls Tryd.prog 5 #[.agg #[.int .i64 c.kind, .int .i64 c.dir, .int .i64 c.item, .int .i64 c.box, .int .i64 c.who, .slice ga c.gives.length gc, .int .i64 c.pay, .slice wa c.wants.length wc, .int .i64 c.fee], .agg #[.int .i64 d.kind, .int .i64 d.dir, .int .i64 d.item, .int .i64 d.box, .int .i64 d.who, .slice gb d.gives.length gcb, .int .i64 d.pay, .slice wb d.wants.length wcb, .int .i64 d.fee], .string s] w fun e w' => e = .returned (.bool true) ∧ Below w.heap.size w w' := by
  have F1 := Lib.hid f1
  have F2 := Lib.hid f2
  have HS := Lib.hid hs
  have HT := Lib.hid ht
  have P0 := Lib.hid (TwoC.start (gc := gc) (wc := wc) (gcb := gcb) (wcb := wcb) h1 h2 h3 h4)
  clear f1 f2 ht h1 h2 h3 h4
  go_enter Tryd.func5, Tryd.ntmps5
  go_wp2_with fail
  refine (awake_any _ (HT.out.call P0.out.1)).mono ?_
  rintro e w1 ⟨rfl, b1⟩
  have P1 := Lib.hid (P0.out.call b1)
  have hA := P1.out.2.1.1.cell
  have hB := P1.out.2.2.1.cell
  clear b1 P0
  go_wp2_with fail
  refine (few_any _ _ _ _ _ _ P1.out.2.1.2.1 P1.out.2.1.2.2).mono ?_
  rintro e w2 ⟨rfl, b2⟩
  rw [F1.out]
  have P2 := Lib.hid (P1.out.call b2)
  clear b2 P1 hA hB
  have hA := P2.out.2.1.1.cell
  have hB := P2.out.2.2.1.cell
  go_wp2_with fail
  refine (few_any _ _ _ _ _ _ P2.out.2.2.2.1 P2.out.2.2.2.2).mono ?_
  rintro e w3 ⟨rfl, b3⟩
  rw [F2.out]
  have P3 := Lib.hid (P2.out.call b3)
  clear b3 P2 hA hB
  have hA := P3.out.2.1.1.cell
  have hB := P3.out.2.2.1.cell
  go_wp2_with fail
  clear hs
  cases hm : mayB c
  · obtain ⟨A, hA1⟩ := put_no hm
    have HA1 := Lib.hid hA1
    clear hm hA1
    obtain ⟨B, n, hB1⟩ : ∃ B n, putOut d = .tuple #[.string B, .int .i64 n] := ⟨_, _, rfl⟩
    have HB1 := Lib.hid hB1
    clear hB1
    refine (put_any _ _ _ _ _ _ P3.out.2.1.2.1 P3.out.2.1.2.2 (HT.out.call P3.out.1)).mono ?_
    rintro e w4 ⟨rfl, b4⟩
    rw [HA1.out]
    have P4 := Lib.hid (P3.out.call b4)
    clear b4 hA hB P3
    have hB := P4.out.2.2.1.cell
    go_wp2_with fail
    refine (put_any _ _ _ _ _ _ P4.out.2.2.2.1 P4.out.2.2.2.2 (HT.out.call P4.out.1)).mono ?_
    rintro e w5 ⟨rfl, b5⟩
    rw [HB1.out]
    have PX := Lib.hid (P4.out.call b5)
    clear b5 hB P4
    go_wp2_with fail
    refine (get_any s _ (by have := HS.out; omega) (HT.out.call PX.out.1)).mono ?_
    rintro e w8 ⟨x2, gy, gcy, wy, wcy, hx2, rfl, i1, i2, b8⟩
    have HX2 := Lib.hid hx2
    have P8 := Lib.hid ((PX.out.call b8).alloc (.cells #[.int .i64 x2.kind, .int .i64 x2.dir, .int .i64 x2.item, .int .i64 x2.box, .int .i64 x2.who, .slice gy x2.gives.length gcy, .int .i64 x2.pay, .slice wy x2.wants.length wcy, .int .i64 x2.fee] 24))
    have Y8 := Lib.hid (HoldC.new #[.int .i64 x2.kind, .int .i64 x2.dir, .int .i64 x2.item, .int .i64 x2.box, .int .i64 x2.who, .slice gy x2.gives.length gcy, .int .i64 x2.pay, .slice wy x2.wants.length wcy, .int .i64 x2.fee] i1 i2)
    clear b8 i1 i2 hx2 PX
    have hY := Y8.out.1.cell
    cases hcode : codeB (words s.data.toList)
    · have HCO := Lib.hid (no_code hcode)
      clear hcode
      rw [if_neg (by decide)]
      obtain ⟨Y, n9, hY9⟩ : ∃ Y n, putOut x2 = .tuple #[.string Y, .int .i64 n] := ⟨_, _, rfl⟩
      have HY9 := Lib.hid hY9
      clear hY9
      go_wp2_with fail
      refine (put_any _ _ _ _ _ _ Y8.out.2.1 Y8.out.2.2 (HT.out.call P8.out.1)).mono ?_
      rintro e w9 ⟨rfl, b9⟩
      rw [HY9.out]
      have P9 := Lib.hid (P8.out.call b9)
      have Y9 := Lib.hid (Y8.out.call b9)
      clear b9 P8 Y8 hY
      have hY := Y9.out.1.cell
      go_wp2_with fail
      refine (refsame_any x2 ⟨0, 0, 0, 0, 0, [], 0, [], 0⟩ _ _ none none _ _ 0 0 _ Y9.out.2.1 Y9.out.2.2 (IntsAt.nil _ _) (IntsAt.nil _ _)).mono ?_
      rintro e w10 ⟨rfl, b10⟩
      rw [show sameB x2 ⟨0, 0, 0, 0, 0, [], 0, [], 0⟩ = true by rw [HX2.out, HCO.out]; exact same_self _]
      have P10 := Lib.hid (P9.out.call b10)
      clear b10 hY
      go_wp2_with fail
      go_ret
      exact ⟨rfl, P10.out.1⟩
    · have HCO := Lib.hid (put_code hcode HX2.out)
      clear hcode
      rw [if_pos rfl]
      go_wp2_with fail
      refine (put_any _ _ _ _ _ _ Y8.out.2.1 Y8.out.2.2 (HT.out.call P8.out.1)).mono ?_
      rintro e w9 ⟨rfl, b9⟩
      rw [HCO.out]
      have P9 := Lib.hid (P8.out.call b9)
      clear b9 P8 Y8 hY HCO
      go_wp2_with fail
      refine (refcut_any s _ (by have := HS.out; omega)).mono ?_
      rintro e w10 ⟨v10, rfl, hv10, b10⟩
      have P10 := Lib.hid (P9.out.call b10)
      have HV := Lib.hid hv10
      clear b10 hv10 P9
      go_wp2_with fail
      refine (refjoin_any _ HV.out (words_size s HS.out)).mono ?_
      rintro e w11 ⟨rfl, rfl⟩
      unfold str
      go_wp2_with fail
      go_ret
      exact ⟨rfl, P10.out.1⟩
  · obtain ⟨A, hA1, hA2, hA3⟩ := put_yes hm
    have HA1 := Lib.hid hA1
    have HA2 := Lib.hid hA2
    have HM := Lib.hid hm
    clear hm hA1 hA2
    have z1 : (⟨#[32, 32]⟩ : ByteArray).size = 2 := rfl
    have z2 : (⟨#[32]⟩ : ByteArray).size = 1 := rfl
    have ha1 := fun w => run_string_add_sum (P := Tryd.prog) (w := w) ⟨#[32, 32]⟩ A (by omega)
    have ha2 := fun w => run_string_add_sum (P := Tryd.prog) (w := w) (⟨#[32, 32]⟩ ++ A) ⟨#[32]⟩ (by rw [ByteArray.size_append]; omega)
    have z3 : (⟨#[32, 32]⟩ ++ A ++ ⟨#[32]⟩ : ByteArray).size ≤ 500000 := by rw [ByteArray.size_append, ByteArray.size_append]; omega
    have e3 : words (⟨#[32, 32]⟩ ++ A ++ ⟨#[32]⟩ : ByteArray).data.toList = wordsOf c := by
      rw [show (⟨#[32, 32]⟩ ++ A ++ ⟨#[32]⟩ : ByteArray).data.toList = 32 :: 32 :: (A.data.toList ++ [32]) by simp, words_gap, words_gap, words_end, HA2.out, words_of HM.out]
    have Z3 := Lib.hid z3
    have E3 := Lib.hid e3
    generalize ⟨#[32, 32]⟩ ++ A ++ ⟨#[32]⟩ = S at *
    generalize ⟨#[32, 32]⟩ ++ A = S1 at *
    clear z1 z2 z3 e3 hA3
    cases hd : mayB d
    · obtain ⟨B, hB1⟩ := put_no hd
      have HB1 := Lib.hid hB1
      clear hd hB1
      refine (put_any _ _ _ _ _ _ P3.out.2.1.2.1 P3.out.2.1.2.2 (HT.out.call P3.out.1)).mono ?_
      rintro e w4 ⟨rfl, b4⟩
      rw [HA1.out]
      have P4 := Lib.hid (P3.out.call b4)
      clear b4 hA hB P3
      have hB := P4.out.2.2.1.cell
      go_wp2_with fail
      refine (put_any _ _ _ _ _ _ P4.out.2.2.2.1 P4.out.2.2.2.2 (HT.out.call P4.out.1)).mono ?_
      rintro e w5 ⟨rfl, b5⟩
      rw [HB1.out]
      have P5 := Lib.hid (P4.out.call b5)
      clear b5 hB P4
      go_wp2_with fail
      refine (get_of _ HM.out E3.out Z3.out (HT.out.call P5.out.1)).mono ?_
      rintro e w6 ⟨x, gx, gcx, wx, wcx, hx, rfl, i1, i2, b6⟩
      have HX := Lib.hid hx
      have P6 := Lib.hid ((P5.out.call b6).alloc (.cells #[.int .i64 x.kind, .int .i64 x.dir, .int .i64 x.item, .int .i64 x.box, .int .i64 x.who, .slice gx x.gives.length gcx, .int .i64 x.pay, .slice wx x.wants.length wcx, .int .i64 x.fee] 24))
      have X6 := Lib.hid (HoldC.new #[.int .i64 x.kind, .int .i64 x.dir, .int .i64 x.item, .int .i64 x.box, .int .i64 x.who, .slice gx x.gives.length gcx, .int .i64 x.pay, .slice wx x.wants.length wcx, .int .i64 x.fee] i1 i2)
      clear b6 i1 i2 hx P5 ha1 ha2
      have hA := P6.out.2.1.1.cell
      have hX := X6.out.1.cell
      go_wp2_with fail
      refine (refsame_any _ _ _ _ _ _ _ _ _ _ _ X6.out.2.1 X6.out.2.2 P6.out.2.1.2.1 P6.out.2.1.2.2).mono ?_
      rintro e w7 ⟨rfl, b7⟩
      rw [show sameB x c = true by rw [HX.out]; exact same_self _]
      have PX := Lib.hid (P6.out.call b7)
      clear b7 hA hX X6 P6
      go_wp2_with fail
      refine (get_any s _ (by have := HS.out; omega) (HT.out.call PX.out.1)).mono ?_
      rintro e w8 ⟨x2, gy, gcy, wy, wcy, hx2, rfl, i1, i2, b8⟩
      have HX2 := Lib.hid hx2
      have P8 := Lib.hid ((PX.out.call b8).alloc (.cells #[.int .i64 x2.kind, .int .i64 x2.dir, .int .i64 x2.item, .int .i64 x2.box, .int .i64 x2.who, .slice gy x2.gives.length gcy, .int .i64 x2.pay, .slice wy x2.wants.length wcy, .int .i64 x2.fee] 24))
      have Y8 := Lib.hid (HoldC.new #[.int .i64 x2.kind, .int .i64 x2.dir, .int .i64 x2.item, .int .i64 x2.box, .int .i64 x2.who, .slice gy x2.gives.length gcy, .int .i64 x2.pay, .slice wy x2.wants.length wcy, .int .i64 x2.fee] i1 i2)
      clear b8 i1 i2 hx2 PX
      have hY := Y8.out.1.cell
      cases hcode : codeB (words s.data.toList)
      · have HCO := Lib.hid (no_code hcode)
        clear hcode
        rw [if_neg (by decide)]
        obtain ⟨Y, n9, hY9⟩ : ∃ Y n, putOut x2 = .tuple #[.string Y, .int .i64 n] := ⟨_, _, rfl⟩
        have HY9 := Lib.hid hY9
        clear hY9
        go_wp2_with fail
        refine (put_any _ _ _ _ _ _ Y8.out.2.1 Y8.out.2.2 (HT.out.call P8.out.1)).mono ?_
        rintro e w9 ⟨rfl, b9⟩
        rw [HY9.out]
        have P9 := Lib.hid (P8.out.call b9)
        have Y9 := Lib.hid (Y8.out.call b9)
        clear b9 P8 Y8 hY
        have hY := Y9.out.1.cell
        go_wp2_with fail
        refine (refsame_any x2 ⟨0, 0, 0, 0, 0, [], 0, [], 0⟩ _ _ none none _ _ 0 0 _ Y9.out.2.1 Y9.out.2.2 (IntsAt.nil _ _) (IntsAt.nil _ _)).mono ?_
        rintro e w10 ⟨rfl, b10⟩
        rw [show sameB x2 ⟨0, 0, 0, 0, 0, [], 0, [], 0⟩ = true by rw [HX2.out, HCO.out]; exact same_self _]
        have P10 := Lib.hid (P9.out.call b10)
        clear b10 hY
        go_wp2_with fail
        go_ret
        exact ⟨rfl, P10.out.1⟩
      · have HCO := Lib.hid (put_code hcode HX2.out)
        clear hcode
        rw [if_pos rfl]
        go_wp2_with fail
        refine (put_any _ _ _ _ _ _ Y8.out.2.1 Y8.out.2.2 (HT.out.call P8.out.1)).mono ?_
        rintro e w9 ⟨rfl, b9⟩
        rw [HCO.out]
        have P9 := Lib.hid (P8.out.call b9)
        clear b9 P8 Y8 hY HCO
        go_wp2_with fail
        refine (refcut_any s _ (by have := HS.out; omega)).mono ?_
        rintro e w10 ⟨v10, rfl, hv10, b10⟩
        have P10 := Lib.hid (P9.out.call b10)
        have HV := Lib.hid hv10
        clear b10 hv10 P9
        go_wp2_with fail
        refine (refjoin_any _ HV.out (words_size s HS.out)).mono ?_
        rintro e w11 ⟨rfl, rfl⟩
        unfold str
        go_wp2_with fail
        go_ret
        exact ⟨rfl, P10.out.1⟩
    · obtain ⟨B, hB1, hB2, -⟩ := put_yes hd
      have HB1 := Lib.hid hB1
      have hE := put_apart HM.out hd HA2.out hB2
      clear hd hB1 hB2
      refine (put_any _ _ _ _ _ _ P3.out.2.1.2.1 P3.out.2.1.2.2 (HT.out.call P3.out.1)).mono ?_
      rintro e w4 ⟨rfl, b4⟩
      rw [HA1.out]
      have P4 := Lib.hid (P3.out.call b4)
      clear b4 hA hB P3
      have hB := P4.out.2.2.1.cell
      go_wp2_with fail
      refine (put_any _ _ _ _ _ _ P4.out.2.2.2.1 P4.out.2.2.2.2 (HT.out.call P4.out.1)).mono ?_
      rintro e w5 ⟨rfl, b5⟩
      rw [HB1.out]
      have P5 := Lib.hid (P4.out.call b5)
      clear b5 hB P4
      go_wp2_with fail
      refine (get_of _ HM.out E3.out Z3.out (HT.out.call P5.out.1)).mono ?_
      rintro e w6 ⟨x, gx, gcx, wx, wcx, hx, rfl, i1, i2, b6⟩
      have HX := Lib.hid hx
      have P6 := Lib.hid ((P5.out.call b6).alloc (.cells #[.int .i64 x.kind, .int .i64 x.dir, .int .i64 x.item, .int .i64 x.box, .int .i64 x.who, .slice gx x.gives.length gcx, .int .i64 x.pay, .slice wx x.wants.length wcx, .int .i64 x.fee] 24))
      have X6 := Lib.hid (HoldC.new #[.int .i64 x.kind, .int .i64 x.dir, .int .i64 x.item, .int .i64 x.box, .int .i64 x.who, .slice gx x.gives.length gcx, .int .i64 x.pay, .slice wx x.wants.length wcx, .int .i64 x.fee] i1 i2)
      clear b6 i1 i2 hx P5 ha1 ha2
      have hA := P6.out.2.1.1.cell
      have hB := P6.out.2.2.1.cell
      have hX := X6.out.1.cell
      go_wp2_with fail
      refine (refsame_any _ _ _ _ _ _ _ _ _ _ _ X6.out.2.1 X6.out.2.2 P6.out.2.1.2.1 P6.out.2.1.2.2).mono ?_
      rintro e w7 ⟨rfl, b7⟩
      rw [show sameB x c = true by rw [HX.out]; exact same_self _]
      have P7 := Lib.hid (P6.out.call b7)
      clear b7 hA hB hX X6 P6
      have hA := P7.out.2.1.1.cell
      have hB := P7.out.2.2.1.cell
      go_wp2_with fail
      refine (refsame_any _ _ _ _ _ _ _ _ _ _ _ P7.out.2.1.2.1 P7.out.2.1.2.2 P7.out.2.2.2.1 P7.out.2.2.2.2).mono ?_
      rintro e w8 ⟨rfl, b8⟩
      have PX := Lib.hid (P7.out.call b8)
      clear b8 hA hB P7
      generalize sameB c d = v at hE ⊢
      go_wp2_with fail
      clear hE
      refine (get_any s _ (by have := HS.out; omega) (HT.out.call PX.out.1)).mono ?_
      rintro e w8 ⟨x2, gy, gcy, wy, wcy, hx2, rfl, i1, i2, b8⟩
      have HX2 := Lib.hid hx2
      have P8 := Lib.hid ((PX.out.call b8).alloc (.cells #[.int .i64 x2.kind, .int .i64 x2.dir, .int .i64 x2.item, .int .i64 x2.box, .int .i64 x2.who, .slice gy x2.gives.length gcy, .int .i64 x2.pay, .slice wy x2.wants.length wcy, .int .i64 x2.fee] 24))
      have Y8 := Lib.hid (HoldC.new #[.int .i64 x2.kind, .int .i64 x2.dir, .int .i64 x2.item, .int .i64 x2.box, .int .i64 x2.who, .slice gy x2.gives.length gcy, .int .i64 x2.pay, .slice wy x2.wants.length wcy, .int .i64 x2.fee] i1 i2)
      clear b8 i1 i2 hx2 PX
      have hY := Y8.out.1.cell
      cases hcode : codeB (words s.data.toList)
      · have HCO := Lib.hid (no_code hcode)
        clear hcode
        rw [if_neg (by decide)]
        obtain ⟨Y, n9, hY9⟩ : ∃ Y n, putOut x2 = .tuple #[.string Y, .int .i64 n] := ⟨_, _, rfl⟩
        have HY9 := Lib.hid hY9
        clear hY9
        go_wp2_with fail
        refine (put_any _ _ _ _ _ _ Y8.out.2.1 Y8.out.2.2 (HT.out.call P8.out.1)).mono ?_
        rintro e w9 ⟨rfl, b9⟩
        rw [HY9.out]
        have P9 := Lib.hid (P8.out.call b9)
        have Y9 := Lib.hid (Y8.out.call b9)
        clear b9 P8 Y8 hY
        have hY := Y9.out.1.cell
        go_wp2_with fail
        refine (refsame_any x2 ⟨0, 0, 0, 0, 0, [], 0, [], 0⟩ _ _ none none _ _ 0 0 _ Y9.out.2.1 Y9.out.2.2 (IntsAt.nil _ _) (IntsAt.nil _ _)).mono ?_
        rintro e w10 ⟨rfl, b10⟩
        rw [show sameB x2 ⟨0, 0, 0, 0, 0, [], 0, [], 0⟩ = true by rw [HX2.out, HCO.out]; exact same_self _]
        have P10 := Lib.hid (P9.out.call b10)
        clear b10 hY
        go_wp2_with fail
        go_ret
        exact ⟨rfl, P10.out.1⟩
      · have HCO := Lib.hid (put_code hcode HX2.out)
        clear hcode
        rw [if_pos rfl]
        go_wp2_with fail
        refine (put_any _ _ _ _ _ _ Y8.out.2.1 Y8.out.2.2 (HT.out.call P8.out.1)).mono ?_
        rintro e w9 ⟨rfl, b9⟩
        rw [HCO.out]
        have P9 := Lib.hid (P8.out.call b9)
        clear b9 P8 Y8 hY HCO
        go_wp2_with fail
        refine (refcut_any s _ (by have := HS.out; omega)).mono ?_
        rintro e w10 ⟨v10, rfl, hv10, b10⟩
        have P10 := Lib.hid (P9.out.call b10)
        have HV := Lib.hid hv10
        clear b10 hv10 P9
        go_wp2_with fail
        refine (refjoin_any _ HV.out (words_size s HS.out)).mono ?_
        rintro e w11 ⟨rfl, rfl⟩
        unfold str
        go_wp2_with fail
        go_ret
        exact ⟨rfl, P10.out.1⟩
set_option maxRecDepth 100000 in
set_option maxHeartbeats 4000000 in
theorem back_else (c d : Cm) (ga wa gb wb : Option Addr) (gc wc gcb wcb : Nat) (s : ByteArray) (w : World) (h1 : IntsAt w ga c.gives) (h2 : IntsAt w wa c.wants) (h3 : IntsAt w gb d.gives) (h4 : IntsAt w wb d.wants)
    (ht : Tabs w) (f : fewB c = false ∨ fewB d = false ∨ 1000 < s.size) :
    Calls Tryd.prog 5 #[.agg #[.int .i64 c.kind, .int .i64 c.dir, .int .i64 c.item, .int .i64 c.box, .int .i64 c.who, .slice ga c.gives.length gc, .int .i64 c.pay, .slice wa c.wants.length wc, .int .i64 c.fee], .agg #[.int .i64 d.kind, .int .i64 d.dir, .int .i64 d.item, .int .i64 d.box, .int .i64 d.who, .slice gb d.gives.length gcb, .int .i64 d.pay, .slice wb d.wants.length wcb, .int .i64 d.fee], .string s] w fun e w' => e = .returned (.bool true) ∧ Below w.heap.size w w' := by
  have HT := Lib.hid ht
  have P0 := Lib.hid (TwoC.start (gc := gc) (wc := wc) (gcb := gcb) (wcb := wcb) h1 h2 h3 h4)
  clear ht h1 h2 h3 h4
  cases f1 : fewB c
  · have F1 := Lib.hid f1
    clear f f1
    go_enter Tryd.func5, Tryd.ntmps5
    go_wp2_with fail
    refine (awake_any _ (HT.out.call P0.out.1)).mono ?_
    rintro e w1 ⟨rfl, b1⟩
    have P1 := Lib.hid (P0.out.call b1)
    have hA := P1.out.2.1.1.cell
    clear b1 P0
    go_wp2_with fail
    refine (few_any _ _ _ _ _ _ P1.out.2.1.2.1 P1.out.2.1.2.2).mono ?_
    rintro e w2 ⟨rfl, b2⟩
    rw [F1.out]
    have PX := Lib.hid (P1.out.call b2)
    clear b2 P1 hA
    go_wp2_with fail
    refine (awake_any _ (HT.out.call PX.out.1)).mono ?_
    rintro e w9 ⟨rfl, b9⟩
    have P9 := Lib.hid (PX.out.call b9)
    clear b9
    go_wp2_with fail
    go_ret
    exact ⟨rfl, P9.out.1⟩
  · have F1 := Lib.hid f1
    cases f2 : fewB d
    · have F2 := Lib.hid f2
      clear f f1 f2
      go_enter Tryd.func5, Tryd.ntmps5
      go_wp2_with fail
      refine (awake_any _ (HT.out.call P0.out.1)).mono ?_
      rintro e w1 ⟨rfl, b1⟩
      have P1 := Lib.hid (P0.out.call b1)
      have hA := P1.out.2.1.1.cell
      clear b1 P0
      go_wp2_with fail
      refine (few_any _ _ _ _ _ _ P1.out.2.1.2.1 P1.out.2.1.2.2).mono ?_
      rintro e w2 ⟨rfl, b2⟩
      rw [F1.out]
      have P2 := Lib.hid (P1.out.call b2)
      clear b2 P1 hA
      have hB := P2.out.2.2.1.cell
      go_wp2_with fail
      refine (few_any _ _ _ _ _ _ P2.out.2.2.2.1 P2.out.2.2.2.2).mono ?_
      rintro e w3 ⟨rfl, b3⟩
      rw [F2.out]
      have PX := Lib.hid (P2.out.call b3)
      clear b3 P2 hB
      go_wp2_with fail
      refine (awake_any _ (HT.out.call PX.out.1)).mono ?_
      rintro e w9 ⟨rfl, b9⟩
      have P9 := Lib.hid (PX.out.call b9)
      clear b9
      go_wp2_with fail
      go_ret
      exact ⟨rfl, P9.out.1⟩
    · have F2 := Lib.hid f2
      have h5 : 1000 < s.size := by rw [f1, f2] at f; rcases f with f | f | f <;> first | exact f | cases f
      clear f f1 f2
      go_enter Tryd.func5, Tryd.ntmps5
      go_wp2_with fail
      refine (awake_any _ (HT.out.call P0.out.1)).mono ?_
      rintro e w1 ⟨rfl, b1⟩
      have P1 := Lib.hid (P0.out.call b1)
      have hA := P1.out.2.1.1.cell
      clear b1 P0
      go_wp2_with fail
      refine (few_any _ _ _ _ _ _ P1.out.2.1.2.1 P1.out.2.1.2.2).mono ?_
      rintro e w2 ⟨rfl, b2⟩
      rw [F1.out]
      have P2 := Lib.hid (P1.out.call b2)
      clear b2 P1 hA
      have hB := P2.out.2.2.1.cell
      go_wp2_with fail
      refine (few_any _ _ _ _ _ _ P2.out.2.2.2.1 P2.out.2.2.2.2).mono ?_
      rintro e w3 ⟨rfl, b3⟩
      rw [F2.out]
      have PX := Lib.hid (P2.out.call b3)
      clear b3 P2 hB
      go_wp2_with fail
      refine (awake_any _ (HT.out.call PX.out.1)).mono ?_
      rintro e w9 ⟨rfl, b9⟩
      have P9 := Lib.hid (PX.out.call b9)
      clear b9
      go_wp2_with fail
      go_ret
      exact ⟨rfl, P9.out.1⟩
theorem walk_lineBack (c : Cm) (ga wa : Option Addr) (gc wc : Nat) (d : Cm) (gb wb : Option Addr) (gcb wcb : Nat) (s : ByteArray) (w : World) (h1 : IntsAt w ga c.gives) (h2 : IntsAt w wa c.wants) (_ : c.Wf) (h3 : IntsAt w gb d.gives) (h4 : IntsAt w wb d.wants) (_ : d.Wf) (_ : s.size ≤ maxLen) (hk : KTab w) (hw : WTab w) (ht : Tab w) :
    Calls Tryd.prog 5 #[.agg #[.int .i64 c.kind, .int .i64 c.dir, .int .i64 c.item, .int .i64 c.box, .int .i64 c.who, .slice ga c.gives.length gc, .int .i64 c.pay, .slice wa c.wants.length wc, .int .i64 c.fee], .agg #[.int .i64 d.kind, .int .i64 d.dir, .int .i64 d.item, .int .i64 d.box, .int .i64 d.who, .slice gb d.gives.length gcb, .int .i64 d.pay, .slice wb d.wants.length wcb, .int .i64 d.fee], .string s] w fun e w' => e = .returned (.bool true) ∧ Below w.heap.size w w' := by
  have HT : Tabs w := ⟨hk, hw, ht⟩
  by_cases h : s.size ≤ 1000
  · cases f1 : fewB c
    · exact back_else c d ga wa gb wb gc wc gcb wcb s w h1 h2 h3 h4 HT (.inl f1)
    · cases f2 : fewB d
      · exact back_else c d ga wa gb wb gc wc gcb wcb s w h1 h2 h3 h4 HT (.inr (.inl f2))
      · exact back_go c d ga wa gb wb gc wc gcb wcb s w h1 h2 h3 h4 h HT f1 f2
  · exact back_else c d ga wa gb wb gc wc gcb wcb s w h1 h2 h3 h4 HT (.inr (.inr (by omega)))
set_option maxRecDepth 100000 in
theorem lifted_lineBack (os : Os) (started : os.Started) (H : Type) (enc : TypeId × Value → H) :
    ReturnsInHanded {} Tryd.checked os 5 .any (fun w args => (Rows.lineBackSpec.pre enc Tryd.prog Tryd.f5 [] false w args ∧ laidMetH Tryd.prog Rows.lineBackRow.laid w) ∧ sizedMet enc Tryd.prog Tryd.f5 (OpenSpec.ofChange Rows.lineBackSpec) false w args) (Rows.lineBackSpec.post enc Tryd.prog Tryd.f5 false true false false) := by
  refine returnsInHanded_of_change_and (C := Tryd.checked) (X := fun w _ => laidMetH Tryd.prog Rows.lineBackRow.laid w) (fun _ _ _ hh h => h.of_heap hh) (by kernel_rfl) started (by kernel_rfl) Tryd.func5
    (ChangeSpec.witness_shaped (enc := enc) (C := Tryd.checked) (os := os) (X := fun w _ => laidMetH Tryd.prog Rows.lineBackRow.laid w) false (World.laidAll Tryd.prog os Rows.lineBackRow.laid) #[.agg #[.int .i64 0, .int .i64 0, .int .i64 0, .int .i64 0, .int .i64 0, .slice none 0 0, .int .i64 0, .slice none 0 0, .int .i64 0], .agg #[.int .i64 0, .int .i64 0, .int .i64 0, .int .i64 0, .int .i64 0, .slice none 0 0, .int .i64 0, .slice none 0 0, .int .i64 0], .string ByteArray.empty] 8 (World.laidAll_os _ _ _)
      (World.shaped_of_ZipB (by kernel_rfl) (by kernel_rfl)) (by kernel_rfl) (by kernel_rfl) (by kernel_rfl)
      (by rw [MakeChecks.laidMetH_plain _ _ _ (by kernel_rfl)]; exact laidMet_laidAll _ (by kernel_rfl) (by kernel_rfl))) ?_
  intro W base args ds gs before hval0 hW hcnd hsized hL _
  have hval : ∀ (j : Nat) t v, Tryd.f5.params[j]? = some t → args[j]? = some v → Value.okWide Tryd.prog W .any base t v := hval0
  have hW' := hW
  obtain ⟨p, q, hA0, hV, rfl, hfz, hnd⟩ := hW
  have hA : DataW.TrodAll enc Tryd.prog W 0 (fun _ => true) true Tryd.f5.params.toList args.toList ds p := hA0
  rw [Tryd.params5] at hA hval
  obtain ⟨v0, vs0, d0, ds0, p0, q0, hargs, rfl, rfl, h0, r0⟩ := trodAll_cons hA
  obtain ⟨v1, vs1, d1, ds1, p1, q1, rfl, rfl, rfl, h1, r1⟩ := trodAll_cons r0
  obtain ⟨v2, vs2, d2, ds2, p2, q2, rfl, rfl, rfl, h2, r2⟩ := trodAll_cons r1
  obtain ⟨rfl, rfl, rfl⟩ := trodAll_nil r2
  obtain rfl : args = #[v0, v1, v2] := by cases args; simp_all
  obtain ⟨rfl, rfl⟩ := trodVars_none hV
  obtain ⟨c0, ga0, wa0, gc0, wc0, rfl, m0, u0, g0⟩ := read_cmd (hval 0 24 v0 rfl rfl) h0
  obtain ⟨c1, ga1, wa1, gc1, wc1, rfl, m1, u1, g1⟩ := read_cmd (hval 1 24 v1 rfl rfl) h1
  obtain ⟨s2, rfl, rfl, rfl, b2⟩ := ChangeMaps.open_string Tryd.underlying9 (hval 2 9 v2 rfl rfl) h2
  clear hA0 hval0
  simp only [List.append_nil] at hW'
  rw [MakeChecks.laidMetH_plain _ _ _ (by kernel_rfl)] at hL
  have fKTab := KTab_laid W (hL.tail.tail.tail.tail)
  have fWTab := WTab_laid W (hL.tail.tail.tail.tail.tail)
  have fTab := Tab_laid W (hL.tail.tail)
  refine (walk_lineBack c0 ga0 wa0 gc0 wc0 c1 ga1 wa1 gc1 wc1 s2 W m0 u0 g0 m1 u1 g1 b2 fKTab fWTab fTab).mono fun e W' ⟨he, hg⟩ => ?_
  subst he
  exact ⟨_, rfl, law_post (by kernel_rfl) rfl (by rw [Tryd.params5]; decide +kernel) rfl rfl Tryd.underlying4 hW' hg⟩

theorem row_lineBack : Rows.LineBackSaid :=
  OpenClaim.holds_of_wide 5 Tryd.f5 rfl rfl rfl rfl rfl rfl rfl ⟨rfl, rfl, rfl, rfl, rfl⟩ rfl rfl rfl rfl rfl (by kernel_rfl) Tryd.func5 (by kernel_rfl)
    (of_decide_eq_true (by kernel_rfl)) (by unfold Func.isWrapper; first | (rw [if_pos (by decide +kernel)]; kernel_rfl) | (rw [if_neg (by decide +kernel)]; exact ⟨rfl, rfl⟩))
    (fun os started H enc _ => lifted_lineBack os started H enc)
/-- ████ THE STATEMENT ████ -/
theorem proved_lineBack : Rows.LineBackCardSaid :=
  Claim7.holds_tied_plain_at .later [] Rows.lineBackCard.laidKinds true Rows.lineBackCard.stood.harness false row_lineBack (fun _ h => by cases h) (by kernel_rfl) (fun _ h => by cases h) lineBack_row_tie rfl ⟨rfl, rfl⟩ (by kernel_rfl) rfl
    (fun f fn hf hfn => by
      obtain rfl : f = 5 := Option.some.inj ((show Tryd.prog.funcNamed "innkeep/innkeeplaw04.LineBack" = some 5 by kernel_rfl).symm.trans hf) |>.symm
      obtain rfl : fn = Tryd.f5 := (Option.some.inj (Tryd.func5.symm.trans hfn)).symm
      exact ⟨by kernel_rfl, fun j t ht => by
        rw [Tryd.params5] at ht
        have hm : t ∈ [24, 24, 9] := by simpa using Array.mem_of_getElem? ht
        have hall : ([24, 24, 9].all fun u => !Tryd.prog.wantsStandIn u) = true := by kernel_rfl
        exact (show Tryd.prog.wantsStandIn t = false by simpa using List.all_eq_true.1 hall t hm)⟩)
    (by kernel_rfl)
#print axioms proved_lineBack
end Go.Proofs.YtinjpkbpdhihjaaDoor
