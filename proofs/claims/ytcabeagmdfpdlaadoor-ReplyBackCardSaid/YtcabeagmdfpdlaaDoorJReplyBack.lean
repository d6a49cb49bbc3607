/- ReplyBack: for every two answers and every text: an answer is read of its text as it was; unlike answers have unlike texts; a text that is read is its answer's: the statement answers true. No condition but that the program's and the library's tables lie as their text lays them (tied). -/
import Derived.Test.YtcabeagmdfpdlaaDoorRows
import Derived.Test.YtcabeagmdfpdlaaDoorKit
import Derived.Test.YtcabeagmdfpdlaaDoorStrs
import Derived.Test.YtcabeagmdfpdlaaDoorJTab
import Derived.Test.YtcabeagmdfpdlaaDoorJBlk
import Derived.Test.YtcabeagmdfpdlaaDoorJMath
import Derived.Test.YtcabeagmdfpdlaaDoorJNum
import Derived.Test.YtcabeagmdfpdlaaDoorJTokWord
import Derived.Test.YtcabeagmdfpdlaaDoorJTokJoin
import Derived.Test.YtcabeagmdfpdlaaDoorJCmdNames1
import Derived.Test.YtcabeagmdfpdlaaDoorJRepMath
import Derived.Test.YtcabeagmdfpdlaaDoorJRepItems
import Derived.Test.YtcabeagmdfpdlaaDoorJRepSame
import Derived.Test.YtcabeagmdfpdlaaDoorJRepWords
import Derived.Test.YtcabeagmdfpdlaaDoorJRepPut
import Derived.Test.YtcabeagmdfpdlaaDoorJRepPut3
import Derived.Test.YtcabeagmdfpdlaaDoorJRepRead1
import Derived.Test.YtcabeagmdfpdlaaDoorJRepGet
import Derived.Test.YtcabeagmdfpdlaaDoorJRepAwake
import Derived.Test.YtcabeagmdfpdlaaDoorJRepArg
import Derived.Test.YtcabeagmdfpdlaaDoorJRepLaw
import Derived.Test.YtcabeagmdfpdlaaDoorTie
import Derived.Test.YtcabeagmdfpdlaaDoorCards
import Derived.Lay
import Derived.SevenTiedAt
import Derived.MakeChecks
import Derived.WalkKit
import Derived.ProofKit
import Derived.OpenShut
import Derived.IntWalk
namespace Go.Proofs.YtcabeagmdfpdlaaDoor
open Go.ChangeShapes Go.WideShapes Go.ChangeAt Go.RowKit
set_option linter.unusedVariables false
open Go.RowKit Go
theorem rget_of {s : ByteArray} {c : Rp} (w : World) (h : rmayB c = true) (hw : s.data.toList = textR c) (hs : s.size ≤ 500000) (ht : RTabs w) :
    Calls Tryd.prog 16 #[.string s] w fun e w' => ∃ pa pc ia ic, e = .returned (.tuple #[.agg #[.int .i64 c.err, .int .i64 c.kind, .int .i64 c.room, .slice pa c.players.length pc, .slice ia c.items.length ic, .int .i64 c.coins], .int .i64 0]) ∧ IntsAt w' pa c.players ∧ SnsAt w' ia c.items ∧ Below w.heap.size w w' := by
  refine (rget_any s w hs ht).mono ?_
  rintro e w' ⟨q, pa, pc, ia, ic, m, rfl, hg, h1, h2, h3⟩
  obtain ⟨rfl, rfl⟩ := GotR.same (.inl ⟨h, hw.symm, rfl⟩) hg
  exact ⟨pa, pc, ia, ic, rfl, h1, h2, h3⟩
set_option maxRecDepth 100000 in
set_option maxHeartbeats 4000000 in
theorem rback_go (c d : Rp) (ga wa gb wb : Option Addr) (gc wc gcb wcb : Nat) (s : ByteArray) (w : World) (h1 : IntsAt w ga c.players) (h2 : SnsAt w wa c.items) (h3 : IntsAt w gb d.players) (h4 : SnsAt w wb d.items)
    (hs : s.size ≤ 1000) (ht : RTabs w) (f1 : rfewB c = true) (f2 : rfewB d = true) :
    Calls Tryd.prog 5 #[.agg #[.int .i64 c.err, .int .i64 c.kind, .int .i64 c.room, .slice ga c.players.length gc, .slice wa c.items.length wc, .int .i64 c.coins], .agg #[.int .i64 d.err, .int .i64 d.kind, .int .i64 d.room, .slice gb d.players.length gcb, .slice wb d.items.length wcb, .int .i64 d.coins], .string s] w fun e w' => e = .returned (.bool true) ∧ Below w.heap.size w w' := by
  have F1 := Lib.hid f1
  have F2 := Lib.hid f2
  have HS := Lib.hid hs
  have HT := Lib.hid ht
  have P0 := Lib.hid (TwoR.start (gc := gc) (wc := wc) (gcb := gcb) (wcb := wcb) h1 h2 h3 h4)
  clear f1 f2 ht h1 h2 h3 h4
  go_enter Tryd.func5, Tryd.ntmps5
  go_wp2_with fail
  refine (rawake_any _ (HT.out.call P0.out.1)).mono ?_
  rintro e w1 ⟨rfl, b1⟩
  have P1 := Lib.hid (P0.out.call b1)
  have hA := P1.out.2.1.1.cell
  have hB := P1.out.2.2.1.cell
  clear b1 P0
  go_wp2_with fail
  refine (rfew_any _ _ _ _ _ _ P1.out.2.1.2.1 P1.out.2.1.2.2).mono ?_
  rintro e w2 ⟨rfl, b2⟩
  rw [F1.out]
  have P2 := Lib.hid (P1.out.call b2)
  clear b2 P1 hA hB
  have hA := P2.out.2.1.1.cell
  have hB := P2.out.2.2.1.cell
  go_wp2_with fail
  refine (rfew_any _ _ _ _ _ _ P2.out.2.2.2.1 P2.out.2.2.2.2).mono ?_
  rintro e w3 ⟨rfl, b3⟩
  rw [F2.out]
  have P3 := Lib.hid (P2.out.call b3)
  clear b3 P2 hA hB
  have hA := P3.out.2.1.1.cell
  have hB := P3.out.2.2.1.cell
  go_wp2_with fail
  clear hs
  cases hm : rmayB c
  · have HA1 := Lib.hid (rput_no hm)
    clear hm
    obtain ⟨B, n, hB1⟩ : ∃ B n, rputOut d = .tuple #[.string B, .int .i64 n] := ⟨_, _, rfl⟩
    have HB1 := Lib.hid hB1
    clear hB1
    refine (rput_any _ _ _ _ _ _ P3.out.2.1.2.1 P3.out.2.1.2.2 (HT.out.call P3.out.1)).mono ?_
    rintro e w4 ⟨rfl, b4⟩
    rw [HA1.out]
    have P4 := Lib.hid (P3.out.call b4)
    clear b4 hA hB P3
    have hB := P4.out.2.2.1.cell
    go_wp2_with fail
    refine (rput_any _ _ _ _ _ _ P4.out.2.2.2.1 P4.out.2.2.2.2 (HT.out.call P4.out.1)).mono ?_
    rintro e w5 ⟨rfl, b5⟩
    rw [HB1.out]
    have PX := Lib.hid (P4.out.call b5)
    clear b5 hB P4
    go_wp2_with fail
    refine (rget_any s _ (by have := HS.out; omega) (HT.out.call PX.out.1)).mono ?_
    rintro e w8 ⟨x2, gy, gcy, wy, wcy, n8, rfl, hg, i1, i2, b8⟩
    have P8 := Lib.hid ((PX.out.call b8).alloc (.cells #[.int .i64 x2.err, .int .i64 x2.kind, .int .i64 x2.room, .slice gy x2.players.length gcy, .slice wy x2.items.length wcy, .int .i64 x2.coins] 26))
    have Y8 := Lib.hid (HoldR.new #[.int .i64 x2.err, .int .i64 x2.kind, .int .i64 x2.room, .slice gy x2.players.length gcy, .slice wy x2.items.length wcy, .int .i64 x2.coins] i1 i2)
    clear b8 i1 i2 PX
    have hY := Y8.out.1.cell
    rcases hg with ⟨hg1, hg2, rfl⟩ | ⟨hg1, rfl, -⟩
    · have HCO := Lib.hid (rput_text hg1 hg2)
      clear hg1 hg2
      go_wp2_with fail
      refine (rput_any _ _ _ _ _ _ Y8.out.2.1 Y8.out.2.2 (HT.out.call P8.out.1)).mono ?_
      rintro e w9 ⟨rfl, b9⟩
      rw [HCO.out]
      have P9 := Lib.hid (P8.out.call b9)
      clear b9 P8 Y8 hY HCO
      go_wp2_with fail
      go_ret
      exact ⟨rfl, P9.out.1⟩
    · have HX2 := Lib.hid hg1
      clear hg1
      obtain ⟨Y, n9, hY9⟩ : ∃ Y n, rputOut x2 = .tuple #[.string Y, .int .i64 n] := ⟨_, _, rfl⟩
      have HY9 := Lib.hid hY9
      clear hY9
      go_wp2_with fail
      refine (rput_any _ _ _ _ _ _ Y8.out.2.1 Y8.out.2.2 (HT.out.call P8.out.1)).mono ?_
      rintro e w9 ⟨rfl, b9⟩
      rw [HY9.out]
      have P9 := Lib.hid (P8.out.call b9)
      have Y9 := Lib.hid (Y8.out.call b9)
      clear b9 P8 Y8 hY
      have hY := Y9.out.1.cell
      go_wp2_with fail
      refine (rrefsame_any x2 ⟨0, 0, 0, [], [], 0⟩ _ _ none none _ _ 0 0 _ Y9.out.2.1 Y9.out.2.2 (IntsAt.nil _ _) (SnsAt.nil _ _)).mono ?_
      rintro e w10 ⟨rfl, b10⟩
      rw [show rsameB x2 ⟨0, 0, 0, [], [], 0⟩ = true by rw [HX2.out]; exact rself _]
      have P10 := Lib.hid (P9.out.call b10)
      clear b10 hY
      go_wp2_with fail
      go_ret
      exact ⟨rfl, P10.out.1⟩
  · obtain ⟨A, hA1, hA2, hA3⟩ := rput_yes hm
    have HA1 := Lib.hid hA1
    have HA2 := Lib.hid hA2
    have HA3 := Lib.hid hA3
    have HM := Lib.hid hm
    clear hm hA1 hA2 hA3
    cases hd : rmayB d
    · have HB1 := Lib.hid (rput_no hd)
      clear hd
      refine (rput_any _ _ _ _ _ _ P3.out.2.1.2.1 P3.out.2.1.2.2 (HT.out.call P3.out.1)).mono ?_
      rintro e w4 ⟨rfl, b4⟩
      rw [HA1.out]
      have P4 := Lib.hid (P3.out.call b4)
      clear b4 hA hB P3
      have hB := P4.out.2.2.1.cell
      go_wp2_with fail
      refine (rput_any _ _ _ _ _ _ P4.out.2.2.2.1 P4.out.2.2.2.2 (HT.out.call P4.out.1)).mono ?_
      rintro e w5 ⟨rfl, b5⟩
      rw [HB1.out]
      have P5 := Lib.hid (P4.out.call b5)
      clear b5 hB P4
      go_wp2_with fail
      refine (rget_of _ HM.out HA2.out (by have := HA3.out; omega) (HT.out.call P5.out.1)).mono ?_
      rintro e w6 ⟨gx, gcx, wx, wcx, rfl, i1, i2, b6⟩
      have P6 := Lib.hid ((P5.out.call b6).alloc (.cells #[.int .i64 c.err, .int .i64 c.kind, .int .i64 c.room, .slice gx c.players.length gcx, .slice wx c.items.length wcx, .int .i64 c.coins] 26))
      have X6 := Lib.hid (HoldR.new #[.int .i64 c.err, .int .i64 c.kind, .int .i64 c.room, .slice gx c.players.length gcx, .slice wx c.items.length wcx, .int .i64 c.coins] i1 i2)
      clear b6 i1 i2 P5
      have hA := P6.out.2.1.1.cell
      have hX := X6.out.1.cell
      go_wp2_with fail
      refine (rsame_any _ _ _ _ _ _ _ _ _ _ _ X6.out.2.1 X6.out.2.2 P6.out.2.1.2.1 P6.out.2.1.2.2).mono ?_
      rintro e w7 ⟨rfl, b7⟩
      rw [rself]
      have PX := Lib.hid (P6.out.call b7)
      clear b7 hA hX X6 P6
      go_wp2_with fail
      refine (rget_any s _ (by have := HS.out; omega) (HT.out.call PX.out.1)).mono ?_
      rintro e w8 ⟨x2, gy, gcy, wy, wcy, n8, rfl, hg, i1, i2, b8⟩
      have P8 := Lib.hid ((PX.out.call b8).alloc (.cells #[.int .i64 x2.err, .int .i64 x2.kind, .int .i64 x2.room, .slice gy x2.players.length gcy, .slice wy x2.items.length wcy, .int .i64 x2.coins] 26))
      have Y8 := Lib.hid (HoldR.new #[.int .i64 x2.err, .int .i64 x2.kind, .int .i64 x2.room, .slice gy x2.players.length gcy, .slice wy x2.items.length wcy, .int .i64 x2.coins] i1 i2)
      clear b8 i1 i2 PX
      have hY := Y8.out.1.cell
      rcases hg with ⟨hg1, hg2, rfl⟩ | ⟨hg1, rfl, -⟩
      · have HCO := Lib.hid (rput_text hg1 hg2)
        clear hg1 hg2
        go_wp2_with fail
        refine (rput_any _ _ _ _ _ _ Y8.out.2.1 Y8.out.2.2 (HT.out.call P8.out.1)).mono ?_
        rintro e w9 ⟨rfl, b9⟩
        rw [HCO.out]
        have P9 := Lib.hid (P8.out.call b9)
        clear b9 P8 Y8 hY HCO
        go_wp2_with fail
        go_ret
        exact ⟨rfl, P9.out.1⟩
      · have HX2 := Lib.hid hg1
        clear hg1
        obtain ⟨Y, n9, hY9⟩ : ∃ Y n, rputOut x2 = .tuple #[.string Y, .int .i64 n] := ⟨_, _, rfl⟩
        have HY9 := Lib.hid hY9
        clear hY9
        go_wp2_with fail
        refine (rput_any _ _ _ _ _ _ Y8.out.2.1 Y8.out.2.2 (HT.out.call P8.out.1)).mono ?_
        rintro e w9 ⟨rfl, b9⟩
        rw [HY9.out]
        have P9 := Lib.hid (P8.out.call b9)
        have Y9 := Lib.hid (Y8.out.call b9)
        clear b9 P8 Y8 hY
        have hY := Y9.out.1.cell
        go_wp2_with fail
        refine (rrefsame_any x2 ⟨0, 0, 0, [], [], 0⟩ _ _ none none _ _ 0 0 _ Y9.out.2.1 Y9.out.2.2 (IntsAt.nil _ _) (SnsAt.nil _ _)).mono ?_
        rintro e w10 ⟨rfl, b10⟩
        rw [show rsameB x2 ⟨0, 0, 0, [], [], 0⟩ = true by rw [HX2.out]; exact rself _]
        have P10 := Lib.hid (P9.out.call b10)
        clear b10 hY
        go_wp2_with fail
        go_ret
        exact ⟨rfl, P10.out.1⟩
    · obtain ⟨B, hB1, hB2, -⟩ := rput_yes hd
      have HB1 := Lib.hid hB1
      have hE := rput_apart HM.out hd HA2.out hB2
      clear hd hB1 hB2
      refine (rput_any _ _ _ _ _ _ P3.out.2.1.2.1 P3.out.2.1.2.2 (HT.out.call P3.out.1)).mono ?_
      rintro e w4 ⟨rfl, b4⟩
      rw [HA1.out]
      have P4 := Lib.hid (P3.out.call b4)
      clear b4 hA hB P3
      have hB := P4.out.2.2.1.cell
      go_wp2_with fail
      refine (rput_any _ _ _ _ _ _ P4.out.2.2.2.1 P4.out.2.2.2.2 (HT.out.call P4.out.1)).mono ?_
      rintro e w5 ⟨rfl, b5⟩
      rw [HB1.out]
      have P5 := Lib.hid (P4.out.call b5)
      clear b5 hB P4
      go_wp2_with fail
      refine (rget_of _ HM.out HA2.out (by have := HA3.out; omega) (HT.out.call P5.out.1)).mono ?_
      rintro e w6 ⟨gx, gcx, wx, wcx, rfl, i1, i2, b6⟩
      have P6 := Lib.hid ((P5.out.call b6).alloc (.cells #[.int .i64 c.err, .int .i64 c.kind, .int .i64 c.room, .slice gx c.players.length gcx, .slice wx c.items.length wcx, .int .i64 c.coins] 26))
      have X6 := Lib.hid (HoldR.new #[.int .i64 c.err, .int .i64 c.kind, .int .i64 c.room, .slice gx c.players.length gcx, .slice wx c.items.length wcx, .int .i64 c.coins] i1 i2)
      clear b6 i1 i2 P5
      have hA := P6.out.2.1.1.cell
      have hB := P6.out.2.2.1.cell
      have hX := X6.out.1.cell
      go_wp2_with fail
      refine (rsame_any _ _ _ _ _ _ _ _ _ _ _ X6.out.2.1 X6.out.2.2 P6.out.2.1.2.1 P6.out.2.1.2.2).mono ?_
      rintro e w7 ⟨rfl, b7⟩
      rw [rself]
      have P7 := Lib.hid (P6.out.call b7)
      clear b7 hA hB hX X6 P6
      have hA := P7.out.2.1.1.cell
      have hB := P7.out.2.2.1.cell
      go_wp2_with fail
      refine (rrefsame_any _ _ _ _ _ _ _ _ _ _ _ P7.out.2.1.2.1 P7.out.2.1.2.2 P7.out.2.2.2.1 P7.out.2.2.2.2).mono ?_
      rintro e w8 ⟨rfl, b8⟩
      have PX := Lib.hid (P7.out.call b8)
      clear b8 hA hB P7
      generalize rsameB c d = v at hE ⊢
      go_wp2_with fail
      clear hE
      refine (rget_any s _ (by have := HS.out; omega) (HT.out.call PX.out.1)).mono ?_
      rintro e w8 ⟨x2, gy, gcy, wy, wcy, n8, rfl, hg, i1, i2, b8⟩
      have P8 := Lib.hid ((PX.out.call b8).alloc (.cells #[.int .i64 x2.err, .int .i64 x2.kind, .int .i64 x2.room, .slice gy x2.players.length gcy, .slice wy x2.items.length wcy, .int .i64 x2.coins] 26))
      have Y8 := Lib.hid (HoldR.new #[.int .i64 x2.err, .int .i64 x2.kind, .int .i64 x2.room, .slice gy x2.players.length gcy, .slice wy x2.items.length wcy, .int .i64 x2.coins] i1 i2)
      clear b8 i1 i2 PX
      have hY := Y8.out.1.cell
      rcases hg with ⟨hg1, hg2, rfl⟩ | ⟨hg1, rfl, -⟩
      · have HCO := Lib.hid (rput_text hg1 hg2)
        clear hg1 hg2
        go_wp2_with fail
        refine (rput_any _ _ _ _ _ _ Y8.out.2.1 Y8.out.2.2 (HT.out.call P8.out.1)).mono ?_
        rintro e w9 ⟨rfl, b9⟩
        rw [HCO.out]
        have P9 := Lib.hid (P8.out.call b9)
        clear b9 P8 Y8 hY HCO
        go_wp2_with fail
        go_ret
        exact ⟨rfl, P9.out.1⟩
      · have HX2 := Lib.hid hg1
        clear hg1
        obtain ⟨Y, n9, hY9⟩ : ∃ Y n, rputOut x2 = .tuple #[.string Y, .int .i64 n] := ⟨_, _, rfl⟩
        have HY9 := Lib.hid hY9
        clear hY9
        go_wp2_with fail
        refine (rput_any _ _ _ _ _ _ Y8.out.2.1 Y8.out.2.2 (HT.out.call P8.out.1)).mono ?_
        rintro e w9 ⟨rfl, b9⟩
        rw [HY9.out]
        have P9 := Lib.hid (P8.out.call b9)
        have Y9 := Lib.hid (Y8.out.call b9)
        clear b9 P8 Y8 hY
        have hY := Y9.out.1.cell
        go_wp2_with fail
        refine (rrefsame_any x2 ⟨0, 0, 0, [], [], 0⟩ _ _ none none _ _ 0 0 _ Y9.out.2.1 Y9.out.2.2 (IntsAt.nil _ _) (SnsAt.nil _ _)).mono ?_
        rintro e w10 ⟨rfl, b10⟩
        rw [show rsameB x2 ⟨0, 0, 0, [], [], 0⟩ = true by rw [HX2.out]; exact rself _]
        have P10 := Lib.hid (P9.out.call b10)
        clear b10 hY
        go_wp2_with fail
        go_ret
        exact ⟨rfl, P10.out.1⟩
set_option maxRecDepth 100000 in
set_option maxHeartbeats 4000000 in
theorem rback_else (c d : Rp) (ga wa gb wb : Option Addr) (gc wc gcb wcb : Nat) (s : ByteArray) (w : World) (h1 : IntsAt w ga c.players) (h2 : SnsAt w wa c.items) (h3 : IntsAt w gb d.players) (h4 : SnsAt w wb d.items)
    (ht : RTabs w) (f : rfewB c = false ∨ rfewB d = false ∨ 1000 < s.size) :
    Calls Tryd.prog 5 #[.agg #[.int .i64 c.err, .int .i64 c.kind, .int .i64 c.room, .slice ga c.players.length gc, .slice wa c.items.length wc, .int .i64 c.coins], .agg #[.int .i64 d.err, .int .i64 d.kind, .int .i64 d.room, .slice gb d.players.length gcb, .slice wb d.items.length wcb, .int .i64 d.coins], .string s] w fun e w' => e = .returned (.bool true) ∧ Below w.heap.size w w' := by
  have HT := Lib.hid ht
  have P0 := Lib.hid (TwoR.start (gc := gc) (wc := wc) (gcb := gcb) (wcb := wcb) h1 h2 h3 h4)
  clear ht h1 h2 h3 h4
  cases f1 : rfewB c
  · have F1 := Lib.hid f1
    clear f f1
    go_enter Tryd.func5, Tryd.ntmps5
    go_wp2_with fail
    refine (rawake_any _ (HT.out.call P0.out.1)).mono ?_
    rintro e w1 ⟨rfl, b1⟩
    have P1 := Lib.hid (P0.out.call b1)
    have hA := P1.out.2.1.1.cell
    clear b1 P0
    go_wp2_with fail
    refine (rfew_any _ _ _ _ _ _ P1.out.2.1.2.1 P1.out.2.1.2.2).mono ?_
    rintro e w2 ⟨rfl, b2⟩
    rw [F1.out]
    have PX := Lib.hid (P1.out.call b2)
    clear b2 P1 hA
    go_wp2_with fail
    refine (rawake_any _ (HT.out.call PX.out.1)).mono ?_
    rintro e w9 ⟨rfl, b9⟩
    have P9 := Lib.hid (PX.out.call b9)
    clear b9
    go_wp2_with fail
    go_ret
    exact ⟨rfl, P9.out.1⟩
  · have F1 := Lib.hid f1
    cases f2 : rfewB d
    · have F2 := Lib.hid f2
      clear f f1 f2
      go_enter Tryd.func5, Tryd.ntmps5
      go_wp2_with fail
      refine (rawake_any _ (HT.out.call P0.out.1)).mono ?_
      rintro e w1 ⟨rfl, b1⟩
      have P1 := Lib.hid (P0.out.call b1)
      have hA := P1.out.2.1.1.cell
      clear b1 P0
      go_wp2_with fail
      refine (rfew_any _ _ _ _ _ _ P1.out.2.1.2.1 P1.out.2.1.2.2).mono ?_
      rintro e w2 ⟨rfl, b2⟩
      rw [F1.out]
      have P2 := Lib.hid (P1.out.call b2)
      clear b2 P1 hA
      have hB := P2.out.2.2.1.cell
      go_wp2_with fail
      refine (rfew_any _ _ _ _ _ _ P2.out.2.2.2.1 P2.out.2.2.2.2).mono ?_
      rintro e w3 ⟨rfl, b3⟩
      rw [F2.out]
      have PX := Lib.hid (P2.out.call b3)
      clear b3 P2 hB
      go_wp2_with fail
      refine (rawake_any _ (HT.out.call PX.out.1)).mono ?_
      rintro e w9 ⟨rfl, b9⟩
      have P9 := Lib.hid (PX.out.call b9)
      clear b9
      go_wp2_with fail
      go_ret
      exact ⟨rfl, P9.out.1⟩
    · have F2 := Lib.hid f2
      have h5 : 1000 < s.size := by rw [f1, f2] at f; rcases f with f | f | f <;> first | exact f | cases f
      clear f f1 f2
      go_enter Tryd.func5, Tryd.ntmps5
      go_wp2_with fail
      refine (rawake_any _ (HT.out.call P0.out.1)).mono ?_
      rintro e w1 ⟨rfl, b1⟩
      have P1 := Lib.hid (P0.out.call b1)
      have hA := P1.out.2.1.1.cell
      clear b1 P0
      go_wp2_with fail
      refine (rfew_any _ _ _ _ _ _ P1.out.2.1.2.1 P1.out.2.1.2.2).mono ?_
      rintro e w2 ⟨rfl, b2⟩
      rw [F1.out]
      have P2 := Lib.hid (P1.out.call b2)
      clear b2 P1 hA
      have hB := P2.out.2.2.1.cell
      go_wp2_with fail
      refine (rfew_any _ _ _ _ _ _ P2.out.2.2.2.1 P2.out.2.2.2.2).mono ?_
      rintro e w3 ⟨rfl, b3⟩
      rw [F2.out]
      have PX := Lib.hid (P2.out.call b3)
      clear b3 P2 hB
      go_wp2_with fail
      refine (rawake_any _ (HT.out.call PX.out.1)).mono ?_
      rintro e w9 ⟨rfl, b9⟩
      have P9 := Lib.hid (PX.out.call b9)
      clear b9
      go_wp2_with fail
      go_ret
      exact ⟨rfl, P9.out.1⟩
theorem walk_replyBack (c : Rp) (ga wa : Option Addr) (gc wc : Nat) (d : Rp) (gb wb : Option Addr) (gcb wcb : Nat) (s : ByteArray) (w : World) (h1 : IntsAt w ga c.players) (h2 : SnsAt w wa c.items) (_ : c.players.length ≤ gc ∧ c.items.length ≤ wc) (h3 : IntsAt w gb d.players) (h4 : SnsAt w wb d.items) (_ : d.players.length ≤ gcb ∧ d.items.length ≤ wcb) (_ : s.size ≤ maxLen) (hk : KTab w) (hp : PTab w) (ht : Tab w) :
    Calls Tryd.prog 5 #[.agg #[.int .i64 c.err, .int .i64 c.kind, .int .i64 c.room, .slice ga c.players.length gc, .slice wa c.items.length wc, .int .i64 c.coins], .agg #[.int .i64 d.err, .int .i64 d.kind, .int .i64 d.room, .slice gb d.players.length gcb, .slice wb d.items.length wcb, .int .i64 d.coins], .string s] w fun e w' => e = .returned (.bool true) ∧ Below w.heap.size w w' := by
  have HT : RTabs w := ⟨hk, hp, ht⟩
  by_cases h : s.size ≤ 1000
  · cases f1 : rfewB c
    · exact rback_else c d ga wa gb wb gc wc gcb wcb s w h1 h2 h3 h4 HT (.inl f1)
    · cases f2 : rfewB d
      · exact rback_else c d ga wa gb wb gc wc gcb wcb s w h1 h2 h3 h4 HT (.inr (.inl f2))
      · exact rback_go c d ga wa gb wb gc wc gcb wcb s w h1 h2 h3 h4 h HT f1 f2
  · exact rback_else c d ga wa gb wb gc wc gcb wcb s w h1 h2 h3 h4 HT (.inr (.inr (by omega)))
set_option maxRecDepth 100000 in
theorem lifted_replyBack (os : Os) (started : os.Started) (H : Type) (enc : TypeId × Value → H) :
    ReturnsInHanded {} Tryd.checked os 5 .any (fun w args => (Rows.replyBackSpec.pre enc Tryd.prog Tryd.f5 [] false w args ∧ laidMetH Tryd.prog Rows.replyBackRow.laid w) ∧ sizedMet enc Tryd.prog Tryd.f5 (OpenSpec.ofChange Rows.replyBackSpec) false w args) (Rows.replyBackSpec.post enc Tryd.prog Tryd.f5 false true false false) := by
  refine returnsInHanded_of_change_and (C := Tryd.checked) (X := fun w _ => laidMetH Tryd.prog Rows.replyBackRow.laid w) (fun _ _ _ hh h => h.of_heap hh) (by kernel_rfl) started (by kernel_rfl) Tryd.func5
    (ChangeSpec.witness_shaped (enc := enc) (C := Tryd.checked) (os := os) (X := fun w _ => laidMetH Tryd.prog Rows.replyBackRow.laid w) false (World.laidAll Tryd.prog os Rows.replyBackRow.laid) #[.agg #[.int .i64 0, .int .i64 0, .int .i64 0, .slice none 0 0, .slice none 0 0, .int .i64 0], .agg #[.int .i64 0, .int .i64 0, .int .i64 0, .slice none 0 0, .slice none 0 0, .int .i64 0], .string ByteArray.empty] 8 (World.laidAll_os _ _ _)
      (World.shaped_of_ZipB (by kernel_rfl) (by kernel_rfl)) (by kernel_rfl) (by kernel_rfl) (by kernel_rfl)
      (by rw [MakeChecks.laidMetH_plain _ _ _ (by kernel_rfl)]; exact laidMet_laidAll _ (by kernel_rfl) (by kernel_rfl))) ?_
  intro W base args ds gs before hval0 hW hcnd hsized hL _
  have hval : ∀ (j : Nat) t v, Tryd.f5.params[j]? = some t → args[j]? = some v → Value.okWide Tryd.prog W .any base t v := hval0
  have hW' := hW
  obtain ⟨p, q, hA0, hV, rfl, hfz, hnd⟩ := hW
  have hA : DataW.TrodAll enc Tryd.prog W 0 (fun _ => true) true Tryd.f5.params.toList args.toList ds p := hA0
  rw [Tryd.params5] at hA hval
  obtain ⟨v0, vs0, d0, ds0, p0, q0, hargs, rfl, rfl, h0, r0⟩ := trodAll_cons hA
  obtain ⟨v1, vs1, d1, ds1, p1, q1, rfl, rfl, rfl, h1, r1⟩ := trodAll_cons r0
  obtain ⟨v2, vs2, d2, ds2, p2, q2, rfl, rfl, rfl, h2, r2⟩ := trodAll_cons r1
  obtain ⟨rfl, rfl, rfl⟩ := trodAll_nil r2
  obtain rfl : args = #[v0, v1, v2] := by cases args; simp_all
  obtain ⟨rfl, rfl⟩ := trodVars_none hV
  obtain ⟨c0, ga0, wa0, gc0, wc0, rfl, m0, u0, g0⟩ := read_rep (hval 0 26 v0 rfl rfl) h0
  obtain ⟨c1, ga1, wa1, gc1, wc1, rfl, m1, u1, g1⟩ := read_rep (hval 1 26 v1 rfl rfl) h1
  obtain ⟨s2, rfl, rfl, rfl, b2⟩ := ChangeMaps.open_string Tryd.underlying9 (hval 2 9 v2 rfl rfl) h2
  clear hA0 hval0
  simp only [List.append_nil] at hW'
  rw [MakeChecks.laidMetH_plain _ _ _ (by kernel_rfl)] at hL
  have fKTab := KTab_laid W (hL.tail.tail.tail.tail)
  have fPTab := PTab_laid W (hL.tail.tail.tail.tail.tail)
  have fTab := Tab_laid W (hL.tail.tail)
  refine (walk_replyBack c0 ga0 wa0 gc0 wc0 c1 ga1 wa1 gc1 wc1 s2 W m0 u0 g0 m1 u1 g1 b2 fKTab fPTab fTab).mono fun e W' ⟨he, hg⟩ => ?_
  subst he
  exact ⟨_, rfl, law_post (by kernel_rfl) rfl (by rw [Tryd.params5]; decide +kernel) rfl rfl Tryd.underlying4 hW' hg⟩

theorem row_replyBack : Rows.ReplyBackSaid :=
  OpenClaim.holds_of_wide 5 Tryd.f5 rfl rfl rfl rfl rfl rfl rfl ⟨rfl, rfl, rfl, rfl, rfl⟩ rfl rfl rfl rfl rfl (by kernel_rfl) Tryd.func5 (by kernel_rfl)
    (of_decide_eq_true (by kernel_rfl)) (by unfold Func.isWrapper; first | (rw [if_pos (by decide +kernel)]; kernel_rfl) | (rw [if_neg (by decide +kernel)]; exact ⟨rfl, rfl⟩))
    (fun os started H enc _ => lifted_replyBack os started H enc)
/-- ████ THE STATEMENT ████ -/
theorem proved_replyBack : Rows.ReplyBackCardSaid :=
  Claim7.holds_tied_plain_at .later [] Rows.replyBackCard.laidKinds true Rows.replyBackCard.stood.harness false row_replyBack (fun _ h => by cases h) (by kernel_rfl) (fun _ h => by cases h) replyBack_row_tie rfl ⟨rfl, rfl⟩ (by kernel_rfl) rfl
    (fun f fn hf hfn => by
      obtain rfl : f = 5 := Option.some.inj ((show Tryd.prog.funcNamed "innkeep/innkeeplaw05.ReplyBack" = some 5 by kernel_rfl).symm.trans hf) |>.symm
      obtain rfl : fn = Tryd.f5 := (Option.some.inj (Tryd.func5.symm.trans hfn)).symm
      exact ⟨by kernel_rfl, fun j t ht => by
        rw [Tryd.params5] at ht
        have hm : t ∈ [26, 26, 9] := by simpa using Array.mem_of_getElem? ht
        have hall : ([26, 26, 9].all fun u => !Tryd.prog.wantsStandIn u) = true := by kernel_rfl
        exact (show Tryd.prog.wantsStandIn t = false by simpa using List.all_eq_true.1 hall t hm)⟩)
    (by kernel_rfl)
#print axioms proved_replyBack
end Go.Proofs.YtcabeagmdfpdlaaDoor
