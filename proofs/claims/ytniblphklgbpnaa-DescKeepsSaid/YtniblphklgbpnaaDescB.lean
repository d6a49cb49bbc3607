/- desc: players and places of a description. By the code. -/
import Derived.Test.YtniblphklgbpnaaRows
import Derived.Test.YtniblphklgbpnaaKit
import Derived.Test.YtniblphklgbpnaaStrs
import Derived.Test.YtniblphklgbpnaaCoin
import Derived.Test.YtniblphklgbpnaaBlk
import Derived.Test.YtniblphklgbpnaaHolds
import Derived.Test.YtniblphklgbpnaaWorldMath
import Derived.Test.YtniblphklgbpnaaWorldAt
import Derived.Test.YtniblphklgbpnaaDescA
import Derived.Deep.QuietTactic
import Derived.BigQuiet
import Derived.Deep.RegionHeld3
import Derived.WalkKit
import Derived.ProofKit
import Derived.OpenShut
import Derived.IntWalk
namespace Go.Proofs.Ytniblphklgbpnaa
open Go.ChangeShapes Go.WideShapes Go.ChangeAt Go.RowKit
set_option linter.unusedVariables false
open Go.RowKit
theorem areplayers_any (d : Ds) (p : Dp) (ra ca : Option Addr) (rc cc : Nat) (rooms coins : List Int) (w : World) (h1 : IntsAt w ra rooms) (h2 : IntsAt w ca coins) :
    Calls Try.prog 28 #[.agg #[.slice p.ex d.exits.length p.exc, .slice p.pl d.players.length p.plc, .slice p.co d.coins.length p.coc, .slice p.it d.items.length p.itc, .slice p.bo d.boxes.length p.boc, .int .i64 d.room, .int .i64 d.player, .int .i64 d.box], .slice ra rooms.length rc, .slice ca coins.length cc] w fun e w' => e = .returned (.bool (playersB d rooms coins)) ∧ Below w.heap.size w w' := by
  have H1 := Lib.hid h1
  have H2 := Lib.hid h2
  clear h1 h2
  by_cases e1 : rooms.length = d.players.length
  · by_cases e2 : coins.length = d.players.length
    · have q1 : ((rooms.length : Int) == (d.players.length : Int)) = true := by simp [e1]
      have q2 : ((coins.length : Int) == (d.players.length : Int)) = true := by simp [e2]
      have HD := Lib.hid (show playersB d rooms coins = (ofB rooms d.exits.length && pursesB coins) by simp [playersB, e1, e2])
      clear e1 e2
      cases hx : ofB rooms d.exits.length
      · have HX := Lib.hid hx
        clear hx
        go_enter Try.func28, Try.ntmps28
        go_wp2_with fail
        refine (areof_any _ _ _ _ _ (H1.out.alloc _)).mono ?_
        rintro e w' ⟨rfl, rfl⟩
        rw [HX.out]
        go_wp2_with fail
        go_ret
        exact ⟨ret_bool (by rw [HD.out, HX.out]; rfl), (Below.refl _ _).alloc (Nat.le_refl _) _⟩
      · have HX := Lib.hid hx
        clear hx
        go_enter Try.func28, Try.ntmps28
        go_wp2_with fail
        refine (areof_any _ _ _ _ _ (H1.out.alloc _)).mono ?_
        rintro e w' ⟨rfl, rfl⟩
        rw [HX.out]
        go_wp2_with fail
        refine (arepurses_any _ _ _ _ (H2.out.alloc _)).mono ?_
        rintro e w' ⟨rfl, rfl⟩
        go_wp2_with fail
        go_ret
        exact ⟨ret_bool (by rw [HD.out, HX.out]; rfl), (Below.refl _ _).alloc (Nat.le_refl _) _⟩
    · have q1 : ((rooms.length : Int) == (d.players.length : Int)) = true := by simp [e1]
      have q2 : ((coins.length : Int) == (d.players.length : Int)) = false := by simp; omega
      have HD := Lib.hid (show playersB d rooms coins = false by simp [playersB, e2])
      clear e1 e2
      go_enter Try.func28, Try.ntmps28
      go_wp2_with fail
      go_ret
      exact ⟨ret_bool HD.out.symm, (Below.refl _ _).alloc (Nat.le_refl _) _⟩
  · have q1 : ((rooms.length : Int) == (d.players.length : Int)) = false := by simp; omega
    have HD := Lib.hid (show playersB d rooms coins = false by simp [playersB, e1])
    clear e1
    go_enter Try.func28, Try.ntmps28
    go_wp2_with fail
    go_ret
    exact ⟨ret_bool HD.out.symm, (Below.refl _ _).alloc (Nat.le_refl _) _⟩
theorem mayplayers_any (d : Ds) (p : Dp) (w : World) (h1 : IntsAt w p.pl d.players) (h2 : IntsAt w p.co d.coins) :
    Calls Try.prog 23 #[.agg #[.slice p.ex d.exits.length p.exc, .slice p.pl d.players.length p.plc, .slice p.co d.coins.length p.coc, .slice p.it d.items.length p.itc, .slice p.bo d.boxes.length p.boc, .int .i64 d.room, .int .i64 d.player, .int .i64 d.box]] w fun e w' => e = .returned (.bool (mayPlB d)) ∧ Below w.heap.size w w' := by
  have H1 := Lib.hid h1
  have H2 := Lib.hid h2
  clear h1 h2
  by_cases e1 : 1 ≤ d.players.length
  · by_cases e2 : d.players.length ≤ 6
    · have q1 : (1 : Int) ≤ (d.players.length : Int) := by omega
      have q2 : (d.players.length : Int) ≤ 6 := by omega
      have HD := Lib.hid (show mayPlB d = playersB d d.players d.coins by simp [mayPlB, e1, e2])
      clear e1 e2
      go_enter Try.func23, Try.ntmps23
      go_wp2_with fail
      refine (areplayers_any d p _ _ _ _ _ _ _ (H1.out.alloc _) (H2.out.alloc _)).mono ?_
      rintro e w1 ⟨rfl, b1⟩
      go_wp2_with fail
      go_ret
      exact ⟨ret_bool HD.out.symm, bl ((Below.refl _ _).alloc (Nat.le_refl _) _) b1⟩
    · have q1 : (1 : Int) ≤ (d.players.length : Int) := by omega
      have q2 : ¬ (d.players.length : Int) ≤ 6 := by omega
      have HD := Lib.hid (show mayPlB d = false by simp [mayPlB, e2])
      clear e1 e2
      go_enter Try.func23, Try.ntmps23
      go_wp2_with fail
      go_ret
      exact ⟨ret_bool HD.out.symm, (Below.refl _ _).alloc (Nat.le_refl _) _⟩
  · have q1 : ¬ (1 : Int) ≤ (d.players.length : Int) := by omega
    have HD := Lib.hid (show mayPlB d = false by simp [mayPlB, e1])
    clear e1
    go_enter Try.func23, Try.ntmps23
    go_wp2_with fail
    go_ret
    exact ⟨ret_bool HD.out.symm, (Below.refl _ _).alloc (Nat.le_refl _) _⟩
theorem isplace_any (d : Ds) (dp : Dp) (p : Pl) (w : World) (h : BlsAt w dp.bo d.boxes) :
    Calls Try.prog 45 #[.agg #[.slice dp.ex d.exits.length dp.exc, .slice dp.pl d.players.length dp.plc, .slice dp.co d.coins.length dp.coc, .slice dp.it d.items.length dp.itc, .slice dp.bo d.boxes.length dp.boc, .int .i64 d.room, .int .i64 d.player, .int .i64 d.box], .agg #[.int .i64 p.kind, .int .i64 p.id]] w fun e w' => e = .returned (.bool (placeB d p)) ∧ Below w.heap.size w w' := by
  have hm := h.len
  have H := Lib.hid h
  clear h
  obtain ⟨k, n⟩ := p
  have hBe := Lib.hid (((Below.refl w.heap.size w).alloc (Nat.le_refl _) (.cells #[.slice dp.ex d.exits.length dp.exc, .slice dp.pl d.players.length dp.plc, .slice dp.co d.coins.length dp.coc, .slice dp.it d.items.length dp.itc, .slice dp.bo d.boxes.length dp.boc, .int .i64 d.room, .int .i64 d.player, .int .i64 d.box] 26)).alloc (by simp) (.cells #[.int .i64 k, .int .i64 n] 41))
  by_cases e0 : k = 0
  · subst e0
    have HD := Lib.hid (show placeB d ⟨0, n⟩ = inB n d.exits.length by simp [placeB])
    go_enter Try.func45, Try.ntmps45
    go_wp2_with fail
    refine (isof_any _ _ _).mono ?_
    rintro e w' ⟨rfl, rfl⟩
    go_wp2_with fail
    go_ret
    exact ⟨ret_bool HD.out.symm, hBe.out⟩
  by_cases e1 : k = 1
  · subst e1
    have HD := Lib.hid (show placeB d ⟨1, n⟩ = inB n d.players.length by simp [placeB])
    go_enter Try.func45, Try.ntmps45
    go_wp2_with fail
    refine (isof_any _ _ _).mono ?_
    rintro e w' ⟨rfl, rfl⟩
    go_wp2_with fail
    go_ret
    exact ⟨ret_bool HD.out.symm, hBe.out⟩
  by_cases e2 : k = 2
  · subst e2
    cases hx : inB n d.boxes.length
    · have HX := Lib.hid hx
      have HD := Lib.hid (show placeB d ⟨2, n⟩ = false by simp [placeB, hx])
      clear hx e0 e1
      go_enter Try.func45, Try.ntmps45
      go_wp2_with fail
      refine (isof_any _ _ _).mono ?_
      rintro e w' ⟨rfl, rfl⟩
      rw [HX.out]
      go_wp2_with fail
      go_ret
      exact ⟨ret_bool HD.out.symm, hBe.out⟩
    · have HX := Lib.hid hx
      obtain ⟨g0, g1⟩ := (inB_iff _ _).1 hx
      obtain ⟨m, rfl⟩ : ∃ m : Nat, n = m := ⟨n.toNat, by omega⟩
      have hlt : m < d.boxes.length := by omega
      have HD := Lib.hid (show placeB d ⟨2, m⟩ = d.boxes[m] by simp [placeB, hx, hlt])
      obtain ⟨b, o, hb0, hb, hc⟩ := BlsAt.cells H.out hlt
      clear hx e0 e1 H
      generalize d.boxes[m] = v at *
      clear hBe
      go_enter Try.func45, Try.ntmps45
      go_wp2_with fail
      refine (isof_any _ _ _).mono ?_
      rintro e w' ⟨rfl, rfl⟩
      rw [HX.out]
      go_wp2_with fail
      go_ret
      exact ⟨ret_bool HD.out.symm, ((Below.refl _ _).alloc (Nat.le_refl _) _).alloc (by simp) _⟩
  have HD := Lib.hid (show placeB d ⟨k, n⟩ = false by simp [placeB, e0, e1, e2])
  have q0 : (k == 0) = false := by simpa using e0
  have q1 : (k == 1) = false := by simpa using e1
  have q2 : (k == 2) = false := by simpa using e2
  clear e0 e1 e2
  go_enter Try.func45, Try.ntmps45
  go_wp2_with fail
  go_ret
  exact ⟨ret_bool HD.out.symm, hBe.out⟩
theorem areplaces_any (d : Ds) (dp : Dp) (a : Option Addr) (c : Nat) (ps : List Pl) (w : World) (h : PlsAt w a ps) (hb : BlsAt w dp.bo d.boxes) :
    Calls Try.prog 29 #[.agg #[.slice dp.ex d.exits.length dp.exc, .slice dp.pl d.players.length dp.plc, .slice dp.co d.coins.length dp.coc, .slice dp.it d.items.length dp.itc, .slice dp.bo d.boxes.length dp.boc, .int .i64 d.room, .int .i64 d.player, .int .i64 d.box], .slice a ps.length c] w fun e w' => e = .returned (.bool (placesB d ps)) ∧ Below w.heap.size w w' := by
  have hm := h.len
  by_cases hl : ps.length = d.items.length
  · have q1 : ((ps.length : Int) != (d.items.length : Int)) = false := by simp [hl]
    have HD := Lib.hid (show placesB d ps = ps.all (placeB d) by simp [placesB, hl])
    have H := Lib.hid h
    have HB := Lib.hid hb
    clear h hb hl
    go_enter Try.func29, Try.ntmps29
    go_wp2_with fail
    go_loopw [6, 15] (fun _ i wr => ∃ k : Nat, k ≤ ps.length ∧ i = .int .i64 k ∧ (ps.take k).all (placeB d) = true ∧ Holds w w.heap.size #[.slice dp.ex d.exits.length dp.exc, .slice dp.pl d.players.length dp.plc, .slice dp.co d.coins.length dp.coc, .slice dp.it d.items.length dp.itc, .slice dp.bo d.boxes.length dp.boc, .int .i64 d.room, .int .i64 d.player, .int .i64 d.box] wr) (fun _ i _ => ps.length - (intOf i).toNat)
    case atStart => exact ⟨0, Nat.zero_le _, rfl, rfl, Holds.new _ _ _⟩
    case round =>
      obtain ⟨k, hk, rfl, htk, hh⟩ := hrel
      have HT := Lib.hid htk
      clear htk
      by_cases hlt : k < ps.length
      · obtain ⟨b, o, rfl, hb, c0, c1⟩ := PlsAt.cells (RowAt.below H.out hh.1 (Nat.le_refl _)) hlt
        have HF := Lib.hid (all_take_succ (placeB d) hlt HT.out)
        have HN := Lib.hid (all_not (placeB d) hlt)
        have hcl := hh.2.2
        have hls := hh.2.1
        have HH := Lib.hid hh
        clear H hh
        generalize ps[k] = x at *
        cases hx : placeB d x
        · have HX := Lib.hid hx
          clear hx
          go_wp2_with fail
          refine (isplace_any d dp x _ (HB.out.below (HH.out.1.alloc HH.out.1.size _) (Nat.le_refl _))).mono ?_
          rintro e w1 ⟨rfl, b1⟩
          rw [HX.out]
          go_wp2_with fail
          go_ret
          exact ⟨ret_bool (HD.out.trans (HN.out HX.out)).symm, ((HH.out.alloc _).call b1).1⟩
        · have HX := Lib.hid hx
          clear hx
          go_wp2_with fail
          refine (isplace_any d dp x _ (HB.out.below (HH.out.1.alloc HH.out.1.size _) (Nat.le_refl _))).mono ?_
          rintro e w1 ⟨rfl, b1⟩
          rw [HX.out]
          go_wp2_with fail
          go_roundw
          case rel => exact ⟨k + 1, by omega, by go_num, HF.out HX.out, (HH.out.alloc _).call b1⟩
          case measure => simp [intOf]; omega
      · have hke : k = ps.length := by omega
        subst hke
        have HE := Lib.hid (all_whole _ HT.out)
        have HH := Lib.hid hh
        clear H hh
        go_wp2_with fail
        go_ret
        exact ⟨ret_bool (HD.out.trans HE.out).symm, HH.out.1⟩
  · have q1 : ((ps.length : Int) != (d.items.length : Int)) = true := by simp; omega
    have HD := Lib.hid (show placesB d ps = false by simp [placesB, hl])
    clear h hb hl
    go_enter Try.func29, Try.ntmps29
    go_wp2_with fail
    go_ret
    exact ⟨ret_bool HD.out.symm, (Below.refl _ _).alloc (Nat.le_refl _) _⟩
end Go.Proofs.Ytniblphklgbpnaa
