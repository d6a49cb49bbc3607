/- DescRight: a new world is right, all its items lie in rooms; a right world with a cap below what is there, with a player nowhere, or with an item within itself, isn't. -/
import Derived.Test.YtniblphklgbpnaaRows
import Derived.Test.YtniblphklgbpnaaKit
import Derived.Test.YtniblphklgbpnaaSlices
import Derived.Test.YtniblphklgbpnaaStrs
import Derived.Test.YtniblphklgbpnaaCoin
import Derived.Test.YtniblphklgbpnaaBlk
import Derived.Test.YtniblphklgbpnaaHolds
import Derived.Test.YtniblphklgbpnaaWorldMath
import Derived.Test.YtniblphklgbpnaaWorldAt
import Derived.Test.YtniblphklgbpnaaDescNest
import Derived.Test.YtniblphklgbpnaaDescNest2
import Derived.Test.YtniblphklgbpnaaDescMay
import Derived.Test.YtniblphklgbpnaaDescMay2
import Derived.Test.YtniblphklgbpnaaDescRight
import Derived.Test.YtniblphklgbpnaaDescCopy
import Derived.Test.YtniblphklgbpnaaDescCopy2
import Derived.Test.YtniblphklgbpnaaDescNew
import Derived.Test.YtniblphklgbpnaaDescSame
import Derived.Test.YtniblphklgbpnaaRefDescA
import Derived.Test.YtniblphklgbpnaaRefDepth
import Derived.Test.YtniblphklgbpnaaRefMayA
import Derived.Test.YtniblphklgbpnaaRefMay
import Derived.Test.YtniblphklgbpnaaRefRight
import Derived.Test.YtniblphklgbpnaaRefSame
import Derived.Test.YtniblphklgbpnaaRefCopied
import Derived.Test.YtniblphklgbpnaaDescStore
import Derived.Test.YtniblphklgbpnaaDescAs
import Derived.Test.YtniblphklgbpnaaDescCapsMath
import Derived.Test.YtniblphklgbpnaaDescRightMath
import Derived.Test.YtniblphklgbpnaaDescAwake
import Derived.Test.YtniblphklgbpnaaWorldArg
import Derived.Deep.QuietTactic
import Derived.BigQuiet
import Derived.Deep.RegionHeld3
import Derived.WalkKit
import Derived.ProofKit
import Derived.OpenShut
import Derived.IntWalk
namespace Go.Proofs.Ytniblphklgbpnaa
open Go.ChangeShapes Go.WideShapes Go.ChangeAt Go.RowKit
set_option linter.unusedVariables false
open Go.RowKit
set_option maxRecDepth 100000 in
theorem descRight_few (x : Wd) (p : Wp) (c : Int) (w : World) (h : WorldAt w p x) (hf : fewB x = false) : Calls Try.prog 4 #[.agg #[.slice p.d.ex x.d.exits.length p.d.exc, .slice p.d.pl x.d.players.length p.d.plc, .slice p.d.co x.d.coins.length p.d.coc, .slice p.d.it x.d.items.length p.d.itc, .slice p.d.bo x.d.boxes.length p.d.boc, .int .i64 x.d.room, .int .i64 x.d.player, .int .i64 x.d.box, .slice p.at_ x.at_.length p.atc, .slice p.co x.coins.length p.coc, .slice p.wh x.wher.length p.whc], .int .u8 c] w fun e w' => e = .returned (.bool true) ∧ Below w.heap.size w w' := by
  have HN := Lib.hid (Holds.new w #[.slice p.d.ex x.d.exits.length p.d.exc, .slice p.d.pl x.d.players.length p.d.plc, .slice p.d.co x.d.coins.length p.d.coc, .slice p.d.it x.d.items.length p.d.itc, .slice p.d.bo x.d.boxes.length p.d.boc, .int .i64 x.d.room, .int .i64 x.d.player, .int .i64 x.d.box, .slice p.at_ x.at_.length p.atc, .slice p.co x.coins.length p.coc, .slice p.wh x.wher.length p.whc] 29)
  have HF := Lib.hid hf
  clear hf
  go_enter Try.func4, Try.ntmps4
  go_wp2_with fail
  have t0 : w.heap.size + 1 = (w.alloc (.cells #[.slice p.d.ex x.d.exits.length p.d.exc, .slice p.d.pl x.d.players.length p.d.plc, .slice p.d.co x.d.coins.length p.d.coc, .slice p.d.it x.d.items.length p.d.itc, .slice p.d.bo x.d.boxes.length p.d.boc, .int .i64 x.d.room, .int .i64 x.d.player, .int .i64 x.d.box, .slice p.at_ x.at_.length p.atc, .slice p.co x.coins.length p.coc, .slice p.wh x.wher.length p.whc] 29)).heap.size := by simp
  generalize w.alloc (.cells #[.slice p.d.ex x.d.exits.length p.d.exc, .slice p.d.pl x.d.players.length p.d.plc, .slice p.d.co x.d.coins.length p.d.coc, .slice p.d.it x.d.items.length p.d.itc, .slice p.d.bo x.d.boxes.length p.d.boc, .int .i64 x.d.room, .int .i64 x.d.player, .int .i64 x.d.box, .slice p.at_ x.at_.length p.atc, .slice p.co x.coins.length p.coc, .slice p.wh x.wher.length p.whc] 29) = V0 at *
  refine (awake_any _).mono ?_
  rintro e w1 ⟨rfl, b1⟩
  have H_1 := Lib.hid (HN.out.call b1)
  have s1 := b1.size
  clear b1 HN
  have hc := H_1.out.2.2
  go_wp2_with fail
  clear hc
  refine (few_any x p w1).mono ?_
  rintro e w2 ⟨rfl, b2⟩
  rw [HF.out]
  have H_2 := Lib.hid (H_1.out.call b2)
  have s2 := b2.size
  clear b2 H_1
  have hc := H_2.out.2.2
  go_wp2_with fail
  clear hc
  refine (awake_any _).mono ?_
  rintro e w9 ⟨rfl, b9⟩
  have H_3 := Lib.hid (H_2.out.call b9)
  have s3 := b9.size
  clear b9 H_2
  go_wp2_with fail
  go_ret
  exact ⟨rfl, H_3.out.1⟩
set_option maxRecDepth 100000 in
theorem descRight_wrong (x : Wd) (p : Wp) (c : Int) (w : World) (h : WorldAt w p x) (hf : fewB x = true) (hr : rightW x = false) : Calls Try.prog 4 #[.agg #[.slice p.d.ex x.d.exits.length p.d.exc, .slice p.d.pl x.d.players.length p.d.plc, .slice p.d.co x.d.coins.length p.d.coc, .slice p.d.it x.d.items.length p.d.itc, .slice p.d.bo x.d.boxes.length p.d.boc, .int .i64 x.d.room, .int .i64 x.d.player, .int .i64 x.d.box, .slice p.at_ x.at_.length p.atc, .slice p.co x.coins.length p.coc, .slice p.wh x.wher.length p.whc], .int .u8 c] w fun e w' => e = .returned (.bool true) ∧ Below w.heap.size w w' := by
  have HN := Lib.hid (Holds.new w #[.slice p.d.ex x.d.exits.length p.d.exc, .slice p.d.pl x.d.players.length p.d.plc, .slice p.d.co x.d.coins.length p.d.coc, .slice p.d.it x.d.items.length p.d.itc, .slice p.d.bo x.d.boxes.length p.d.boc, .int .i64 x.d.room, .int .i64 x.d.player, .int .i64 x.d.box, .slice p.at_ x.at_.length p.atc, .slice p.co x.coins.length p.coc, .slice p.wh x.wher.length p.whc] 29)
  have HF := Lib.hid hf
  have HR := Lib.hid hr
  clear hf hr
  go_enter Try.func4, Try.ntmps4
  go_wp2_with fail
  have t0 : w.heap.size + 1 = (w.alloc (.cells #[.slice p.d.ex x.d.exits.length p.d.exc, .slice p.d.pl x.d.players.length p.d.plc, .slice p.d.co x.d.coins.length p.d.coc, .slice p.d.it x.d.items.length p.d.itc, .slice p.d.bo x.d.boxes.length p.d.boc, .int .i64 x.d.room, .int .i64 x.d.player, .int .i64 x.d.box, .slice p.at_ x.at_.length p.atc, .slice p.co x.coins.length p.coc, .slice p.wh x.wher.length p.whc] 29)).heap.size := by simp
  generalize w.alloc (.cells #[.slice p.d.ex x.d.exits.length p.d.exc, .slice p.d.pl x.d.players.length p.d.plc, .slice p.d.co x.d.coins.length p.d.coc, .slice p.d.it x.d.items.length p.d.itc, .slice p.d.bo x.d.boxes.length p.d.boc, .int .i64 x.d.room, .int .i64 x.d.player, .int .i64 x.d.box, .slice p.at_ x.at_.length p.atc, .slice p.co x.coins.length p.coc, .slice p.wh x.wher.length p.whc] 29) = V0 at *
  refine (awake_any _).mono ?_
  rintro e w1 ⟨rfl, b1⟩
  have H_1 := Lib.hid (HN.out.call b1)
  have s1 := b1.size
  clear b1 HN
  have hc := H_1.out.2.2
  go_wp2_with fail
  clear hc
  refine (few_any x p w1).mono ?_
  rintro e w2 ⟨rfl, b2⟩
  rw [HF.out]
  have H_2 := Lib.hid (H_1.out.call b2)
  have s2 := b2.size
  clear b2 H_1
  have hc := H_2.out.2.2
  go_wp2_with fail
  clear hc
  refine (refright_any x p w2 (h.below H_2.out.1 (Nat.le_refl _))).mono ?_
  rintro e w3 ⟨rfl, b3⟩
  rw [HR.out]
  have H_3 := Lib.hid (H_2.out.call b3)
  have s3 := b3.size
  clear b3 H_2
  have hc := H_3.out.2.2
  go_wp2_with fail
  clear hc
  refine (awake_any _).mono ?_
  rintro e w9 ⟨rfl, b9⟩
  have H_4 := Lib.hid (H_3.out.call b9)
  have s4 := b9.size
  clear b9 H_3
  go_wp2_with fail
  go_ret
  exact ⟨rfl, H_4.out.1⟩
set_option maxRecDepth 100000 in
set_option maxHeartbeats 4000000 in
theorem descRight_go (x : Wd) (p : Wp) (m : Nat) (hm : m ≤ 255) (w : World) (h : WorldAt w p x) (hf : fewB x = true) (hr : rightW x = true) : Calls Try.prog 4 #[.agg #[.slice p.d.ex x.d.exits.length p.d.exc, .slice p.d.pl x.d.players.length p.d.plc, .slice p.d.co x.d.coins.length p.d.coc, .slice p.d.it x.d.items.length p.d.itc, .slice p.d.bo x.d.boxes.length p.d.boc, .int .i64 x.d.room, .int .i64 x.d.player, .int .i64 x.d.box, .slice p.at_ x.at_.length p.atc, .slice p.co x.coins.length p.coc, .slice p.wh x.wher.length p.whc], .int .u8 (m : Int)] w fun e w' => e = .returned (.bool true) ∧ Below w.heap.size w w' := by
  have HLN := Lib.hid (right_lens hr)
  have hL : 0 < x.at_.length := HLN.out.1
  have FW := Lib.hid (few_few hf)
  have HN := Lib.hid (Holds.new w #[.slice p.d.ex x.d.exits.length p.d.exc, .slice p.d.pl x.d.players.length p.d.plc, .slice p.d.co x.d.coins.length p.d.coc, .slice p.d.it x.d.items.length p.d.itc, .slice p.d.bo x.d.boxes.length p.d.boc, .int .i64 x.d.room, .int .i64 x.d.player, .int .i64 x.d.box, .slice p.at_ x.at_.length p.atc, .slice p.co x.coins.length p.coc, .slice p.wh x.wher.length p.whc] 29)
  have HF := Lib.hid hf
  have HR := Lib.hid hr
  have HWA := Lib.hid h
  clear hf hr h
  go_enter Try.func4, Try.ntmps4
  go_wp2_with fail
  have t0 : w.heap.size + 1 = (w.alloc (.cells #[.slice p.d.ex x.d.exits.length p.d.exc, .slice p.d.pl x.d.players.length p.d.plc, .slice p.d.co x.d.coins.length p.d.coc, .slice p.d.it x.d.items.length p.d.itc, .slice p.d.bo x.d.boxes.length p.d.boc, .int .i64 x.d.room, .int .i64 x.d.player, .int .i64 x.d.box, .slice p.at_ x.at_.length p.atc, .slice p.co x.coins.length p.coc, .slice p.wh x.wher.length p.whc] 29)).heap.size := by simp
  generalize w.alloc (.cells #[.slice p.d.ex x.d.exits.length p.d.exc, .slice p.d.pl x.d.players.length p.d.plc, .slice p.d.co x.d.coins.length p.d.coc, .slice p.d.it x.d.items.length p.d.itc, .slice p.d.bo x.d.boxes.length p.d.boc, .int .i64 x.d.room, .int .i64 x.d.player, .int .i64 x.d.box, .slice p.at_ x.at_.length p.atc, .slice p.co x.coins.length p.coc, .slice p.wh x.wher.length p.whc] 29) = V0 at *
  refine (awake_any _).mono ?_
  rintro e w1 ⟨rfl, b1⟩
  have H_1 := Lib.hid (HN.out.call b1)
  have s1 := b1.size
  clear b1 HN
  have hc := H_1.out.2.2
  go_wp2_with fail
  clear hc
  refine (few_any x p w1).mono ?_
  rintro e w2 ⟨rfl, b2⟩
  rw [HF.out]
  have H_2 := Lib.hid (H_1.out.call b2)
  have s2 := b2.size
  clear b2 H_1
  have hc := H_2.out.2.2
  go_wp2_with fail
  clear hc
  refine (refright_any x p w2 (HWA.out.below H_2.out.1 (Nat.le_refl _))).mono ?_
  rintro e w3 ⟨rfl, b3⟩
  rw [HR.out]
  have H_3 := Lib.hid (H_2.out.call b3)
  have s3 := b3.size
  clear b3 H_2
  have hc := H_3.out.2.2
  go_wp2_with fail
  clear hc
  refine (new_yes x.d p.d w3 (HWA.out.below H_3.out.1 (Nat.le_refl _)).d HLN.out.2.2.2.2.2).mono ?_
  rintro e w4 ⟨n, ⟨d4, a4, ac4, k4, kc4, p4, wc4⟩, hn, rfl, own4, b4⟩
  have H_4 := Lib.hid (H_3.out.call b4)
  have s4 := b4.size
  clear b4 H_3
  have HNW := Lib.hid hn
  have ON := Lib.hid own4.world
  have B0 := Lib.hid (Below.refl w4.heap.size w4)
  clear own4 hn
  have hlt4 : w.heap.size < w4.heap.size := by omega
  have z5 : w4.heap.size = w4.heap.size := rfl
  have HN2_5 := Lib.hid (Holds.newb (w := w) (A := #[.slice d4.ex n.d.exits.length d4.exc, .slice d4.pl n.d.players.length d4.plc, .slice d4.co n.d.coins.length d4.coc, .slice d4.it n.d.items.length d4.itc, .slice d4.bo n.d.boxes.length d4.boc, .int .i64 n.d.room, .int .i64 n.d.player, .int .i64 n.d.box, .slice a4 n.at_.length ac4, .slice k4 n.coins.length kc4, .slice p4 n.wher.length wc4]) (t := 29) (n := w4.heap.size) H_4.out.1 (by exact z5))
  have H_5 := Lib.hid ((H_4.out.alloc (.cells #[.slice d4.ex n.d.exits.length d4.exc, .slice d4.pl n.d.players.length d4.plc, .slice d4.co n.d.coins.length d4.coc, .slice d4.it n.d.items.length d4.itc, .slice d4.bo n.d.boxes.length d4.boc, .int .i64 n.d.room, .int .i64 n.d.player, .int .i64 n.d.box, .slice a4 n.at_.length ac4, .slice k4 n.coins.length kc4, .slice p4 n.wher.length wc4] 29)))
  have BN_5 := Lib.hid ((B0.out.alloc (by rw [z5]; omega) (.cells #[.slice d4.ex n.d.exits.length d4.exc, .slice d4.pl n.d.players.length d4.plc, .slice d4.co n.d.coins.length d4.coc, .slice d4.it n.d.items.length d4.itc, .slice d4.bo n.d.boxes.length d4.boc, .int .i64 n.d.room, .int .i64 n.d.player, .int .i64 n.d.box, .slice a4 n.at_.length ac4, .slice k4 n.coins.length kc4, .slice p4 n.wher.length wc4] 29)))
  have t5 : w4.heap.size + 1 = (w4.alloc (.cells #[.slice d4.ex n.d.exits.length d4.exc, .slice d4.pl n.d.players.length d4.plc, .slice d4.co n.d.coins.length d4.coc, .slice d4.it n.d.items.length d4.itc, .slice d4.bo n.d.boxes.length d4.boc, .int .i64 n.d.room, .int .i64 n.d.player, .int .i64 n.d.box, .slice a4 n.at_.length ac4, .slice k4 n.coins.length kc4, .slice p4 n.wher.length wc4] 29)).heap.size := by simp [World.setCell]
  clear H_4 B0
  go_wp2_with fail
  generalize (w4.alloc (.cells #[.slice d4.ex n.d.exits.length d4.exc, .slice d4.pl n.d.players.length d4.plc, .slice d4.co n.d.coins.length d4.coc, .slice d4.it n.d.items.length d4.itc, .slice d4.bo n.d.boxes.length d4.boc, .int .i64 n.d.room, .int .i64 n.d.player, .int .i64 n.d.box, .slice a4 n.at_.length ac4, .slice k4 n.coins.length kc4, .slice p4 n.wher.length wc4] 29)) = V4 at *
  have RN := Lib.hid (show rightW n = true by rw [HNW.out]; exact new_right HLN.out.2.2.2.2.2)
  refine (right_yes (Shape.refl n) RN.out ⟨d4, a4, ac4, k4, kc4, p4, wc4⟩ V4 (ON.out.below BN_5.out (Nat.le_refl _))).mono ?_
  rintro e w5 ⟨rfl, b5⟩
  have H_6 := Lib.hid (H_5.out.call b5)
  have HN2_6 := Lib.hid (HN2_5.out.call b5)
  have BN_6 := Lib.hid (below_call BN_5.out (by omega) b5)
  have s6 := b5.size
  clear b5 H_5 HN2_5 BN_5
  have hc := H_6.out.2.2
  have hcn := HN2_6.out.2.2
  have HL1 := Lib.hid (show n.wher.length = x.wher.length by rw [HNW.out]; simp only [newW, floorsL, List.length_map]; exact HLN.out.2.2.2.2.1)
  have hn16 : n.wher.length ≤ 16 := by have h1 := HL1.out; have h2 := HLN.out.2.2.2.1; omega
  have hln : ((n.wher.length : Int) != (x.wher.length : Int)) = false := by simp [HL1.out]
  have KN := Lib.hid (show ∀ y ∈ n.wher, y.kind = 0 by rw [HNW.out]; exact floors_kind x.d.items)
  have PN := Lib.hid (RowAt.below (show PlsAt w4 p4 n.wher from ON.out.wh) (BN_6).out (Nat.le_refl _))
  go_wp2_with fail
  clear hln
  have W5f := Lib.hid HN2_6.out
  go_loopw [7] (fun i wr => ∃ j : Nat, j ≤ n.wher.length ∧ i = .int .i64 j ∧ w5 = wr) (fun i _ => n.wher.length - (intOf i).toNat)
  case atStart => exact ⟨0, Nat.zero_le _, rfl, rfl⟩
  case round =>
    obtain ⟨j, hj, rfl, rfl⟩ := hrel
    by_cases hlj : j < n.wher.length
    · obtain ⟨b, o, rfl, hb, c0, c1⟩ := PlsAt.cells PN.out hlj
      have hk0 := KN.out n.wher[j] (List.getElem_mem hlj)
      rw [hk0] at c0
      clear c1
      clear hk0
      go_wp2_with fail
      go_roundw
      case rel => exact ⟨j + 1, by omega, by go_num, by trivial⟩
      case measure => simp [intOf]; omega
    · have hje : j = n.wher.length := by omega
      subst hje
      go_wp2_with fail
      clear hc hcn
      obtain ⟨k, hk⟩ : ∃ k : Nat, m % x.at_.length = k := ⟨_, rfl⟩
      have hkl : k < x.at_.length := by rw [← hk]; exact Nat.mod_lt _ hL
      have hrem : (m : Int) % (x.at_.length : Int) = (k : Int) := by omega
      have hkc : k < x.coins.length := by rw [HLN.out.2.2.1]; exact hkl
      have hremc : (m : Int) % (x.coins.length : Int) = (k : Int) := by rw [HLN.out.2.2.1]; exact hrem
      have hwm : IntKind.i64.wrap (m : Int) = m := IntWalk.i64_in _ (by omega)
      have htm : (m : Int).tmod (x.at_.length : Int) = (k : Int) := by rw [Int.tmod_eq_emod_of_nonneg (by omega)]; exact hrem
      have htmc : (m : Int).tmod (x.coins.length : Int) = (k : Int) := by rw [Int.tmod_eq_emod_of_nonneg (by omega)]; exact hremc
      have hza : ¬ x.at_ = [] := fun e => by rw [e] at hL; exact absurd hL (by simp)
      have hzc : ¬ x.coins = [] := fun e => by rw [e] at hkc; exact absurd hkc (by simp)
      clear hk
      refine (copy_any x p w5 (HWA.out.below H_6.out.1 (Nat.le_refl _)) FW.out).mono ?_
      rintro e w6 ⟨⟨d6, a6, ac6, k6, kc6, p6, wc6⟩, rfl, own6, b6⟩
      have H_7 := Lib.hid (H_6.out.call b6)
      have HN2_7 := Lib.hid (HN2_6.out.call b6)
      have BN_7 := Lib.hid (below_call BN_6.out (by omega) b6)
      have s7 := b6.size
      clear b6 H_6 HN2_6 BN_6
      obtain ⟨bx, hb6, hn6, hs6, -, -, -⟩ := own6.putAt (k := k) hkl
      simp only at hb6
      subst hb6
      obtain ⟨bq, hbq, -, -, c0, f0, put⟩ := (own6.alloc' (.cells #[.slice d6.ex x.d.exits.length d6.exc, .slice d6.pl x.d.players.length d6.plc, .slice d6.co x.d.coins.length d6.coc, .slice d6.it x.d.items.length d6.itc, .slice d6.bo x.d.boxes.length d6.boc, .int .i64 x.d.room, .int .i64 x.d.player, .int .i64 x.d.box, .slice (some ⟨bx, 0, none⟩) x.at_.length ac6, .slice k6 x.coins.length kc6, .slice p6 x.wher.length wc6] 29)).putAt (k := k) hkl
      obtain rfl : bx = bq := by simpa using hbq
      have PU := Lib.hid (fun v => (put v).world)
      clear put hbq own6
      have hcq := H_7.out.2.2
      have hltq : w.heap.size < w6.heap.size := by omega
      have z8 : w6.heap.size = w6.heap.size := rfl
      have HX_8 := Lib.hid (Holds.newb (w := w) (A := #[.slice d6.ex x.d.exits.length d6.exc, .slice d6.pl x.d.players.length d6.plc, .slice d6.co x.d.coins.length d6.coc, .slice d6.it x.d.items.length d6.itc, .slice d6.bo x.d.boxes.length d6.boc, .int .i64 x.d.room, .int .i64 x.d.player, .int .i64 x.d.box, .slice (some ⟨bx, 0, none⟩) x.at_.length ac6, .slice k6 x.coins.length kc6, .slice p6 x.wher.length wc6]) (t := 29) (n := w6.heap.size) H_7.out.1 (by exact z8))
      have H_8 := Lib.hid ((H_7.out.alloc (.cells #[.slice d6.ex x.d.exits.length d6.exc, .slice d6.pl x.d.players.length d6.plc, .slice d6.co x.d.coins.length d6.coc, .slice d6.it x.d.items.length d6.itc, .slice d6.bo x.d.boxes.length d6.boc, .int .i64 x.d.room, .int .i64 x.d.player, .int .i64 x.d.box, .slice (some ⟨bx, 0, none⟩) x.at_.length ac6, .slice k6 x.coins.length kc6, .slice p6 x.wher.length wc6] 29)))
      have HN2_8 := Lib.hid ((HN2_7.out.alloc (.cells #[.slice d6.ex x.d.exits.length d6.exc, .slice d6.pl x.d.players.length d6.plc, .slice d6.co x.d.coins.length d6.coc, .slice d6.it x.d.items.length d6.itc, .slice d6.bo x.d.boxes.length d6.boc, .int .i64 x.d.room, .int .i64 x.d.player, .int .i64 x.d.box, .slice (some ⟨bx, 0, none⟩) x.at_.length ac6, .slice k6 x.coins.length kc6, .slice p6 x.wher.length wc6] 29)))
      have BN_8 := Lib.hid ((BN_7.out.alloc (by rw [z8]; omega) (.cells #[.slice d6.ex x.d.exits.length d6.exc, .slice d6.pl x.d.players.length d6.plc, .slice d6.co x.d.coins.length d6.coc, .slice d6.it x.d.items.length d6.itc, .slice d6.bo x.d.boxes.length d6.boc, .int .i64 x.d.room, .int .i64 x.d.player, .int .i64 x.d.box, .slice (some ⟨bx, 0, none⟩) x.at_.length ac6, .slice k6 x.coins.length kc6, .slice p6 x.wher.length wc6] 29)))
      have t8 : w6.heap.size + 1 = (w6.alloc (.cells #[.slice d6.ex x.d.exits.length d6.exc, .slice d6.pl x.d.players.length d6.plc, .slice d6.co x.d.coins.length d6.coc, .slice d6.it x.d.items.length d6.itc, .slice d6.bo x.d.boxes.length d6.boc, .int .i64 x.d.room, .int .i64 x.d.player, .int .i64 x.d.box, .slice (some ⟨bx, 0, none⟩) x.at_.length ac6, .slice k6 x.coins.length kc6, .slice p6 x.wher.length wc6] 29)).heap.size := by simp [World.setCell]
      clear H_7 HN2_7 BN_7
      go_wp2_with fail
      generalize (w6.alloc (.cells #[.slice d6.ex x.d.exits.length d6.exc, .slice d6.pl x.d.players.length d6.plc, .slice d6.co x.d.coins.length d6.coc, .slice d6.it x.d.items.length d6.itc, .slice d6.bo x.d.boxes.length d6.boc, .int .i64 x.d.room, .int .i64 x.d.player, .int .i64 x.d.box, .slice (some ⟨bx, 0, none⟩) x.at_.length ac6, .slice k6 x.coins.length kc6, .slice p6 x.wher.length wc6] 29)) = V6 at *
      have OX := Lib.hid (show WorldAt (V6.setCell ⟨bx, k, none⟩ (.int .i64 (x.d.exits.length : Int))).drew ⟨d6, some ⟨bx, 0, none⟩, ac6, k6, kc6, p6, wc6⟩ ⟨x.d, x.at_.set k (x.d.exits.length : Int), x.coins, x.wher⟩ from worldAt_dr (PU.out (x.d.exits.length : Int)))
      clear PU hcq
      have KZ1 := Lib.hid (show (∀ i, V6.drew.cell? ⟨w.heap.size, i, none⟩ = (#[.slice p.d.ex x.d.exits.length p.d.exc, .slice p.d.pl x.d.players.length p.d.plc, .slice p.d.co x.d.coins.length p.d.coc, .slice p.d.it x.d.items.length p.d.itc, .slice p.d.bo x.d.boxes.length p.d.boc, .int .i64 x.d.room, .int .i64 x.d.player, .int .i64 x.d.box, .slice p.at_ x.at_.length p.atc, .slice p.co x.coins.length p.coc, .slice p.wh x.wher.length p.whc][i]? : Option Value)) ∧ (∀ i, V6.drew.cell? ⟨w6.heap.size, i, none⟩ = (#[.slice d6.ex x.d.exits.length d6.exc, .slice d6.pl x.d.players.length d6.plc, .slice d6.co x.d.coins.length d6.coc, .slice d6.it x.d.items.length d6.itc, .slice d6.bo x.d.boxes.length d6.boc, .int .i64 x.d.room, .int .i64 x.d.player, .int .i64 x.d.box, .slice (some ⟨bx, 0, none⟩) x.at_.length ac6, .slice k6 x.coins.length kc6, .slice p6 x.wher.length wc6][i]? : Option Value)) from ⟨H_8.out.2.2, HX_8.out.2.2⟩)
      have ne_H_bx_9 : w.heap.size ≠ bx := by omega
      have ne_HN2_bx_9 : w4.heap.size ≠ bx := by omega
      have ne_HX_bx_9 : w6.heap.size ≠ bx := by omega
      have hw_bx_9 : w.heap.size ≤ bx := by omega
      have na_bx_9 : V6.heap.size ≠ bx := by omega
      have nb_bx_9 : bx ≠ V6.heap.size := by omega
      have z9 : (V6.setCell ⟨bx, k, none⟩ (.int .i64 (x.d.exits.length : Int))).heap.size = V6.heap.size := by simp [World.setCell]
      have H_9 := Lib.hid ((H_8.out.far (b := bx) hw_bx_9 ne_H_bx_9 (k) (.int .i64 (x.d.exits.length : Int))).drew)
      have HN2_9 := Lib.hid ((HN2_8.out.far (b := bx) hw_bx_9 ne_HN2_bx_9 (k) (.int .i64 (x.d.exits.length : Int))).drew)
      have HX_9 := Lib.hid ((HX_8.out.far (b := bx) hw_bx_9 ne_HX_bx_9 (k) (.int .i64 (x.d.exits.length : Int))).drew)
      have BN_9 := Lib.hid ((bdrew1 (BN_8.out.setCell (p := ⟨bx, k, none⟩) (by first | (show w4.heap.size ≤ bx; omega) | (dsimp only; omega)) (.int .i64 (x.d.exits.length : Int)))))
      have t9 : V6.heap.size = ((V6.setCell ⟨bx, k, none⟩ (.int .i64 (x.d.exits.length : Int)))).drew.heap.size := z9.symm
      have KZ2 := Lib.hid (show (∀ i, ((V6.setCell ⟨bx, k, none⟩ (.int .i64 (x.d.exits.length : Int))).drew).cell? ⟨w.heap.size, i, none⟩ = (#[.slice p.d.ex x.d.exits.length p.d.exc, .slice p.d.pl x.d.players.length p.d.plc, .slice p.d.co x.d.coins.length p.d.coc, .slice p.d.it x.d.items.length p.d.itc, .slice p.d.bo x.d.boxes.length p.d.boc, .int .i64 x.d.room, .int .i64 x.d.player, .int .i64 x.d.box, .slice p.at_ x.at_.length p.atc, .slice p.co x.coins.length p.coc, .slice p.wh x.wher.length p.whc][i]? : Option Value)) ∧ (∀ i, ((V6.setCell ⟨bx, k, none⟩ (.int .i64 (x.d.exits.length : Int))).drew).cell? ⟨w6.heap.size, i, none⟩ = (#[.slice d6.ex x.d.exits.length d6.exc, .slice d6.pl x.d.players.length d6.plc, .slice d6.co x.d.coins.length d6.coc, .slice d6.it x.d.items.length d6.itc, .slice d6.bo x.d.boxes.length d6.boc, .int .i64 x.d.room, .int .i64 x.d.player, .int .i64 x.d.box, .slice (some ⟨bx, 0, none⟩) x.at_.length ac6, .slice k6 x.coins.length kc6, .slice p6 x.wher.length wc6][i]? : Option Value)) from ⟨H_9.out.2.2, HX_9.out.2.2⟩)
      clear H_8 HN2_8 HX_8 BN_8
      refine wp_region_noPanic ?_
      refine wp_region_held_drew (S := (fun w' => (∀ i, w'.cell? ⟨w.heap.size, i, none⟩ = (#[.slice p.d.ex x.d.exits.length p.d.exc, .slice p.d.pl x.d.players.length p.d.plc, .slice p.d.co x.d.coins.length p.d.coc, .slice p.d.it x.d.items.length p.d.itc, .slice p.d.bo x.d.boxes.length p.d.boc, .int .i64 x.d.room, .int .i64 x.d.player, .int .i64 x.d.box, .slice p.at_ x.at_.length p.atc, .slice p.co x.coins.length p.coc, .slice p.wh x.wher.length p.whc][i]? : Option Value)) ∧ (∀ i, w'.cell? ⟨w6.heap.size, i, none⟩ = (#[.slice d6.ex x.d.exits.length d6.exc, .slice d6.pl x.d.players.length d6.plc, .slice d6.co x.d.coins.length d6.coc, .slice d6.it x.d.items.length d6.itc, .slice d6.bo x.d.boxes.length d6.boc, .int .i64 x.d.room, .int .i64 x.d.player, .int .i64 x.d.box, .slice (some ⟨bx, 0, none⟩) x.at_.length ac6, .slice k6 x.coins.length kc6, .slice p6 x.wher.length wc6][i]? : Option Value)))) (by kernel_rfl) (by (first | (with_reducible exact KZ1.out) | (with_reducible exact KZ2.out))) (fun hHeld => ?_)
      refine wpAnyH_take (i := 0) (v := ?_) (by simp only [List.getElem?_toArray, List.getElem?_cons_succ, List.getElem?_cons_zero]; rfl) (by kernel_rfl) (by kernel_rfl) (by kernel_rfl) (fun _ _ _ h => h) (Or.inl ⟨by rfl, ?_⟩) (by assumption) ?_
      rotate_left
      · (intro ww hSw; (try dsimp only at hSw); go_simp; (try with_reducible rfl))
      try simp only [Act.put, List.setIfInBounds_toArray, List.set_cons_zero, List.set_cons_succ]
      refine wpAnyH_take (i := 1) (v := ?_) (by simp only [List.getElem?_toArray, List.getElem?_cons_succ, List.getElem?_cons_zero]; rfl) (by kernel_rfl) (by kernel_rfl) (by kernel_rfl) (fun _ _ _ h => h) (Or.inl ⟨by rfl, ?_⟩) (by assumption) ?_
      rotate_left
      · (intro ww hSw; (try dsimp only at hSw); go_simp; (try with_reducible rfl))
      try simp only [Act.put, List.setIfInBounds_toArray, List.set_cons_zero, List.set_cons_succ]
      refine wpAnyH_take (i := 2) (v := ?_) (by simp only [List.getElem?_toArray, List.getElem?_cons_succ, List.getElem?_cons_zero]; rfl) (by kernel_rfl) (by kernel_rfl) (by kernel_rfl) (fun _ _ _ h => h) (Or.inl ⟨by rfl, ?_⟩) (by assumption) ?_
      rotate_left
      · (intro ww hSw; (try dsimp only at hSw); go_simp; (try with_reducible rfl))
      try simp only [Act.put, List.setIfInBounds_toArray, List.set_cons_zero, List.set_cons_succ]
      refine wpAnyH_take (i := 3) (v := ?_) (by simp only [List.getElem?_toArray, List.getElem?_cons_succ, List.getElem?_cons_zero]; rfl) (by kernel_rfl) (by kernel_rfl) (by kernel_rfl) (fun _ _ _ h => h) (Or.inl ⟨by rfl, ?_⟩) (by assumption) ?_
      rotate_left
      · (intro ww hSw; (try dsimp only at hSw); go_simp; (try with_reducible rfl))
      try simp only [Act.put, List.setIfInBounds_toArray, List.set_cons_zero, List.set_cons_succ]
      refine wpAnyH_take (i := 4) (v := ?_) (by simp only [List.getElem?_toArray, List.getElem?_cons_succ, List.getElem?_cons_zero]; rfl) (by kernel_rfl) (by kernel_rfl) (by kernel_rfl) (fun _ _ _ h => h) (Or.inl ⟨by rfl, ?_⟩) (by assumption) ?_
      rotate_left
      · (intro ww hSw; (try dsimp only at hSw); go_simp; (try with_reducible rfl))
      try simp only [Act.put, List.setIfInBounds_toArray, List.set_cons_zero, List.set_cons_succ]
      refine wpAnyH_take (i := 5) (v := ?_) (by simp only [List.getElem?_toArray, List.getElem?_cons_succ, List.getElem?_cons_zero]; rfl) (by kernel_rfl) (by kernel_rfl) (by kernel_rfl) (fun _ _ _ h => h) (Or.inl ⟨by rfl, ?_⟩) (by assumption) ?_
      rotate_left
      · (intro ww hSw; (try dsimp only at hSw); go_simp; (try with_reducible rfl))
      try simp only [Act.put, List.setIfInBounds_toArray, List.set_cons_zero, List.set_cons_succ]
      refine wpAnyH_take (i := 6) (v := ?_) (by simp only [List.getElem?_toArray, List.getElem?_cons_succ, List.getElem?_cons_zero]; rfl) (by kernel_rfl) (by kernel_rfl) (by kernel_rfl) (fun _ _ _ h => h) (Or.inl ⟨by rfl, ?_⟩) (by assumption) ?_
      rotate_left
      · (intro ww hSw; (try dsimp only at hSw); go_simp; (try with_reducible rfl))
      try simp only [Act.put, List.setIfInBounds_toArray, List.set_cons_zero, List.set_cons_succ]
      refine wpAnyH_take (i := 7) (v := ?_) (by simp only [List.getElem?_toArray, List.getElem?_cons_succ, List.getElem?_cons_zero]; rfl) (by kernel_rfl) (by kernel_rfl) (by kernel_rfl) (fun _ _ _ h => h) (Or.inl ⟨by rfl, ?_⟩) (by assumption) ?_
      rotate_left
      · (intro ww hSw; (try dsimp only at hSw); go_simp; (try with_reducible rfl))
      try simp only [Act.put, List.setIfInBounds_toArray, List.set_cons_zero, List.set_cons_succ]
      refine wpAnyH_take (i := 8) (v := ?_) (by simp only [List.getElem?_toArray, List.getElem?_cons_succ, List.getElem?_cons_zero]; rfl) (by kernel_rfl) (by kernel_rfl) (by kernel_rfl) (fun _ _ _ h => h) (Or.inl ⟨by rfl, ?_⟩) (by assumption) ?_
      rotate_left
      · (intro ww hSw; (try dsimp only at hSw); go_simp; (try with_reducible rfl))
      try simp only [Act.put, List.setIfInBounds_toArray, List.set_cons_zero, List.set_cons_succ]
      refine wpAnyH_take (i := 9) (v := ?_) (by simp only [List.getElem?_toArray, List.getElem?_cons_succ, List.getElem?_cons_zero]; rfl) (by kernel_rfl) (by kernel_rfl) (by kernel_rfl) (fun _ _ _ h => h) (Or.inl ⟨by rfl, ?_⟩) (by assumption) ?_
      rotate_left
      · (intro ww hSw; (try dsimp only at hSw); go_simp; (try with_reducible rfl))
      try simp only [Act.put, List.setIfInBounds_toArray, List.set_cons_zero, List.set_cons_succ]
      refine wpAnyH_take (i := 10) (v := ?_) (by simp only [List.getElem?_toArray, List.getElem?_cons_succ, List.getElem?_cons_zero]; rfl) (by kernel_rfl) (by kernel_rfl) (by kernel_rfl) (fun _ _ _ h => h) (Or.inl ⟨by rfl, ?_⟩) (by assumption) ?_
      rotate_left
      · (intro ww hSw; (try dsimp only at hSw); go_simp; (try with_reducible rfl))
      try simp only [Act.put, List.setIfInBounds_toArray, List.set_cons_zero, List.set_cons_succ]
      refine wpAnyH_take (i := 11) (v := ?_) (by simp only [List.getElem?_toArray, List.getElem?_cons_succ, List.getElem?_cons_zero]; rfl) (by kernel_rfl) (by kernel_rfl) (by kernel_rfl) (fun _ _ _ h => h) (Or.inl ⟨by rfl, ?_⟩) (by assumption) ?_
      rotate_left
      · (intro ww hSw; (try dsimp only at hSw); go_simp; (try with_reducible rfl))
      try simp only [Act.put, List.setIfInBounds_toArray, List.set_cons_zero, List.set_cons_succ]
      refine wpAnyH_take (i := 12) (v := ?_) (by simp only [List.getElem?_toArray, List.getElem?_cons_succ, List.getElem?_cons_zero]; rfl) (by kernel_rfl) (by kernel_rfl) (by kernel_rfl) (fun _ _ _ h => h) (Or.inl ⟨by rfl, ?_⟩) (by assumption) ?_
      rotate_left
      · (intro ww hSw; (try dsimp only at hSw); go_simp; (try with_reducible rfl))
      try simp only [Act.put, List.setIfInBounds_toArray, List.set_cons_zero, List.set_cons_succ]
      refine wpAnyH_ready (rs := [13]) (by kernel_rfl) (by simp) (AllReadyH.cons (by simp only [List.getElem?_toArray, List.getElem?_cons_succ, List.getElem?_cons_zero]; rfl) (fun K hK => ?_) AllReadyH.nil)
      go_simp
      try go_wp2_with fail
      refine hK.out _ _ (by (first | (with_reducible exact KZ1.out) | (with_reducible exact KZ2.out))) (fun hHeld => ?_)
      clear hK K
      try simp only [Act.put, List.setIfInBounds_toArray, List.set_cons_zero, List.set_cons_succ]
      refine wpAnyH_done (by kernel_rfl) ?_ _
      refine NoPanic.normal ?_
      have hcl := H_9.out.2.2
      go_wp2_with fail
      clear hcl
      clear c0 f0 KZ1 KZ2
      generalize ((V6.setCell ⟨bx, k, none⟩ (.int .i64 (x.d.exits.length : Int)))).drew = U6 at *
      have BBX0 := Lib.hid (Below.refl U6.heap.size U6)
      refine (copy_any x p U6 (HWA.out.below H_9.out.1 (Nat.le_refl _)) FW.out).mono ?_
      rintro e w7 ⟨⟨d7, a7, ac7, k7, kc7, p7, wc7⟩, rfl, own7, b7⟩
      have H_10 := Lib.hid (H_9.out.call b7)
      have HN2_10 := Lib.hid (HN2_9.out.call b7)
      have HX_10 := Lib.hid (HX_9.out.call b7)
      have BN_10 := Lib.hid (below_call BN_9.out (by omega) b7)
      have BX_10 := Lib.hid (below_call BBX0.out (by omega) b7)
      have s10 := b7.size
      clear b7 H_9 HN2_9 HX_9 BN_9 BBX0
      obtain ⟨by_, hb7, hn7, hs7, -, -, -⟩ := own7.putCo (k := k) hkc
      simp only at hb7
      subst hb7
      obtain ⟨bq, hbq, -, -, c0, f0, put⟩ := (own7.alloc' (.cells #[.slice d7.ex x.d.exits.length d7.exc, .slice d7.pl x.d.players.length d7.plc, .slice d7.co x.d.coins.length d7.coc, .slice d7.it x.d.items.length d7.itc, .slice d7.bo x.d.boxes.length d7.boc, .int .i64 x.d.room, .int .i64 x.d.player, .int .i64 x.d.box, .slice a7 x.at_.length ac7, .slice (some ⟨by_, 0, none⟩) x.coins.length kc7, .slice p7 x.wher.length wc7] 29)).putCo (k := k) hkc
      obtain rfl : by_ = bq := by simpa using hbq
      have PU := Lib.hid (fun v => (put v).world)
      clear put hbq own7
      have hcq := H_10.out.2.2
      have hltq : w.heap.size < w7.heap.size := by omega
      have z11 : w7.heap.size = w7.heap.size := rfl
      have HY_11 := Lib.hid (Holds.newb (w := w) (A := #[.slice d7.ex x.d.exits.length d7.exc, .slice d7.pl x.d.players.length d7.plc, .slice d7.co x.d.coins.length d7.coc, .slice d7.it x.d.items.length d7.itc, .slice d7.bo x.d.boxes.length d7.boc, .int .i64 x.d.room, .int .i64 x.d.player, .int .i64 x.d.box, .slice a7 x.at_.length ac7, .slice (some ⟨by_, 0, none⟩) x.coins.length kc7, .slice p7 x.wher.length wc7]) (t := 29) (n := w7.heap.size) H_10.out.1 (by exact z11))
      have H_11 := Lib.hid ((H_10.out.alloc (.cells #[.slice d7.ex x.d.exits.length d7.exc, .slice d7.pl x.d.players.length d7.plc, .slice d7.co x.d.coins.length d7.coc, .slice d7.it x.d.items.length d7.itc, .slice d7.bo x.d.boxes.length d7.boc, .int .i64 x.d.room, .int .i64 x.d.player, .int .i64 x.d.box, .slice a7 x.at_.length ac7, .slice (some ⟨by_, 0, none⟩) x.coins.length kc7, .slice p7 x.wher.length wc7] 29)))
      have HN2_11 := Lib.hid ((HN2_10.out.alloc (.cells #[.slice d7.ex x.d.exits.length d7.exc, .slice d7.pl x.d.players.length d7.plc, .slice d7.co x.d.coins.length d7.coc, .slice d7.it x.d.items.length d7.itc, .slice d7.bo x.d.boxes.length d7.boc, .int .i64 x.d.room, .int .i64 x.d.player, .int .i64 x.d.box, .slice a7 x.at_.length ac7, .slice (some ⟨by_, 0, none⟩) x.coins.length kc7, .slice p7 x.wher.length wc7] 29)))
      have HX_11 := Lib.hid ((HX_10.out.alloc (.cells #[.slice d7.ex x.d.exits.length d7.exc, .slice d7.pl x.d.players.length d7.plc, .slice d7.co x.d.coins.length d7.coc, .slice d7.it x.d.items.length d7.itc, .slice d7.bo x.d.boxes.length d7.boc, .int .i64 x.d.room, .int .i64 x.d.player, .int .i64 x.d.box, .slice a7 x.at_.length ac7, .slice (some ⟨by_, 0, none⟩) x.coins.length kc7, .slice p7 x.wher.length wc7] 29)))
      have BN_11 := Lib.hid ((BN_10.out.alloc (by rw [z11]; omega) (.cells #[.slice d7.ex x.d.exits.length d7.exc, .slice d7.pl x.d.players.length d7.plc, .slice d7.co x.d.coins.length d7.coc, .slice d7.it x.d.items.length d7.itc, .slice d7.bo x.d.boxes.length d7.boc, .int .i64 x.d.room, .int .i64 x.d.player, .int .i64 x.d.box, .slice a7 x.at_.length ac7, .slice (some ⟨by_, 0, none⟩) x.coins.length kc7, .slice p7 x.wher.length wc7] 29)))
      have BX_11 := Lib.hid ((BX_10.out.alloc (by rw [z11]; omega) (.cells #[.slice d7.ex x.d.exits.length d7.exc, .slice d7.pl x.d.players.length d7.plc, .slice d7.co x.d.coins.length d7.coc, .slice d7.it x.d.items.length d7.itc, .slice d7.bo x.d.boxes.length d7.boc, .int .i64 x.d.room, .int .i64 x.d.player, .int .i64 x.d.box, .slice a7 x.at_.length ac7, .slice (some ⟨by_, 0, none⟩) x.coins.length kc7, .slice p7 x.wher.length wc7] 29)))
      have t11 : w7.heap.size + 1 = (w7.alloc (.cells #[.slice d7.ex x.d.exits.length d7.exc, .slice d7.pl x.d.players.length d7.plc, .slice d7.co x.d.coins.length d7.coc, .slice d7.it x.d.items.length d7.itc, .slice d7.bo x.d.boxes.length d7.boc, .int .i64 x.d.room, .int .i64 x.d.player, .int .i64 x.d.box, .slice a7 x.at_.length ac7, .slice (some ⟨by_, 0, none⟩) x.coins.length kc7, .slice p7 x.wher.length wc7] 29)).heap.size := by simp [World.setCell]
      clear H_10 HN2_10 HX_10 BN_10 BX_10
      go_wp2_with fail
      generalize (w7.alloc (.cells #[.slice d7.ex x.d.exits.length d7.exc, .slice d7.pl x.d.players.length d7.plc, .slice d7.co x.d.coins.length d7.coc, .slice d7.it x.d.items.length d7.itc, .slice d7.bo x.d.boxes.length d7.boc, .int .i64 x.d.room, .int .i64 x.d.player, .int .i64 x.d.box, .slice a7 x.at_.length ac7, .slice (some ⟨by_, 0, none⟩) x.coins.length kc7, .slice p7 x.wher.length wc7] 29)) = V7 at *
      have OY := Lib.hid (show WorldAt (V7.setCell ⟨by_, k, none⟩ (.int .i64 (-1))).drew ⟨d7, a7, ac7, some ⟨by_, 0, none⟩, kc7, p7, wc7⟩ ⟨x.d, x.at_, x.coins.set k (-1), x.wher⟩ from worldAt_dr (PU.out (-1)))
      clear PU hcq
      have KZ1 := Lib.hid (show (∀ i, V7.drew.cell? ⟨w.heap.size, i, none⟩ = (#[.slice p.d.ex x.d.exits.length p.d.exc, .slice p.d.pl x.d.players.length p.d.plc, .slice p.d.co x.d.coins.length p.d.coc, .slice p.d.it x.d.items.length p.d.itc, .slice p.d.bo x.d.boxes.length p.d.boc, .int .i64 x.d.room, .int .i64 x.d.player, .int .i64 x.d.box, .slice p.at_ x.at_.length p.atc, .slice p.co x.coins.length p.coc, .slice p.wh x.wher.length p.whc][i]? : Option Value)) ∧ (∀ i, V7.drew.cell? ⟨w7.heap.size, i, none⟩ = (#[.slice d7.ex x.d.exits.length d7.exc, .slice d7.pl x.d.players.length d7.plc, .slice d7.co x.d.coins.length d7.coc, .slice d7.it x.d.items.length d7.itc, .slice d7.bo x.d.boxes.length d7.boc, .int .i64 x.d.room, .int .i64 x.d.player, .int .i64 x.d.box, .slice a7 x.at_.length ac7, .slice (some ⟨by_, 0, none⟩) x.coins.length kc7, .slice p7 x.wher.length wc7][i]? : Option Value)) from ⟨H_11.out.2.2, HY_11.out.2.2⟩)
      have ne_H_by__12 : w.heap.size ≠ by_ := by omega
      have ne_HN2_by__12 : w4.heap.size ≠ by_ := by omega
      have ne_HX_by__12 : w6.heap.size ≠ by_ := by omega
      have ne_HY_by__12 : w7.heap.size ≠ by_ := by omega
      have hw_by__12 : w.heap.size ≤ by_ := by omega
      have na_by__12 : V7.heap.size ≠ by_ := by omega
      have nb_by__12 : by_ ≠ V7.heap.size := by omega
      have z12 : (V7.setCell ⟨by_, k, none⟩ (.int .i64 (-1))).heap.size = V7.heap.size := by simp [World.setCell]
      have H_12 := Lib.hid ((H_11.out.far (b := by_) hw_by__12 ne_H_by__12 (k) (.int .i64 (-1))).drew)
      have HN2_12 := Lib.hid ((HN2_11.out.far (b := by_) hw_by__12 ne_HN2_by__12 (k) (.int .i64 (-1))).drew)
      have HX_12 := Lib.hid ((HX_11.out.far (b := by_) hw_by__12 ne_HX_by__12 (k) (.int .i64 (-1))).drew)
      have HY_12 := Lib.hid ((HY_11.out.far (b := by_) hw_by__12 ne_HY_by__12 (k) (.int .i64 (-1))).drew)
      have BN_12 := Lib.hid ((bdrew1 (BN_11.out.setCell (p := ⟨by_, k, none⟩) (by first | (show w4.heap.size ≤ by_; omega) | (dsimp only; omega)) (.int .i64 (-1)))))
      have BX_12 := Lib.hid ((bdrew1 (BX_11.out.setCell (p := ⟨by_, k, none⟩) (by first | (show U6.heap.size ≤ by_; omega) | (dsimp only; omega)) (.int .i64 (-1)))))
      have t12 : V7.heap.size = ((V7.setCell ⟨by_, k, none⟩ (.int .i64 (-1)))).drew.heap.size := z12.symm
      have KZ2 := Lib.hid (show (∀ i, ((V7.setCell ⟨by_, k, none⟩ (.int .i64 (-1))).drew).cell? ⟨w.heap.size, i, none⟩ = (#[.slice p.d.ex x.d.exits.length p.d.exc, .slice p.d.pl x.d.players.length p.d.plc, .slice p.d.co x.d.coins.length p.d.coc, .slice p.d.it x.d.items.length p.d.itc, .slice p.d.bo x.d.boxes.length p.d.boc, .int .i64 x.d.room, .int .i64 x.d.player, .int .i64 x.d.box, .slice p.at_ x.at_.length p.atc, .slice p.co x.coins.length p.coc, .slice p.wh x.wher.length p.whc][i]? : Option Value)) ∧ (∀ i, ((V7.setCell ⟨by_, k, none⟩ (.int .i64 (-1))).drew).cell? ⟨w7.heap.size, i, none⟩ = (#[.slice d7.ex x.d.exits.length d7.exc, .slice d7.pl x.d.players.length d7.plc, .slice d7.co x.d.coins.length d7.coc, .slice d7.it x.d.items.length d7.itc, .slice d7.bo x.d.boxes.length d7.boc, .int .i64 x.d.room, .int .i64 x.d.player, .int .i64 x.d.box, .slice a7 x.at_.length ac7, .slice (some ⟨by_, 0, none⟩) x.coins.length kc7, .slice p7 x.wher.length wc7][i]? : Option Value)) from ⟨H_12.out.2.2, HY_12.out.2.2⟩)
      clear H_11 HN2_11 HX_11 HY_11 BN_11 BX_11
      refine wp_region_noPanic ?_
      refine wp_region_held_drew (S := (fun w' => (∀ i, w'.cell? ⟨w.heap.size, i, none⟩ = (#[.slice p.d.ex x.d.exits.length p.d.exc, .slice p.d.pl x.d.players.length p.d.plc, .slice p.d.co x.d.coins.length p.d.coc, .slice p.d.it x.d.items.length p.d.itc, .slice p.d.bo x.d.boxes.length p.d.boc, .int .i64 x.d.room, .int .i64 x.d.player, .int .i64 x.d.box, .slice p.at_ x.at_.length p.atc, .slice p.co x.coins.length p.coc, .slice p.wh x.wher.length p.whc][i]? : Option Value)) ∧ (∀ i, w'.cell? ⟨w7.heap.size, i, none⟩ = (#[.slice d7.ex x.d.exits.length d7.exc, .slice d7.pl x.d.players.length d7.plc, .slice d7.co x.d.coins.length d7.coc, .slice d7.it x.d.items.length d7.itc, .slice d7.bo x.d.boxes.length d7.boc, .int .i64 x.d.room, .int .i64 x.d.player, .int .i64 x.d.box, .slice a7 x.at_.length ac7, .slice (some ⟨by_, 0, none⟩) x.coins.length kc7, .slice p7 x.wher.length wc7][i]? : Option Value)))) (by kernel_rfl) (by (first | (with_reducible exact KZ1.out) | (with_reducible exact KZ2.out))) (fun hHeld => ?_)
      refine wpAnyH_take (i := 0) (v := ?_) (by simp only [List.getElem?_toArray, List.getElem?_cons_succ, List.getElem?_cons_zero]; rfl) (by kernel_rfl) (by kernel_rfl) (by kernel_rfl) (fun _ _ _ h => h) (Or.inl ⟨by rfl, ?_⟩) (by assumption) ?_
      rotate_left
      · (intro ww hSw; (try dsimp only at hSw); go_simp; (try with_reducible rfl))
      try simp only [Act.put, List.setIfInBounds_toArray, List.set_cons_zero, List.set_cons_succ]
      refine wpAnyH_take (i := 1) (v := ?_) (by simp only [List.getElem?_toArray, List.getElem?_cons_succ, List.getElem?_cons_zero]; rfl) (by kernel_rfl) (by kernel_rfl) (by kernel_rfl) (fun _ _ _ h => h) (Or.inl ⟨by rfl, ?_⟩) (by assumption) ?_
      rotate_left
      · (intro ww hSw; (try dsimp only at hSw); go_simp; (try with_reducible rfl))
      try simp only [Act.put, List.setIfInBounds_toArray, List.set_cons_zero, List.set_cons_succ]
      refine wpAnyH_take (i := 2) (v := ?_) (by simp only [List.getElem?_toArray, List.getElem?_cons_succ, List.getElem?_cons_zero]; rfl) (by kernel_rfl) (by kernel_rfl) (by kernel_rfl) (fun _ _ _ h => h) (Or.inl ⟨by rfl, ?_⟩) (by assumption) ?_
      rotate_left
      · (intro ww hSw; (try dsimp only at hSw); go_simp; (try with_reducible rfl))
      try simp only [Act.put, List.setIfInBounds_toArray, List.set_cons_zero, List.set_cons_succ]
      refine wpAnyH_take (i := 3) (v := ?_) (by simp only [List.getElem?_toArray, List.getElem?_cons_succ, List.getElem?_cons_zero]; rfl) (by kernel_rfl) (by kernel_rfl) (by kernel_rfl) (fun _ _ _ h => h) (Or.inl ⟨by rfl, ?_⟩) (by assumption) ?_
      rotate_left
      · (intro ww hSw; (try dsimp only at hSw); go_simp; (try with_reducible rfl))
      try simp only [Act.put, List.setIfInBounds_toArray, List.set_cons_zero, List.set_cons_succ]
      refine wpAnyH_take (i := 4) (v := ?_) (by simp only [List.getElem?_toArray, List.getElem?_cons_succ, List.getElem?_cons_zero]; rfl) (by kernel_rfl) (by kernel_rfl) (by kernel_rfl) (fun _ _ _ h => h) (Or.inl ⟨by rfl, ?_⟩) (by assumption) ?_
      rotate_left
      · (intro ww hSw; (try dsimp only at hSw); go_simp; (try with_reducible rfl))
      try simp only [Act.put, List.setIfInBounds_toArray, List.set_cons_zero, List.set_cons_succ]
      refine wpAnyH_take (i := 5) (v := ?_) (by simp only [List.getElem?_toArray, List.getElem?_cons_succ, List.getElem?_cons_zero]; rfl) (by kernel_rfl) (by kernel_rfl) (by kernel_rfl) (fun _ _ _ h => h) (Or.inl ⟨by rfl, ?_⟩) (by assumption) ?_
      rotate_left
      · (intro ww hSw; (try dsimp only at hSw); go_simp; (try with_reducible rfl))
      try simp only [Act.put, List.setIfInBounds_toArray, List.set_cons_zero, List.set_cons_succ]
      refine wpAnyH_take (i := 6) (v := ?_) (by simp only [List.getElem?_toArray, List.getElem?_cons_succ, List.getElem?_cons_zero]; rfl) (by kernel_rfl) (by kernel_rfl) (by kernel_rfl) (fun _ _ _ h => h) (Or.inl ⟨by rfl, ?_⟩) (by assumption) ?_
      rotate_left
      · (intro ww hSw; (try dsimp only at hSw); go_simp; (try with_reducible rfl))
      try simp only [Act.put, List.setIfInBounds_toArray, List.set_cons_zero, List.set_cons_succ]
      refine wpAnyH_take (i := 7) (v := ?_) (by simp only [List.getElem?_toArray, List.getElem?_cons_succ, List.getElem?_cons_zero]; rfl) (by kernel_rfl) (by kernel_rfl) (by kernel_rfl) (fun _ _ _ h => h) (Or.inl ⟨by rfl, ?_⟩) (by assumption) ?_
      rotate_left
      · (intro ww hSw; (try dsimp only at hSw); go_simp; (try with_reducible rfl))
      try simp only [Act.put, List.setIfInBounds_toArray, List.set_cons_zero, List.set_cons_succ]
      refine wpAnyH_take (i := 8) (v := ?_) (by simp only [List.getElem?_toArray, List.getElem?_cons_succ, List.getElem?_cons_zero]; rfl) (by kernel_rfl) (by kernel_rfl) (by kernel_rfl) (fun _ _ _ h => h) (Or.inl ⟨by rfl, ?_⟩) (by assumption) ?_
      rotate_left
      · (intro ww hSw; (try dsimp only at hSw); go_simp; (try with_reducible rfl))
      try simp only [Act.put, List.setIfInBounds_toArray, List.set_cons_zero, List.set_cons_succ]
      refine wpAnyH_ready (rs := [9]) (by kernel_rfl) (by simp) (AllReadyH.cons (by simp only [List.getElem?_toArray, List.getElem?_cons_succ, List.getElem?_cons_zero]; rfl) (fun K hK => ?_) AllReadyH.nil)
      go_simp
      try go_wp2_with fail
      refine hK.out _ _ (by (first | (with_reducible exact KZ1.out) | (with_reducible exact KZ2.out))) (fun hHeld => ?_)
      clear hK K
      try simp only [Act.put, List.setIfInBounds_toArray, List.set_cons_zero, List.set_cons_succ]
      refine wpAnyH_done (by kernel_rfl) ?_ _
      refine NoPanic.normal ?_
      have hcl := HX_12.out.2.2
      go_wp2_with fail
      clear hcl
      clear c0 f0 KZ1 KZ2
      generalize ((V7.setCell ⟨by_, k, none⟩ (.int .i64 (-1)))).drew = U7 at *
      have BBY0 := Lib.hid (Below.refl U7.heap.size U7)
      refine (right_not (⟨rfl, rfl, rfl, rfl, rfl, rfl, rfl, rfl, by simp, rfl, rfl⟩ : Shape x ⟨x.d, x.at_.set k (x.d.exits.length : Int), x.coins, x.wher⟩) (right_at_no hkl) ⟨d6, some ⟨bx, 0, none⟩, ac6, k6, kc6, p6, wc6⟩ U7 (OX.out.below BX_12.out (Nat.le_refl _))).mono ?_
      rintro e w8 ⟨rfl, b8⟩
      have H_13 := Lib.hid (H_12.out.call b8)
      have HN2_13 := Lib.hid (HN2_12.out.call b8)
      have HX_13 := Lib.hid (HX_12.out.call b8)
      have HY_13 := Lib.hid (HY_12.out.call b8)
      have BN_13 := Lib.hid (below_call BN_12.out (by omega) b8)
      have BX_13 := Lib.hid (below_call BX_12.out (by omega) b8)
      have BY_13 := Lib.hid (below_call BBY0.out (by omega) b8)
      have s13 := b8.size
      clear b8 H_12 HN2_12 HX_12 HY_12 BN_12 BX_12 BBY0
      have hcy := HY_13.out.2.2
      go_wp2_with fail
      clear hcy
      refine (right_not (⟨rfl, rfl, rfl, rfl, rfl, rfl, rfl, rfl, rfl, by simp, rfl⟩ : Shape x ⟨x.d, x.at_, x.coins.set k (-1), x.wher⟩) (right_co_no hkc) ⟨d7, a7, ac7, some ⟨by_, 0, none⟩, kc7, p7, wc7⟩ w8 (OY.out.below BY_13.out (Nat.le_refl _))).mono ?_
      rintro e w9 ⟨rfl, b9⟩
      have H_14 := Lib.hid (H_13.out.call b9)
      have HN2_14 := Lib.hid (HN2_13.out.call b9)
      have HX_14 := Lib.hid (HX_13.out.call b9)
      have HY_14 := Lib.hid (HY_13.out.call b9)
      have BN_14 := Lib.hid (below_call BN_13.out (by omega) b9)
      have BX_14 := Lib.hid (below_call BX_13.out (by omega) b9)
      have BY_14 := Lib.hid (below_call BY_13.out (by omega) b9)
      have s14 := b9.size
      clear b9 H_13 HN2_13 HX_13 HY_13 BN_13 BX_13 BY_13
      clear HX_14
      clear HY_14
      clear HN2_14
      clear BX_14
      clear BY_14
      clear BN_14
      clear OX OY ON PN W5f htm htmc hrem hremc hza hzc
      have hc := H_14.out.2.2
      by_cases hz : x.wher.length = 0
      · have lz : ((x.wher.length : Int) == 0) = true := by simpa using hz
        clear hz
        go_wp2_with fail
        go_ret
        exact ⟨rfl, H_14.out.1⟩
      have lz : ((x.wher.length : Int) == 0) = false := by simpa using hz
      obtain ⟨g, hg⟩ : ∃ g : Nat, m % x.wher.length = g := ⟨_, rfl⟩
      have hgl : g < x.wher.length := by rw [← hg]; exact Nat.mod_lt _ (by omega)
      have hremg : (m : Int) % (x.wher.length : Int) = (g : Int) := by omega
      have hlw : (0 : Int) < (x.wher.length : Int) := by omega
      clear hg hz
      go_wp2_with fail
      clear hc
      refine (copy_any x p w9 (HWA.out.below H_14.out.1 (Nat.le_refl _)) FW.out).mono ?_
      rintro e w10 ⟨⟨d10, a10, ac10, k10, kc10, p10, wc10⟩, rfl, own10, b10⟩
      have H_15 := Lib.hid (H_14.out.call b10)
      have s15 := b10.size
      clear b10 H_14
      obtain ⟨bz, hbz, hnz, hsz, ⟨c0, c1⟩, fz, put⟩ := own10.putPlace (k := g) hgl
      simp only at hbz
      subst hbz
      have f0 := fz (g * 2)
      have f1 := fz (g * 2 + 1)
      have PZ := Lib.hid (fun y => (put y).world)
      clear put own10 fz
      have ne_H_bz_16 : w.heap.size ≠ bz := by omega
      have hw_bz_16 : w.heap.size ≤ bz := by omega
      have na_bz_16 : w10.heap.size ≠ bz := by omega
      have nb_bz_16 : bz ≠ w10.heap.size := by omega
      have z16 : ((w10.setCell ⟨bz, g * 2, none⟩ (.int .i64 2)).setCell ⟨bz, g * 2 + 1, none⟩ (.int .i64 (g : Int))).heap.size = w10.heap.size := by simp [World.setCell]
      have HZ_16 := Lib.hid (Holds.newb (w := w) (A := #[.slice d10.ex x.d.exits.length d10.exc, .slice d10.pl x.d.players.length d10.plc, .slice d10.co x.d.coins.length d10.coc, .slice d10.it x.d.items.length d10.itc, .slice d10.bo x.d.boxes.length d10.boc, .int .i64 x.d.room, .int .i64 x.d.player, .int .i64 x.d.box, .slice a10 x.at_.length ac10, .slice k10 x.coins.length kc10, .slice (some ⟨bz, 0, none⟩) x.wher.length wc10]) (t := 29) (n := w10.heap.size) ((H_15.out.far (b := bz) hw_bz_16 ne_H_bz_16 (g * 2) (.int .i64 2)).far (b := bz) hw_bz_16 ne_H_bz_16 (g * 2 + 1) (.int .i64 (g : Int))).1 (by exact z16))
      have H_16 := Lib.hid ((((H_15.out.far (b := bz) hw_bz_16 ne_H_bz_16 (g * 2) (.int .i64 2)).far (b := bz) hw_bz_16 ne_H_bz_16 (g * 2 + 1) (.int .i64 (g : Int))).alloc (.cells #[.slice d10.ex x.d.exits.length d10.exc, .slice d10.pl x.d.players.length d10.plc, .slice d10.co x.d.coins.length d10.coc, .slice d10.it x.d.items.length d10.itc, .slice d10.bo x.d.boxes.length d10.boc, .int .i64 x.d.room, .int .i64 x.d.player, .int .i64 x.d.box, .slice a10 x.at_.length ac10, .slice k10 x.coins.length kc10, .slice (some ⟨bz, 0, none⟩) x.wher.length wc10] 29)))
      have t16 : w10.heap.size + 1 = (((w10.setCell ⟨bz, g * 2, none⟩ (.int .i64 2)).setCell ⟨bz, g * 2 + 1, none⟩ (.int .i64 (g : Int))).alloc (.cells #[.slice d10.ex x.d.exits.length d10.exc, .slice d10.pl x.d.players.length d10.plc, .slice d10.co x.d.coins.length d10.coc, .slice d10.it x.d.items.length d10.itc, .slice d10.bo x.d.boxes.length d10.boc, .int .i64 x.d.room, .int .i64 x.d.player, .int .i64 x.d.box, .slice a10 x.at_.length ac10, .slice k10 x.coins.length kc10, .slice (some ⟨bz, 0, none⟩) x.wher.length wc10] 29)).heap.size := by simp [World.setCell]
      have OZ := Lib.hid (show WorldAt ((w10.setCell ⟨bz, g * 2, none⟩ (.int .i64 2)).setCell ⟨bz, g * 2 + 1, none⟩ (.int .i64 (g : Int))) ⟨d10, a10, ac10, k10, kc10, some ⟨bz, 0, none⟩, wc10⟩ ⟨x.d, x.at_, x.coins, x.wher.set g ⟨2, (g : Int)⟩⟩ from PZ.out ⟨2, g⟩)
      clear PZ
      have hc := H_16.out.2.2
      have BZ_16 := Lib.hid (show Below ((w10.setCell ⟨bz, g * 2, none⟩ (.int .i64 2)).setCell ⟨bz, g * 2 + 1, none⟩ (.int .i64 (g : Int))).heap.size ((w10.setCell ⟨bz, g * 2, none⟩ (.int .i64 2)).setCell ⟨bz, g * 2 + 1, none⟩ (.int .i64 (g : Int))) (((w10.setCell ⟨bz, g * 2, none⟩ (.int .i64 2)).setCell ⟨bz, g * 2 + 1, none⟩ (.int .i64 (g : Int))).alloc (.cells #[.slice d10.ex x.d.exits.length d10.exc, .slice d10.pl x.d.players.length d10.plc, .slice d10.co x.d.coins.length d10.coc, .slice d10.it x.d.items.length d10.itc, .slice d10.bo x.d.boxes.length d10.boc, .int .i64 x.d.room, .int .i64 x.d.player, .int .i64 x.d.box, .slice a10 x.at_.length ac10, .slice k10 x.coins.length kc10, .slice (some ⟨bz, 0, none⟩) x.wher.length wc10] 29)) from ((Below.refl _ _).alloc (by exact Nat.le_refl _) (.cells #[.slice d10.ex x.d.exits.length d10.exc, .slice d10.pl x.d.players.length d10.plc, .slice d10.co x.d.coins.length d10.coc, .slice d10.it x.d.items.length d10.itc, .slice d10.bo x.d.boxes.length d10.boc, .int .i64 x.d.room, .int .i64 x.d.player, .int .i64 x.d.box, .slice a10 x.at_.length ac10, .slice k10 x.coins.length kc10, .slice (some ⟨bz, 0, none⟩) x.wher.length wc10] 29)))
      clear H_15
      go_wp2_with fail
      clear hc c0 c1 f0 f1
      generalize (((w10.setCell ⟨bz, g * 2, none⟩ (.int .i64 2)).setCell ⟨bz, g * 2 + 1, none⟩ (.int .i64 (g : Int))).alloc (.cells #[.slice d10.ex x.d.exits.length d10.exc, .slice d10.pl x.d.players.length d10.plc, .slice d10.co x.d.coins.length d10.coc, .slice d10.it x.d.items.length d10.itc, .slice d10.bo x.d.boxes.length d10.boc, .int .i64 x.d.room, .int .i64 x.d.player, .int .i64 x.d.box, .slice a10 x.at_.length ac10, .slice k10 x.coins.length kc10, .slice (some ⟨bz, 0, none⟩) x.wher.length wc10] 29)) = V10 at *
      generalize ((w10.setCell ⟨bz, g * 2, none⟩ (.int .i64 2)).setCell ⟨bz, g * 2 + 1, none⟩ (.int .i64 (g : Int))) = U10 at *
      refine (copy_any x p V10 (HWA.out.below H_16.out.1 (Nat.le_refl _)) FW.out).mono ?_
      rintro e w11 ⟨⟨d11, a11, ac11, k11, kc11, p11, wc11⟩, rfl, own11, b11⟩
      have H_17 := Lib.hid (H_16.out.call b11)
      have HZ_17 := Lib.hid (HZ_16.out.call b11)
      have BZ_17 := Lib.hid (below_call BZ_16.out (by omega) b11)
      have s17 := b11.size
      clear b11 H_16 HZ_16 BZ_16
      obtain ⟨bu, ou, hbu, hu0, c0, c1⟩ := PlsAt.cells own11.world.wh hgl
      simp only at hbu
      subst hbu
      have hpk := place_kinds ((right_in HR.out).2.2 x.wher[g] (List.getElem_mem hgl))
      have CAP := Lib.hid (fun (d' : Ds) => right_cap_no (x := x) hgl (d' := d'))
      have hcl16 := List.count_le_length (a := x.wher[g]) (l := x.wher)
      have hl16 := HLN.out.2.2.2.1
      have OU := Lib.hid own11.world
      have B11 := Lib.hid (Below.refl w11.heap.size w11)
      clear own11
      generalize x.wher[g] = y at *
      obtain ⟨yk, yi⟩ := y
      simp only at c0 c1 hpk CAP
      have hk3 : yk = 1 ∨ yk = 2 ∨ yk = 0 := by omega
      clear hpk
      rcases hk3 with rfl | rfl | rfl
      · have KU := Lib.hid ((Blk.new w11 29 #[.slice d11.ex x.d.exits.length d11.exc, .slice d11.pl x.d.players.length d11.plc, .slice d11.co x.d.coins.length d11.coc, .slice d11.it x.d.items.length d11.itc, .slice d11.bo x.d.boxes.length d11.boc, .int .i64 x.d.room, .int .i64 x.d.player, .int .i64 x.d.box, .slice a11 x.at_.length ac11, .slice k11 x.coins.length kc11, .slice (some ⟨bu, ou, none⟩) x.wher.length wc11]).alloc (.cells #[.int .i64 1, .int .i64 yi] 41))
        have z18 : w11.heap.size = w11.heap.size := rfl
        have HU_18 := Lib.hid ((Holds.newb (w := w) (A := #[.slice d11.ex x.d.exits.length d11.exc, .slice d11.pl x.d.players.length d11.plc, .slice d11.co x.d.coins.length d11.coc, .slice d11.it x.d.items.length d11.itc, .slice d11.bo x.d.boxes.length d11.boc, .int .i64 x.d.room, .int .i64 x.d.player, .int .i64 x.d.box, .slice a11 x.at_.length ac11, .slice k11 x.coins.length kc11, .slice (some ⟨bu, ou, none⟩) x.wher.length wc11]) (t := 29) (n := w11.heap.size) H_17.out.1 (by exact z18)).alloc (.cells #[.int .i64 1, .int .i64 yi] 41))
        have HP_18 := Lib.hid (Holds.newb (w := w) (A := #[.int .i64 1, .int .i64 yi]) (t := 41) (n := w11.heap.size + 1) (H_17.out.alloc (.cells #[.slice d11.ex x.d.exits.length d11.exc, .slice d11.pl x.d.players.length d11.plc, .slice d11.co x.d.coins.length d11.coc, .slice d11.it x.d.items.length d11.itc, .slice d11.bo x.d.boxes.length d11.boc, .int .i64 x.d.room, .int .i64 x.d.player, .int .i64 x.d.box, .slice a11 x.at_.length ac11, .slice k11 x.coins.length kc11, .slice (some ⟨bu, ou, none⟩) x.wher.length wc11] 29)).1 (by first | (simp; done) | (simp; exact z18)))
        have H_18 := Lib.hid (((H_17.out.alloc (.cells #[.slice d11.ex x.d.exits.length d11.exc, .slice d11.pl x.d.players.length d11.plc, .slice d11.co x.d.coins.length d11.coc, .slice d11.it x.d.items.length d11.itc, .slice d11.bo x.d.boxes.length d11.boc, .int .i64 x.d.room, .int .i64 x.d.player, .int .i64 x.d.box, .slice a11 x.at_.length ac11, .slice k11 x.coins.length kc11, .slice (some ⟨bu, ou, none⟩) x.wher.length wc11] 29)).alloc (.cells #[.int .i64 1, .int .i64 yi] 41)))
        have HZ_18 := Lib.hid (((HZ_17.out.alloc (.cells #[.slice d11.ex x.d.exits.length d11.exc, .slice d11.pl x.d.players.length d11.plc, .slice d11.co x.d.coins.length d11.coc, .slice d11.it x.d.items.length d11.itc, .slice d11.bo x.d.boxes.length d11.boc, .int .i64 x.d.room, .int .i64 x.d.player, .int .i64 x.d.box, .slice a11 x.at_.length ac11, .slice k11 x.coins.length kc11, .slice (some ⟨bu, ou, none⟩) x.wher.length wc11] 29)).alloc (.cells #[.int .i64 1, .int .i64 yi] 41)))
        have BZ_18 := Lib.hid (((BZ_17.out.alloc (by rw [z18]; omega) (.cells #[.slice d11.ex x.d.exits.length d11.exc, .slice d11.pl x.d.players.length d11.plc, .slice d11.co x.d.coins.length d11.coc, .slice d11.it x.d.items.length d11.itc, .slice d11.bo x.d.boxes.length d11.boc, .int .i64 x.d.room, .int .i64 x.d.player, .int .i64 x.d.box, .slice a11 x.at_.length ac11, .slice k11 x.coins.length kc11, .slice (some ⟨bu, ou, none⟩) x.wher.length wc11] 29)).alloc (by first | (simp; done) | (simp; omega) | (simp; rw [z18]; omega)) (.cells #[.int .i64 1, .int .i64 yi] 41)))
        have BU_18 := Lib.hid (((B11.out.alloc (by rw [z18]; omega) (.cells #[.slice d11.ex x.d.exits.length d11.exc, .slice d11.pl x.d.players.length d11.plc, .slice d11.co x.d.coins.length d11.coc, .slice d11.it x.d.items.length d11.itc, .slice d11.bo x.d.boxes.length d11.boc, .int .i64 x.d.room, .int .i64 x.d.player, .int .i64 x.d.box, .slice a11 x.at_.length ac11, .slice k11 x.coins.length kc11, .slice (some ⟨bu, ou, none⟩) x.wher.length wc11] 29)).alloc (by first | (simp; done) | (simp; omega) | (simp; rw [z18]; omega)) (.cells #[.int .i64 1, .int .i64 yi] 41)))
        have t18 : w11.heap.size + 2 = ((w11.alloc (.cells #[.slice d11.ex x.d.exits.length d11.exc, .slice d11.pl x.d.players.length d11.plc, .slice d11.co x.d.coins.length d11.coc, .slice d11.it x.d.items.length d11.itc, .slice d11.bo x.d.boxes.length d11.boc, .int .i64 x.d.room, .int .i64 x.d.player, .int .i64 x.d.box, .slice a11 x.at_.length ac11, .slice k11 x.coins.length kc11, .slice (some ⟨bu, ou, none⟩) x.wher.length wc11] 29)).alloc (.cells #[.int .i64 1, .int .i64 yi] 41)).heap.size := by simp [World.setCell]
        have hc := H_18.out.2.2
        have hlt11 : w.heap.size < w11.heap.size := by omega
        clear H_17 HZ_17 BZ_17 B11
        go_wp2_with fail
        clear hc c0 c1
        generalize ((w11.alloc (.cells #[.slice d11.ex x.d.exits.length d11.exc, .slice d11.pl x.d.players.length d11.plc, .slice d11.co x.d.coins.length d11.coc, .slice d11.it x.d.items.length d11.itc, .slice d11.bo x.d.boxes.length d11.boc, .int .i64 x.d.room, .int .i64 x.d.player, .int .i64 x.d.box, .slice a11 x.at_.length ac11, .slice k11 x.coins.length kc11, .slice (some ⟨bu, ou, none⟩) x.wher.length wc11] 29)).alloc (.cells #[.int .i64 1, .int .i64 yi] 41)) = V11 at *
        generalize hub : w11.heap.size = ub at *
        have BV0 := Lib.hid (Below.refl V11.heap.size V11)
        refine (many_any x p ⟨1, yi⟩ V11 (HWA.out.below H_18.out.1 (Nat.le_refl _)).wh).mono ?_
        rintro e w12 ⟨rfl, b12⟩
        have H_19 := Lib.hid (H_18.out.call b12)
        have HZ_19 := Lib.hid (HZ_18.out.call b12)
        have HU_19 := Lib.hid (HU_18.out.call b12)
        have HP_19 := Lib.hid (HP_18.out.call b12)
        have BZ_19 := Lib.hid (below_call BZ_18.out (by omega) b12)
        have BU_19 := Lib.hid (below_call BU_18.out (by omega) b12)
        have BV_19 := Lib.hid (below_call BV0.out (by omega) b12)
        have s19 := b12.size
        clear b12 H_18 HZ_18 HU_18 HP_18 BZ_18 BU_18 BV0
        have hwc : IntKind.i64.wrap (((x.wher.count ⟨1, yi⟩ : Nat) : Int) - 1) = ((x.wher.count ⟨1, yi⟩ : Nat) : Int) - 1 := IntWalk.i64_in _ (by omega)
        have RU := Lib.hid (show rightW ⟨⟨x.d.exits, x.d.players, x.d.coins, x.d.items, x.d.boxes, x.d.room, ((x.wher.count ⟨1, yi⟩ : Nat) : Int) - 1, x.d.box⟩, x.at_, x.coins, x.wher⟩ = false from CAP.out _ (by simp [capOf]))
        have OV := Lib.hid (show WorldAt w11 ⟨d11, a11, ac11, k11, kc11, some ⟨bu, ou, none⟩, wc11⟩ ⟨⟨x.d.exits, x.d.players, x.d.coins, x.d.items, x.d.boxes, x.d.room, ((x.wher.count ⟨1, yi⟩ : Nat) : Int) - 1, x.d.box⟩, x.at_, x.coins, x.wher⟩ from ⟨⟨OU.out.d.ex, OU.out.d.pl, OU.out.d.co, OU.out.d.it, OU.out.d.bo⟩, OU.out.at_, OU.out.co, OU.out.wh⟩)
        have KU2 := Lib.hid (KU.out.call BV_19.out)
        have hcu := KU2.out.cell
        have hfu := KU2.out.frozen
        have hlu : ub < w12.heap.size := KU2.out.lt
        clear BV_19 KU HU_19
        have KU3 := Lib.hid (show ∀ i, (w12.setCell ⟨ub, 6, none⟩ (.int .i64 (((x.wher.count ⟨1, yi⟩ : Nat) : Int) - 1))).cell? ⟨ub, i, none⟩ = (#[.slice d11.ex x.d.exits.length d11.exc, .slice d11.pl x.d.players.length d11.plc, .slice d11.co x.d.coins.length d11.coc, .slice d11.it x.d.items.length d11.itc, .slice d11.bo x.d.boxes.length d11.boc, .int .i64 x.d.room, .int .i64 (((x.wher.count ⟨1, yi⟩ : Nat) : Int) - 1), .int .i64 x.d.box, .slice a11 x.at_.length ac11, .slice k11 x.coins.length kc11, .slice (some ⟨bu, ou, none⟩) x.wher.length wc11][i]? : Option Value) from (KU2.out.set_ 6 _).cell)
        have hlz : w10.heap.size < w12.heap.size := by omega
        have hlp : ub + 1 < w12.heap.size := HP_19.out.2.1
        have ne_H_ub_20 : w.heap.size ≠ ub := by omega
        have ne_HZ_ub_20 : w10.heap.size ≠ ub := by omega
        have ne_HP_ub_20 : ub + 1 ≠ ub := by omega
        have hw_ub_20 : w.heap.size ≤ ub := by omega
        have na_ub_20 : w12.heap.size ≠ ub := by omega
        have nb_ub_20 : ub ≠ w12.heap.size := by omega
        have z20 : (w12.setCell ⟨ub, 6, none⟩ (.int .i64 (((x.wher.count ⟨1, yi⟩ : Nat) : Int) - 1))).heap.size = w12.heap.size := by simp [World.setCell]
        have H_20 := Lib.hid ((H_19.out.far (b := ub) hw_ub_20 ne_H_ub_20 (6) (.int .i64 (((x.wher.count ⟨1, yi⟩ : Nat) : Int) - 1))))
        have HZ_20 := Lib.hid ((HZ_19.out.far (b := ub) hw_ub_20 ne_HZ_ub_20 (6) (.int .i64 (((x.wher.count ⟨1, yi⟩ : Nat) : Int) - 1))))
        have HP_20 := Lib.hid ((HP_19.out.far (b := ub) hw_ub_20 ne_HP_ub_20 (6) (.int .i64 (((x.wher.count ⟨1, yi⟩ : Nat) : Int) - 1))))
        have BZ_20 := Lib.hid ((BZ_19.out.setCell (p := ⟨ub, 6, none⟩) (by first | (show U10.heap.size ≤ ub; omega) | (dsimp only; omega)) (.int .i64 (((x.wher.count ⟨1, yi⟩ : Nat) : Int) - 1))))
        have BU_20 := Lib.hid ((BU_19.out.setCell (p := ⟨ub, 6, none⟩) (by first | (show w11.heap.size ≤ ub; omega) | (dsimp only; omega)) (.int .i64 (((x.wher.count ⟨1, yi⟩ : Nat) : Int) - 1))))
        have t20 : w12.heap.size = (w12.setCell ⟨ub, 6, none⟩ (.int .i64 (((x.wher.count ⟨1, yi⟩ : Nat) : Int) - 1))).heap.size := z20.symm
        have hcp := HP_20.out.2.2
        have hcz := HZ_20.out.2.2
        clear H_19 HZ_19 HP_19 BZ_19 BU_19
        go_wp2_with fail
        clear hcp hcz hcu hfu
        generalize (w12.setCell ⟨ub, 6, none⟩ (.int .i64 (((x.wher.count ⟨1, yi⟩ : Nat) : Int) - 1))) = E1 at *
        have BE0 := Lib.hid (Below.refl E1.heap.size E1)
        refine (right_not (⟨rfl, rfl, rfl, rfl, rfl, rfl, rfl, rfl, rfl, rfl, by simp⟩ : Shape x ⟨x.d, x.at_, x.coins, x.wher.set g ⟨2, (g : Int)⟩⟩) (right_self_no hgl) ⟨d10, a10, ac10, k10, kc10, some ⟨bz, 0, none⟩, wc10⟩ E1 (OZ.out.below BZ_20.out (Nat.le_refl _))).mono ?_
        rintro e w13 ⟨rfl, b13⟩
        have H_21 := Lib.hid (H_20.out.call b13)
        have HZ_21 := Lib.hid (HZ_20.out.call b13)
        have HP_21 := Lib.hid (HP_20.out.call b13)
        have BZ_21 := Lib.hid (below_call BZ_20.out (by omega) b13)
        have BU_21 := Lib.hid (below_call BU_20.out (by omega) b13)
        have BE_21 := Lib.hid (below_call BE0.out (by omega) b13)
        have s21 := b13.size
        clear b13 H_20 HZ_20 HP_20 BZ_20 BU_20 BE0
        have hcu := fun i => (BE_21.out.cell (p := ⟨ub, i, none⟩) (by show ub < E1.heap.size; omega)).trans (KU3.out i)
        go_wp2_with fail
        clear hcu
        refine (right_not (Shape.refl ⟨⟨x.d.exits, x.d.players, x.d.coins, x.d.items, x.d.boxes, x.d.room, ((x.wher.count ⟨1, yi⟩ : Nat) : Int) - 1, x.d.box⟩, x.at_, x.coins, x.wher⟩) RU.out ⟨d11, a11, ac11, k11, kc11, some ⟨bu, ou, none⟩, wc11⟩ w13 (OV.out.below BU_21.out (by first | exact Nat.le_refl _ | omega))).mono ?_
        rintro e w14 ⟨rfl, b14⟩
        have H_22 := Lib.hid (H_21.out.call b14)
        have HZ_22 := Lib.hid (HZ_21.out.call b14)
        have HP_22 := Lib.hid (HP_21.out.call b14)
        have BZ_22 := Lib.hid (below_call BZ_21.out (by omega) b14)
        have BU_22 := Lib.hid (below_call BU_21.out (by omega) b14)
        have BE_22 := Lib.hid (below_call BE_21.out (by omega) b14)
        have s22 := b14.size
        clear b14 H_21 HZ_21 HP_21 BZ_21 BU_21 BE_21
        go_wp2_with fail
        go_ret
        exact ⟨rfl, H_22.out.1⟩
      · have KU := Lib.hid ((Blk.new w11 29 #[.slice d11.ex x.d.exits.length d11.exc, .slice d11.pl x.d.players.length d11.plc, .slice d11.co x.d.coins.length d11.coc, .slice d11.it x.d.items.length d11.itc, .slice d11.bo x.d.boxes.length d11.boc, .int .i64 x.d.room, .int .i64 x.d.player, .int .i64 x.d.box, .slice a11 x.at_.length ac11, .slice k11 x.coins.length kc11, .slice (some ⟨bu, ou, none⟩) x.wher.length wc11]).alloc (.cells #[.int .i64 2, .int .i64 yi] 41))
        have z18 : w11.heap.size = w11.heap.size := rfl
        have HU_18 := Lib.hid ((Holds.newb (w := w) (A := #[.slice d11.ex x.d.exits.length d11.exc, .slice d11.pl x.d.players.length d11.plc, .slice d11.co x.d.coins.length d11.coc, .slice d11.it x.d.items.length d11.itc, .slice d11.bo x.d.boxes.length d11.boc, .int .i64 x.d.room, .int .i64 x.d.player, .int .i64 x.d.box, .slice a11 x.at_.length ac11, .slice k11 x.coins.length kc11, .slice (some ⟨bu, ou, none⟩) x.wher.length wc11]) (t := 29) (n := w11.heap.size) H_17.out.1 (by exact z18)).alloc (.cells #[.int .i64 2, .int .i64 yi] 41))
        have HP_18 := Lib.hid (Holds.newb (w := w) (A := #[.int .i64 2, .int .i64 yi]) (t := 41) (n := w11.heap.size + 1) (H_17.out.alloc (.cells #[.slice d11.ex x.d.exits.length d11.exc, .slice d11.pl x.d.players.length d11.plc, .slice d11.co x.d.coins.length d11.coc, .slice d11.it x.d.items.length d11.itc, .slice d11.bo x.d.boxes.length d11.boc, .int .i64 x.d.room, .int .i64 x.d.player, .int .i64 x.d.box, .slice a11 x.at_.length ac11, .slice k11 x.coins.length kc11, .slice (some ⟨bu, ou, none⟩) x.wher.length wc11] 29)).1 (by first | (simp; done) | (simp; exact z18)))
        have H_18 := Lib.hid (((H_17.out.alloc (.cells #[.slice d11.ex x.d.exits.length d11.exc, .slice d11.pl x.d.players.length d11.plc, .slice d11.co x.d.coins.length d11.coc, .slice d11.it x.d.items.length d11.itc, .slice d11.bo x.d.boxes.length d11.boc, .int .i64 x.d.room, .int .i64 x.d.player, .int .i64 x.d.box, .slice a11 x.at_.length ac11, .slice k11 x.coins.length kc11, .slice (some ⟨bu, ou, none⟩) x.wher.length wc11] 29)).alloc (.cells #[.int .i64 2, .int .i64 yi] 41)))
        have HZ_18 := Lib.hid (((HZ_17.out.alloc (.cells #[.slice d11.ex x.d.exits.length d11.exc, .slice d11.pl x.d.players.length d11.plc, .slice d11.co x.d.coins.length d11.coc, .slice d11.it x.d.items.length d11.itc, .slice d11.bo x.d.boxes.length d11.boc, .int .i64 x.d.room, .int .i64 x.d.player, .int .i64 x.d.box, .slice a11 x.at_.length ac11, .slice k11 x.coins.length kc11, .slice (some ⟨bu, ou, none⟩) x.wher.length wc11] 29)).alloc (.cells #[.int .i64 2, .int .i64 yi] 41)))
        have BZ_18 := Lib.hid (((BZ_17.out.alloc (by rw [z18]; omega) (.cells #[.slice d11.ex x.d.exits.length d11.exc, .slice d11.pl x.d.players.length d11.plc, .slice d11.co x.d.coins.length d11.coc, .slice d11.it x.d.items.length d11.itc, .slice d11.bo x.d.boxes.length d11.boc, .int .i64 x.d.room, .int .i64 x.d.player, .int .i64 x.d.box, .slice a11 x.at_.length ac11, .slice k11 x.coins.length kc11, .slice (some ⟨bu, ou, none⟩) x.wher.length wc11] 29)).alloc (by first | (simp; done) | (simp; omega) | (simp; rw [z18]; omega)) (.cells #[.int .i64 2, .int .i64 yi] 41)))
        have BU_18 := Lib.hid (((B11.out.alloc (by rw [z18]; omega) (.cells #[.slice d11.ex x.d.exits.length d11.exc, .slice d11.pl x.d.players.length d11.plc, .slice d11.co x.d.coins.length d11.coc, .slice d11.it x.d.items.length d11.itc, .slice d11.bo x.d.boxes.length d11.boc, .int .i64 x.d.room, .int .i64 x.d.player, .int .i64 x.d.box, .slice a11 x.at_.length ac11, .slice k11 x.coins.length kc11, .slice (some ⟨bu, ou, none⟩) x.wher.length wc11] 29)).alloc (by first | (simp; done) | (simp; omega) | (simp; rw [z18]; omega)) (.cells #[.int .i64 2, .int .i64 yi] 41)))
        have t18 : w11.heap.size + 2 = ((w11.alloc (.cells #[.slice d11.ex x.d.exits.length d11.exc, .slice d11.pl x.d.players.length d11.plc, .slice d11.co x.d.coins.length d11.coc, .slice d11.it x.d.items.length d11.itc, .slice d11.bo x.d.boxes.length d11.boc, .int .i64 x.d.room, .int .i64 x.d.player, .int .i64 x.d.box, .slice a11 x.at_.length ac11, .slice k11 x.coins.length kc11, .slice (some ⟨bu, ou, none⟩) x.wher.length wc11] 29)).alloc (.cells #[.int .i64 2, .int .i64 yi] 41)).heap.size := by simp [World.setCell]
        have hc := H_18.out.2.2
        have hlt11 : w.heap.size < w11.heap.size := by omega
        clear H_17 HZ_17 BZ_17 B11
        go_wp2_with fail
        clear hc c0 c1
        generalize ((w11.alloc (.cells #[.slice d11.ex x.d.exits.length d11.exc, .slice d11.pl x.d.players.length d11.plc, .slice d11.co x.d.coins.length d11.coc, .slice d11.it x.d.items.length d11.itc, .slice d11.bo x.d.boxes.length d11.boc, .int .i64 x.d.room, .int .i64 x.d.player, .int .i64 x.d.box, .slice a11 x.at_.length ac11, .slice k11 x.coins.length kc11, .slice (some ⟨bu, ou, none⟩) x.wher.length wc11] 29)).alloc (.cells #[.int .i64 2, .int .i64 yi] 41)) = V11 at *
        generalize hub : w11.heap.size = ub at *
        have BV0 := Lib.hid (Below.refl V11.heap.size V11)
        refine (many_any x p ⟨2, yi⟩ V11 (HWA.out.below H_18.out.1 (Nat.le_refl _)).wh).mono ?_
        rintro e w12 ⟨rfl, b12⟩
        have H_19 := Lib.hid (H_18.out.call b12)
        have HZ_19 := Lib.hid (HZ_18.out.call b12)
        have HU_19 := Lib.hid (HU_18.out.call b12)
        have HP_19 := Lib.hid (HP_18.out.call b12)
        have BZ_19 := Lib.hid (below_call BZ_18.out (by omega) b12)
        have BU_19 := Lib.hid (below_call BU_18.out (by omega) b12)
        have BV_19 := Lib.hid (below_call BV0.out (by omega) b12)
        have s19 := b12.size
        clear b12 H_18 HZ_18 HU_18 HP_18 BZ_18 BU_18 BV0
        have hwc : IntKind.i64.wrap (((x.wher.count ⟨2, yi⟩ : Nat) : Int) - 1) = ((x.wher.count ⟨2, yi⟩ : Nat) : Int) - 1 := IntWalk.i64_in _ (by omega)
        have RU := Lib.hid (show rightW ⟨⟨x.d.exits, x.d.players, x.d.coins, x.d.items, x.d.boxes, x.d.room, x.d.player, ((x.wher.count ⟨2, yi⟩ : Nat) : Int) - 1⟩, x.at_, x.coins, x.wher⟩ = false from CAP.out _ (by simp [capOf]))
        have OV := Lib.hid (show WorldAt w11 ⟨d11, a11, ac11, k11, kc11, some ⟨bu, ou, none⟩, wc11⟩ ⟨⟨x.d.exits, x.d.players, x.d.coins, x.d.items, x.d.boxes, x.d.room, x.d.player, ((x.wher.count ⟨2, yi⟩ : Nat) : Int) - 1⟩, x.at_, x.coins, x.wher⟩ from ⟨⟨OU.out.d.ex, OU.out.d.pl, OU.out.d.co, OU.out.d.it, OU.out.d.bo⟩, OU.out.at_, OU.out.co, OU.out.wh⟩)
        have KU2 := Lib.hid (KU.out.call BV_19.out)
        have hcu := KU2.out.cell
        have hfu := KU2.out.frozen
        have hlu : ub < w12.heap.size := KU2.out.lt
        clear BV_19 KU HU_19
        have KU3 := Lib.hid (show ∀ i, (w12.setCell ⟨ub, 7, none⟩ (.int .i64 (((x.wher.count ⟨2, yi⟩ : Nat) : Int) - 1))).cell? ⟨ub, i, none⟩ = (#[.slice d11.ex x.d.exits.length d11.exc, .slice d11.pl x.d.players.length d11.plc, .slice d11.co x.d.coins.length d11.coc, .slice d11.it x.d.items.length d11.itc, .slice d11.bo x.d.boxes.length d11.boc, .int .i64 x.d.room, .int .i64 x.d.player, .int .i64 (((x.wher.count ⟨2, yi⟩ : Nat) : Int) - 1), .slice a11 x.at_.length ac11, .slice k11 x.coins.length kc11, .slice (some ⟨bu, ou, none⟩) x.wher.length wc11][i]? : Option Value) from (KU2.out.set_ 7 _).cell)
        have hlz : w10.heap.size < w12.heap.size := by omega
        have hlp : ub + 1 < w12.heap.size := HP_19.out.2.1
        have ne_H_ub_20 : w.heap.size ≠ ub := by omega
        have ne_HZ_ub_20 : w10.heap.size ≠ ub := by omega
        have ne_HP_ub_20 : ub + 1 ≠ ub := by omega
        have hw_ub_20 : w.heap.size ≤ ub := by omega
        have na_ub_20 : w12.heap.size ≠ ub := by omega
        have nb_ub_20 : ub ≠ w12.heap.size := by omega
        have z20 : (w12.setCell ⟨ub, 7, none⟩ (.int .i64 (((x.wher.count ⟨2, yi⟩ : Nat) : Int) - 1))).heap.size = w12.heap.size := by simp [World.setCell]
        have H_20 := Lib.hid ((H_19.out.far (b := ub) hw_ub_20 ne_H_ub_20 (7) (.int .i64 (((x.wher.count ⟨2, yi⟩ : Nat) : Int) - 1))))
        have HZ_20 := Lib.hid ((HZ_19.out.far (b := ub) hw_ub_20 ne_HZ_ub_20 (7) (.int .i64 (((x.wher.count ⟨2, yi⟩ : Nat) : Int) - 1))))
        have HP_20 := Lib.hid ((HP_19.out.far (b := ub) hw_ub_20 ne_HP_ub_20 (7) (.int .i64 (((x.wher.count ⟨2, yi⟩ : Nat) : Int) - 1))))
        have BZ_20 := Lib.hid ((BZ_19.out.setCell (p := ⟨ub, 7, none⟩) (by first | (show U10.heap.size ≤ ub; omega) | (dsimp only; omega)) (.int .i64 (((x.wher.count ⟨2, yi⟩ : Nat) : Int) - 1))))
        have BU_20 := Lib.hid ((BU_19.out.setCell (p := ⟨ub, 7, none⟩) (by first | (show w11.heap.size ≤ ub; omega) | (dsimp only; omega)) (.int .i64 (((x.wher.count ⟨2, yi⟩ : Nat) : Int) - 1))))
        have t20 : w12.heap.size = (w12.setCell ⟨ub, 7, none⟩ (.int .i64 (((x.wher.count ⟨2, yi⟩ : Nat) : Int) - 1))).heap.size := z20.symm
        have hcp := HP_20.out.2.2
        have hcz := HZ_20.out.2.2
        clear H_19 HZ_19 HP_19 BZ_19 BU_19
        go_wp2_with fail
        clear hcp hcz hcu hfu
        generalize (w12.setCell ⟨ub, 7, none⟩ (.int .i64 (((x.wher.count ⟨2, yi⟩ : Nat) : Int) - 1))) = E1 at *
        have BE0 := Lib.hid (Below.refl E1.heap.size E1)
        refine (right_not (⟨rfl, rfl, rfl, rfl, rfl, rfl, rfl, rfl, rfl, rfl, by simp⟩ : Shape x ⟨x.d, x.at_, x.coins, x.wher.set g ⟨2, (g : Int)⟩⟩) (right_self_no hgl) ⟨d10, a10, ac10, k10, kc10, some ⟨bz, 0, none⟩, wc10⟩ E1 (OZ.out.below BZ_20.out (Nat.le_refl _))).mono ?_
        rintro e w13 ⟨rfl, b13⟩
        have H_21 := Lib.hid (H_20.out.call b13)
        have HZ_21 := Lib.hid (HZ_20.out.call b13)
        have HP_21 := Lib.hid (HP_20.out.call b13)
        have BZ_21 := Lib.hid (below_call BZ_20.out (by omega) b13)
        have BU_21 := Lib.hid (below_call BU_20.out (by omega) b13)
        have BE_21 := Lib.hid (below_call BE0.out (by omega) b13)
        have s21 := b13.size
        clear b13 H_20 HZ_20 HP_20 BZ_20 BU_20 BE0
        have hcu := fun i => (BE_21.out.cell (p := ⟨ub, i, none⟩) (by show ub < E1.heap.size; omega)).trans (KU3.out i)
        go_wp2_with fail
        clear hcu
        refine (right_not (Shape.refl ⟨⟨x.d.exits, x.d.players, x.d.coins, x.d.items, x.d.boxes, x.d.room, x.d.player, ((x.wher.count ⟨2, yi⟩ : Nat) : Int) - 1⟩, x.at_, x.coins, x.wher⟩) RU.out ⟨d11, a11, ac11, k11, kc11, some ⟨bu, ou, none⟩, wc11⟩ w13 (OV.out.below BU_21.out (by first | exact Nat.le_refl _ | omega))).mono ?_
        rintro e w14 ⟨rfl, b14⟩
        have H_22 := Lib.hid (H_21.out.call b14)
        have HZ_22 := Lib.hid (HZ_21.out.call b14)
        have HP_22 := Lib.hid (HP_21.out.call b14)
        have BZ_22 := Lib.hid (below_call BZ_21.out (by omega) b14)
        have BU_22 := Lib.hid (below_call BU_21.out (by omega) b14)
        have BE_22 := Lib.hid (below_call BE_21.out (by omega) b14)
        have s22 := b14.size
        clear b14 H_21 HZ_21 HP_21 BZ_21 BU_21 BE_21
        go_wp2_with fail
        go_ret
        exact ⟨rfl, H_22.out.1⟩
      · have KU := Lib.hid ((Blk.new w11 29 #[.slice d11.ex x.d.exits.length d11.exc, .slice d11.pl x.d.players.length d11.plc, .slice d11.co x.d.coins.length d11.coc, .slice d11.it x.d.items.length d11.itc, .slice d11.bo x.d.boxes.length d11.boc, .int .i64 x.d.room, .int .i64 x.d.player, .int .i64 x.d.box, .slice a11 x.at_.length ac11, .slice k11 x.coins.length kc11, .slice (some ⟨bu, ou, none⟩) x.wher.length wc11]).alloc (.cells #[.int .i64 0, .int .i64 yi] 41))
        have z18 : w11.heap.size = w11.heap.size := rfl
        have HU_18 := Lib.hid ((Holds.newb (w := w) (A := #[.slice d11.ex x.d.exits.length d11.exc, .slice d11.pl x.d.players.length d11.plc, .slice d11.co x.d.coins.length d11.coc, .slice d11.it x.d.items.length d11.itc, .slice d11.bo x.d.boxes.length d11.boc, .int .i64 x.d.room, .int .i64 x.d.player, .int .i64 x.d.box, .slice a11 x.at_.length ac11, .slice k11 x.coins.length kc11, .slice (some ⟨bu, ou, none⟩) x.wher.length wc11]) (t := 29) (n := w11.heap.size) H_17.out.1 (by exact z18)).alloc (.cells #[.int .i64 0, .int .i64 yi] 41))
        have HP_18 := Lib.hid (Holds.newb (w := w) (A := #[.int .i64 0, .int .i64 yi]) (t := 41) (n := w11.heap.size + 1) (H_17.out.alloc (.cells #[.slice d11.ex x.d.exits.length d11.exc, .slice d11.pl x.d.players.length d11.plc, .slice d11.co x.d.coins.length d11.coc, .slice d11.it x.d.items.length d11.itc, .slice d11.bo x.d.boxes.length d11.boc, .int .i64 x.d.room, .int .i64 x.d.player, .int .i64 x.d.box, .slice a11 x.at_.length ac11, .slice k11 x.coins.length kc11, .slice (some ⟨bu, ou, none⟩) x.wher.length wc11] 29)).1 (by first | (simp; done) | (simp; exact z18)))
        have H_18 := Lib.hid (((H_17.out.alloc (.cells #[.slice d11.ex x.d.exits.length d11.exc, .slice d11.pl x.d.players.length d11.plc, .slice d11.co x.d.coins.length d11.coc, .slice d11.it x.d.items.length d11.itc, .slice d11.bo x.d.boxes.length d11.boc, .int .i64 x.d.room, .int .i64 x.d.player, .int .i64 x.d.box, .slice a11 x.at_.length ac11, .slice k11 x.coins.length kc11, .slice (some ⟨bu, ou, none⟩) x.wher.length wc11] 29)).alloc (.cells #[.int .i64 0, .int .i64 yi] 41)))
        have HZ_18 := Lib.hid (((HZ_17.out.alloc (.cells #[.slice d11.ex x.d.exits.length d11.exc, .slice d11.pl x.d.players.length d11.plc, .slice d11.co x.d.coins.length d11.coc, .slice d11.it x.d.items.length d11.itc, .slice d11.bo x.d.boxes.length d11.boc, .int .i64 x.d.room, .int .i64 x.d.player, .int .i64 x.d.box, .slice a11 x.at_.length ac11, .slice k11 x.coins.length kc11, .slice (some ⟨bu, ou, none⟩) x.wher.length wc11] 29)).alloc (.cells #[.int .i64 0, .int .i64 yi] 41)))
        have BZ_18 := Lib.hid (((BZ_17.out.alloc (by rw [z18]; omega) (.cells #[.slice d11.ex x.d.exits.length d11.exc, .slice d11.pl x.d.players.length d11.plc, .slice d11.co x.d.coins.length d11.coc, .slice d11.it x.d.items.length d11.itc, .slice d11.bo x.d.boxes.length d11.boc, .int .i64 x.d.room, .int .i64 x.d.player, .int .i64 x.d.box, .slice a11 x.at_.length ac11, .slice k11 x.coins.length kc11, .slice (some ⟨bu, ou, none⟩) x.wher.length wc11] 29)).alloc (by first | (simp; done) | (simp; omega) | (simp; rw [z18]; omega)) (.cells #[.int .i64 0, .int .i64 yi] 41)))
        have BU_18 := Lib.hid (((B11.out.alloc (by rw [z18]; omega) (.cells #[.slice d11.ex x.d.exits.length d11.exc, .slice d11.pl x.d.players.length d11.plc, .slice d11.co x.d.coins.length d11.coc, .slice d11.it x.d.items.length d11.itc, .slice d11.bo x.d.boxes.length d11.boc, .int .i64 x.d.room, .int .i64 x.d.player, .int .i64 x.d.box, .slice a11 x.at_.length ac11, .slice k11 x.coins.length kc11, .slice (some ⟨bu, ou, none⟩) x.wher.length wc11] 29)).alloc (by first | (simp; done) | (simp; omega) | (simp; rw [z18]; omega)) (.cells #[.int .i64 0, .int .i64 yi] 41)))
        have t18 : w11.heap.size + 2 = ((w11.alloc (.cells #[.slice d11.ex x.d.exits.length d11.exc, .slice d11.pl x.d.players.length d11.plc, .slice d11.co x.d.coins.length d11.coc, .slice d11.it x.d.items.length d11.itc, .slice d11.bo x.d.boxes.length d11.boc, .int .i64 x.d.room, .int .i64 x.d.player, .int .i64 x.d.box, .slice a11 x.at_.length ac11, .slice k11 x.coins.length kc11, .slice (some ⟨bu, ou, none⟩) x.wher.length wc11] 29)).alloc (.cells #[.int .i64 0, .int .i64 yi] 41)).heap.size := by simp [World.setCell]
        have hc := H_18.out.2.2
        have hlt11 : w.heap.size < w11.heap.size := by omega
        clear H_17 HZ_17 BZ_17 B11
        go_wp2_with fail
        clear hc c0 c1
        generalize ((w11.alloc (.cells #[.slice d11.ex x.d.exits.length d11.exc, .slice d11.pl x.d.players.length d11.plc, .slice d11.co x.d.coins.length d11.coc, .slice d11.it x.d.items.length d11.itc, .slice d11.bo x.d.boxes.length d11.boc, .int .i64 x.d.room, .int .i64 x.d.player, .int .i64 x.d.box, .slice a11 x.at_.length ac11, .slice k11 x.coins.length kc11, .slice (some ⟨bu, ou, none⟩) x.wher.length wc11] 29)).alloc (.cells #[.int .i64 0, .int .i64 yi] 41)) = V11 at *
        generalize hub : w11.heap.size = ub at *
        have BV0 := Lib.hid (Below.refl V11.heap.size V11)
        refine (many_any x p ⟨0, yi⟩ V11 (HWA.out.below H_18.out.1 (Nat.le_refl _)).wh).mono ?_
        rintro e w12 ⟨rfl, b12⟩
        have H_19 := Lib.hid (H_18.out.call b12)
        have HZ_19 := Lib.hid (HZ_18.out.call b12)
        have HU_19 := Lib.hid (HU_18.out.call b12)
        have HP_19 := Lib.hid (HP_18.out.call b12)
        have BZ_19 := Lib.hid (below_call BZ_18.out (by omega) b12)
        have BU_19 := Lib.hid (below_call BU_18.out (by omega) b12)
        have BV_19 := Lib.hid (below_call BV0.out (by omega) b12)
        have s19 := b12.size
        clear b12 H_18 HZ_18 HU_18 HP_18 BZ_18 BU_18 BV0
        have hwc : IntKind.i64.wrap (((x.wher.count ⟨0, yi⟩ : Nat) : Int) - 1) = ((x.wher.count ⟨0, yi⟩ : Nat) : Int) - 1 := IntWalk.i64_in _ (by omega)
        have RU := Lib.hid (show rightW ⟨⟨x.d.exits, x.d.players, x.d.coins, x.d.items, x.d.boxes, ((x.wher.count ⟨0, yi⟩ : Nat) : Int) - 1, x.d.player, x.d.box⟩, x.at_, x.coins, x.wher⟩ = false from CAP.out _ (by simp [capOf]))
        have OV := Lib.hid (show WorldAt w11 ⟨d11, a11, ac11, k11, kc11, some ⟨bu, ou, none⟩, wc11⟩ ⟨⟨x.d.exits, x.d.players, x.d.coins, x.d.items, x.d.boxes, ((x.wher.count ⟨0, yi⟩ : Nat) : Int) - 1, x.d.player, x.d.box⟩, x.at_, x.coins, x.wher⟩ from ⟨⟨OU.out.d.ex, OU.out.d.pl, OU.out.d.co, OU.out.d.it, OU.out.d.bo⟩, OU.out.at_, OU.out.co, OU.out.wh⟩)
        have KU2 := Lib.hid (KU.out.call BV_19.out)
        have hcu := KU2.out.cell
        have hfu := KU2.out.frozen
        have hlu : ub < w12.heap.size := KU2.out.lt
        clear BV_19 KU HU_19
        have KU3 := Lib.hid (show ∀ i, (w12.setCell ⟨ub, 5, none⟩ (.int .i64 (((x.wher.count ⟨0, yi⟩ : Nat) : Int) - 1))).cell? ⟨ub, i, none⟩ = (#[.slice d11.ex x.d.exits.length d11.exc, .slice d11.pl x.d.players.length d11.plc, .slice d11.co x.d.coins.length d11.coc, .slice d11.it x.d.items.length d11.itc, .slice d11.bo x.d.boxes.length d11.boc, .int .i64 (((x.wher.count ⟨0, yi⟩ : Nat) : Int) - 1), .int .i64 x.d.player, .int .i64 x.d.box, .slice a11 x.at_.length ac11, .slice k11 x.coins.length kc11, .slice (some ⟨bu, ou, none⟩) x.wher.length wc11][i]? : Option Value) from (KU2.out.set_ 5 _).cell)
        have hlz : w10.heap.size < w12.heap.size := by omega
        have hlp : ub + 1 < w12.heap.size := HP_19.out.2.1
        have ne_H_ub_20 : w.heap.size ≠ ub := by omega
        have ne_HZ_ub_20 : w10.heap.size ≠ ub := by omega
        have ne_HP_ub_20 : ub + 1 ≠ ub := by omega
        have hw_ub_20 : w.heap.size ≤ ub := by omega
        have na_ub_20 : w12.heap.size ≠ ub := by omega
        have nb_ub_20 : ub ≠ w12.heap.size := by omega
        have z20 : (w12.setCell ⟨ub, 5, none⟩ (.int .i64 (((x.wher.count ⟨0, yi⟩ : Nat) : Int) - 1))).heap.size = w12.heap.size := by simp [World.setCell]
        have H_20 := Lib.hid ((H_19.out.far (b := ub) hw_ub_20 ne_H_ub_20 (5) (.int .i64 (((x.wher.count ⟨0, yi⟩ : Nat) : Int) - 1))))
        have HZ_20 := Lib.hid ((HZ_19.out.far (b := ub) hw_ub_20 ne_HZ_ub_20 (5) (.int .i64 (((x.wher.count ⟨0, yi⟩ : Nat) : Int) - 1))))
        have HP_20 := Lib.hid ((HP_19.out.far (b := ub) hw_ub_20 ne_HP_ub_20 (5) (.int .i64 (((x.wher.count ⟨0, yi⟩ : Nat) : Int) - 1))))
        have BZ_20 := Lib.hid ((BZ_19.out.setCell (p := ⟨ub, 5, none⟩) (by first | (show U10.heap.size ≤ ub; omega) | (dsimp only; omega)) (.int .i64 (((x.wher.count ⟨0, yi⟩ : Nat) : Int) - 1))))
        have BU_20 := Lib.hid ((BU_19.out.setCell (p := ⟨ub, 5, none⟩) (by first | (show w11.heap.size ≤ ub; omega) | (dsimp only; omega)) (.int .i64 (((x.wher.count ⟨0, yi⟩ : Nat) : Int) - 1))))
        have t20 : w12.heap.size = (w12.setCell ⟨ub, 5, none⟩ (.int .i64 (((x.wher.count ⟨0, yi⟩ : Nat) : Int) - 1))).heap.size := z20.symm
        have hcp := HP_20.out.2.2
        have hcz := HZ_20.out.2.2
        clear H_19 HZ_19 HP_19 BZ_19 BU_19
        go_wp2_with fail
        clear hcp hcz hcu hfu
        generalize (w12.setCell ⟨ub, 5, none⟩ (.int .i64 (((x.wher.count ⟨0, yi⟩ : Nat) : Int) - 1))) = E1 at *
        have BE0 := Lib.hid (Below.refl E1.heap.size E1)
        refine (right_not (⟨rfl, rfl, rfl, rfl, rfl, rfl, rfl, rfl, rfl, rfl, by simp⟩ : Shape x ⟨x.d, x.at_, x.coins, x.wher.set g ⟨2, (g : Int)⟩⟩) (right_self_no hgl) ⟨d10, a10, ac10, k10, kc10, some ⟨bz, 0, none⟩, wc10⟩ E1 (OZ.out.below BZ_20.out (Nat.le_refl _))).mono ?_
        rintro e w13 ⟨rfl, b13⟩
        have H_21 := Lib.hid (H_20.out.call b13)
        have HZ_21 := Lib.hid (HZ_20.out.call b13)
        have HP_21 := Lib.hid (HP_20.out.call b13)
        have BZ_21 := Lib.hid (below_call BZ_20.out (by omega) b13)
        have BU_21 := Lib.hid (below_call BU_20.out (by omega) b13)
        have BE_21 := Lib.hid (below_call BE0.out (by omega) b13)
        have s21 := b13.size
        clear b13 H_20 HZ_20 HP_20 BZ_20 BU_20 BE0
        have hcu := fun i => (BE_21.out.cell (p := ⟨ub, i, none⟩) (by show ub < E1.heap.size; omega)).trans (KU3.out i)
        go_wp2_with fail
        clear hcu
        refine (right_not (Shape.refl ⟨⟨x.d.exits, x.d.players, x.d.coins, x.d.items, x.d.boxes, ((x.wher.count ⟨0, yi⟩ : Nat) : Int) - 1, x.d.player, x.d.box⟩, x.at_, x.coins, x.wher⟩) RU.out ⟨d11, a11, ac11, k11, kc11, some ⟨bu, ou, none⟩, wc11⟩ w13 (OV.out.below BU_21.out (by first | exact Nat.le_refl _ | omega))).mono ?_
        rintro e w14 ⟨rfl, b14⟩
        have H_22 := Lib.hid (H_21.out.call b14)
        have HZ_22 := Lib.hid (HZ_21.out.call b14)
        have HP_22 := Lib.hid (HP_21.out.call b14)
        have BZ_22 := Lib.hid (below_call BZ_21.out (by omega) b14)
        have BU_22 := Lib.hid (below_call BU_21.out (by omega) b14)
        have BE_22 := Lib.hid (below_call BE_21.out (by omega) b14)
        have s22 := b14.size
        clear b14 H_21 HZ_21 HP_21 BZ_21 BU_21 BE_21
        go_wp2_with fail
        go_ret
        exact ⟨rfl, H_22.out.1⟩
theorem walk_descRight (x : Wd) (p : Wp) (c : Int) (w : World) (hc : (Lit.int .u8 c).wf = true) (h : WorldAt w p x) : Calls Try.prog 4 #[.agg #[.slice p.d.ex x.d.exits.length p.d.exc, .slice p.d.pl x.d.players.length p.d.plc, .slice p.d.co x.d.coins.length p.d.coc, .slice p.d.it x.d.items.length p.d.itc, .slice p.d.bo x.d.boxes.length p.d.boc, .int .i64 x.d.room, .int .i64 x.d.player, .int .i64 x.d.box, .slice p.at_ x.at_.length p.atc, .slice p.co x.coins.length p.coc, .slice p.wh x.wher.length p.whc], .int .u8 c] w fun e w' => e = .returned (.bool true) ∧ Below w.heap.size w w' := by
  cases hf : fewB x
  · exact descRight_few x p c w h hf
  cases hr : rightW x
  · exact descRight_wrong x p c w h hf hr
  · have hb := wf_u8 hc
    obtain ⟨m, rfl⟩ : ∃ m : Nat, c = m := ⟨c.toNat, by omega⟩
    exact descRight_go x p m (by omega) w h hf hr
set_option maxRecDepth 100000 in
theorem lifted_descRight (os : Os) (started : os.Started) (H : Type) (enc : TypeId × Value → H) :
    ReturnsInHanded {} Try.checked os 4 .any (Rows.descRightSpec.pre6 enc Try.prog Try.f4 Rows.descRightRow.domain false) (Rows.descRightSpec.post enc Try.prog Try.f4 false true false false) := by
  refine returnsInHanded_of_change (C := Try.checked) (by kernel_rfl) started (by kernel_rfl) Try.func4
    (ChangeSpec.witness6 (enc := enc) (C := Try.checked) false ⟨#[], #[.agg #[.slice none 0 0, .slice none 0 0, .slice none 0 0, .slice none 0 0, .slice none 0 0, .int .i64 0, .int .i64 0, .int .i64 0, .slice none 0 0, .slice none 0 0, .slice none 0 0], .int .u8 0], []⟩ 8 (by kernel_rfl) (by kernel_rfl) (by kernel_rfl) (by kernel_rfl)) ?_
  intro W base args ds gs before hval0 hW hcnd _
  have hval : ∀ (j : Nat) t v, Try.f4.params[j]? = some t → args[j]? = some v → Value.okWide Try.prog W .any base t v := hval0
  have hW' := hW
  obtain ⟨p, q, hA0, hV, rfl, hfz, hnd⟩ := hW
  have hA : DataW.TrodAll enc Try.prog W 0 (fun _ => true) true Try.f4.params.toList args.toList ds p := hA0
  rw [Try.params4] at hA hval
  obtain ⟨v0, vs0, d0, ds0, p0, q0, hargs, rfl, rfl, h0, r0⟩ := trodAll_cons hA
  obtain ⟨v1, vs1, d1, ds1, p1, q1, rfl, rfl, rfl, h1, r1⟩ := trodAll_cons r0
  obtain ⟨rfl, rfl, rfl⟩ := trodAll_nil r1
  obtain rfl : args = #[v0, v1] := by cases args; simp_all
  obtain ⟨rfl, rfl⟩ := trodVars_none hV
  obtain ⟨wx0, wp0, rfl, m0⟩ := read_world (hval 0 29 v0 rfl rfl) h0
  obtain ⟨a1, rfl, rfl, rfl, w1⟩ := open_int Try.underlying5 (hval 1 5 v1 rfl rfl) h1
  clear hA0 hval0
  simp only [List.append_nil] at hW'
  refine (walk_descRight wx0 wp0 a1 W w1 m0).mono fun e W' ⟨he, hg⟩ => ?_
  subst he
  exact ⟨_, rfl, law_post (by kernel_rfl) rfl (by rw [Try.params4]; decide +kernel) rfl rfl Try.underlying4 hW' hg⟩

/-- ████ THE STATEMENT ████ -/
theorem proved_descRight : Rows.DescRightSaid :=
  OpenClaim.holds_of_wide 4 Try.f4 rfl rfl rfl rfl rfl rfl rfl ⟨rfl, rfl, rfl, rfl, rfl⟩ rfl rfl rfl rfl rfl (by kernel_rfl) Try.func4 (by kernel_rfl)
    (of_decide_eq_true (by kernel_rfl)) (by unfold Func.isWrapper; first | (rw [if_pos (by decide +kernel)]; kernel_rfl) | (rw [if_neg (by decide +kernel)]; exact ⟨rfl, rfl⟩))
    (fun os started H enc _ => lifted_descRight os started H enc)
#print axioms proved_descRight
end Go.Proofs.Ytniblphklgbpnaa
