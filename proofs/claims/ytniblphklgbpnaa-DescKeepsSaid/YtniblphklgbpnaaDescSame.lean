/- desc.Same: are two worlds the same? -/
import Derived.Test.YtniblphklgbpnaaRows
import Derived.Test.YtniblphklgbpnaaKit
import Derived.Test.YtniblphklgbpnaaStrs
import Derived.Test.YtniblphklgbpnaaBlk
import Derived.Test.YtniblphklgbpnaaHolds
import Derived.Test.YtniblphklgbpnaaSlEqual
import Derived.Test.YtniblphklgbpnaaWorldMath
import Derived.Test.YtniblphklgbpnaaWorldAt
import Derived.Test.YtniblphklgbpnaaDescEq
import Derived.Deep.QuietTactic
import Derived.BigQuiet
import Derived.WalkKit
import Derived.ProofKit
import Derived.OpenShut
import Derived.IntWalk
namespace Go.Proofs.Ytniblphklgbpnaa
open Go.ChangeShapes Go.WideShapes Go.ChangeAt Go.RowKit
set_option linter.unusedVariables false
open Go.RowKit
set_option maxRecDepth 100000 in
theorem samedesc_any (a b : Ds) (p q : Dp) (w : World) (h1 : DescAt w p a) (h2 : DescAt w q b) :
    Calls Try.prog 34 #[.agg #[.slice p.ex a.exits.length p.exc, .slice p.pl a.players.length p.plc, .slice p.co a.coins.length p.coc, .slice p.it a.items.length p.itc, .slice p.bo a.boxes.length p.boc, .int .i64 a.room, .int .i64 a.player, .int .i64 a.box], .agg #[.slice q.ex b.exits.length q.exc, .slice q.pl b.players.length q.plc, .slice q.co b.coins.length q.coc, .slice q.it b.items.length q.itc, .slice q.bo b.boxes.length q.boc, .int .i64 b.room, .int .i64 b.player, .int .i64 b.box]] w fun e w' => e = .returned (.bool (decide (a = b))) ∧ Below w.heap.size w w' := by
  have H1 := Lib.hid h1
  have H2 := Lib.hid h2
  clear h1 h2
  have HP := Lib.hid (Holds.pair w #[.slice p.ex a.exits.length p.exc, .slice p.pl a.players.length p.plc, .slice p.co a.coins.length p.coc, .slice p.it a.items.length p.itc, .slice p.bo a.boxes.length p.boc, .int .i64 a.room, .int .i64 a.player, .int .i64 a.box] #[.slice q.ex b.exits.length q.exc, .slice q.pl b.players.length q.plc, .slice q.co b.coins.length q.coc, .slice q.it b.items.length q.itc, .slice q.bo b.boxes.length q.boc, .int .i64 b.room, .int .i64 b.player, .int .i64 b.box] 26 26)
  by_cases e0 : a.room = b.room
  rotate_left
  · have q0 : (a.room == b.room) = false := by simpa using e0
    have HR := Lib.hid (show decide (a = b) = false from decide_eq_false (fun h => e0 (by rw [h])))
    clear e0
    go_enter Try.func34, Try.ntmps34
    go_wp2_with fail
    go_ret
    exact ⟨ret_bool HR.out.symm, HP.out.1.1⟩
  by_cases e1 : a.player = b.player
  rotate_left
  · have q1 : (a.player == b.player) = false := by simpa using e1
    have q0 : (a.room == b.room) = true := by simpa using e0
    have HR := Lib.hid (show decide (a = b) = false from decide_eq_false (fun h => e1 (by rw [h])))
    clear e0 e1
    go_enter Try.func34, Try.ntmps34
    go_wp2_with fail
    go_ret
    exact ⟨ret_bool HR.out.symm, HP.out.1.1⟩
  by_cases e2 : a.box = b.box
  rotate_left
  · have q2 : (a.box == b.box) = false := by simpa using e2
    have q0 : (a.room == b.room) = true := by simpa using e0
    have q1 : (a.player == b.player) = true := by simpa using e1
    have HR := Lib.hid (show decide (a = b) = false from decide_eq_false (fun h => e2 (by rw [h])))
    clear e0 e1 e2
    go_enter Try.func34, Try.ntmps34
    go_wp2_with fail
    go_ret
    exact ⟨ret_bool HR.out.symm, HP.out.1.1⟩
  by_cases e3 : a.exits = b.exits
  rotate_left
  · have X3 := Lib.hid (show decide (a.exits = b.exits) = false from decide_eq_false e3)
    have q0 : (a.room == b.room) = true := by simpa using e0
    have q1 : (a.player == b.player) = true := by simpa using e1
    have q2 : (a.box == b.box) = true := by simpa using e2
    have HR := Lib.hid (show decide (a = b) = false from decide_eq_false (fun h => e3 (by rw [h])))
    clear e0 e1 e2 e3
    go_enter Try.func34, Try.ntmps34
    go_wp2_with fail
    refine (eqexits_any _ _ _ _ a.exits b.exits _ (H1.out.below HP.out.1.1 (Nat.le_refl _)).ex (H2.out.below HP.out.1.1 (Nat.le_refl _)).ex).mono ?_
    rintro e w1 ⟨rfl, b1⟩
    rw [X3.out]
    have HQ1 := Lib.hid (Holds.call2 HP.out b1)
    clear b1
    go_wp2_with fail
    go_ret
    exact ⟨ret_bool HR.out.symm, HQ1.out.1.1⟩
  by_cases e4 : a.players = b.players
  rotate_left
  · have X4 := Lib.hid (show decide (a.players = b.players) = false from decide_eq_false e4)
    have q0 : (a.room == b.room) = true := by simpa using e0
    have q1 : (a.player == b.player) = true := by simpa using e1
    have q2 : (a.box == b.box) = true := by simpa using e2
    have X3 := Lib.hid (show decide (a.exits = b.exits) = true from decide_eq_true e3)
    have HR := Lib.hid (show decide (a = b) = false from decide_eq_false (fun h => e4 (by rw [h])))
    clear e0 e1 e2 e3 e4
    go_enter Try.func34, Try.ntmps34
    go_wp2_with fail
    refine (eqexits_any _ _ _ _ a.exits b.exits _ (H1.out.below HP.out.1.1 (Nat.le_refl _)).ex (H2.out.below HP.out.1.1 (Nat.le_refl _)).ex).mono ?_
    rintro e w1 ⟨rfl, b1⟩
    rw [X3.out]
    have HQ1 := Lib.hid (Holds.call2 HP.out b1)
    clear b1
    have hcA := HQ1.out.1.2.2
    have hcB := HQ1.out.2.2.2
    go_wp2_with fail
    clear hcA hcB
    refine (equal_any _ _ _ _ a.players b.players w1 (H1.out.below HQ1.out.1.1 (Nat.le_refl _)).pl (H2.out.below HQ1.out.1.1 (Nat.le_refl _)).pl).mono ?_
    rintro e w2 ⟨rfl, b2⟩
    rw [X4.out]
    have HQ2 := Lib.hid (Holds.call2 HQ1.out b2)
    clear b2
    go_wp2_with fail
    go_ret
    exact ⟨ret_bool HR.out.symm, HQ2.out.1.1⟩
  by_cases e5 : a.coins = b.coins
  rotate_left
  · have X5 := Lib.hid (show decide (a.coins = b.coins) = false from decide_eq_false e5)
    have q0 : (a.room == b.room) = true := by simpa using e0
    have q1 : (a.player == b.player) = true := by simpa using e1
    have q2 : (a.box == b.box) = true := by simpa using e2
    have X3 := Lib.hid (show decide (a.exits = b.exits) = true from decide_eq_true e3)
    have X4 := Lib.hid (show decide (a.players = b.players) = true from decide_eq_true e4)
    have HR := Lib.hid (show decide (a = b) = false from decide_eq_false (fun h => e5 (by rw [h])))
    clear e0 e1 e2 e3 e4 e5
    go_enter Try.func34, Try.ntmps34
    go_wp2_with fail
    refine (eqexits_any _ _ _ _ a.exits b.exits _ (H1.out.below HP.out.1.1 (Nat.le_refl _)).ex (H2.out.below HP.out.1.1 (Nat.le_refl _)).ex).mono ?_
    rintro e w1 ⟨rfl, b1⟩
    rw [X3.out]
    have HQ1 := Lib.hid (Holds.call2 HP.out b1)
    clear b1
    have hcA := HQ1.out.1.2.2
    have hcB := HQ1.out.2.2.2
    go_wp2_with fail
    clear hcA hcB
    refine (equal_any _ _ _ _ a.players b.players w1 (H1.out.below HQ1.out.1.1 (Nat.le_refl _)).pl (H2.out.below HQ1.out.1.1 (Nat.le_refl _)).pl).mono ?_
    rintro e w2 ⟨rfl, b2⟩
    rw [X4.out]
    have HQ2 := Lib.hid (Holds.call2 HQ1.out b2)
    clear b2
    have hcA := HQ2.out.1.2.2
    have hcB := HQ2.out.2.2.2
    go_wp2_with fail
    clear hcA hcB
    refine (equal_any _ _ _ _ a.coins b.coins w2 (H1.out.below HQ2.out.1.1 (Nat.le_refl _)).co (H2.out.below HQ2.out.1.1 (Nat.le_refl _)).co).mono ?_
    rintro e w3 ⟨rfl, b3⟩
    rw [X5.out]
    have HQ3 := Lib.hid (Holds.call2 HQ2.out b3)
    clear b3
    go_wp2_with fail
    go_ret
    exact ⟨ret_bool HR.out.symm, HQ3.out.1.1⟩
  by_cases e6 : a.items = b.items
  rotate_left
  · have X6 := Lib.hid (show decide (a.items = b.items) = false from decide_eq_false e6)
    have q0 : (a.room == b.room) = true := by simpa using e0
    have q1 : (a.player == b.player) = true := by simpa using e1
    have q2 : (a.box == b.box) = true := by simpa using e2
    have X3 := Lib.hid (show decide (a.exits = b.exits) = true from decide_eq_true e3)
    have X4 := Lib.hid (show decide (a.players = b.players) = true from decide_eq_true e4)
    have X5 := Lib.hid (show decide (a.coins = b.coins) = true from decide_eq_true e5)
    have HR := Lib.hid (show decide (a = b) = false from decide_eq_false (fun h => e6 (by rw [h])))
    clear e0 e1 e2 e3 e4 e5 e6
    go_enter Try.func34, Try.ntmps34
    go_wp2_with fail
    refine (eqexits_any _ _ _ _ a.exits b.exits _ (H1.out.below HP.out.1.1 (Nat.le_refl _)).ex (H2.out.below HP.out.1.1 (Nat.le_refl _)).ex).mono ?_
    rintro e w1 ⟨rfl, b1⟩
    rw [X3.out]
    have HQ1 := Lib.hid (Holds.call2 HP.out b1)
    clear b1
    have hcA := HQ1.out.1.2.2
    have hcB := HQ1.out.2.2.2
    go_wp2_with fail
    clear hcA hcB
    refine (equal_any _ _ _ _ a.players b.players w1 (H1.out.below HQ1.out.1.1 (Nat.le_refl _)).pl (H2.out.below HQ1.out.1.1 (Nat.le_refl _)).pl).mono ?_
    rintro e w2 ⟨rfl, b2⟩
    rw [X4.out]
    have HQ2 := Lib.hid (Holds.call2 HQ1.out b2)
    clear b2
    have hcA := HQ2.out.1.2.2
    have hcB := HQ2.out.2.2.2
    go_wp2_with fail
    clear hcA hcB
    refine (equal_any _ _ _ _ a.coins b.coins w2 (H1.out.below HQ2.out.1.1 (Nat.le_refl _)).co (H2.out.below HQ2.out.1.1 (Nat.le_refl _)).co).mono ?_
    rintro e w3 ⟨rfl, b3⟩
    rw [X5.out]
    have HQ3 := Lib.hid (Holds.call2 HQ2.out b3)
    clear b3
    have hcA := HQ3.out.1.2.2
    have hcB := HQ3.out.2.2.2
    go_wp2_with fail
    clear hcA hcB
    refine (equal_any _ _ _ _ a.items b.items w3 (H1.out.below HQ3.out.1.1 (Nat.le_refl _)).it (H2.out.below HQ3.out.1.1 (Nat.le_refl _)).it).mono ?_
    rintro e w4 ⟨rfl, b4⟩
    rw [X6.out]
    have HQ4 := Lib.hid (Holds.call2 HQ3.out b4)
    clear b4
    go_wp2_with fail
    go_ret
    exact ⟨ret_bool HR.out.symm, HQ4.out.1.1⟩
  · have q0 : (a.room == b.room) = true := by simpa using e0
    have q1 : (a.player == b.player) = true := by simpa using e1
    have q2 : (a.box == b.box) = true := by simpa using e2
    have X3 := Lib.hid (show decide (a.exits = b.exits) = true from decide_eq_true e3)
    have X4 := Lib.hid (show decide (a.players = b.players) = true from decide_eq_true e4)
    have X5 := Lib.hid (show decide (a.coins = b.coins) = true from decide_eq_true e5)
    have X6 := Lib.hid (show decide (a.items = b.items) = true from decide_eq_true e6)
    have HR := Lib.hid (show decide (a = b) = decide (a.boxes = b.boxes) by
      obtain ⟨a1, a2, a3, a4, a5, a6, a7, a8⟩ := a
      obtain ⟨b1, b2, b3, b4, b5, b6, b7, b8⟩ := b
      simp only at e0 e1 e2 e3 e4 e5 e6
      subst e0 e1 e2 e3 e4 e5 e6
      simp)
    clear e0 e1 e2 e3 e4 e5 e6
    go_enter Try.func34, Try.ntmps34
    go_wp2_with fail
    refine (eqexits_any _ _ _ _ a.exits b.exits _ (H1.out.below HP.out.1.1 (Nat.le_refl _)).ex (H2.out.below HP.out.1.1 (Nat.le_refl _)).ex).mono ?_
    rintro e w1 ⟨rfl, b1⟩
    rw [X3.out]
    have HQ1 := Lib.hid (Holds.call2 HP.out b1)
    clear b1
    have hcA := HQ1.out.1.2.2
    have hcB := HQ1.out.2.2.2
    go_wp2_with fail
    clear hcA hcB
    refine (equal_any _ _ _ _ a.players b.players w1 (H1.out.below HQ1.out.1.1 (Nat.le_refl _)).pl (H2.out.below HQ1.out.1.1 (Nat.le_refl _)).pl).mono ?_
    rintro e w2 ⟨rfl, b2⟩
    rw [X4.out]
    have HQ2 := Lib.hid (Holds.call2 HQ1.out b2)
    clear b2
    have hcA := HQ2.out.1.2.2
    have hcB := HQ2.out.2.2.2
    go_wp2_with fail
    clear hcA hcB
    refine (equal_any _ _ _ _ a.coins b.coins w2 (H1.out.below HQ2.out.1.1 (Nat.le_refl _)).co (H2.out.below HQ2.out.1.1 (Nat.le_refl _)).co).mono ?_
    rintro e w3 ⟨rfl, b3⟩
    rw [X5.out]
    have HQ3 := Lib.hid (Holds.call2 HQ2.out b3)
    clear b3
    have hcA := HQ3.out.1.2.2
    have hcB := HQ3.out.2.2.2
    go_wp2_with fail
    clear hcA hcB
    refine (equal_any _ _ _ _ a.items b.items w3 (H1.out.below HQ3.out.1.1 (Nat.le_refl _)).it (H2.out.below HQ3.out.1.1 (Nat.le_refl _)).it).mono ?_
    rintro e w4 ⟨rfl, b4⟩
    rw [X6.out]
    have HQ4 := Lib.hid (Holds.call2 HQ3.out b4)
    clear b4
    have hcA := HQ4.out.1.2.2
    have hcB := HQ4.out.2.2.2
    go_wp2_with fail
    clear hcA hcB
    refine (eqbools_any _ _ _ _ a.boxes b.boxes w4 (H1.out.below HQ4.out.1.1 (Nat.le_refl _)).bo (H2.out.below HQ4.out.1.1 (Nat.le_refl _)).bo).mono ?_
    rintro e w5 ⟨rfl, b5⟩
    have HQ5 := Lib.hid (Holds.call2 HQ4.out b5)
    clear b5
    go_wp2_with fail
    go_ret
    exact ⟨ret_bool HR.out.symm, HQ5.out.1.1⟩
set_option maxRecDepth 100000 in
theorem same_any (a b : Wd) (p q : Wp) (w : World) (h1 : WorldAt w p a) (h2 : WorldAt w q b) :
    Calls Try.prog 15 #[.agg #[.slice p.d.ex a.d.exits.length p.d.exc, .slice p.d.pl a.d.players.length p.d.plc, .slice p.d.co a.d.coins.length p.d.coc, .slice p.d.it a.d.items.length p.d.itc, .slice p.d.bo a.d.boxes.length p.d.boc, .int .i64 a.d.room, .int .i64 a.d.player, .int .i64 a.d.box, .slice p.at_ a.at_.length p.atc, .slice p.co a.coins.length p.coc, .slice p.wh a.wher.length p.whc], .agg #[.slice q.d.ex b.d.exits.length q.d.exc, .slice q.d.pl b.d.players.length q.d.plc, .slice q.d.co b.d.coins.length q.d.coc, .slice q.d.it b.d.items.length q.d.itc, .slice q.d.bo b.d.boxes.length q.d.boc, .int .i64 b.d.room, .int .i64 b.d.player, .int .i64 b.d.box, .slice q.at_ b.at_.length q.atc, .slice q.co b.coins.length q.coc, .slice q.wh b.wher.length q.whc]] w fun e w' => e = .returned (.bool (decide (a = b))) ∧ Below w.heap.size w w' := by
  have H1 := Lib.hid h1
  have H2 := Lib.hid h2
  clear h1 h2
  have HP := Lib.hid (Holds.pair w #[.slice p.d.ex a.d.exits.length p.d.exc, .slice p.d.pl a.d.players.length p.d.plc, .slice p.d.co a.d.coins.length p.d.coc, .slice p.d.it a.d.items.length p.d.itc, .slice p.d.bo a.d.boxes.length p.d.boc, .int .i64 a.d.room, .int .i64 a.d.player, .int .i64 a.d.box, .slice p.at_ a.at_.length p.atc, .slice p.co a.coins.length p.coc, .slice p.wh a.wher.length p.whc] #[.slice q.d.ex b.d.exits.length q.d.exc, .slice q.d.pl b.d.players.length q.d.plc, .slice q.d.co b.d.coins.length q.d.coc, .slice q.d.it b.d.items.length q.d.itc, .slice q.d.bo b.d.boxes.length q.d.boc, .int .i64 b.d.room, .int .i64 b.d.player, .int .i64 b.d.box, .slice q.at_ b.at_.length q.atc, .slice q.co b.coins.length q.coc, .slice q.wh b.wher.length q.whc] 29 29)
  by_cases e0 : a.d = b.d
  rotate_left
  · have X0 := Lib.hid (show decide (a.d = b.d) = false from decide_eq_false e0)
    have HR := Lib.hid (show decide (a = b) = false from decide_eq_false (fun h => e0 (by rw [h])))
    clear e0
    go_enter Try.func15, Try.ntmps15
    go_wp2_with fail
    refine (samedesc_any a.d b.d p.d q.d _ (H1.out.below HP.out.1.1 (Nat.le_refl _)).d (H2.out.below HP.out.1.1 (Nat.le_refl _)).d).mono ?_
    rintro e w1 ⟨rfl, b1⟩
    rw [X0.out]
    have HQ1 := Lib.hid (Holds.call2 HP.out b1)
    clear b1
    go_wp2_with fail
    go_ret
    exact ⟨ret_bool HR.out.symm, HQ1.out.1.1⟩
  by_cases e1 : a.at_ = b.at_
  rotate_left
  · have X1 := Lib.hid (show decide (a.at_ = b.at_) = false from decide_eq_false e1)
    have X0 := Lib.hid (show decide (a.d = b.d) = true from decide_eq_true e0)
    have HR := Lib.hid (show decide (a = b) = false from decide_eq_false (fun h => e1 (by rw [h])))
    clear e0 e1
    go_enter Try.func15, Try.ntmps15
    go_wp2_with fail
    refine (samedesc_any a.d b.d p.d q.d _ (H1.out.below HP.out.1.1 (Nat.le_refl _)).d (H2.out.below HP.out.1.1 (Nat.le_refl _)).d).mono ?_
    rintro e w1 ⟨rfl, b1⟩
    rw [X0.out]
    have HQ1 := Lib.hid (Holds.call2 HP.out b1)
    clear b1
    have hcA := HQ1.out.1.2.2
    have hcB := HQ1.out.2.2.2
    go_wp2_with fail
    clear hcA hcB
    refine (equal_any _ _ _ _ a.at_ b.at_ w1 (H1.out.below HQ1.out.1.1 (Nat.le_refl _)).at_ (H2.out.below HQ1.out.1.1 (Nat.le_refl _)).at_).mono ?_
    rintro e w2 ⟨rfl, b2⟩
    rw [X1.out]
    have HQ2 := Lib.hid (Holds.call2 HQ1.out b2)
    clear b2
    go_wp2_with fail
    go_ret
    exact ⟨ret_bool HR.out.symm, HQ2.out.1.1⟩
  by_cases e2 : a.coins = b.coins
  rotate_left
  · have X2 := Lib.hid (show decide (a.coins = b.coins) = false from decide_eq_false e2)
    have X0 := Lib.hid (show decide (a.d = b.d) = true from decide_eq_true e0)
    have X1 := Lib.hid (show decide (a.at_ = b.at_) = true from decide_eq_true e1)
    have HR := Lib.hid (show decide (a = b) = false from decide_eq_false (fun h => e2 (by rw [h])))
    clear e0 e1 e2
    go_enter Try.func15, Try.ntmps15
    go_wp2_with fail
    refine (samedesc_any a.d b.d p.d q.d _ (H1.out.below HP.out.1.1 (Nat.le_refl _)).d (H2.out.below HP.out.1.1 (Nat.le_refl _)).d).mono ?_
    rintro e w1 ⟨rfl, b1⟩
    rw [X0.out]
    have HQ1 := Lib.hid (Holds.call2 HP.out b1)
    clear b1
    have hcA := HQ1.out.1.2.2
    have hcB := HQ1.out.2.2.2
    go_wp2_with fail
    clear hcA hcB
    refine (equal_any _ _ _ _ a.at_ b.at_ w1 (H1.out.below HQ1.out.1.1 (Nat.le_refl _)).at_ (H2.out.below HQ1.out.1.1 (Nat.le_refl _)).at_).mono ?_
    rintro e w2 ⟨rfl, b2⟩
    rw [X1.out]
    have HQ2 := Lib.hid (Holds.call2 HQ1.out b2)
    clear b2
    have hcA := HQ2.out.1.2.2
    have hcB := HQ2.out.2.2.2
    go_wp2_with fail
    clear hcA hcB
    refine (equal_any _ _ _ _ a.coins b.coins w2 (H1.out.below HQ2.out.1.1 (Nat.le_refl _)).co (H2.out.below HQ2.out.1.1 (Nat.le_refl _)).co).mono ?_
    rintro e w3 ⟨rfl, b3⟩
    rw [X2.out]
    have HQ3 := Lib.hid (Holds.call2 HQ2.out b3)
    clear b3
    go_wp2_with fail
    go_ret
    exact ⟨ret_bool HR.out.symm, HQ3.out.1.1⟩
  · have X0 := Lib.hid (show decide (a.d = b.d) = true from decide_eq_true e0)
    have X1 := Lib.hid (show decide (a.at_ = b.at_) = true from decide_eq_true e1)
    have X2 := Lib.hid (show decide (a.coins = b.coins) = true from decide_eq_true e2)
    have HR := Lib.hid (show decide (a = b) = decide (a.wher = b.wher) by
      obtain ⟨a1, a2, a3, a4⟩ := a
      obtain ⟨b1, b2, b3, b4⟩ := b
      simp only at e0 e1 e2
      subst e0 e1 e2
      simp)
    clear e0 e1 e2
    go_enter Try.func15, Try.ntmps15
    go_wp2_with fail
    refine (samedesc_any a.d b.d p.d q.d _ (H1.out.below HP.out.1.1 (Nat.le_refl _)).d (H2.out.below HP.out.1.1 (Nat.le_refl _)).d).mono ?_
    rintro e w1 ⟨rfl, b1⟩
    rw [X0.out]
    have HQ1 := Lib.hid (Holds.call2 HP.out b1)
    clear b1
    have hcA := HQ1.out.1.2.2
    have hcB := HQ1.out.2.2.2
    go_wp2_with fail
    clear hcA hcB
    refine (equal_any _ _ _ _ a.at_ b.at_ w1 (H1.out.below HQ1.out.1.1 (Nat.le_refl _)).at_ (H2.out.below HQ1.out.1.1 (Nat.le_refl _)).at_).mono ?_
    rintro e w2 ⟨rfl, b2⟩
    rw [X1.out]
    have HQ2 := Lib.hid (Holds.call2 HQ1.out b2)
    clear b2
    have hcA := HQ2.out.1.2.2
    have hcB := HQ2.out.2.2.2
    go_wp2_with fail
    clear hcA hcB
    refine (equal_any _ _ _ _ a.coins b.coins w2 (H1.out.below HQ2.out.1.1 (Nat.le_refl _)).co (H2.out.below HQ2.out.1.1 (Nat.le_refl _)).co).mono ?_
    rintro e w3 ⟨rfl, b3⟩
    rw [X2.out]
    have HQ3 := Lib.hid (Holds.call2 HQ2.out b3)
    clear b3
    have hcA := HQ3.out.1.2.2
    have hcB := HQ3.out.2.2.2
    go_wp2_with fail
    clear hcA hcB
    refine (eqplaces_any _ _ _ _ a.wher b.wher w3 (H1.out.below HQ3.out.1.1 (Nat.le_refl _)).wh (H2.out.below HQ3.out.1.1 (Nat.le_refl _)).wh).mono ?_
    rintro e w4 ⟨rfl, b4⟩
    have HQ4 := Lib.hid (Holds.call2 HQ3.out b4)
    clear b4
    go_wp2_with fail
    go_ret
    exact ⟨ret_bool HR.out.symm, HQ4.out.1.1⟩
end Go.Proofs.Ytniblphklgbpnaa
