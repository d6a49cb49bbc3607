/- KeysPlace: a key's place; the key of a place. -/
import Derived.Test.YtgmkcddgkgcbbaaKeysE
import Derived.Test.YtgmkcddgkgcbbaaKeysAw
import Derived.Test.YtgmkcddgkgcbbaaKeysArg
import Derived.Deep.DeepCutAuto
namespace Go.Proofs.Ytgmkcddgkgcbbaa
open Go.ChangeShapes Go.WideShapes Go.ChangeAt Go.RowKit
open Lib (hid)
set_option linter.unusedVariables false
set_option maxRecDepth 100000
open Go.RowKit Go
theorem keysPlace_few (d : Ds) (dp : Dp) (k : Pl) (n : Int) (w : World) (hfw : fewB ⟨d, [], [], []⟩ = false) : Calls Try.prog 4 #[.agg #[.slice dp.ex d.exits.length dp.exc, .slice dp.pl d.players.length dp.plc, .slice dp.co d.coins.length dp.coc, .slice dp.it d.items.length dp.itc, .slice dp.bo d.boxes.length dp.boc, .int .i64 d.room, .int .i64 d.player, .int .i64 d.box], .agg #[.int .i64 k.kind, .int .i64 k.id], .int .i64 n] w fun e w' => e = .returned (.bool true) ∧ Below w.heap.size w w' := by
 have HFW := hid hfw
 clear hfw
 have HP0 := hid (Holds.pair w #[.slice dp.ex d.exits.length dp.exc, .slice dp.pl d.players.length dp.plc, .slice dp.co d.coins.length dp.coc, .slice dp.it d.items.length dp.itc, .slice dp.bo d.boxes.length dp.boc, .int .i64 d.room, .int .i64 d.player, .int .i64 d.box] #[.int .i64 k.kind, .int .i64 k.id] 35 24)
 go_enter Try.func4, Try.ntmps4
 go_wp2_with fail
 generalize (w.alloc (.cells #[.slice dp.ex d.exits.length dp.exc, .slice dp.pl d.players.length dp.plc, .slice dp.co d.coins.length dp.coc, .slice dp.it d.items.length dp.itc, .slice dp.bo d.boxes.length dp.boc, .int .i64 d.room, .int .i64 d.player, .int .i64 d.box] 35)).alloc (.cells #[.int .i64 k.kind, .int .i64 k.id] 24) = V0 at *
 have HA_0 := hid HP0.out.1
 have HB_0 := hid HP0.out.2
 have B_0 := hid HA_0.out.1
 clear HP0
 refine (awake14_any _).mono ?_
 rintro e u1 ⟨rfl, b1⟩
 have B_1 := hid (bl B_0.out b1)
 have HA_1 := hid (HA_0.out.call b1)
 have HB_1 := hid (HB_0.out.call b1)
 clear b1 B_0 HA_0 HB_0
 have hcHA := HA_1.out.2.2
 have hlHA := HA_1.out.2.1
 have hcHB := HB_1.out.2.2
 have hlHB := HB_1.out.2.1
 go_wp2_with fail
 refine (few_any ⟨d, [], [], []⟩ ⟨dp, none, 0, none, 0, none, 0⟩ _).mono ?_
 rintro e u2 ⟨rfl, b2⟩
 rw [HFW.out]
 clear hcHA hlHA hcHB hlHB
 have B_2 := hid (bl B_1.out b2)
 have HA_2 := hid (HA_1.out.call b2)
 have HB_2 := hid (HB_1.out.call b2)
 clear b2 B_1 HA_1 HB_1
 have hcHA := HA_2.out.2.2
 have hlHA := HA_2.out.2.1
 have hcHB := HB_2.out.2.2
 have hlHB := HB_2.out.2.1
 go_wp2_with fail
 refine (awake14_any _).mono ?_
 rintro e u3 ⟨rfl, b3⟩
 clear hcHA hlHA hcHB hlHB
 have B_3 := hid (bl B_2.out b3)
 have HA_3 := hid (HA_2.out.call b3)
 have HB_3 := hid (HB_2.out.call b3)
 clear b3 B_2 HA_2 HB_2
 have hcHA := HA_3.out.2.2
 have hlHA := HA_3.out.2.1
 have hcHB := HB_3.out.2.2
 have hlHB := HB_3.out.2.1
 go_wp2_with fail
 go_ret
 exact ⟨rfl, B_3.out⟩
set_option maxHeartbeats 4000000 in
theorem keysPlace_go (d : Ds) (dp : Dp) (k : Pl) (n : Int) (w : World) (hfw : fewB ⟨d, [], [], []⟩ = true) (hin : -9223372036854775808 ≤ n ∧ n ≤ 9223372036854775807) : Calls Try.prog 4 #[.agg #[.slice dp.ex d.exits.length dp.exc, .slice dp.pl d.players.length dp.plc, .slice dp.co d.coins.length dp.coc, .slice dp.it d.items.length dp.itc, .slice dp.bo d.boxes.length dp.boc, .int .i64 d.room, .int .i64 d.player, .int .i64 d.box], .agg #[.int .i64 k.kind, .int .i64 k.id], .int .i64 n] w fun e w' => e = .returned (.bool true) ∧ Below w.heap.size w w' := by
 have HFW := hid hfw
 have HIN := hid hin
 have hr20 : d.exits.length ≤ 20 ∧ d.players.length ≤ 20 := by simp [fewB] at hfw; omega
 obtain ⟨r1, r2⟩ := hr20
 have H1 := hid (show d.exits.length ≤ 1000000 by omega)
 have H2 := hid (show d.players.length ≤ 1000000 by omega)
 clear hfw hin
 obtain ⟨pl, hpl⟩ : ∃ pl, placeK d.exits.length d.players.length k = pl := ⟨_, rfl⟩
 obtain ⟨ak, hak⟩ : ∃ ak, keyAt d.exits.length d.players.length n = ak := ⟨_, rfl⟩
 have HPL := hid hpl
 have HAK := hid hak
 have HPB := hid (placeK_lt (r := d.exits.length) (p := d.players.length) k)
 rw [hpl] at HPB
 clear hpl hak
 have HP0 := hid (Holds.pair w #[.slice dp.ex d.exits.length dp.exc, .slice dp.pl d.players.length dp.plc, .slice dp.co d.coins.length dp.coc, .slice dp.it d.items.length dp.itc, .slice dp.bo d.boxes.length dp.boc, .int .i64 d.room, .int .i64 d.player, .int .i64 d.box] #[.int .i64 k.kind, .int .i64 k.id] 35 24)
 go_enter Try.func4, Try.ntmps4
 go_wp2_with fail
 generalize (w.alloc (.cells #[.slice dp.ex d.exits.length dp.exc, .slice dp.pl d.players.length dp.plc, .slice dp.co d.coins.length dp.coc, .slice dp.it d.items.length dp.itc, .slice dp.bo d.boxes.length dp.boc, .int .i64 d.room, .int .i64 d.player, .int .i64 d.box] 35)).alloc (.cells #[.int .i64 k.kind, .int .i64 k.id] 24) = V0 at *
 have HA_0 := hid HP0.out.1
 have HB_0 := hid HP0.out.2
 have B_0 := hid HA_0.out.1
 clear HP0
 refine (awake14_any _).mono ?_
 rintro e u1 ⟨rfl, b1⟩
 have B_1 := hid (bl B_0.out b1)
 have HA_1 := hid (HA_0.out.call b1)
 have HB_1 := hid (HB_0.out.call b1)
 clear b1 B_0 HA_0 HB_0
 have hcHA := HA_1.out.2.2
 have hlHA := HA_1.out.2.1
 have hcHB := HB_1.out.2.2
 have hlHB := HB_1.out.2.1
 go_wp2_with fail
 refine (few_any ⟨d, [], [], []⟩ ⟨dp, none, 0, none, 0, none, 0⟩ _).mono ?_
 rintro e u2 ⟨rfl, b2⟩
 rw [HFW.out]
 clear hcHA hlHA hcHB hlHB
 have B_2 := hid (bl B_1.out b2)
 have HA_2 := hid (HA_1.out.call b2)
 have HB_2 := hid (HB_1.out.call b2)
 clear b2 B_1 HA_1 HB_1
 have hcHA := HA_2.out.2.2
 have hlHA := HA_2.out.2.1
 have hcHB := HB_2.out.2.2
 have hlHB := HB_2.out.2.1
 go_wp2_with fail
 refine (kplace_any d dp k _ H1.out H2.out).mono ?_
 rintro e u3 ⟨rfl, b3⟩
 rw [HPL.out]
 clear hcHA hlHA hcHB hlHB
 have B_3 := hid (bl B_2.out b3)
 have HA_3 := hid (HA_2.out.call b3)
 have HB_3 := hid (HB_2.out.call b3)
 clear b3 B_2 HA_2 HB_2
 have hcHA := HA_3.out.2.2
 have hlHA := HA_3.out.2.1
 have hcHB := HB_3.out.2.2
 have hlHB := HB_3.out.2.1
 go_wp2_with fail
 refine (kat_any d dp n _ H1.out H2.out HIN.out).mono ?_
 rintro e u4 ⟨rfl, b4⟩
 rw [HAK.out]
 clear hcHA hlHA hcHB hlHB
 have B_4 := hid (bl B_3.out b4)
 have HA_4 := hid (HA_3.out.call b4)
 have HB_4 := hid (HB_3.out.call b4)
 clear b4 B_3 HA_3 HB_3
 have hcHA := HA_4.out.2.2
 have hlHA := HA_4.out.2.1
 have hcHB := HB_4.out.2.2
 have hlHB := HB_4.out.2.1
 go_wp2_with fail
 clear hcHA hlHA hcHB hlHB
 have s5 : (u4.alloc (.cells #[.int .i64 (keyV (ak)).kind, .int .i64 (keyV (ak)).id] 24)).heap.size = u4.heap.size + 1 := by simp
 have B_5 := hid (B_4.out.alloc B_4.out.size (.cells #[.int .i64 (keyV (ak)).kind, .int .i64 (keyV (ak)).id] 24))
 have HA_5 := hid (HA_4.out.alloc (.cells #[.int .i64 (keyV (ak)).kind, .int .i64 (keyV (ak)).id] 24))
 have HB_5 := hid (HB_4.out.alloc (.cells #[.int .i64 (keyV (ak)).kind, .int .i64 (keyV (ak)).id] 24))
 have HK_5 := hid (Holds.newb (w := w) (A := #[.int .i64 (keyV (ak)).kind, .int .i64 (keyV (ak)).id]) (t := 24) (n := u4.heap.size) B_4.out rfl)
 clear B_4 HA_4 HB_4
 generalize u4.alloc (.cells #[.int .i64 (keyV (ak)).kind, .int .i64 (keyV (ak)).id] 24) = V5 at *
 have hcHA := HA_5.out.2.2
 have hlHA := HA_5.out.2.1
 have hcHB := HB_5.out.2.2
 have hlHB := HB_5.out.2.1
 have hcHK := HK_5.out.2.2
 have hlHK := HK_5.out.2.1
 clear hcHA hlHA hcHB hlHB hcHK hlHK
 obtain ⟨m, hm⟩ : ∃ m, u4.heap.size = m := ⟨_, rfl⟩
 rw [hm] at HK_5
 simp only [hm]
 clear hm
 go_cut [82] (fun v wx => v = .bool false ∧ Holds w w.heap.size #[.slice dp.ex d.exits.length dp.exc, .slice dp.pl d.players.length dp.plc, .slice dp.co d.coins.length dp.coc, .slice dp.it d.items.length dp.itc, .slice dp.bo d.boxes.length dp.boc, .int .i64 d.room, .int .i64 d.player, .int .i64 d.box] wx ∧ Holds w (w.heap.size + 1) #[.int .i64 k.kind, .int .i64 k.id] wx)
 case first =>
  by_cases h0 : 0 ≤ n
  ·by_cases h1 : n < (d.exits.length : Int) + (d.players.length : Int)
   ·have HN := hid (show ∃ y, keyAt d.exits.length d.players.length n = some y from Option.isSome_iff_exists.1 ((keyAt_is n).2 ⟨h0, h1⟩))
    have g0 : decide ((0 : Int) ≤ n) = true := by simpa using h0
    have g1 : decide (n < (d.exits.length : Int) + (d.players.length : Int)) = true := by simpa using h1
    obtain ⟨y, hy⟩ := HN.out
    have HY := hid (place_keyAt hy)
    obtain rfl : ak = some y := HAK.out.symm.trans hy
    clear hy
    clear h0 h1
    have ws : IntKind.i64.wrap ((d.exits.length : Int) + (d.players.length : Int)) = (d.exits.length : Int) + (d.players.length : Int) := IntWalk.i64_in _ (by omega)
    have kv : keyV (some y) = y := rfl
    rw [kv] at HK_5
    simp only [kv, Option.isSome_some]
    clear kv
    have KS : Hid (∀ w', Below V5.heap.size V5 w' → Below V5.heap.size V5 w' ∧ (∀ ii, w'.cell? ⟨w.heap.size, ii, none⟩ = (#[.slice dp.ex d.exits.length dp.exc, .slice dp.pl d.players.length dp.plc, .slice dp.co d.coins.length dp.coc, .slice dp.it d.items.length dp.itc, .slice dp.bo d.boxes.length dp.boc, .int .i64 d.room, .int .i64 d.player, .int .i64 d.box][ii]? : Option Value)) ∧ (∀ ii, w'.cell? ⟨w.heap.size + 1, ii, none⟩ = (#[.int .i64 k.kind, .int .i64 k.id][ii]? : Option Value)) ∧ (∀ ii, w'.cell? ⟨m, ii, none⟩ = (#[.int .i64 y.kind, .int .i64 y.id][ii]? : Option Value))) := hid (fun w' hb => ⟨hb, fun ii => (hb.cell (p := ⟨w.heap.size, ii, none⟩) HA_5.out.2.1).trans (HA_5.out.2.2 ii), fun ii => (hb.cell (p := ⟨w.heap.size + 1, ii, none⟩) HB_5.out.2.1).trans (HB_5.out.2.2 ii), fun ii => (hb.cell (p := ⟨m, ii, none⟩) HK_5.out.2.1).trans (HK_5.out.2.2 ii)⟩)
    have D0 := hid (bdrew1 (Below.refl V5.heap.size V5))
    refine tkS (S := (fun w' => Below V5.heap.size V5 w' ∧ (∀ ii, w'.cell? ⟨w.heap.size, ii, none⟩ = (#[.slice dp.ex d.exits.length dp.exc, .slice dp.pl d.players.length dp.plc, .slice dp.co d.coins.length dp.coc, .slice dp.it d.items.length dp.itc, .slice dp.bo d.boxes.length dp.boc, .int .i64 d.room, .int .i64 d.player, .int .i64 d.box][ii]? : Option Value)) ∧ (∀ ii, w'.cell? ⟨w.heap.size + 1, ii, none⟩ = (#[.int .i64 k.kind, .int .i64 k.id][ii]? : Option Value)) ∧ (∀ ii, w'.cell? ⟨m, ii, none⟩ = (#[.int .i64 y.kind, .int .i64 y.id][ii]? : Option Value)))) (by (first | (with_reducible exact KS.out _ D0.out))) (fun hHeld => ?_)
    refine tkl [0, 1, 2] ?_
    iterate 3
     refine tW ?_
     try go_frame
    refine rdy1 3 (fun K hK => ?_)
    go_simp
    refine (refplace_any d dp k _ H1.out H2.out).mono ?_; rintro e x1 ⟨rfl, hb9⟩; have D1 := hid (below_call D0.out D0.out.size hb9); rw [HPL.out]; clear hb9
    try go_wp2_with fail
    refine hK.out _ _ (by (first | (with_reducible exact KS.out _ D1.out))) (fun hHeld => ?_)
    clear hK K
    try go_frame
    refine tkl [4, 5, 6, 8, 9, 10, 11, 12, 13, 14] ?_
    iterate 10
     refine tW ?_
     try go_frame
    refine rdy1 7 (fun K hK => ?_)
    go_simp
    refine (kmany_any d dp _ H1.out H2.out).mono ?_; rintro e x2 ⟨rfl, hb9⟩; have D2 := hid (below_call D1.out D1.out.size hb9); clear hb9
    try go_wp2_with fail
    refine hK.out _ _ (by (first | (with_reducible exact KS.out _ D2.out))) (fun hHeld => ?_)
    clear hK K
    try go_frame
    refine tkl [15, 16, 17, 18, 19, 20, 21] ?_
    iterate 7
     refine tW ?_
     try go_frame
    refine tkl [22, 23, 24, 25, 26, 27, 28, 29, 30] ?_
    iterate 9
     refine tW ?_
     try go_frame
    refine tkl [31, 32, 33, 34, 35, 36] ?_
    iterate 6
     refine tW ?_
     try go_frame
    refine tkl [37, 38, 40] ?_
    iterate 3
     refine tW ?_
     try go_frame
    refine rdy1 39 (fun K hK => ?_)
    go_simp
    refine (refplace_any d dp y _ H1.out H2.out).mono ?_; rintro e x3 ⟨rfl, hb9⟩; have D3 := hid (below_call D2.out D2.out.size hb9); rw [HY.out]; clear hb9
    try go_wp2_with fail
    refine hK.out _ _ (by (first | (with_reducible exact KS.out _ D3.out))) (fun hHeld => ?_)
    clear hK K
    try go_frame
    refine tkl [41] (tW ?_)
    try go_frame
    refine tkl [42, 43, 44, 45, 46, 47] ?_
    iterate 6
     refine tW ?_
     try go_frame
    refine tkl [48, 49, 50] ?_
    iterate 3
     refine tN ?_
     try go_frame
    refine tkl [51, 52] ?_
    iterate 2
     refine tW ?_
     try go_frame
    refine tkD ?_
    clear hHeld KS
    have B_6 := hid (bl B_5.out D3.out)
    have HA_6 := hid (HA_5.out.call D3.out)
    have HB_6 := hid (HB_5.out.call D3.out)
    have HK_6 := hid (HK_5.out.call D3.out)
    clear B_5 HA_5 HB_5 HK_5 D0 D1 D2 D3
    go_wp2_with fail
    go_meet
    exact ⟨rfl, HA_6.out, HB_6.out⟩
   ·have HN := hid (show keyAt d.exits.length d.players.length n = none by rw [keyAt, if_neg (by omega), if_neg (by omega)])
    have g0 : decide ((0 : Int) ≤ n) = true := by simpa using h0
    have g1 : decide (n < (d.exits.length : Int) + (d.players.length : Int)) = false := by simpa using h1
    obtain rfl : ak = none := HAK.out.symm.trans HN.out
    clear h0 h1
    have ws : IntKind.i64.wrap ((d.exits.length : Int) + (d.players.length : Int)) = (d.exits.length : Int) + (d.players.length : Int) := IntWalk.i64_in _ (by omega)
    have hne := run_kne 0 0 0 0
    simp only [decide_true, Bool.not_true] at hne
    have kv : keyV (none) = ⟨0, 0⟩ := rfl
    rw [kv] at HK_5
    simp only [kv, Option.isSome_none]
    clear kv
    have HK0 := hid (show Holds w m #[.int .i64 0, .int .i64 0] _ from HK_5.out)
    clear HK_5
    have HK_5 := HK0
    clear HK0
    have KS : Hid (∀ w', Below V5.heap.size V5 w' → Below V5.heap.size V5 w' ∧ (∀ ii, w'.cell? ⟨w.heap.size, ii, none⟩ = (#[.slice dp.ex d.exits.length dp.exc, .slice dp.pl d.players.length dp.plc, .slice dp.co d.coins.length dp.coc, .slice dp.it d.items.length dp.itc, .slice dp.bo d.boxes.length dp.boc, .int .i64 d.room, .int .i64 d.player, .int .i64 d.box][ii]? : Option Value)) ∧ (∀ ii, w'.cell? ⟨w.heap.size + 1, ii, none⟩ = (#[.int .i64 k.kind, .int .i64 k.id][ii]? : Option Value)) ∧ (∀ ii, w'.cell? ⟨m, ii, none⟩ = (#[.int .i64 0, .int .i64 0][ii]? : Option Value))) := hid (fun w' hb => ⟨hb, fun ii => (hb.cell (p := ⟨w.heap.size, ii, none⟩) HA_5.out.2.1).trans (HA_5.out.2.2 ii), fun ii => (hb.cell (p := ⟨w.heap.size + 1, ii, none⟩) HB_5.out.2.1).trans (HB_5.out.2.2 ii), fun ii => (hb.cell (p := ⟨m, ii, none⟩) HK_5.out.2.1).trans (HK_5.out.2.2 ii)⟩)
    have D0 := hid (bdrew1 (Below.refl V5.heap.size V5))
    refine tkS (S := (fun w' => Below V5.heap.size V5 w' ∧ (∀ ii, w'.cell? ⟨w.heap.size, ii, none⟩ = (#[.slice dp.ex d.exits.length dp.exc, .slice dp.pl d.players.length dp.plc, .slice dp.co d.coins.length dp.coc, .slice dp.it d.items.length dp.itc, .slice dp.bo d.boxes.length dp.boc, .int .i64 d.room, .int .i64 d.player, .int .i64 d.box][ii]? : Option Value)) ∧ (∀ ii, w'.cell? ⟨w.heap.size + 1, ii, none⟩ = (#[.int .i64 k.kind, .int .i64 k.id][ii]? : Option Value)) ∧ (∀ ii, w'.cell? ⟨m, ii, none⟩ = (#[.int .i64 0, .int .i64 0][ii]? : Option Value)))) (by (first | (with_reducible exact KS.out _ D0.out))) (fun hHeld => ?_)
    refine tkl [0, 1, 2] ?_
    iterate 3
     refine tW ?_
     try go_frame
    refine rdy1 3 (fun K hK => ?_)
    go_simp
    refine (refplace_any d dp k _ H1.out H2.out).mono ?_; rintro e x1 ⟨rfl, hb9⟩; have D1 := hid (below_call D0.out D0.out.size hb9); rw [HPL.out]; clear hb9
    try go_wp2_with fail
    refine hK.out _ _ (by (first | (with_reducible exact KS.out _ D1.out))) (fun hHeld => ?_)
    clear hK K
    try go_frame
    refine tkl [4, 5, 6, 8, 9, 10, 11, 12, 13, 14] ?_
    iterate 10
     refine tW ?_
     try go_frame
    refine rdy1 7 (fun K hK => ?_)
    go_simp
    refine (kmany_any d dp _ H1.out H2.out).mono ?_; rintro e x2 ⟨rfl, hb9⟩; have D2 := hid (below_call D1.out D1.out.size hb9); clear hb9
    try go_wp2_with fail
    refine hK.out _ _ (by (first | (with_reducible exact KS.out _ D2.out))) (fun hHeld => ?_)
    clear hK K
    try go_frame
    refine tkl [15, 16, 17, 18, 19, 20, 21] ?_
    iterate 7
     refine tW ?_
     try go_frame
    refine tkl [22, 23, 24, 25, 26, 27, 28, 29, 30] ?_
    iterate 9
     refine tW ?_
     try go_frame
    refine tkl [31, 32, 33, 34, 35, 36] ?_
    iterate 6
     refine tW ?_
     try go_frame
    refine tkl [37, 38, 39, 40, 41] ?_
    iterate 5
     refine tN ?_
     try go_frame
    refine tkl [42, 43, 44, 45, 46, 47] ?_
    iterate 6
     refine tW ?_
     try go_frame
    refine tkl [48, 49, 50] ?_
    iterate 3
     refine tW ?_
     try go_frame
    refine tkl [51, 52] ?_
    iterate 2
     refine tW ?_
     try go_frame
    refine tkD ?_
    clear hHeld KS
    have B_6 := hid (bl B_5.out D2.out)
    have HA_6 := hid (HA_5.out.call D2.out)
    have HB_6 := hid (HB_5.out.call D2.out)
    have HK_6 := hid (HK_5.out.call D2.out)
    clear B_5 HA_5 HB_5 HK_5 D0 D1 D2
    go_wp2_with fail
    go_meet
    exact ⟨rfl, HA_6.out, HB_6.out⟩
  ·have HN := hid (show keyAt d.exits.length d.players.length n = none by rw [keyAt, if_neg (by omega), if_neg (by omega)])
   have g0 : decide ((0 : Int) ≤ n) = false := by simpa using h0
   obtain rfl : ak = none := HAK.out.symm.trans HN.out
   clear h0
   have ws : IntKind.i64.wrap ((d.exits.length : Int) + (d.players.length : Int)) = (d.exits.length : Int) + (d.players.length : Int) := IntWalk.i64_in _ (by omega)
   have hne := run_kne 0 0 0 0
   simp only [decide_true, Bool.not_true] at hne
   have kv : keyV (none) = ⟨0, 0⟩ := rfl
   rw [kv] at HK_5
   simp only [kv, Option.isSome_none]
   clear kv
   have HK0 := hid (show Holds w m #[.int .i64 0, .int .i64 0] _ from HK_5.out)
   clear HK_5
   have HK_5 := HK0
   clear HK0
   have KS : Hid (∀ w', Below V5.heap.size V5 w' → Below V5.heap.size V5 w' ∧ (∀ ii, w'.cell? ⟨w.heap.size, ii, none⟩ = (#[.slice dp.ex d.exits.length dp.exc, .slice dp.pl d.players.length dp.plc, .slice dp.co d.coins.length dp.coc, .slice dp.it d.items.length dp.itc, .slice dp.bo d.boxes.length dp.boc, .int .i64 d.room, .int .i64 d.player, .int .i64 d.box][ii]? : Option Value)) ∧ (∀ ii, w'.cell? ⟨w.heap.size + 1, ii, none⟩ = (#[.int .i64 k.kind, .int .i64 k.id][ii]? : Option Value)) ∧ (∀ ii, w'.cell? ⟨m, ii, none⟩ = (#[.int .i64 0, .int .i64 0][ii]? : Option Value))) := hid (fun w' hb => ⟨hb, fun ii => (hb.cell (p := ⟨w.heap.size, ii, none⟩) HA_5.out.2.1).trans (HA_5.out.2.2 ii), fun ii => (hb.cell (p := ⟨w.heap.size + 1, ii, none⟩) HB_5.out.2.1).trans (HB_5.out.2.2 ii), fun ii => (hb.cell (p := ⟨m, ii, none⟩) HK_5.out.2.1).trans (HK_5.out.2.2 ii)⟩)
   have D0 := hid (bdrew1 (Below.refl V5.heap.size V5))
   refine tkS (S := (fun w' => Below V5.heap.size V5 w' ∧ (∀ ii, w'.cell? ⟨w.heap.size, ii, none⟩ = (#[.slice dp.ex d.exits.length dp.exc, .slice dp.pl d.players.length dp.plc, .slice dp.co d.coins.length dp.coc, .slice dp.it d.items.length dp.itc, .slice dp.bo d.boxes.length dp.boc, .int .i64 d.room, .int .i64 d.player, .int .i64 d.box][ii]? : Option Value)) ∧ (∀ ii, w'.cell? ⟨w.heap.size + 1, ii, none⟩ = (#[.int .i64 k.kind, .int .i64 k.id][ii]? : Option Value)) ∧ (∀ ii, w'.cell? ⟨m, ii, none⟩ = (#[.int .i64 0, .int .i64 0][ii]? : Option Value)))) (by (first | (with_reducible exact KS.out _ D0.out))) (fun hHeld => ?_)
   refine tkl [0, 1, 2] ?_
   iterate 3
    refine tW ?_
    try go_frame
   refine rdy1 3 (fun K hK => ?_)
   go_simp
   refine (refplace_any d dp k _ H1.out H2.out).mono ?_; rintro e x1 ⟨rfl, hb9⟩; have D1 := hid (below_call D0.out D0.out.size hb9); rw [HPL.out]; clear hb9
   try go_wp2_with fail
   refine hK.out _ _ (by (first | (with_reducible exact KS.out _ D1.out))) (fun hHeld => ?_)
   clear hK K
   try go_frame
   refine tkl [4, 5, 6, 8, 9, 10, 11, 12, 13, 14] ?_
   iterate 10
    refine tW ?_
    try go_frame
   refine rdy1 7 (fun K hK => ?_)
   go_simp
   refine (kmany_any d dp _ H1.out H2.out).mono ?_; rintro e x2 ⟨rfl, hb9⟩; have D2 := hid (below_call D1.out D1.out.size hb9); clear hb9
   try go_wp2_with fail
   refine hK.out _ _ (by (first | (with_reducible exact KS.out _ D2.out))) (fun hHeld => ?_)
   clear hK K
   try go_frame
   refine tkl [15, 16, 17, 18, 19, 20, 21] ?_
   iterate 7
    refine tW ?_
    try go_frame
   refine tkl [22, 23, 24, 25, 26, 27, 28, 29, 30] ?_
   iterate 9
    refine tN ?_
    try go_frame
   refine tkl [31, 32, 33, 34, 35, 36] ?_
   iterate 6
    refine tW ?_
    try go_frame
   refine tkl [37, 38, 39, 40, 41] ?_
   iterate 5
    refine tN ?_
    try go_frame
   refine tkl [42, 43, 44, 45, 46, 47] ?_
   iterate 6
    refine tW ?_
    try go_frame
   refine tkl [48, 49, 50] ?_
   iterate 3
    refine tW ?_
    try go_frame
   refine tkl [51, 52] ?_
   iterate 2
    refine tW ?_
    try go_frame
   refine tkD ?_
   clear hHeld KS
   have B_6 := hid (bl B_5.out D2.out)
   have HA_6 := hid (HA_5.out.call D2.out)
   have HB_6 := hid (HB_5.out.call D2.out)
   have HK_6 := hid (HK_5.out.call D2.out)
   clear B_5 HA_5 HB_5 HK_5 D0 D1 D2
   go_wp2_with fail
   go_meet
   exact ⟨rfl, HA_6.out, HB_6.out⟩
 case rest =>
  obtain ⟨rfl, hA, hB⟩ := hcut
  have B_0 := hid hA.1
  have HA_0 := hid hA
  have HB_0 := hid hB
  clear hA hB B_5 HA_5 HB_5 HK_5 HAK
  by_cases hp : 0 ≤ pl
  ·have HX := hid (show keyAt d.exits.length d.players.length pl = some k by have := HPL.out; subst this; exact keyAt_place hp)
   have g0 : decide ((0 : Int) ≤ pl) = true := by simpa using hp
   have he := run_keq k.kind k.id k.kind k.id
   simp only [decide_true] at he
   have HPI := hid (show -9223372036854775808 ≤ pl ∧ pl ≤ 9223372036854775807 by have := HPB.out; omega)
   have hcHA := HA_0.out.2.2
   have hlHA := HA_0.out.2.1
   have hcHB := HB_0.out.2.2
   have hlHB := HB_0.out.2.1
   go_wp2_with fail
   refine (kat_any d dp pl _ H1.out H2.out HPI.out).mono ?_
   rintro e u6 ⟨rfl, b6⟩
   rw [HX.out]
   clear hcHA hlHA hcHB hlHB
   have B_1 := hid (bl B_0.out b6)
   have HA_1 := hid (HA_0.out.call b6)
   have HB_1 := hid (HB_0.out.call b6)
   clear b6 B_0 HA_0 HB_0
   have hcHA := HA_1.out.2.2
   have hlHA := HA_1.out.2.1
   have hcHB := HB_1.out.2.2
   have hlHB := HB_1.out.2.1
   have kv : keyV (some k) = k := rfl
   simp only [kv, Option.isSome_some]
   clear kv
   go_wp2_with fail
   clear hcHA hlHA hcHB hlHB
   have s2 : (u6.alloc (.cells #[.int .i64 k.kind, .int .i64 k.id] 24)).heap.size = u6.heap.size + 1 := by simp
   have B_2 := hid (B_1.out.alloc B_1.out.size (.cells #[.int .i64 k.kind, .int .i64 k.id] 24))
   have HA_2 := hid (HA_1.out.alloc (.cells #[.int .i64 k.kind, .int .i64 k.id] 24))
   have HB_2 := hid (HB_1.out.alloc (.cells #[.int .i64 k.kind, .int .i64 k.id] 24))
   have HL_2 := hid (Holds.newb (w := w) (A := #[.int .i64 k.kind, .int .i64 k.id]) (t := 24) (n := u6.heap.size) B_1.out rfl)
   clear B_1 HA_1 HB_1
   generalize u6.alloc (.cells #[.int .i64 k.kind, .int .i64 k.id] 24) = V7 at *
   have hcHA := HA_2.out.2.2
   have hlHA := HA_2.out.2.1
   have hcHB := HB_2.out.2.2
   have hlHB := HB_2.out.2.1
   have hcHL := HL_2.out.2.2
   have hlHL := HL_2.out.2.1
   go_ret
   exact ⟨rfl, B_2.out⟩
  ·have HX := hid (show keyAt d.exits.length d.players.length pl = none by rw [keyAt, if_neg (by omega), if_neg (by omega)])
   have g0 : decide ((0 : Int) ≤ pl) = false := by simpa using hp
   have HPI := hid (show -9223372036854775808 ≤ pl ∧ pl ≤ 9223372036854775807 by have := HPB.out; omega)
   have hcHA := HA_0.out.2.2
   have hlHA := HA_0.out.2.1
   have hcHB := HB_0.out.2.2
   have hlHB := HB_0.out.2.1
   go_wp2_with fail
   refine (kat_any d dp pl _ H1.out H2.out HPI.out).mono ?_
   rintro e u6 ⟨rfl, b6⟩
   rw [HX.out]
   clear hcHA hlHA hcHB hlHB
   have B_1 := hid (bl B_0.out b6)
   have HA_1 := hid (HA_0.out.call b6)
   have HB_1 := hid (HB_0.out.call b6)
   clear b6 B_0 HA_0 HB_0
   have hcHA := HA_1.out.2.2
   have hlHA := HA_1.out.2.1
   have hcHB := HB_1.out.2.2
   have hlHB := HB_1.out.2.1
   have kv : keyV (none) = ⟨0, 0⟩ := rfl
   simp only [kv, Option.isSome_none]
   clear kv
   go_wp2_with fail
   clear hcHA hlHA hcHB hlHB
   have s2 : (u6.alloc (.cells #[.int .i64 0, .int .i64 0] 24)).heap.size = u6.heap.size + 1 := by simp
   have B_2 := hid (B_1.out.alloc B_1.out.size (.cells #[.int .i64 0, .int .i64 0] 24))
   have HA_2 := hid (HA_1.out.alloc (.cells #[.int .i64 0, .int .i64 0] 24))
   have HB_2 := hid (HB_1.out.alloc (.cells #[.int .i64 0, .int .i64 0] 24))
   have HL_2 := hid (Holds.newb (w := w) (A := #[.int .i64 0, .int .i64 0]) (t := 24) (n := u6.heap.size) B_1.out rfl)
   clear B_1 HA_1 HB_1
   generalize u6.alloc (.cells #[.int .i64 0, .int .i64 0] 24) = V7 at *
   have hcHA := HA_2.out.2.2
   have hlHA := HA_2.out.2.1
   have hcHB := HB_2.out.2.2
   have hlHB := HB_2.out.2.1
   have hcHL := HL_2.out.2.2
   have hlHL := HL_2.out.2.1
   go_ret
   exact ⟨rfl, B_2.out⟩
theorem walk_keysPlace (d : Ds) (dp : Dp) (k : Pl) (n : Int) (w : World) (hn : (Lit.int .i64 n).wf = true) (h : DescAt w dp d) (hk : InK k) : Calls Try.prog 4 #[.agg #[.slice dp.ex d.exits.length dp.exc, .slice dp.pl d.players.length dp.plc, .slice dp.co d.coins.length dp.coc, .slice dp.it d.items.length dp.itc, .slice dp.bo d.boxes.length dp.boc, .int .i64 d.room, .int .i64 d.player, .int .i64 d.box], .agg #[.int .i64 k.kind, .int .i64 k.id], .int .i64 n] w fun e w' => e = .returned (.bool true) ∧ Below w.heap.size w w' := by
 cases hfw : fewB ⟨d, [], [], []⟩
 ·exact keysPlace_few d dp k n w hfw
 ·exact keysPlace_go d dp k n w hfw (in_i hn)
theorem lifted_keysPlace (os : Os) (started : os.Started) (H : Type) (enc : TypeId × Value → H) :
 ReturnsInHanded {} Try.checked os 4 .any (Rows.keysPlaceSpec.pre6 enc Try.prog Try.f4 Rows.keysPlaceRow.domain false) (Rows.keysPlaceSpec.post enc Try.prog Try.f4 false true false false) := by
 refine returnsInHanded_of_change (C := Try.checked) (by kernel_rfl) started (by kernel_rfl) Try.func4
  (ChangeSpec.witness6 (enc := enc) (C := Try.checked) false ⟨#[], #[.agg #[.slice none 0 0, .slice none 0 0, .slice none 0 0, .slice none 0 0, .slice none 0 0, .int .i64 0, .int .i64 0, .int .i64 0], .agg #[.int .i64 0, .int .i64 0], .int .i64 0], []⟩ 8 (by kernel_rfl) (by kernel_rfl) (by kernel_rfl) (by kernel_rfl)) ?_
 intro W base args ds gs before hval0 hW hcnd _
 have hval : ∀ (j : Nat) t v, Try.f4.params[j]? = some t → args[j]? = some v → Value.okWide Try.prog W .any base t v := hval0
 have hW' := hW
 obtain ⟨p, q, hA0, hV, rfl, hfz, hnd⟩ := hW
 have hA : DataW.TrodAll enc Try.prog W 0 (fun _ => true) true Try.f4.params.toList args.toList ds p := hA0
 rw [Try.params4] at hA hval
 obtain ⟨v0, vs0, d0, ds0, p0, q0, hargs, rfl, rfl, h0, r0⟩ := trodAll_cons hA
 obtain ⟨v1, vs1, d1, ds1, p1, q1, rfl, rfl, rfl, h1, r1⟩ := trodAll_cons r0
 obtain ⟨v2, vs2, d2, ds2, p2, q2, rfl, rfl, rfl, h2, r2⟩ := trodAll_cons r1
 obtain ⟨rfl, rfl, rfl⟩ := trodAll_nil r2
 obtain rfl : args = #[v0, v1, v2] := by cases args; simp_all
 obtain ⟨rfl, rfl⟩ := trodVars_none hV
 obtain ⟨wx0, wp0, rfl, m0⟩ := read_desc (hval 0 35 v0 rfl rfl) h0
 obtain ⟨k1, rfl, ik1⟩ := read_key (hval 1 24 v1 rfl rfl) h1
 obtain ⟨a2, rfl, rfl, rfl, w2⟩ := open_int Try.underlying3 (hval 2 3 v2 rfl rfl) h2
 clear hA0 hval0
 simp only [List.append_nil] at hW'
 refine (walk_keysPlace wx0 wp0 k1 a2 W w2 m0 ik1).mono fun e W' ⟨he, hg⟩ => ?_
 subst he
 exact ⟨_, rfl, law_post (by kernel_rfl) rfl (by rw [Try.params4]; decide +kernel) rfl rfl Try.underlying4 hW' hg⟩

/-- ████ THE STATEMENT ████ -/
theorem proved_keysPlace : Rows.KeysPlaceSaid :=
 OpenClaim.holds_of_wide 4 Try.f4 rfl rfl rfl rfl rfl rfl rfl ⟨rfl, rfl, rfl, rfl, rfl⟩ rfl rfl rfl rfl rfl (by kernel_rfl) Try.func4 (by kernel_rfl)
  (of_decide_eq_true (by kernel_rfl)) (by unfold Func.isWrapper; first | (rw [if_pos (by decide +kernel)]; kernel_rfl) | (rw [if_neg (by decide +kernel)]; exact ⟨rfl, rfl⟩))
  (fun os started H enc _ => lifted_keysPlace os started H enc)
#print axioms proved_keysPlace
end Go.Proofs.Ytgmkcddgkgcbbaa
