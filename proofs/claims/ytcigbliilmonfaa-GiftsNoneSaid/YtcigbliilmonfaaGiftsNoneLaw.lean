/- GiftsNone: a trade of nothing for nothing changes nothing; coins alone go as they are paid. -/
import Derived.Test.YtcigbliilmonfaaRows
import Derived.Test.YtcigbliilmonfaaKit
import Derived.Test.YtcigbliilmonfaaGMem
import Derived.Test.YtcigbliilmonfaaCoin
import Derived.Test.YtcigbliilmonfaaGWorld
import Derived.Test.YtcigbliilmonfaaDescMay
import Derived.Test.YtcigbliilmonfaaGDescN
import Derived.Test.YtcigbliilmonfaaGRight
import Derived.Test.YtcigbliilmonfaaGCopy
import Derived.Test.YtcigbliilmonfaaGRefD
import Derived.Test.YtcigbliilmonfaaGAs
import Derived.Test.YtcigbliilmonfaaGEq
import Derived.Test.YtcigbliilmonfaaGNew
import Derived.Test.YtcigbliilmonfaaRefRight
import Derived.Test.YtcigbliilmonfaaGTreeL
import Derived.Test.YtcigbliilmonfaaTreeRefA
import Derived.Test.YtcigbliilmonfaaGHoldA
import Derived.Test.YtcigbliilmonfaaHoldD
import Derived.Test.YtcigbliilmonfaaHoldE
import Derived.Test.YtcigbliilmonfaaGiftMath
import Derived.Test.YtcigbliilmonfaaGiftMath2
import Derived.Test.YtcigbliilmonfaaGiftMath4
import Derived.Test.YtcigbliilmonfaaGiftD
import Derived.Test.YtcigbliilmonfaaGiftH
import Derived.Test.YtcigbliilmonfaaGiftMath3
import Derived.Test.YtcigbliilmonfaaGiftMath5
import Derived.Test.YtcigbliilmonfaaGiftAwake
import Derived.Deep.QuietTactic
import Derived.BigQuiet
import Derived.Deep.RegionHeld3
import Derived.WalkKit
import Derived.ProofKit
import Derived.OpenShut
import Derived.IntWalk
namespace Go.Proofs.Ytcigbliilmonfaa
open Go.ChangeShapes Go.WideShapes Go.ChangeAt Go.RowKit
set_option linter.unusedVariables false
open Go.RowKit
/-- Two of the coins that lie there. -/
def CoC (W : World) (b o i k : Nat) (u v : Int) : Prop := W.cell? ⟨b, o + i, none⟩ = some (.int .i64 u) ∧ W.cell? ⟨b, o + k, none⟩ = some (.int .i64 v) ∧ b < W.heap.size
theorem CoC.call {W W' : World} {b o i k : Nat} {u v : Int} (h : CoC W b o i k u v) (hb : Below W.heap.size W W') : CoC W' b o i k u v := ⟨cell_call h.1 hb, cell_call h.2.1 hb, Nat.lt_of_lt_of_le h.2.2 hb.size⟩
theorem lcoin_at {x : Wd} (hx : rightW x = true) {i : Nat} (hi : i < x.at_.length) : ∃ h : i < x.coins.length, x.coins[i] = coinOf x i ∧ 0 ≤ coinOf x i ∧ coinOf x i ≤ 1073741824 := by
  have h : i < x.coins.length := by rw [(right_lens hx).2.2.1]; exact hi
  have e : x.coins[i] = coinOf x i := by simp [coinOf, List.getD, List.getElem?_eq_getElem h]
  refine ⟨h, e, ?_⟩
  rw [← e]
  exact (right_in hx).2.1 _ (List.getElem_mem h)
theorem coc_of {W : World} {a : Option Addr} {y : Wd} (h : IntsAt W a y.coins) {i k : Nat} (hi : i < y.coins.length) (hk : k < y.coins.length) : ∃ b o, a = some ⟨b, o, none⟩ ∧ CoC W b o i k (coinOf y i) (coinOf y k) := by
  obtain ⟨b, o, e, hb, hc⟩ := h.at_ hi
  refine ⟨b, o, e, ?_, ?_, hb⟩
  · rw [hc i hi]; simp [coinOf, List.getD, List.getElem?_eq_getElem hi]
  · rw [hc k hk]; simp [coinOf, List.getD, List.getElem?_eq_getElem hk]
set_option maxRecDepth 100000 in
theorem giftsNone_no (x : Wd) (p : Wp) (a d m : Int) (w : World) (h : WorldAt w p x) (hf : fitsB x = false) : Calls Try.prog 6 #[.agg #[.slice p.d.ex x.d.exits.length p.d.exc, .slice p.d.pl x.d.players.length p.d.plc, .slice p.d.co x.d.coins.length p.d.coc, .slice p.d.it x.d.items.length p.d.itc, .slice p.d.bo x.d.boxes.length p.d.boc, .int .i64 x.d.room, .int .i64 x.d.player, .int .i64 x.d.box, .slice p.at_ x.at_.length p.atc, .slice p.co x.coins.length p.coc, .slice p.wh x.wher.length p.whc], .int .u8 a, .int .u8 d, .int .u32 m] w fun e w' => e = .returned (.bool true) ∧ Below w.heap.size w w' := by
  have H_0 := Lib.hid (Holds.new w #[.slice p.d.ex x.d.exits.length p.d.exc, .slice p.d.pl x.d.players.length p.d.plc, .slice p.d.co x.d.coins.length p.d.coc, .slice p.d.it x.d.items.length p.d.itc, .slice p.d.bo x.d.boxes.length p.d.boc, .int .i64 x.d.room, .int .i64 x.d.player, .int .i64 x.d.box, .slice p.at_ x.at_.length p.atc, .slice p.co x.coins.length p.coc, .slice p.wh x.wher.length p.whc] 29)
  have HF := Lib.hid hf
  have HWA := Lib.hid h
  clear hf h
  go_enter Try.func6, Try.ntmps6
  go_wp2_with fail
  generalize w.alloc (.cells #[.slice p.d.ex x.d.exits.length p.d.exc, .slice p.d.pl x.d.players.length p.d.plc, .slice p.d.co x.d.coins.length p.d.coc, .slice p.d.it x.d.items.length p.d.itc, .slice p.d.bo x.d.boxes.length p.d.boc, .int .i64 x.d.room, .int .i64 x.d.player, .int .i64 x.d.box, .slice p.at_ x.at_.length p.atc, .slice p.co x.coins.length p.coc, .slice p.wh x.wher.length p.whc] 29) = V0 at *
  have B_0 := Lib.hid H_0.out.1
  refine (awake11_any _).mono ?_
  rintro e u1 ⟨rfl, b1⟩
  have B_1 := Lib.hid (bl B_0.out b1)
  have H_1 := Lib.hid (H_0.out.call b1)
  clear b1 B_0 H_0
  have hcH := H_1.out.2.2
  have hlH := H_1.out.2.1
  go_wp2_with fail
  refine (fits11_any x p _ (HWA.out.below H_1.out.1 (Nat.le_refl _))).mono ?_
  rintro e u2 ⟨rfl, b2⟩
  rw [HF.out]
  clear hcH hlH
  have B_2 := Lib.hid (bl B_1.out b2)
  have H_2 := Lib.hid (H_1.out.call b2)
  clear b2 B_1 H_1
  have hcH := H_2.out.2.2
  have hlH := H_2.out.2.1
  go_wp2_with fail
  refine (awake11_any _).mono ?_
  rintro e u3 ⟨rfl, b3⟩
  clear hcH hlH
  have B_3 := Lib.hid (bl B_2.out b3)
  have H_3 := Lib.hid (H_2.out.call b3)
  clear b3 B_2 H_2
  have hcH := H_3.out.2.2
  have hlH := H_3.out.2.1
  go_wp2_with fail
  go_ret
  exact ⟨rfl, B_3.out⟩
set_option maxRecDepth 100000 in
theorem giftsNone_big (x : Wd) (p : Wp) (a d m : Int) (w : World) (h : WorldAt w p x) (hf : fitsB x = true) (h1 : 1073741824 < m) : Calls Try.prog 6 #[.agg #[.slice p.d.ex x.d.exits.length p.d.exc, .slice p.d.pl x.d.players.length p.d.plc, .slice p.d.co x.d.coins.length p.d.coc, .slice p.d.it x.d.items.length p.d.itc, .slice p.d.bo x.d.boxes.length p.d.boc, .int .i64 x.d.room, .int .i64 x.d.player, .int .i64 x.d.box, .slice p.at_ x.at_.length p.atc, .slice p.co x.coins.length p.coc, .slice p.wh x.wher.length p.whc], .int .u8 a, .int .u8 d, .int .u32 m] w fun e w' => e = .returned (.bool true) ∧ Below w.heap.size w w' := by
  have H_0 := Lib.hid (Holds.new w #[.slice p.d.ex x.d.exits.length p.d.exc, .slice p.d.pl x.d.players.length p.d.plc, .slice p.d.co x.d.coins.length p.d.coc, .slice p.d.it x.d.items.length p.d.itc, .slice p.d.bo x.d.boxes.length p.d.boc, .int .i64 x.d.room, .int .i64 x.d.player, .int .i64 x.d.box, .slice p.at_ x.at_.length p.atc, .slice p.co x.coins.length p.coc, .slice p.wh x.wher.length p.whc] 29)
  have HF := Lib.hid hf
  have HWA := Lib.hid h
  clear hf h
  go_enter Try.func6, Try.ntmps6
  go_wp2_with fail
  generalize w.alloc (.cells #[.slice p.d.ex x.d.exits.length p.d.exc, .slice p.d.pl x.d.players.length p.d.plc, .slice p.d.co x.d.coins.length p.d.coc, .slice p.d.it x.d.items.length p.d.itc, .slice p.d.bo x.d.boxes.length p.d.boc, .int .i64 x.d.room, .int .i64 x.d.player, .int .i64 x.d.box, .slice p.at_ x.at_.length p.atc, .slice p.co x.coins.length p.coc, .slice p.wh x.wher.length p.whc] 29) = V0 at *
  have B_0 := Lib.hid H_0.out.1
  refine (awake11_any _).mono ?_
  rintro e u1 ⟨rfl, b1⟩
  have B_1 := Lib.hid (bl B_0.out b1)
  have H_1 := Lib.hid (H_0.out.call b1)
  clear b1 B_0 H_0
  have hcH := H_1.out.2.2
  have hlH := H_1.out.2.1
  go_wp2_with fail
  refine (fits11_any x p _ (HWA.out.below H_1.out.1 (Nat.le_refl _))).mono ?_
  rintro e u2 ⟨rfl, b2⟩
  rw [HF.out]
  clear hcH hlH
  have B_2 := Lib.hid (bl B_1.out b2)
  have H_2 := Lib.hid (H_1.out.call b2)
  clear b2 B_1 H_1
  have hcH := H_2.out.2.2
  have hlH := H_2.out.2.1
  go_wp2_with fail
  refine (awake11_any _).mono ?_
  rintro e u3 ⟨rfl, b3⟩
  clear hcH hlH
  have B_3 := Lib.hid (bl B_2.out b3)
  have H_3 := Lib.hid (H_2.out.call b3)
  clear b3 B_2 H_2
  have hcH := H_3.out.2.2
  have hlH := H_3.out.2.1
  go_wp2_with fail
  go_ret
  exact ⟨rfl, B_3.out⟩
theorem trade_nil_as {x u : Wd} (hs : Shape x u) (p : Wp) (i : Nat) (w : World) (hu : rightW u = true) (h : WorldAt w p u) (hi : i < u.at_.length) {y : Wd} {e : Int} (k : Nat) (pay : Int) (hR : tradeW u i k [] [] pay 0 = (y, e)) :
    Calls Try.prog 13 #[.agg #[.slice p.d.ex x.d.exits.length p.d.exc, .slice p.d.pl x.d.players.length p.d.plc, .slice p.d.co x.d.coins.length p.d.coc, .slice p.d.it x.d.items.length p.d.itc, .slice p.d.bo x.d.boxes.length p.d.boc, .int .i64 x.d.room, .int .i64 x.d.player, .int .i64 x.d.box, .slice p.at_ x.at_.length p.atc, .slice p.co x.coins.length p.coc, .slice p.wh x.wher.length p.whc], .int .i64 (i : Int), .agg #[.int .i64 8, .int .i64 0, .int .i64 0, .int .i64 0, .int .i64 (k : Int), .slice none 0 0, .int .i64 pay, .slice none 0 0, .int .i64 0]] w fun e' w' => ∃ q : Wp, e' = .returned (.tuple #[.agg #[.slice q.d.ex x.d.exits.length q.d.exc, .slice q.d.pl x.d.players.length q.d.plc, .slice q.d.co x.d.coins.length q.d.coc, .slice q.d.it x.d.items.length q.d.itc, .slice q.d.bo x.d.boxes.length q.d.boc, .int .i64 x.d.room, .int .i64 x.d.player, .int .i64 x.d.box, .slice q.at_ x.at_.length q.atc, .slice q.co x.coins.length q.coc, .slice q.wh x.wher.length q.whc], .int .i64 e]) ∧ WorldAt w' q y ∧ Below w.heap.size w w' :=
  trade_as hs p i w hu h hi 8 0 0 0 k pay 0 [] [] none none 0 0 (IntsAt.nil _ _) (IntsAt.nil _ _) (by simp) (by simp) hR
/-- A list of places, somewhere. -/
def PlsInn (W : World) (a : Option Addr) (l : List Pl) : Prop := PlsAt W a l
theorem PlsInn.call {W W' : World} {a : Option Addr} {l : List Pl} (h : PlsInn W a l) (hb : Below W.heap.size W W') : PlsInn W' a l := RowAt.below h hb (Nat.le_refl _)
set_option maxRecDepth 100000 in
set_option maxHeartbeats 1000000 in
theorem giftsNone_same (x : Wd) (pd : Dp) (b o pac kb ko pkc : Nat) (pw : Option Addr) (pwc : Nat) (a d i k m : Nat) (haa : a ≤ 255) (hdd : d ≤ 255) (hm : m ≤ 1073741824) (hi : a % x.at_.length = i) (hk : d % x.at_.length = k) (w : World) (h : WorldAt w ⟨pd, some ⟨b, o, none⟩, pac, some ⟨kb, ko, none⟩, pkc, pw, pwc⟩ x) (hf : fitsB x = true) (c1 : w.cell? ⟨b, o + i, none⟩ = some (.int .i64 (roomOf x i : Int))) (c2 : w.cell? ⟨b, o + k, none⟩ = some (.int .i64 (roomOf x k : Int))) (hs : i = k) : Calls Try.prog 6 #[.agg #[.slice pd.ex x.d.exits.length pd.exc, .slice pd.pl x.d.players.length pd.plc, .slice pd.co x.d.coins.length pd.coc, .slice pd.it x.d.items.length pd.itc, .slice pd.bo x.d.boxes.length pd.boc, .int .i64 x.d.room, .int .i64 x.d.player, .int .i64 x.d.box, .slice (some ⟨b, o, none⟩) x.at_.length pac, .slice (some ⟨kb, ko, none⟩) x.coins.length pkc, .slice pw x.wher.length pwc], .int .u8 (a : Int), .int .u8 (d : Int), .int .u32 (m : Int)] w fun e w' => e = .returned (.bool true) ∧ Below w.heap.size w w' := by
  have r1 := run_tmod7 a x.at_.length
  have m1 := run_mod7 a x.at_.length
  rw [hi] at r1 m1
  have FT := Lib.hid (fits_fit hf)
  have hlp : 0 < x.at_.length := (right_lens FT.out.right).1
  have hne : ¬ x.at_ = [] := List.length_pos_iff.1 hlp
  have hil : i < x.at_.length := by rw [← hi]; exact Nat.mod_lt _ hlp
  have hlen6 := (right_lens FT.out.right).2.1
  have r2 := run_tmod7 d x.at_.length
  have m2 := run_mod7 d x.at_.length
  rw [hk] at r2 m2
  have hkl : k < x.at_.length := by rw [← hk]; exact Nat.mod_lt _ hlp
  obtain ⟨hT1, hT2⟩ := trade_none FT.out.right hil hkl
  obtain ⟨e, he⟩ : ∃ e, (tradeW x i k [] [] 0 0).2 = e := ⟨_, rfl⟩
  have HT := Lib.hid (show tradeW x i k [] [] 0 0 = (x, e) by rw [← he]; exact Prod.ext hT1 rfl)
  rw [he] at hT2
  have HAT := Lib.hid (⟨c1, c2⟩ : w.cell? ⟨b, o + i, none⟩ = some (.int .i64 (roomOf x i : Int)) ∧ w.cell? ⟨b, o + k, none⟩ = some (.int .i64 (roomOf x k : Int)))
  have hil2 : ¬ (x.at_.length : Int) ≤ (i : Int) := by omega
  have hil3 : (x.at_.length ≤ i) = False := by simp; omega
  have hkl2 : ¬ (x.at_.length : Int) ≤ (k : Int) := by omega
  have hkl3 : (x.at_.length ≤ k) = False := by simp; omega
  have hz : (e == 0) = false := by simp; intro h; exact (hT2.1 h).1 hs
  have hne2 : ((i : Int) != (k : Int)) = false := by simp [hs]
  clear hi hlp hk hT1 hT2 he c1 c2 hs
  have H_0 := Lib.hid (Holds.new w #[.slice pd.ex x.d.exits.length pd.exc, .slice pd.pl x.d.players.length pd.plc, .slice pd.co x.d.coins.length pd.coc, .slice pd.it x.d.items.length pd.itc, .slice pd.bo x.d.boxes.length pd.boc, .int .i64 x.d.room, .int .i64 x.d.player, .int .i64 x.d.box, .slice (some ⟨b, o, none⟩) x.at_.length pac, .slice (some ⟨kb, ko, none⟩) x.coins.length pkc, .slice pw x.wher.length pwc] 29)
  have HF := Lib.hid hf
  have HWA := Lib.hid h
  clear hf h
  go_enter Try.func6, Try.ntmps6
  go_wp2_with fail
  generalize w.alloc (.cells #[.slice pd.ex x.d.exits.length pd.exc, .slice pd.pl x.d.players.length pd.plc, .slice pd.co x.d.coins.length pd.coc, .slice pd.it x.d.items.length pd.itc, .slice pd.bo x.d.boxes.length pd.boc, .int .i64 x.d.room, .int .i64 x.d.player, .int .i64 x.d.box, .slice (some ⟨b, o, none⟩) x.at_.length pac, .slice (some ⟨kb, ko, none⟩) x.coins.length pkc, .slice pw x.wher.length pwc] 29) = V0 at *
  have B_0 := Lib.hid H_0.out.1
  refine (awake11_any _).mono ?_
  rintro e u1 ⟨rfl, b1⟩
  have B_1 := Lib.hid (bl B_0.out b1)
  have H_1 := Lib.hid (H_0.out.call b1)
  clear b1 B_0 H_0
  have hcH := H_1.out.2.2
  have hlH := H_1.out.2.1
  go_wp2_with fail
  refine (fits11_any x ⟨pd, some ⟨b, o, none⟩, pac, some ⟨kb, ko, none⟩, pkc, pw, pwc⟩ _ (HWA.out.below H_1.out.1 (Nat.le_refl _))).mono ?_
  rintro e u2 ⟨rfl, b2⟩
  rw [HF.out]
  clear hcH hlH
  have B_2 := Lib.hid (bl B_1.out b2)
  have H_2 := Lib.hid (H_1.out.call b2)
  clear b2 B_1 H_1
  have hcH := H_2.out.2.2
  have hlH := H_2.out.2.1
  go_wp2_with fail
  refine (trade_nil_as (Shape.refl x) ⟨pd, some ⟨b, o, none⟩, pac, some ⟨kb, ko, none⟩, pkc, pw, pwc⟩ i _ FT.out.right (HWA.out.below B_2.out (Nat.le_refl _)) hil k 0 HT.out).mono ?_
  rintro e u3 ⟨q1, rfl, gr, b3⟩
  clear hcH hlH
  have B_3 := Lib.hid (bl B_2.out b3)
  have H_3 := Lib.hid (H_2.out.call b3)
  have YA_3 := Lib.hid gr
  clear b3 B_2 H_2 gr
  have hcH := H_3.out.2.2
  have hlH := H_3.out.2.1
  go_wp2_with fail
  clear hcH hlH
  have s4 : (u3.alloc (.cells #[.slice q1.d.ex x.d.exits.length q1.d.exc, .slice q1.d.pl x.d.players.length q1.d.plc, .slice q1.d.co x.d.coins.length q1.d.coc, .slice q1.d.it x.d.items.length q1.d.itc, .slice q1.d.bo x.d.boxes.length q1.d.boc, .int .i64 x.d.room, .int .i64 x.d.player, .int .i64 x.d.box, .slice q1.at_ x.at_.length q1.atc, .slice q1.co x.coins.length q1.coc, .slice q1.wh x.wher.length q1.whc] 29)).heap.size = u3.heap.size + 1 := by simp
  have B_4 := Lib.hid (B_3.out.alloc B_3.out.size (.cells #[.slice q1.d.ex x.d.exits.length q1.d.exc, .slice q1.d.pl x.d.players.length q1.d.plc, .slice q1.d.co x.d.coins.length q1.d.coc, .slice q1.d.it x.d.items.length q1.d.itc, .slice q1.d.bo x.d.boxes.length q1.d.boc, .int .i64 x.d.room, .int .i64 x.d.player, .int .i64 x.d.box, .slice q1.at_ x.at_.length q1.atc, .slice q1.co x.coins.length q1.coc, .slice q1.wh x.wher.length q1.whc] 29))
  have H_4 := Lib.hid (H_3.out.alloc (.cells #[.slice q1.d.ex x.d.exits.length q1.d.exc, .slice q1.d.pl x.d.players.length q1.d.plc, .slice q1.d.co x.d.coins.length q1.d.coc, .slice q1.d.it x.d.items.length q1.d.itc, .slice q1.d.bo x.d.boxes.length q1.d.boc, .int .i64 x.d.room, .int .i64 x.d.player, .int .i64 x.d.box, .slice q1.at_ x.at_.length q1.atc, .slice q1.co x.coins.length q1.coc, .slice q1.wh x.wher.length q1.whc] 29))
  have YA_4 := Lib.hid (YA_3.out.call ((Below.refl _ _).alloc (Nat.le_refl _) (.cells #[.slice q1.d.ex x.d.exits.length q1.d.exc, .slice q1.d.pl x.d.players.length q1.d.plc, .slice q1.d.co x.d.coins.length q1.d.coc, .slice q1.d.it x.d.items.length q1.d.itc, .slice q1.d.bo x.d.boxes.length q1.d.boc, .int .i64 x.d.room, .int .i64 x.d.player, .int .i64 x.d.box, .slice q1.at_ x.at_.length q1.atc, .slice q1.co x.coins.length q1.coc, .slice q1.wh x.wher.length q1.whc] 29)))
  have A_4 := Lib.hid (Holds.newb (w := w) (A := #[.slice q1.d.ex x.d.exits.length q1.d.exc, .slice q1.d.pl x.d.players.length q1.d.plc, .slice q1.d.co x.d.coins.length q1.d.coc, .slice q1.d.it x.d.items.length q1.d.itc, .slice q1.d.bo x.d.boxes.length q1.d.boc, .int .i64 x.d.room, .int .i64 x.d.player, .int .i64 x.d.box, .slice q1.at_ x.at_.length q1.atc, .slice q1.co x.coins.length q1.coc, .slice q1.wh x.wher.length q1.whc]) (t := 29) (n := u3.heap.size) B_3.out rfl)
  clear B_3 H_3 YA_3
  generalize u3.alloc (.cells #[.slice q1.d.ex x.d.exits.length q1.d.exc, .slice q1.d.pl x.d.players.length q1.d.plc, .slice q1.d.co x.d.coins.length q1.d.coc, .slice q1.d.it x.d.items.length q1.d.itc, .slice q1.d.bo x.d.boxes.length q1.d.boc, .int .i64 x.d.room, .int .i64 x.d.player, .int .i64 x.d.box, .slice q1.at_ x.at_.length q1.atc, .slice q1.co x.coins.length q1.coc, .slice q1.wh x.wher.length q1.whc] 29) = V4 at *
  have hcH := H_4.out.2.2
  have hlH := H_4.out.2.1
  have hcA := A_4.out.2.2
  have hlA := A_4.out.2.1
  clear hcH hlH hcA hlA
  have KS : Hid (∀ w', Below V4.heap.size V4 w' → Below V4.heap.size V4 w' ∧ (∀ ii, w'.cell? ⟨w.heap.size, ii, none⟩ = (#[.slice pd.ex x.d.exits.length pd.exc, .slice pd.pl x.d.players.length pd.plc, .slice pd.co x.d.coins.length pd.coc, .slice pd.it x.d.items.length pd.itc, .slice pd.bo x.d.boxes.length pd.boc, .int .i64 x.d.room, .int .i64 x.d.player, .int .i64 x.d.box, .slice (some ⟨b, o, none⟩) x.at_.length pac, .slice (some ⟨kb, ko, none⟩) x.coins.length pkc, .slice pw x.wher.length pwc][ii]? : Option Value)) ∧ w'.cell? ⟨b, o + i, none⟩ = some (.int .i64 (roomOf x i : Int)) ∧ w'.cell? ⟨b, o + k, none⟩ = some (.int .i64 (roomOf x k : Int))) := Lib.hid (fun w' hb => ⟨hb, fun ii => (hb.cell (p := ⟨w.heap.size, ii, none⟩) H_4.out.2.1).trans (H_4.out.2.2 ii), cell_call (cell_call HAT.out.1 B_4.out) hb, cell_call (cell_call HAT.out.2 B_4.out) hb⟩)
  refine wp_region_noPanic ?_
  refine wp_region_held_drew (S := (fun w' => Below V4.heap.size V4 w' ∧ (∀ ii, w'.cell? ⟨w.heap.size, ii, none⟩ = (#[.slice pd.ex x.d.exits.length pd.exc, .slice pd.pl x.d.players.length pd.plc, .slice pd.co x.d.coins.length pd.coc, .slice pd.it x.d.items.length pd.itc, .slice pd.bo x.d.boxes.length pd.boc, .int .i64 x.d.room, .int .i64 x.d.player, .int .i64 x.d.box, .slice (some ⟨b, o, none⟩) x.at_.length pac, .slice (some ⟨kb, ko, none⟩) x.coins.length pkc, .slice pw x.wher.length pwc][ii]? : Option Value)) ∧ w'.cell? ⟨b, o + i, none⟩ = some (.int .i64 (roomOf x i : Int)) ∧ w'.cell? ⟨b, o + k, none⟩ = some (.int .i64 (roomOf x k : Int)))) (by kernel_rfl) (by (first | (with_reducible exact KS.out _ (bdrew1 (Below.refl _ _))))) (fun hHeld => ?_)
  refine wpAnyH_take (i := 0) (v := ?_) (by simp only [List.getElem?_toArray, List.getElem?_cons_zero]; rfl) (by kernel_rfl) (by kernel_rfl) (by kernel_rfl) (fun _ _ _ h => h) (Or.inl ⟨by rfl, ?_⟩) (by assumption) ?_
  rotate_left
  · (intro ww hSw; (try dsimp only at hSw); go_simp; (try with_reducible rfl))
  try simp only [Act.put, List.setIfInBounds_toArray, List.set_cons_zero, List.set_cons_succ]
  refine wpAnyH_take (i := 1) (v := ?_) (by simp only [List.getElem?_toArray, List.getElem?_cons_succ, List.getElem?_cons_zero]; rfl) (by kernel_rfl) (by kernel_rfl) (by kernel_rfl) (fun _ _ _ h => h) (Or.inl ⟨by rfl, ?_⟩) (by assumption) ?_
  rotate_left
  · (intro ww hSw; (try dsimp only at hSw); go_simp; (try with_reducible rfl))
  try simp only [Act.put, List.setIfInBounds_toArray, List.set_cons_zero, List.set_cons_succ]
  refine wpAnyH_take (i := 2) (v := ?_) (by simp only [List.getElem?_toArray, List.getElem?_cons_succ, List.getElem?_cons_zero]; rfl) (by kernel_rfl) (by kernel_rfl) (by kernel_rfl) (fun _ _ _ h => h) (Or.inl ⟨by rfl, ?_⟩) (by assumption) ?_
  rotate_left
  · (intro ww hSw; (try dsimp only at hSw); go_simp; (try with_reducible rfl))
  try simp only [Act.put, List.setIfInBounds_toArray, List.set_cons_zero, List.set_cons_succ]
  refine wpAnyH_take (i := 3) (v := ?_) (by simp only [List.getElem?_toArray, List.getElem?_cons_succ, List.getElem?_cons_zero]; rfl) (by kernel_rfl) (by kernel_rfl) (by kernel_rfl) (fun _ _ _ h => h) (Or.inl ⟨by rfl, ?_⟩) (by assumption) ?_
  rotate_left
  · (intro ww hSw; (try dsimp only at hSw); go_simp; (try with_reducible rfl))
  try simp only [Act.put, List.setIfInBounds_toArray, List.set_cons_zero, List.set_cons_succ]
  refine wpAnyH_take (i := 4) (v := undef) (by simp only [List.getElem?_toArray, List.getElem?_cons_succ, List.getElem?_cons_zero]; rfl) (by kernel_rfl) (by kernel_rfl) (by kernel_rfl) (fun _ _ _ h => h) (Or.inr ⟨by rfl, rfl⟩) (by assumption) ?_
  try simp only [Act.put, List.setIfInBounds_toArray, List.set_cons_zero, List.set_cons_succ]
  refine wpAnyH_take (i := 5) (v := undef) (by simp only [List.getElem?_toArray, List.getElem?_cons_succ, List.getElem?_cons_zero]; rfl) (by kernel_rfl) (by kernel_rfl) (by kernel_rfl) (fun _ _ _ h => h) (Or.inr ⟨by rfl, rfl⟩) (by assumption) ?_
  try simp only [Act.put, List.setIfInBounds_toArray, List.set_cons_zero, List.set_cons_succ]
  refine wpAnyH_take (i := 6) (v := undef) (by simp only [List.getElem?_toArray, List.getElem?_cons_succ, List.getElem?_cons_zero]; rfl) (by kernel_rfl) (by kernel_rfl) (by kernel_rfl) (fun _ _ _ h => h) (Or.inr ⟨by rfl, rfl⟩) (by assumption) ?_
  try simp only [Act.put, List.setIfInBounds_toArray, List.set_cons_zero, List.set_cons_succ]
  refine wpAnyH_take (i := 7) (v := undef) (by simp only [List.getElem?_toArray, List.getElem?_cons_succ, List.getElem?_cons_zero]; rfl) (by kernel_rfl) (by kernel_rfl) (by kernel_rfl) (fun _ _ _ h => h) (Or.inr ⟨by rfl, rfl⟩) (by assumption) ?_
  try simp only [Act.put, List.setIfInBounds_toArray, List.set_cons_zero, List.set_cons_succ]
  refine wpAnyH_take (i := 8) (v := undef) (by simp only [List.getElem?_toArray, List.getElem?_cons_succ, List.getElem?_cons_zero]; rfl) (by kernel_rfl) (by kernel_rfl) (by kernel_rfl) (fun _ _ _ h => h) (Or.inr ⟨by rfl, rfl⟩) (by assumption) ?_
  try simp only [Act.put, List.setIfInBounds_toArray, List.set_cons_zero, List.set_cons_succ]
  refine wpAnyH_take (i := 9) (v := undef) (by simp only [List.getElem?_toArray, List.getElem?_cons_succ, List.getElem?_cons_zero]; rfl) (by kernel_rfl) (by kernel_rfl) (by kernel_rfl) (fun _ _ _ h => h) (Or.inr ⟨by rfl, rfl⟩) (by assumption) ?_
  try simp only [Act.put, List.setIfInBounds_toArray, List.set_cons_zero, List.set_cons_succ]
  refine wpAnyH_take (i := 10) (v := undef) (by simp only [List.getElem?_toArray, List.getElem?_cons_succ, List.getElem?_cons_zero]; rfl) (by kernel_rfl) (by kernel_rfl) (by kernel_rfl) (fun _ _ _ h => h) (Or.inr ⟨by rfl, rfl⟩) (by assumption) ?_
  try simp only [Act.put, List.setIfInBounds_toArray, List.set_cons_zero, List.set_cons_succ]
  refine wpAnyH_take (i := 11) (v := undef) (by simp only [List.getElem?_toArray, List.getElem?_cons_succ, List.getElem?_cons_zero]; rfl) (by kernel_rfl) (by kernel_rfl) (by kernel_rfl) (fun _ _ _ h => h) (Or.inr ⟨by rfl, rfl⟩) (by assumption) ?_
  try simp only [Act.put, List.setIfInBounds_toArray, List.set_cons_zero, List.set_cons_succ]
  refine wpAnyH_take (i := 12) (v := undef) (by simp only [List.getElem?_toArray, List.getElem?_cons_succ, List.getElem?_cons_zero]; rfl) (by kernel_rfl) (by kernel_rfl) (by kernel_rfl) (fun _ _ _ h => h) (Or.inr ⟨by rfl, rfl⟩) (by assumption) ?_
  try simp only [Act.put, List.setIfInBounds_toArray, List.set_cons_zero, List.set_cons_succ]
  refine wpAnyH_take (i := 13) (v := undef) (by simp only [List.getElem?_toArray, List.getElem?_cons_succ, List.getElem?_cons_zero]; rfl) (by kernel_rfl) (by kernel_rfl) (by kernel_rfl) (fun _ _ _ h => h) (Or.inr ⟨by rfl, rfl⟩) (by assumption) ?_
  try simp only [Act.put, List.setIfInBounds_toArray, List.set_cons_zero, List.set_cons_succ]
  refine wpAnyH_take (i := 14) (v := undef) (by simp only [List.getElem?_toArray, List.getElem?_cons_succ, List.getElem?_cons_zero]; rfl) (by kernel_rfl) (by kernel_rfl) (by kernel_rfl) (fun _ _ _ h => h) (Or.inr ⟨by rfl, rfl⟩) (by assumption) ?_
  try simp only [Act.put, List.setIfInBounds_toArray, List.set_cons_zero, List.set_cons_succ]
  refine wpAnyH_take (i := 15) (v := ?_) (by simp only [List.getElem?_toArray, List.getElem?_cons_succ, List.getElem?_cons_zero]; rfl) (by kernel_rfl) (by kernel_rfl) (by kernel_rfl) (fun _ _ _ h => h) (Or.inl ⟨by rfl, ?_⟩) (by assumption) ?_
  rotate_left
  · (intro ww hSw; (try dsimp only at hSw); go_simp; (try with_reducible rfl))
  try simp only [Act.put, List.setIfInBounds_toArray, List.set_cons_zero, List.set_cons_succ]
  refine wpAnyH_take (i := 16) (v := ?_) (by simp only [List.getElem?_toArray, List.getElem?_cons_succ, List.getElem?_cons_zero]; rfl) (by kernel_rfl) (by kernel_rfl) (by kernel_rfl) (fun _ _ _ h => h) (Or.inl ⟨by rfl, ?_⟩) (by assumption) ?_
  rotate_left
  · (intro ww hSw; (try dsimp only at hSw); go_simp; (try with_reducible rfl))
  try simp only [Act.put, List.setIfInBounds_toArray, List.set_cons_zero, List.set_cons_succ]
  refine wpAnyH_done (by kernel_rfl) ?_ _
  refine NoPanic.normal ?_
  clear hHeld KS
  have B_5 := Lib.hid (bl B_4.out (bdrew1 (Below.refl V4.heap.size V4)))
  have H_5 := Lib.hid (H_4.out.call (bdrew1 (Below.refl V4.heap.size V4)))
  have A_5 := Lib.hid (A_4.out.call (bdrew1 (Below.refl V4.heap.size V4)))
  have YA_5 := Lib.hid (YA_4.out.call (bdrew1 (Below.refl V4.heap.size V4)))
  clear B_4 H_4 A_4 YA_4
  generalize V4.drew = V5 at *
  have hcH := H_5.out.2.2
  have hlH := H_5.out.2.1
  have hcA := A_5.out.2.2
  have hlA := A_5.out.2.1
  go_wp2_with fail
  refine (rsame_yes (Shape.refl x) (Shape.refl x) rfl _ ⟨pd, some ⟨b, o, none⟩, pac, some ⟨kb, ko, none⟩, pkc, pw, pwc⟩ _ YA_5.out (HWA.out.below B_5.out (Nat.le_refl _))).mono ?_
  rintro e u6 ⟨rfl, b6⟩
  clear hcH hlH hcA hlA
  have B_6 := Lib.hid (bl B_5.out b6)
  have H_6 := Lib.hid (H_5.out.call b6)
  have A_6 := Lib.hid (A_5.out.call b6)
  have YA_6 := Lib.hid (YA_5.out.call b6)
  clear b6 B_5 H_5 A_5 YA_5
  go_wp2_with fail
  go_ret
  exact ⟨rfl, B_6.out⟩
set_option maxRecDepth 100000 in
set_option maxHeartbeats 1000000 in
theorem giftsNone_room (x : Wd) (pd : Dp) (b o pac kb ko pkc : Nat) (pw : Option Addr) (pwc : Nat) (a d i k m : Nat) (haa : a ≤ 255) (hdd : d ≤ 255) (hm : m ≤ 1073741824) (hi : a % x.at_.length = i) (hk : d % x.at_.length = k) (w : World) (h : WorldAt w ⟨pd, some ⟨b, o, none⟩, pac, some ⟨kb, ko, none⟩, pkc, pw, pwc⟩ x) (hf : fitsB x = true) (c1 : w.cell? ⟨b, o + i, none⟩ = some (.int .i64 (roomOf x i : Int))) (c2 : w.cell? ⟨b, o + k, none⟩ = some (.int .i64 (roomOf x k : Int))) (hs : ¬ i = k) (hr : ¬ roomOf x i = roomOf x k) : Calls Try.prog 6 #[.agg #[.slice pd.ex x.d.exits.length pd.exc, .slice pd.pl x.d.players.length pd.plc, .slice pd.co x.d.coins.length pd.coc, .slice pd.it x.d.items.length pd.itc, .slice pd.bo x.d.boxes.length pd.boc, .int .i64 x.d.room, .int .i64 x.d.player, .int .i64 x.d.box, .slice (some ⟨b, o, none⟩) x.at_.length pac, .slice (some ⟨kb, ko, none⟩) x.coins.length pkc, .slice pw x.wher.length pwc], .int .u8 (a : Int), .int .u8 (d : Int), .int .u32 (m : Int)] w fun e w' => e = .returned (.bool true) ∧ Below w.heap.size w w' := by
  have r1 := run_tmod7 a x.at_.length
  have m1 := run_mod7 a x.at_.length
  rw [hi] at r1 m1
  have FT := Lib.hid (fits_fit hf)
  have hlp : 0 < x.at_.length := (right_lens FT.out.right).1
  have hne : ¬ x.at_ = [] := List.length_pos_iff.1 hlp
  have hil : i < x.at_.length := by rw [← hi]; exact Nat.mod_lt _ hlp
  have hlen6 := (right_lens FT.out.right).2.1
  have r2 := run_tmod7 d x.at_.length
  have m2 := run_mod7 d x.at_.length
  rw [hk] at r2 m2
  have hkl : k < x.at_.length := by rw [← hk]; exact Nat.mod_lt _ hlp
  obtain ⟨hT1, hT2⟩ := trade_none FT.out.right hil hkl
  obtain ⟨e, he⟩ : ∃ e, (tradeW x i k [] [] 0 0).2 = e := ⟨_, rfl⟩
  have HT := Lib.hid (show tradeW x i k [] [] 0 0 = (x, e) by rw [← he]; exact Prod.ext hT1 rfl)
  rw [he] at hT2
  have HAT := Lib.hid (⟨c1, c2⟩ : w.cell? ⟨b, o + i, none⟩ = some (.int .i64 (roomOf x i : Int)) ∧ w.cell? ⟨b, o + k, none⟩ = some (.int .i64 (roomOf x k : Int)))
  have hil2 : ¬ (x.at_.length : Int) ≤ (i : Int) := by omega
  have hil3 : (x.at_.length ≤ i) = False := by simp; omega
  have hkl2 : ¬ (x.at_.length : Int) ≤ (k : Int) := by omega
  have hkl3 : (x.at_.length ≤ k) = False := by simp; omega
  have hne2 : ((i : Int) != (k : Int)) = true := by simp; omega
  have hz : (e == 0) = false := by simp; intro h; exact hr (hT2.1 h).2
  have hro : ((roomOf x i : Int) == (roomOf x k : Int)) = false := by simp; omega
  clear hi hlp hk hT1 hT2 he c1 c2
  have H_0 := Lib.hid (Holds.new w #[.slice pd.ex x.d.exits.length pd.exc, .slice pd.pl x.d.players.length pd.plc, .slice pd.co x.d.coins.length pd.coc, .slice pd.it x.d.items.length pd.itc, .slice pd.bo x.d.boxes.length pd.boc, .int .i64 x.d.room, .int .i64 x.d.player, .int .i64 x.d.box, .slice (some ⟨b, o, none⟩) x.at_.length pac, .slice (some ⟨kb, ko, none⟩) x.coins.length pkc, .slice pw x.wher.length pwc] 29)
  have HF := Lib.hid hf
  have HWA := Lib.hid h
  clear hf h
  go_enter Try.func6, Try.ntmps6
  go_wp2_with fail
  generalize w.alloc (.cells #[.slice pd.ex x.d.exits.length pd.exc, .slice pd.pl x.d.players.length pd.plc, .slice pd.co x.d.coins.length pd.coc, .slice pd.it x.d.items.length pd.itc, .slice pd.bo x.d.boxes.length pd.boc, .int .i64 x.d.room, .int .i64 x.d.player, .int .i64 x.d.box, .slice (some ⟨b, o, none⟩) x.at_.length pac, .slice (some ⟨kb, ko, none⟩) x.coins.length pkc, .slice pw x.wher.length pwc] 29) = V0 at *
  have B_0 := Lib.hid H_0.out.1
  refine (awake11_any _).mono ?_
  rintro e u1 ⟨rfl, b1⟩
  have B_1 := Lib.hid (bl B_0.out b1)
  have H_1 := Lib.hid (H_0.out.call b1)
  clear b1 B_0 H_0
  have hcH := H_1.out.2.2
  have hlH := H_1.out.2.1
  go_wp2_with fail
  refine (fits11_any x ⟨pd, some ⟨b, o, none⟩, pac, some ⟨kb, ko, none⟩, pkc, pw, pwc⟩ _ (HWA.out.below H_1.out.1 (Nat.le_refl _))).mono ?_
  rintro e u2 ⟨rfl, b2⟩
  rw [HF.out]
  clear hcH hlH
  have B_2 := Lib.hid (bl B_1.out b2)
  have H_2 := Lib.hid (H_1.out.call b2)
  clear b2 B_1 H_1
  have hcH := H_2.out.2.2
  have hlH := H_2.out.2.1
  go_wp2_with fail
  refine (trade_nil_as (Shape.refl x) ⟨pd, some ⟨b, o, none⟩, pac, some ⟨kb, ko, none⟩, pkc, pw, pwc⟩ i _ FT.out.right (HWA.out.below B_2.out (Nat.le_refl _)) hil k 0 HT.out).mono ?_
  rintro e u3 ⟨q1, rfl, gr, b3⟩
  clear hcH hlH
  have B_3 := Lib.hid (bl B_2.out b3)
  have H_3 := Lib.hid (H_2.out.call b3)
  have YA_3 := Lib.hid gr
  clear b3 B_2 H_2 gr
  have hcH := H_3.out.2.2
  have hlH := H_3.out.2.1
  go_wp2_with fail
  clear hcH hlH
  have s4 : (u3.alloc (.cells #[.slice q1.d.ex x.d.exits.length q1.d.exc, .slice q1.d.pl x.d.players.length q1.d.plc, .slice q1.d.co x.d.coins.length q1.d.coc, .slice q1.d.it x.d.items.length q1.d.itc, .slice q1.d.bo x.d.boxes.length q1.d.boc, .int .i64 x.d.room, .int .i64 x.d.player, .int .i64 x.d.box, .slice q1.at_ x.at_.length q1.atc, .slice q1.co x.coins.length q1.coc, .slice q1.wh x.wher.length q1.whc] 29)).heap.size = u3.heap.size + 1 := by simp
  have B_4 := Lib.hid (B_3.out.alloc B_3.out.size (.cells #[.slice q1.d.ex x.d.exits.length q1.d.exc, .slice q1.d.pl x.d.players.length q1.d.plc, .slice q1.d.co x.d.coins.length q1.d.coc, .slice q1.d.it x.d.items.length q1.d.itc, .slice q1.d.bo x.d.boxes.length q1.d.boc, .int .i64 x.d.room, .int .i64 x.d.player, .int .i64 x.d.box, .slice q1.at_ x.at_.length q1.atc, .slice q1.co x.coins.length q1.coc, .slice q1.wh x.wher.length q1.whc] 29))
  have H_4 := Lib.hid (H_3.out.alloc (.cells #[.slice q1.d.ex x.d.exits.length q1.d.exc, .slice q1.d.pl x.d.players.length q1.d.plc, .slice q1.d.co x.d.coins.length q1.d.coc, .slice q1.d.it x.d.items.length q1.d.itc, .slice q1.d.bo x.d.boxes.length q1.d.boc, .int .i64 x.d.room, .int .i64 x.d.player, .int .i64 x.d.box, .slice q1.at_ x.at_.length q1.atc, .slice q1.co x.coins.length q1.coc, .slice q1.wh x.wher.length q1.whc] 29))
  have YA_4 := Lib.hid (YA_3.out.call ((Below.refl _ _).alloc (Nat.le_refl _) (.cells #[.slice q1.d.ex x.d.exits.length q1.d.exc, .slice q1.d.pl x.d.players.length q1.d.plc, .slice q1.d.co x.d.coins.length q1.d.coc, .slice q1.d.it x.d.items.length q1.d.itc, .slice q1.d.bo x.d.boxes.length q1.d.boc, .int .i64 x.d.room, .int .i64 x.d.player, .int .i64 x.d.box, .slice q1.at_ x.at_.length q1.atc, .slice q1.co x.coins.length q1.coc, .slice q1.wh x.wher.length q1.whc] 29)))
  have A_4 := Lib.hid (Holds.newb (w := w) (A := #[.slice q1.d.ex x.d.exits.length q1.d.exc, .slice q1.d.pl x.d.players.length q1.d.plc, .slice q1.d.co x.d.coins.length q1.d.coc, .slice q1.d.it x.d.items.length q1.d.itc, .slice q1.d.bo x.d.boxes.length q1.d.boc, .int .i64 x.d.room, .int .i64 x.d.player, .int .i64 x.d.box, .slice q1.at_ x.at_.length q1.atc, .slice q1.co x.coins.length q1.coc, .slice q1.wh x.wher.length q1.whc]) (t := 29) (n := u3.heap.size) B_3.out rfl)
  clear B_3 H_3 YA_3
  generalize u3.alloc (.cells #[.slice q1.d.ex x.d.exits.length q1.d.exc, .slice q1.d.pl x.d.players.length q1.d.plc, .slice q1.d.co x.d.coins.length q1.d.coc, .slice q1.d.it x.d.items.length q1.d.itc, .slice q1.d.bo x.d.boxes.length q1.d.boc, .int .i64 x.d.room, .int .i64 x.d.player, .int .i64 x.d.box, .slice q1.at_ x.at_.length q1.atc, .slice q1.co x.coins.length q1.coc, .slice q1.wh x.wher.length q1.whc] 29) = V4 at *
  have hcH := H_4.out.2.2
  have hlH := H_4.out.2.1
  have hcA := A_4.out.2.2
  have hlA := A_4.out.2.1
  clear hcH hlH hcA hlA
  have KS : Hid (∀ w', Below V4.heap.size V4 w' → Below V4.heap.size V4 w' ∧ (∀ ii, w'.cell? ⟨w.heap.size, ii, none⟩ = (#[.slice pd.ex x.d.exits.length pd.exc, .slice pd.pl x.d.players.length pd.plc, .slice pd.co x.d.coins.length pd.coc, .slice pd.it x.d.items.length pd.itc, .slice pd.bo x.d.boxes.length pd.boc, .int .i64 x.d.room, .int .i64 x.d.player, .int .i64 x.d.box, .slice (some ⟨b, o, none⟩) x.at_.length pac, .slice (some ⟨kb, ko, none⟩) x.coins.length pkc, .slice pw x.wher.length pwc][ii]? : Option Value)) ∧ w'.cell? ⟨b, o + i, none⟩ = some (.int .i64 (roomOf x i : Int)) ∧ w'.cell? ⟨b, o + k, none⟩ = some (.int .i64 (roomOf x k : Int))) := Lib.hid (fun w' hb => ⟨hb, fun ii => (hb.cell (p := ⟨w.heap.size, ii, none⟩) H_4.out.2.1).trans (H_4.out.2.2 ii), cell_call (cell_call HAT.out.1 B_4.out) hb, cell_call (cell_call HAT.out.2 B_4.out) hb⟩)
  refine wp_region_noPanic ?_
  refine wp_region_held_drew (S := (fun w' => Below V4.heap.size V4 w' ∧ (∀ ii, w'.cell? ⟨w.heap.size, ii, none⟩ = (#[.slice pd.ex x.d.exits.length pd.exc, .slice pd.pl x.d.players.length pd.plc, .slice pd.co x.d.coins.length pd.coc, .slice pd.it x.d.items.length pd.itc, .slice pd.bo x.d.boxes.length pd.boc, .int .i64 x.d.room, .int .i64 x.d.player, .int .i64 x.d.box, .slice (some ⟨b, o, none⟩) x.at_.length pac, .slice (some ⟨kb, ko, none⟩) x.coins.length pkc, .slice pw x.wher.length pwc][ii]? : Option Value)) ∧ w'.cell? ⟨b, o + i, none⟩ = some (.int .i64 (roomOf x i : Int)) ∧ w'.cell? ⟨b, o + k, none⟩ = some (.int .i64 (roomOf x k : Int)))) (by kernel_rfl) (by (first | (with_reducible exact KS.out _ (bdrew1 (Below.refl _ _))))) (fun hHeld => ?_)
  refine wpAnyH_take (i := 0) (v := ?_) (by simp only [List.getElem?_toArray, List.getElem?_cons_zero]; rfl) (by kernel_rfl) (by kernel_rfl) (by kernel_rfl) (fun _ _ _ h => h) (Or.inl ⟨by rfl, ?_⟩) (by assumption) ?_
  rotate_left
  · (intro ww hSw; (try dsimp only at hSw); go_simp; (try with_reducible rfl))
  try simp only [Act.put, List.setIfInBounds_toArray, List.set_cons_zero, List.set_cons_succ]
  refine wpAnyH_take (i := 1) (v := ?_) (by simp only [List.getElem?_toArray, List.getElem?_cons_succ, List.getElem?_cons_zero]; rfl) (by kernel_rfl) (by kernel_rfl) (by kernel_rfl) (fun _ _ _ h => h) (Or.inl ⟨by rfl, ?_⟩) (by assumption) ?_
  rotate_left
  · (intro ww hSw; (try dsimp only at hSw); go_simp; (try with_reducible rfl))
  try simp only [Act.put, List.setIfInBounds_toArray, List.set_cons_zero, List.set_cons_succ]
  refine wpAnyH_take (i := 2) (v := ?_) (by simp only [List.getElem?_toArray, List.getElem?_cons_succ, List.getElem?_cons_zero]; rfl) (by kernel_rfl) (by kernel_rfl) (by kernel_rfl) (fun _ _ _ h => h) (Or.inl ⟨by rfl, ?_⟩) (by assumption) ?_
  rotate_left
  · (intro ww hSw; (try dsimp only at hSw); go_simp; (try with_reducible rfl))
  try simp only [Act.put, List.setIfInBounds_toArray, List.set_cons_zero, List.set_cons_succ]
  refine wpAnyH_take (i := 3) (v := ?_) (by simp only [List.getElem?_toArray, List.getElem?_cons_succ, List.getElem?_cons_zero]; rfl) (by kernel_rfl) (by kernel_rfl) (by kernel_rfl) (fun _ _ _ h => h) (Or.inl ⟨by rfl, ?_⟩) (by assumption) ?_
  rotate_left
  · (intro ww hSw; (try dsimp only at hSw); go_simp; (try with_reducible rfl))
  try simp only [Act.put, List.setIfInBounds_toArray, List.set_cons_zero, List.set_cons_succ]
  refine wpAnyH_take (i := 4) (v := ?_) (by simp only [List.getElem?_toArray, List.getElem?_cons_succ, List.getElem?_cons_zero]; rfl) (by kernel_rfl) (by kernel_rfl) (by kernel_rfl) (fun _ _ _ h => h) (Or.inl ⟨by rfl, ?_⟩) (by assumption) ?_
  rotate_left
  · (intro ww hSw; (try dsimp only at hSw); go_simp; (try with_reducible rfl))
  try simp only [Act.put, List.setIfInBounds_toArray, List.set_cons_zero, List.set_cons_succ]
  refine wpAnyH_take (i := 5) (v := ?_) (by simp only [List.getElem?_toArray, List.getElem?_cons_succ, List.getElem?_cons_zero]; rfl) (by kernel_rfl) (by kernel_rfl) (by kernel_rfl) (fun _ _ _ h => h) (Or.inl ⟨by rfl, ?_⟩) (by assumption) ?_
  rotate_left
  · (intro ww hSw; (try dsimp only at hSw); go_simp; (try with_reducible rfl))
  try simp only [Act.put, List.setIfInBounds_toArray, List.set_cons_zero, List.set_cons_succ]
  refine wpAnyH_take (i := 6) (v := ?_) (by simp only [List.getElem?_toArray, List.getElem?_cons_succ, List.getElem?_cons_zero]; rfl) (by kernel_rfl) (by kernel_rfl) (by kernel_rfl) (fun _ _ _ h => h) (Or.inl ⟨by rfl, ?_⟩) (by assumption) ?_
  rotate_left
  · (intro ww hSw; (try dsimp only at hSw); go_simp; (try with_reducible rfl))
  try simp only [Act.put, List.setIfInBounds_toArray, List.set_cons_zero, List.set_cons_succ]
  refine wpAnyH_take (i := 7) (v := ?_) (by simp only [List.getElem?_toArray, List.getElem?_cons_succ, List.getElem?_cons_zero]; rfl) (by kernel_rfl) (by kernel_rfl) (by kernel_rfl) (fun _ _ _ h => h) (Or.inl ⟨by rfl, ?_⟩) (by assumption) ?_
  rotate_left
  · (intro ww hSw; (try dsimp only at hSw); go_simp; (try with_reducible rfl))
  try simp only [Act.put, List.setIfInBounds_toArray, List.set_cons_zero, List.set_cons_succ]
  refine wpAnyH_take (i := 8) (v := ?_) (by simp only [List.getElem?_toArray, List.getElem?_cons_succ, List.getElem?_cons_zero]; rfl) (by kernel_rfl) (by kernel_rfl) (by kernel_rfl) (fun _ _ _ h => h) (Or.inl ⟨by rfl, ?_⟩) (by assumption) ?_
  rotate_left
  · (intro ww hSw; (try dsimp only at hSw); go_simp; (try with_reducible rfl))
  try simp only [Act.put, List.setIfInBounds_toArray, List.set_cons_zero, List.set_cons_succ]
  refine wpAnyH_take (i := 9) (v := ?_) (by simp only [List.getElem?_toArray, List.getElem?_cons_succ, List.getElem?_cons_zero]; rfl) (by kernel_rfl) (by kernel_rfl) (by kernel_rfl) (fun _ _ _ h => h) (Or.inl ⟨by rfl, ?_⟩) (by assumption) ?_
  rotate_left
  · (intro ww hSw; (try dsimp only at hSw); go_simp; (try with_reducible rfl))
  try simp only [Act.put, List.setIfInBounds_toArray, List.set_cons_zero, List.set_cons_succ]
  refine wpAnyH_take (i := 10) (v := ?_) (by simp only [List.getElem?_toArray, List.getElem?_cons_succ, List.getElem?_cons_zero]; rfl) (by kernel_rfl) (by kernel_rfl) (by kernel_rfl) (fun _ _ _ h => h) (Or.inl ⟨by rfl, ?_⟩) (by assumption) ?_
  rotate_left
  · (intro ww hSw; (try dsimp only at hSw); go_simp; (try with_reducible rfl))
  try simp only [Act.put, List.setIfInBounds_toArray, List.set_cons_zero, List.set_cons_succ]
  refine wpAnyH_take (i := 11) (v := ?_) (by simp only [List.getElem?_toArray, List.getElem?_cons_succ, List.getElem?_cons_zero]; rfl) (by kernel_rfl) (by kernel_rfl) (by kernel_rfl) (fun _ _ _ h => h) (Or.inl ⟨by rfl, ?_⟩) (by assumption) ?_
  rotate_left
  · (intro ww hSw; (try dsimp only at hSw); go_simp; (try with_reducible rfl))
  try simp only [Act.put, List.setIfInBounds_toArray, List.set_cons_zero, List.set_cons_succ]
  refine wpAnyH_take (i := 12) (v := ?_) (by simp only [List.getElem?_toArray, List.getElem?_cons_succ, List.getElem?_cons_zero]; rfl) (by kernel_rfl) (by kernel_rfl) (by kernel_rfl) (fun _ _ _ h => h) (Or.inl ⟨by rfl, ?_⟩) (by assumption) ?_
  rotate_left
  · (intro ww hSw; (try dsimp only at hSw); go_simp; (try with_reducible rfl))
  try simp only [Act.put, List.setIfInBounds_toArray, List.set_cons_zero, List.set_cons_succ]
  refine wpAnyH_take (i := 13) (v := ?_) (by simp only [List.getElem?_toArray, List.getElem?_cons_succ, List.getElem?_cons_zero]; rfl) (by kernel_rfl) (by kernel_rfl) (by kernel_rfl) (fun _ _ _ h => h) (Or.inl ⟨by rfl, ?_⟩) (by assumption) ?_
  rotate_left
  · (intro ww hSw; (try dsimp only at hSw); go_simp; (try with_reducible rfl))
  try simp only [Act.put, List.setIfInBounds_toArray, List.set_cons_zero, List.set_cons_succ]
  refine wpAnyH_take (i := 14) (v := ?_) (by simp only [List.getElem?_toArray, List.getElem?_cons_succ, List.getElem?_cons_zero]; rfl) (by kernel_rfl) (by kernel_rfl) (by kernel_rfl) (fun _ _ _ h => h) (Or.inl ⟨by rfl, ?_⟩) (by assumption) ?_
  rotate_left
  · (intro ww hSw; (try dsimp only at hSw); go_simp; (try with_reducible rfl))
  try simp only [Act.put, List.setIfInBounds_toArray, List.set_cons_zero, List.set_cons_succ]
  refine wpAnyH_take (i := 15) (v := ?_) (by simp only [List.getElem?_toArray, List.getElem?_cons_succ, List.getElem?_cons_zero]; rfl) (by kernel_rfl) (by kernel_rfl) (by kernel_rfl) (fun _ _ _ h => h) (Or.inl ⟨by rfl, ?_⟩) (by assumption) ?_
  rotate_left
  · (intro ww hSw; (try dsimp only at hSw); go_simp; (try with_reducible rfl))
  try simp only [Act.put, List.setIfInBounds_toArray, List.set_cons_zero, List.set_cons_succ]
  refine wpAnyH_take (i := 16) (v := ?_) (by simp only [List.getElem?_toArray, List.getElem?_cons_succ, List.getElem?_cons_zero]; rfl) (by kernel_rfl) (by kernel_rfl) (by kernel_rfl) (fun _ _ _ h => h) (Or.inl ⟨by rfl, ?_⟩) (by assumption) ?_
  rotate_left
  · (intro ww hSw; (try dsimp only at hSw); go_simp; (try with_reducible rfl))
  try simp only [Act.put, List.setIfInBounds_toArray, List.set_cons_zero, List.set_cons_succ]
  refine wpAnyH_done (by kernel_rfl) ?_ _
  refine NoPanic.normal ?_
  clear hHeld KS
  have B_5 := Lib.hid (bl B_4.out (bdrew1 (Below.refl V4.heap.size V4)))
  have H_5 := Lib.hid (H_4.out.call (bdrew1 (Below.refl V4.heap.size V4)))
  have A_5 := Lib.hid (A_4.out.call (bdrew1 (Below.refl V4.heap.size V4)))
  have YA_5 := Lib.hid (YA_4.out.call (bdrew1 (Below.refl V4.heap.size V4)))
  clear B_4 H_4 A_4 YA_4
  generalize V4.drew = V5 at *
  have hcH := H_5.out.2.2
  have hlH := H_5.out.2.1
  have hcA := A_5.out.2.2
  have hlA := A_5.out.2.1
  go_wp2_with fail
  refine (rsame_yes (Shape.refl x) (Shape.refl x) rfl _ ⟨pd, some ⟨b, o, none⟩, pac, some ⟨kb, ko, none⟩, pkc, pw, pwc⟩ _ YA_5.out (HWA.out.below B_5.out (Nat.le_refl _))).mono ?_
  rintro e u6 ⟨rfl, b6⟩
  clear hcH hlH hcA hlA
  have B_6 := Lib.hid (bl B_5.out b6)
  have H_6 := Lib.hid (H_5.out.call b6)
  have A_6 := Lib.hid (A_5.out.call b6)
  have YA_6 := Lib.hid (YA_5.out.call b6)
  clear b6 B_5 H_5 A_5 YA_5
  go_wp2_with fail
  go_ret
  exact ⟨rfl, B_6.out⟩
set_option maxRecDepth 100000 in
set_option maxHeartbeats 1000000 in
theorem giftsNone_poor (x : Wd) (pd : Dp) (b o pac kb ko pkc : Nat) (pw : Option Addr) (pwc : Nat) (a d i k m : Nat) (haa : a ≤ 255) (hdd : d ≤ 255) (hm : m ≤ 1073741824) (hi : a % x.at_.length = i) (hk : d % x.at_.length = k) (w : World) (h : WorldAt w ⟨pd, some ⟨b, o, none⟩, pac, some ⟨kb, ko, none⟩, pkc, pw, pwc⟩ x) (hf : fitsB x = true) (c1 : w.cell? ⟨b, o + i, none⟩ = some (.int .i64 (roomOf x i : Int))) (c2 : w.cell? ⟨b, o + k, none⟩ = some (.int .i64 (roomOf x k : Int))) (hs : ¬ i = k) (hr : roomOf x i = roomOf x k) (ci ck : Int) (hci : 0 ≤ ci ∧ ci ≤ 1073741824) (hck : 0 ≤ ck ∧ ck ≤ 1073741824) (cc : CoC w kb ko i k ci ck) (lic : i < x.coins.length) (lkc : k < x.coins.length) (hP : tradeW x i k [] [] m 0 = (x, 10)) (hpo : ci < (m : Int)) (hz2 : True) : Calls Try.prog 6 #[.agg #[.slice pd.ex x.d.exits.length pd.exc, .slice pd.pl x.d.players.length pd.plc, .slice pd.co x.d.coins.length pd.coc, .slice pd.it x.d.items.length pd.itc, .slice pd.bo x.d.boxes.length pd.boc, .int .i64 x.d.room, .int .i64 x.d.player, .int .i64 x.d.box, .slice (some ⟨b, o, none⟩) x.at_.length pac, .slice (some ⟨kb, ko, none⟩) x.coins.length pkc, .slice pw x.wher.length pwc], .int .u8 (a : Int), .int .u8 (d : Int), .int .u32 (m : Int)] w fun e w' => e = .returned (.bool true) ∧ Below w.heap.size w w' := by
  have r1 := run_tmod7 a x.at_.length
  have m1 := run_mod7 a x.at_.length
  rw [hi] at r1 m1
  have FT := Lib.hid (fits_fit hf)
  have hlp : 0 < x.at_.length := (right_lens FT.out.right).1
  have hne : ¬ x.at_ = [] := List.length_pos_iff.1 hlp
  have hil : i < x.at_.length := by rw [← hi]; exact Nat.mod_lt _ hlp
  have hlen6 := (right_lens FT.out.right).2.1
  have r2 := run_tmod7 d x.at_.length
  have m2 := run_mod7 d x.at_.length
  rw [hk] at r2 m2
  have hkl : k < x.at_.length := by rw [← hk]; exact Nat.mod_lt _ hlp
  obtain ⟨hT1, hT2⟩ := trade_none FT.out.right hil hkl
  obtain ⟨e, he⟩ : ∃ e, (tradeW x i k [] [] 0 0).2 = e := ⟨_, rfl⟩
  have HT := Lib.hid (show tradeW x i k [] [] 0 0 = (x, e) by rw [← he]; exact Prod.ext hT1 rfl)
  rw [he] at hT2
  have HAT := Lib.hid (⟨c1, c2⟩ : w.cell? ⟨b, o + i, none⟩ = some (.int .i64 (roomOf x i : Int)) ∧ w.cell? ⟨b, o + k, none⟩ = some (.int .i64 (roomOf x k : Int)))
  have hil2 : ¬ (x.at_.length : Int) ≤ (i : Int) := by omega
  have hil3 : (x.at_.length ≤ i) = False := by simp; omega
  have hkl2 : ¬ (x.at_.length : Int) ≤ (k : Int) := by omega
  have hkl3 : (x.at_.length ≤ k) = False := by simp; omega
  have hne2 : ((i : Int) != (k : Int)) = true := by simp; omega
  have hz : (e == 0) = true := by simp; exact hT2.2 ⟨hs, hr⟩
  have hro : ((roomOf x i : Int) == (roomOf x k : Int)) = true := by simp [hr]
  have HP := Lib.hid hP
  have CC_0 := Lib.hid cc
  have HZ := Lib.hid hz2
  clear hi hlp hk hT1 hT2 he c1 c2 hr hP cc hz2
  have hmw : IntKind.i64.wrap (m : Int) = (m : Int) := IntWalk.i64_in _ (by omega)
  have H_0 := Lib.hid (Holds.new w #[.slice pd.ex x.d.exits.length pd.exc, .slice pd.pl x.d.players.length pd.plc, .slice pd.co x.d.coins.length pd.coc, .slice pd.it x.d.items.length pd.itc, .slice pd.bo x.d.boxes.length pd.boc, .int .i64 x.d.room, .int .i64 x.d.player, .int .i64 x.d.box, .slice (some ⟨b, o, none⟩) x.at_.length pac, .slice (some ⟨kb, ko, none⟩) x.coins.length pkc, .slice pw x.wher.length pwc] 29)
  have HF := Lib.hid hf
  have HWA := Lib.hid h
  clear hf h
  go_enter Try.func6, Try.ntmps6
  go_wp2_with fail
  generalize w.alloc (.cells #[.slice pd.ex x.d.exits.length pd.exc, .slice pd.pl x.d.players.length pd.plc, .slice pd.co x.d.coins.length pd.coc, .slice pd.it x.d.items.length pd.itc, .slice pd.bo x.d.boxes.length pd.boc, .int .i64 x.d.room, .int .i64 x.d.player, .int .i64 x.d.box, .slice (some ⟨b, o, none⟩) x.at_.length pac, .slice (some ⟨kb, ko, none⟩) x.coins.length pkc, .slice pw x.wher.length pwc] 29) = V0 at *
  have B_0 := Lib.hid H_0.out.1
  refine (awake11_any _).mono ?_
  rintro e u1 ⟨rfl, b1⟩
  have B_1 := Lib.hid (bl B_0.out b1)
  have H_1 := Lib.hid (H_0.out.call b1)
  clear b1 B_0 H_0
  have hcH := H_1.out.2.2
  have hlH := H_1.out.2.1
  go_wp2_with fail
  refine (fits11_any x ⟨pd, some ⟨b, o, none⟩, pac, some ⟨kb, ko, none⟩, pkc, pw, pwc⟩ _ (HWA.out.below H_1.out.1 (Nat.le_refl _))).mono ?_
  rintro e u2 ⟨rfl, b2⟩
  rw [HF.out]
  clear hcH hlH
  have B_2 := Lib.hid (bl B_1.out b2)
  have H_2 := Lib.hid (H_1.out.call b2)
  clear b2 B_1 H_1
  have hcH := H_2.out.2.2
  have hlH := H_2.out.2.1
  go_wp2_with fail
  have CC_2 := Lib.hid (CC_0.out.call B_2.out)
  refine (trade_nil_as (Shape.refl x) ⟨pd, some ⟨b, o, none⟩, pac, some ⟨kb, ko, none⟩, pkc, pw, pwc⟩ i _ FT.out.right (HWA.out.below B_2.out (Nat.le_refl _)) hil k 0 HT.out).mono ?_
  rintro e u3 ⟨q1, rfl, gr, b3⟩
  clear hcH hlH
  have B_3 := Lib.hid (bl B_2.out b3)
  have H_3 := Lib.hid (H_2.out.call b3)
  have CC_3 := Lib.hid (CC_2.out.call b3)
  have YA_3 := Lib.hid gr
  clear b3 B_2 H_2 CC_2 gr
  have hcH := H_3.out.2.2
  have hlH := H_3.out.2.1
  go_wp2_with fail
  clear hcH hlH
  have s4 : (u3.alloc (.cells #[.slice q1.d.ex x.d.exits.length q1.d.exc, .slice q1.d.pl x.d.players.length q1.d.plc, .slice q1.d.co x.d.coins.length q1.d.coc, .slice q1.d.it x.d.items.length q1.d.itc, .slice q1.d.bo x.d.boxes.length q1.d.boc, .int .i64 x.d.room, .int .i64 x.d.player, .int .i64 x.d.box, .slice q1.at_ x.at_.length q1.atc, .slice q1.co x.coins.length q1.coc, .slice q1.wh x.wher.length q1.whc] 29)).heap.size = u3.heap.size + 1 := by simp
  have B_4 := Lib.hid (B_3.out.alloc B_3.out.size (.cells #[.slice q1.d.ex x.d.exits.length q1.d.exc, .slice q1.d.pl x.d.players.length q1.d.plc, .slice q1.d.co x.d.coins.length q1.d.coc, .slice q1.d.it x.d.items.length q1.d.itc, .slice q1.d.bo x.d.boxes.length q1.d.boc, .int .i64 x.d.room, .int .i64 x.d.player, .int .i64 x.d.box, .slice q1.at_ x.at_.length q1.atc, .slice q1.co x.coins.length q1.coc, .slice q1.wh x.wher.length q1.whc] 29))
  have H_4 := Lib.hid (H_3.out.alloc (.cells #[.slice q1.d.ex x.d.exits.length q1.d.exc, .slice q1.d.pl x.d.players.length q1.d.plc, .slice q1.d.co x.d.coins.length q1.d.coc, .slice q1.d.it x.d.items.length q1.d.itc, .slice q1.d.bo x.d.boxes.length q1.d.boc, .int .i64 x.d.room, .int .i64 x.d.player, .int .i64 x.d.box, .slice q1.at_ x.at_.length q1.atc, .slice q1.co x.coins.length q1.coc, .slice q1.wh x.wher.length q1.whc] 29))
  have CC_4 := Lib.hid (CC_3.out.call ((Below.refl _ _).alloc (Nat.le_refl _) (.cells #[.slice q1.d.ex x.d.exits.length q1.d.exc, .slice q1.d.pl x.d.players.length q1.d.plc, .slice q1.d.co x.d.coins.length q1.d.coc, .slice q1.d.it x.d.items.length q1.d.itc, .slice q1.d.bo x.d.boxes.length q1.d.boc, .int .i64 x.d.room, .int .i64 x.d.player, .int .i64 x.d.box, .slice q1.at_ x.at_.length q1.atc, .slice q1.co x.coins.length q1.coc, .slice q1.wh x.wher.length q1.whc] 29)))
  have YA_4 := Lib.hid (YA_3.out.call ((Below.refl _ _).alloc (Nat.le_refl _) (.cells #[.slice q1.d.ex x.d.exits.length q1.d.exc, .slice q1.d.pl x.d.players.length q1.d.plc, .slice q1.d.co x.d.coins.length q1.d.coc, .slice q1.d.it x.d.items.length q1.d.itc, .slice q1.d.bo x.d.boxes.length q1.d.boc, .int .i64 x.d.room, .int .i64 x.d.player, .int .i64 x.d.box, .slice q1.at_ x.at_.length q1.atc, .slice q1.co x.coins.length q1.coc, .slice q1.wh x.wher.length q1.whc] 29)))
  have A_4 := Lib.hid (Holds.newb (w := w) (A := #[.slice q1.d.ex x.d.exits.length q1.d.exc, .slice q1.d.pl x.d.players.length q1.d.plc, .slice q1.d.co x.d.coins.length q1.d.coc, .slice q1.d.it x.d.items.length q1.d.itc, .slice q1.d.bo x.d.boxes.length q1.d.boc, .int .i64 x.d.room, .int .i64 x.d.player, .int .i64 x.d.box, .slice q1.at_ x.at_.length q1.atc, .slice q1.co x.coins.length q1.coc, .slice q1.wh x.wher.length q1.whc]) (t := 29) (n := u3.heap.size) B_3.out rfl)
  clear B_3 H_3 CC_3 YA_3
  generalize u3.alloc (.cells #[.slice q1.d.ex x.d.exits.length q1.d.exc, .slice q1.d.pl x.d.players.length q1.d.plc, .slice q1.d.co x.d.coins.length q1.d.coc, .slice q1.d.it x.d.items.length q1.d.itc, .slice q1.d.bo x.d.boxes.length q1.d.boc, .int .i64 x.d.room, .int .i64 x.d.player, .int .i64 x.d.box, .slice q1.at_ x.at_.length q1.atc, .slice q1.co x.coins.length q1.coc, .slice q1.wh x.wher.length q1.whc] 29) = V4 at *
  have hcH := H_4.out.2.2
  have hlH := H_4.out.2.1
  have hcA := A_4.out.2.2
  have hlA := A_4.out.2.1
  clear hcH hlH hcA hlA
  have KS : Hid (∀ w', Below V4.heap.size V4 w' → Below V4.heap.size V4 w' ∧ (∀ ii, w'.cell? ⟨w.heap.size, ii, none⟩ = (#[.slice pd.ex x.d.exits.length pd.exc, .slice pd.pl x.d.players.length pd.plc, .slice pd.co x.d.coins.length pd.coc, .slice pd.it x.d.items.length pd.itc, .slice pd.bo x.d.boxes.length pd.boc, .int .i64 x.d.room, .int .i64 x.d.player, .int .i64 x.d.box, .slice (some ⟨b, o, none⟩) x.at_.length pac, .slice (some ⟨kb, ko, none⟩) x.coins.length pkc, .slice pw x.wher.length pwc][ii]? : Option Value)) ∧ w'.cell? ⟨b, o + i, none⟩ = some (.int .i64 (roomOf x i : Int)) ∧ w'.cell? ⟨b, o + k, none⟩ = some (.int .i64 (roomOf x k : Int))) := Lib.hid (fun w' hb => ⟨hb, fun ii => (hb.cell (p := ⟨w.heap.size, ii, none⟩) H_4.out.2.1).trans (H_4.out.2.2 ii), cell_call (cell_call HAT.out.1 B_4.out) hb, cell_call (cell_call HAT.out.2 B_4.out) hb⟩)
  refine wp_region_noPanic ?_
  refine wp_region_held_drew (S := (fun w' => Below V4.heap.size V4 w' ∧ (∀ ii, w'.cell? ⟨w.heap.size, ii, none⟩ = (#[.slice pd.ex x.d.exits.length pd.exc, .slice pd.pl x.d.players.length pd.plc, .slice pd.co x.d.coins.length pd.coc, .slice pd.it x.d.items.length pd.itc, .slice pd.bo x.d.boxes.length pd.boc, .int .i64 x.d.room, .int .i64 x.d.player, .int .i64 x.d.box, .slice (some ⟨b, o, none⟩) x.at_.length pac, .slice (some ⟨kb, ko, none⟩) x.coins.length pkc, .slice pw x.wher.length pwc][ii]? : Option Value)) ∧ w'.cell? ⟨b, o + i, none⟩ = some (.int .i64 (roomOf x i : Int)) ∧ w'.cell? ⟨b, o + k, none⟩ = some (.int .i64 (roomOf x k : Int)))) (by kernel_rfl) (by (first | (with_reducible exact KS.out _ (bdrew1 (Below.refl _ _))))) (fun hHeld => ?_)
  refine wpAnyH_take (i := 0) (v := ?_) (by simp only [List.getElem?_toArray, List.getElem?_cons_zero]; rfl) (by kernel_rfl) (by kernel_rfl) (by kernel_rfl) (fun _ _ _ h => h) (Or.inl ⟨by rfl, ?_⟩) (by assumption) ?_
  rotate_left
  · (intro ww hSw; (try dsimp only at hSw); go_simp; (try with_reducible rfl))
  try simp only [Act.put, List.setIfInBounds_toArray, List.set_cons_zero, List.set_cons_succ]
  refine wpAnyH_take (i := 1) (v := ?_) (by simp only [List.getElem?_toArray, List.getElem?_cons_succ, List.getElem?_cons_zero]; rfl) (by kernel_rfl) (by kernel_rfl) (by kernel_rfl) (fun _ _ _ h => h) (Or.inl ⟨by rfl, ?_⟩) (by assumption) ?_
  rotate_left
  · (intro ww hSw; (try dsimp only at hSw); go_simp; (try with_reducible rfl))
  try simp only [Act.put, List.setIfInBounds_toArray, List.set_cons_zero, List.set_cons_succ]
  refine wpAnyH_take (i := 2) (v := ?_) (by simp only [List.getElem?_toArray, List.getElem?_cons_succ, List.getElem?_cons_zero]; rfl) (by kernel_rfl) (by kernel_rfl) (by kernel_rfl) (fun _ _ _ h => h) (Or.inl ⟨by rfl, ?_⟩) (by assumption) ?_
  rotate_left
  · (intro ww hSw; (try dsimp only at hSw); go_simp; (try with_reducible rfl))
  try simp only [Act.put, List.setIfInBounds_toArray, List.set_cons_zero, List.set_cons_succ]
  refine wpAnyH_take (i := 3) (v := ?_) (by simp only [List.getElem?_toArray, List.getElem?_cons_succ, List.getElem?_cons_zero]; rfl) (by kernel_rfl) (by kernel_rfl) (by kernel_rfl) (fun _ _ _ h => h) (Or.inl ⟨by rfl, ?_⟩) (by assumption) ?_
  rotate_left
  · (intro ww hSw; (try dsimp only at hSw); go_simp; (try with_reducible rfl))
  try simp only [Act.put, List.setIfInBounds_toArray, List.set_cons_zero, List.set_cons_succ]
  refine wpAnyH_take (i := 4) (v := ?_) (by simp only [List.getElem?_toArray, List.getElem?_cons_succ, List.getElem?_cons_zero]; rfl) (by kernel_rfl) (by kernel_rfl) (by kernel_rfl) (fun _ _ _ h => h) (Or.inl ⟨by rfl, ?_⟩) (by assumption) ?_
  rotate_left
  · (intro ww hSw; (try dsimp only at hSw); go_simp; (try with_reducible rfl))
  try simp only [Act.put, List.setIfInBounds_toArray, List.set_cons_zero, List.set_cons_succ]
  refine wpAnyH_take (i := 5) (v := ?_) (by simp only [List.getElem?_toArray, List.getElem?_cons_succ, List.getElem?_cons_zero]; rfl) (by kernel_rfl) (by kernel_rfl) (by kernel_rfl) (fun _ _ _ h => h) (Or.inl ⟨by rfl, ?_⟩) (by assumption) ?_
  rotate_left
  · (intro ww hSw; (try dsimp only at hSw); go_simp; (try with_reducible rfl))
  try simp only [Act.put, List.setIfInBounds_toArray, List.set_cons_zero, List.set_cons_succ]
  refine wpAnyH_take (i := 6) (v := ?_) (by simp only [List.getElem?_toArray, List.getElem?_cons_succ, List.getElem?_cons_zero]; rfl) (by kernel_rfl) (by kernel_rfl) (by kernel_rfl) (fun _ _ _ h => h) (Or.inl ⟨by rfl, ?_⟩) (by assumption) ?_
  rotate_left
  · (intro ww hSw; (try dsimp only at hSw); go_simp; (try with_reducible rfl))
  try simp only [Act.put, List.setIfInBounds_toArray, List.set_cons_zero, List.set_cons_succ]
  refine wpAnyH_take (i := 7) (v := ?_) (by simp only [List.getElem?_toArray, List.getElem?_cons_succ, List.getElem?_cons_zero]; rfl) (by kernel_rfl) (by kernel_rfl) (by kernel_rfl) (fun _ _ _ h => h) (Or.inl ⟨by rfl, ?_⟩) (by assumption) ?_
  rotate_left
  · (intro ww hSw; (try dsimp only at hSw); go_simp; (try with_reducible rfl))
  try simp only [Act.put, List.setIfInBounds_toArray, List.set_cons_zero, List.set_cons_succ]
  refine wpAnyH_take (i := 8) (v := ?_) (by simp only [List.getElem?_toArray, List.getElem?_cons_succ, List.getElem?_cons_zero]; rfl) (by kernel_rfl) (by kernel_rfl) (by kernel_rfl) (fun _ _ _ h => h) (Or.inl ⟨by rfl, ?_⟩) (by assumption) ?_
  rotate_left
  · (intro ww hSw; (try dsimp only at hSw); go_simp; (try with_reducible rfl))
  try simp only [Act.put, List.setIfInBounds_toArray, List.set_cons_zero, List.set_cons_succ]
  refine wpAnyH_take (i := 9) (v := ?_) (by simp only [List.getElem?_toArray, List.getElem?_cons_succ, List.getElem?_cons_zero]; rfl) (by kernel_rfl) (by kernel_rfl) (by kernel_rfl) (fun _ _ _ h => h) (Or.inl ⟨by rfl, ?_⟩) (by assumption) ?_
  rotate_left
  · (intro ww hSw; (try dsimp only at hSw); go_simp; (try with_reducible rfl))
  try simp only [Act.put, List.setIfInBounds_toArray, List.set_cons_zero, List.set_cons_succ]
  refine wpAnyH_take (i := 10) (v := ?_) (by simp only [List.getElem?_toArray, List.getElem?_cons_succ, List.getElem?_cons_zero]; rfl) (by kernel_rfl) (by kernel_rfl) (by kernel_rfl) (fun _ _ _ h => h) (Or.inl ⟨by rfl, ?_⟩) (by assumption) ?_
  rotate_left
  · (intro ww hSw; (try dsimp only at hSw); go_simp; (try with_reducible rfl))
  try simp only [Act.put, List.setIfInBounds_toArray, List.set_cons_zero, List.set_cons_succ]
  refine wpAnyH_take (i := 11) (v := ?_) (by simp only [List.getElem?_toArray, List.getElem?_cons_succ, List.getElem?_cons_zero]; rfl) (by kernel_rfl) (by kernel_rfl) (by kernel_rfl) (fun _ _ _ h => h) (Or.inl ⟨by rfl, ?_⟩) (by assumption) ?_
  rotate_left
  · (intro ww hSw; (try dsimp only at hSw); go_simp; (try with_reducible rfl))
  try simp only [Act.put, List.setIfInBounds_toArray, List.set_cons_zero, List.set_cons_succ]
  refine wpAnyH_take (i := 12) (v := ?_) (by simp only [List.getElem?_toArray, List.getElem?_cons_succ, List.getElem?_cons_zero]; rfl) (by kernel_rfl) (by kernel_rfl) (by kernel_rfl) (fun _ _ _ h => h) (Or.inl ⟨by rfl, ?_⟩) (by assumption) ?_
  rotate_left
  · (intro ww hSw; (try dsimp only at hSw); go_simp; (try with_reducible rfl))
  try simp only [Act.put, List.setIfInBounds_toArray, List.set_cons_zero, List.set_cons_succ]
  refine wpAnyH_take (i := 13) (v := ?_) (by simp only [List.getElem?_toArray, List.getElem?_cons_succ, List.getElem?_cons_zero]; rfl) (by kernel_rfl) (by kernel_rfl) (by kernel_rfl) (fun _ _ _ h => h) (Or.inl ⟨by rfl, ?_⟩) (by assumption) ?_
  rotate_left
  · (intro ww hSw; (try dsimp only at hSw); go_simp; (try with_reducible rfl))
  try simp only [Act.put, List.setIfInBounds_toArray, List.set_cons_zero, List.set_cons_succ]
  refine wpAnyH_take (i := 14) (v := ?_) (by simp only [List.getElem?_toArray, List.getElem?_cons_succ, List.getElem?_cons_zero]; rfl) (by kernel_rfl) (by kernel_rfl) (by kernel_rfl) (fun _ _ _ h => h) (Or.inl ⟨by rfl, ?_⟩) (by assumption) ?_
  rotate_left
  · (intro ww hSw; (try dsimp only at hSw); go_simp; (try with_reducible rfl))
  try simp only [Act.put, List.setIfInBounds_toArray, List.set_cons_zero, List.set_cons_succ]
  refine wpAnyH_take (i := 15) (v := ?_) (by simp only [List.getElem?_toArray, List.getElem?_cons_succ, List.getElem?_cons_zero]; rfl) (by kernel_rfl) (by kernel_rfl) (by kernel_rfl) (fun _ _ _ h => h) (Or.inl ⟨by rfl, ?_⟩) (by assumption) ?_
  rotate_left
  · (intro ww hSw; (try dsimp only at hSw); go_simp; (try with_reducible rfl))
  try simp only [Act.put, List.setIfInBounds_toArray, List.set_cons_zero, List.set_cons_succ]
  refine wpAnyH_take (i := 16) (v := ?_) (by simp only [List.getElem?_toArray, List.getElem?_cons_succ, List.getElem?_cons_zero]; rfl) (by kernel_rfl) (by kernel_rfl) (by kernel_rfl) (fun _ _ _ h => h) (Or.inl ⟨by rfl, ?_⟩) (by assumption) ?_
  rotate_left
  · (intro ww hSw; (try dsimp only at hSw); go_simp; (try with_reducible rfl))
  try simp only [Act.put, List.setIfInBounds_toArray, List.set_cons_zero, List.set_cons_succ]
  refine wpAnyH_done (by kernel_rfl) ?_ _
  refine NoPanic.normal ?_
  clear hHeld KS
  have B_5 := Lib.hid (bl B_4.out (bdrew1 (Below.refl V4.heap.size V4)))
  have H_5 := Lib.hid (H_4.out.call (bdrew1 (Below.refl V4.heap.size V4)))
  have A_5 := Lib.hid (A_4.out.call (bdrew1 (Below.refl V4.heap.size V4)))
  have CC_5 := Lib.hid (CC_4.out.call (bdrew1 (Below.refl V4.heap.size V4)))
  have YA_5 := Lib.hid (YA_4.out.call (bdrew1 (Below.refl V4.heap.size V4)))
  clear B_4 H_4 A_4 CC_4 YA_4
  generalize V4.drew = V5 at *
  have hcH := H_5.out.2.2
  have hlH := H_5.out.2.1
  have hcA := A_5.out.2.2
  have hlA := A_5.out.2.1
  go_wp2_with fail
  refine (rsame_yes (Shape.refl x) (Shape.refl x) rfl _ ⟨pd, some ⟨b, o, none⟩, pac, some ⟨kb, ko, none⟩, pkc, pw, pwc⟩ _ YA_5.out (HWA.out.below B_5.out (Nat.le_refl _))).mono ?_
  rintro e u6 ⟨rfl, b6⟩
  clear hcH hlH hcA hlA
  have B_6 := Lib.hid (bl B_5.out b6)
  have H_6 := Lib.hid (H_5.out.call b6)
  have A_6 := Lib.hid (A_5.out.call b6)
  have CC_6 := Lib.hid (CC_5.out.call b6)
  have YA_6 := Lib.hid (YA_5.out.call b6)
  clear b6 B_5 H_5 A_5 CC_5 YA_5
  have hcH := H_6.out.2.2
  have hlH := H_6.out.2.1
  have hcA := A_6.out.2.2
  have hlA := A_6.out.2.1
  go_wp2_with fail
  refine (trade_nil_as (Shape.refl x) ⟨pd, some ⟨b, o, none⟩, pac, some ⟨kb, ko, none⟩, pkc, pw, pwc⟩ i _ FT.out.right (HWA.out.below B_6.out (Nat.le_refl _)) hil k (m : Int) HP.out).mono ?_
  rintro e u7 ⟨⟨xd, xa, xac, xk, xkc, xw, xwc⟩, rfl, gr, b7⟩
  clear hcH hlH hcA hlA
  have B_7 := Lib.hid (bl B_6.out b7)
  have H_7 := Lib.hid (H_6.out.call b7)
  have A_7 := Lib.hid (A_6.out.call b7)
  have CC_7 := Lib.hid (CC_6.out.call b7)
  have YA_7 := Lib.hid (YA_6.out.call b7)
  clear b7 B_6 H_6 A_6 CC_6 YA_6
  have hcH := H_7.out.2.2
  have hlH := H_7.out.2.1
  have hcA := A_7.out.2.2
  have hlA := A_7.out.2.1
  clear gr
  go_wp2_with fail
  clear hcH hlH hcA hlA
  have s8 : (u7.alloc (.cells #[.slice xd.ex x.d.exits.length xd.exc, .slice xd.pl x.d.players.length xd.plc, .slice xd.co x.d.coins.length xd.coc, .slice xd.it x.d.items.length xd.itc, .slice xd.bo x.d.boxes.length xd.boc, .int .i64 x.d.room, .int .i64 x.d.player, .int .i64 x.d.box, .slice xa x.at_.length xac, .slice xk x.coins.length xkc, .slice xw x.wher.length xwc] 29)).heap.size = u7.heap.size + 1 := by simp
  have B_8 := Lib.hid (B_7.out.alloc B_7.out.size (.cells #[.slice xd.ex x.d.exits.length xd.exc, .slice xd.pl x.d.players.length xd.plc, .slice xd.co x.d.coins.length xd.coc, .slice xd.it x.d.items.length xd.itc, .slice xd.bo x.d.boxes.length xd.boc, .int .i64 x.d.room, .int .i64 x.d.player, .int .i64 x.d.box, .slice xa x.at_.length xac, .slice xk x.coins.length xkc, .slice xw x.wher.length xwc] 29))
  have H_8 := Lib.hid (H_7.out.alloc (.cells #[.slice xd.ex x.d.exits.length xd.exc, .slice xd.pl x.d.players.length xd.plc, .slice xd.co x.d.coins.length xd.coc, .slice xd.it x.d.items.length xd.itc, .slice xd.bo x.d.boxes.length xd.boc, .int .i64 x.d.room, .int .i64 x.d.player, .int .i64 x.d.box, .slice xa x.at_.length xac, .slice xk x.coins.length xkc, .slice xw x.wher.length xwc] 29))
  have A_8 := Lib.hid (A_7.out.alloc (.cells #[.slice xd.ex x.d.exits.length xd.exc, .slice xd.pl x.d.players.length xd.plc, .slice xd.co x.d.coins.length xd.coc, .slice xd.it x.d.items.length xd.itc, .slice xd.bo x.d.boxes.length xd.boc, .int .i64 x.d.room, .int .i64 x.d.player, .int .i64 x.d.box, .slice xa x.at_.length xac, .slice xk x.coins.length xkc, .slice xw x.wher.length xwc] 29))
  have CC_8 := Lib.hid (CC_7.out.call ((Below.refl _ _).alloc (Nat.le_refl _) (.cells #[.slice xd.ex x.d.exits.length xd.exc, .slice xd.pl x.d.players.length xd.plc, .slice xd.co x.d.coins.length xd.coc, .slice xd.it x.d.items.length xd.itc, .slice xd.bo x.d.boxes.length xd.boc, .int .i64 x.d.room, .int .i64 x.d.player, .int .i64 x.d.box, .slice xa x.at_.length xac, .slice xk x.coins.length xkc, .slice xw x.wher.length xwc] 29)))
  have YA_8 := Lib.hid (YA_7.out.call ((Below.refl _ _).alloc (Nat.le_refl _) (.cells #[.slice xd.ex x.d.exits.length xd.exc, .slice xd.pl x.d.players.length xd.plc, .slice xd.co x.d.coins.length xd.coc, .slice xd.it x.d.items.length xd.itc, .slice xd.bo x.d.boxes.length xd.boc, .int .i64 x.d.room, .int .i64 x.d.player, .int .i64 x.d.box, .slice xa x.at_.length xac, .slice xk x.coins.length xkc, .slice xw x.wher.length xwc] 29)))
  have Q_8 := Lib.hid (Holds.newb (w := w) (A := #[.slice xd.ex x.d.exits.length xd.exc, .slice xd.pl x.d.players.length xd.plc, .slice xd.co x.d.coins.length xd.coc, .slice xd.it x.d.items.length xd.itc, .slice xd.bo x.d.boxes.length xd.boc, .int .i64 x.d.room, .int .i64 x.d.player, .int .i64 x.d.box, .slice xa x.at_.length xac, .slice xk x.coins.length xkc, .slice xw x.wher.length xwc]) (t := 29) (n := u7.heap.size) B_7.out rfl)
  clear B_7 H_7 A_7 CC_7 YA_7
  generalize u7.alloc (.cells #[.slice xd.ex x.d.exits.length xd.exc, .slice xd.pl x.d.players.length xd.plc, .slice xd.co x.d.coins.length xd.coc, .slice xd.it x.d.items.length xd.itc, .slice xd.bo x.d.boxes.length xd.boc, .int .i64 x.d.room, .int .i64 x.d.player, .int .i64 x.d.box, .slice xa x.at_.length xac, .slice xk x.coins.length xkc, .slice xw x.wher.length xwc] 29) = V8 at *
  have hcH := H_8.out.2.2
  have hlH := H_8.out.2.1
  have hcA := A_8.out.2.2
  have hlA := A_8.out.2.1
  have hcQ := Q_8.out.2.2
  have hlQ := Q_8.out.2.1
  clear hcH hlH hcA hlA hcQ hlQ
  have hil4 : ¬ (x.coins.length : Int) ≤ (i : Int) := by omega
  have hil5 : (x.coins.length ≤ i) = False := by simp; omega
  have hkl4 : ¬ (x.coins.length : Int) ≤ (k : Int) := by omega
  have hkl5 : (x.coins.length ≤ k) = False := by simp; omega
  have KS : Hid (∀ w', Below V8.heap.size V8 w' → Below V8.heap.size V8 w' ∧ (∀ ii, w'.cell? ⟨w.heap.size, ii, none⟩ = (#[.slice pd.ex x.d.exits.length pd.exc, .slice pd.pl x.d.players.length pd.plc, .slice pd.co x.d.coins.length pd.coc, .slice pd.it x.d.items.length pd.itc, .slice pd.bo x.d.boxes.length pd.boc, .int .i64 x.d.room, .int .i64 x.d.player, .int .i64 x.d.box, .slice (some ⟨b, o, none⟩) x.at_.length pac, .slice (some ⟨kb, ko, none⟩) x.coins.length pkc, .slice pw x.wher.length pwc][ii]? : Option Value)) ∧ (∀ ii, w'.cell? ⟨u7.heap.size, ii, none⟩ = (#[.slice xd.ex x.d.exits.length xd.exc, .slice xd.pl x.d.players.length xd.plc, .slice xd.co x.d.coins.length xd.coc, .slice xd.it x.d.items.length xd.itc, .slice xd.bo x.d.boxes.length xd.boc, .int .i64 x.d.room, .int .i64 x.d.player, .int .i64 x.d.box, .slice xa x.at_.length xac, .slice xk x.coins.length xkc, .slice xw x.wher.length xwc][ii]? : Option Value))) := Lib.hid (fun w' hb => ⟨hb, fun ii => (hb.cell (p := ⟨w.heap.size, ii, none⟩) H_8.out.2.1).trans (H_8.out.2.2 ii), fun ii => (hb.cell (p := ⟨u7.heap.size, ii, none⟩) Q_8.out.2.1).trans (Q_8.out.2.2 ii)⟩)
  refine wp_region_noPanic ?_
  refine wp_region_held_drew (S := (fun w' => Below V8.heap.size V8 w' ∧ (∀ ii, w'.cell? ⟨w.heap.size, ii, none⟩ = (#[.slice pd.ex x.d.exits.length pd.exc, .slice pd.pl x.d.players.length pd.plc, .slice pd.co x.d.coins.length pd.coc, .slice pd.it x.d.items.length pd.itc, .slice pd.bo x.d.boxes.length pd.boc, .int .i64 x.d.room, .int .i64 x.d.player, .int .i64 x.d.box, .slice (some ⟨b, o, none⟩) x.at_.length pac, .slice (some ⟨kb, ko, none⟩) x.coins.length pkc, .slice pw x.wher.length pwc][ii]? : Option Value)) ∧ (∀ ii, w'.cell? ⟨u7.heap.size, ii, none⟩ = (#[.slice xd.ex x.d.exits.length xd.exc, .slice xd.pl x.d.players.length xd.plc, .slice xd.co x.d.coins.length xd.coc, .slice xd.it x.d.items.length xd.itc, .slice xd.bo x.d.boxes.length xd.boc, .int .i64 x.d.room, .int .i64 x.d.player, .int .i64 x.d.box, .slice xa x.at_.length xac, .slice xk x.coins.length xkc, .slice xw x.wher.length xwc][ii]? : Option Value)))) (by kernel_rfl) (by (first | (with_reducible exact KS.out _ (bdrew1 (Below.refl _ _))))) (fun hHeld => ?_)
  refine wpAnyH_take (i := 0) (v := ?_) (by simp only [List.getElem?_toArray, List.getElem?_cons_zero]; rfl) (by kernel_rfl) (by kernel_rfl) (by kernel_rfl) (fun _ _ _ h => h) (Or.inl ⟨by rfl, ?_⟩) (by assumption) ?_
  rotate_left
  · (intro ww hSw; (try dsimp only at hSw); go_simp; (try with_reducible rfl))
  try simp only [Act.put, List.setIfInBounds_toArray, List.set_cons_zero, List.set_cons_succ]
  refine wpAnyH_take (i := 1) (v := ?_) (by simp only [List.getElem?_toArray, List.getElem?_cons_succ, List.getElem?_cons_zero]; rfl) (by kernel_rfl) (by kernel_rfl) (by kernel_rfl) (fun _ _ _ h => h) (Or.inl ⟨by rfl, ?_⟩) (by assumption) ?_
  rotate_left
  · (intro ww hSw; (try dsimp only at hSw); go_simp; (try with_reducible rfl))
  try simp only [Act.put, List.setIfInBounds_toArray, List.set_cons_zero, List.set_cons_succ]
  refine wpAnyH_take (i := 2) (v := ?_) (by simp only [List.getElem?_toArray, List.getElem?_cons_succ, List.getElem?_cons_zero]; rfl) (by kernel_rfl) (by kernel_rfl) (by kernel_rfl) (fun _ _ _ h => h) (Or.inl ⟨by rfl, ?_⟩) (by assumption) ?_
  rotate_left
  · (intro ww hSw; (try dsimp only at hSw); go_simp; (try with_reducible rfl))
  try simp only [Act.put, List.setIfInBounds_toArray, List.set_cons_zero, List.set_cons_succ]
  refine wpAnyH_take (i := 3) (v := undef) (by simp only [List.getElem?_toArray, List.getElem?_cons_succ, List.getElem?_cons_zero]; rfl) (by kernel_rfl) (by kernel_rfl) (by kernel_rfl) (fun _ _ _ h => h) (Or.inr ⟨by rfl, rfl⟩) (by assumption) ?_
  try simp only [Act.put, List.setIfInBounds_toArray, List.set_cons_zero, List.set_cons_succ]
  refine wpAnyH_take (i := 4) (v := undef) (by simp only [List.getElem?_toArray, List.getElem?_cons_succ, List.getElem?_cons_zero]; rfl) (by kernel_rfl) (by kernel_rfl) (by kernel_rfl) (fun _ _ _ h => h) (Or.inr ⟨by rfl, rfl⟩) (by assumption) ?_
  try simp only [Act.put, List.setIfInBounds_toArray, List.set_cons_zero, List.set_cons_succ]
  refine wpAnyH_take (i := 5) (v := undef) (by simp only [List.getElem?_toArray, List.getElem?_cons_succ, List.getElem?_cons_zero]; rfl) (by kernel_rfl) (by kernel_rfl) (by kernel_rfl) (fun _ _ _ h => h) (Or.inr ⟨by rfl, rfl⟩) (by assumption) ?_
  try simp only [Act.put, List.setIfInBounds_toArray, List.set_cons_zero, List.set_cons_succ]
  refine wpAnyH_take (i := 6) (v := undef) (by simp only [List.getElem?_toArray, List.getElem?_cons_succ, List.getElem?_cons_zero]; rfl) (by kernel_rfl) (by kernel_rfl) (by kernel_rfl) (fun _ _ _ h => h) (Or.inr ⟨by rfl, rfl⟩) (by assumption) ?_
  try simp only [Act.put, List.setIfInBounds_toArray, List.set_cons_zero, List.set_cons_succ]
  refine wpAnyH_take (i := 7) (v := undef) (by simp only [List.getElem?_toArray, List.getElem?_cons_succ, List.getElem?_cons_zero]; rfl) (by kernel_rfl) (by kernel_rfl) (by kernel_rfl) (fun _ _ _ h => h) (Or.inr ⟨by rfl, rfl⟩) (by assumption) ?_
  try simp only [Act.put, List.setIfInBounds_toArray, List.set_cons_zero, List.set_cons_succ]
  refine wpAnyH_take (i := 8) (v := undef) (by simp only [List.getElem?_toArray, List.getElem?_cons_succ, List.getElem?_cons_zero]; rfl) (by kernel_rfl) (by kernel_rfl) (by kernel_rfl) (fun _ _ _ h => h) (Or.inr ⟨by rfl, rfl⟩) (by assumption) ?_
  try simp only [Act.put, List.setIfInBounds_toArray, List.set_cons_zero, List.set_cons_succ]
  refine wpAnyH_take (i := 9) (v := undef) (by simp only [List.getElem?_toArray, List.getElem?_cons_succ, List.getElem?_cons_zero]; rfl) (by kernel_rfl) (by kernel_rfl) (by kernel_rfl) (fun _ _ _ h => h) (Or.inr ⟨by rfl, rfl⟩) (by assumption) ?_
  try simp only [Act.put, List.setIfInBounds_toArray, List.set_cons_zero, List.set_cons_succ]
  refine wpAnyH_take (i := 10) (v := undef) (by simp only [List.getElem?_toArray, List.getElem?_cons_succ, List.getElem?_cons_zero]; rfl) (by kernel_rfl) (by kernel_rfl) (by kernel_rfl) (fun _ _ _ h => h) (Or.inr ⟨by rfl, rfl⟩) (by assumption) ?_
  try simp only [Act.put, List.setIfInBounds_toArray, List.set_cons_zero, List.set_cons_succ]
  refine wpAnyH_take (i := 11) (v := undef) (by simp only [List.getElem?_toArray, List.getElem?_cons_succ, List.getElem?_cons_zero]; rfl) (by kernel_rfl) (by kernel_rfl) (by kernel_rfl) (fun _ _ _ h => h) (Or.inr ⟨by rfl, rfl⟩) (by assumption) ?_
  try simp only [Act.put, List.setIfInBounds_toArray, List.set_cons_zero, List.set_cons_succ]
  refine wpAnyH_take (i := 12) (v := undef) (by simp only [List.getElem?_toArray, List.getElem?_cons_succ, List.getElem?_cons_zero]; rfl) (by kernel_rfl) (by kernel_rfl) (by kernel_rfl) (fun _ _ _ h => h) (Or.inr ⟨by rfl, rfl⟩) (by assumption) ?_
  try simp only [Act.put, List.setIfInBounds_toArray, List.set_cons_zero, List.set_cons_succ]
  refine wpAnyH_take (i := 13) (v := undef) (by simp only [List.getElem?_toArray, List.getElem?_cons_succ, List.getElem?_cons_zero]; rfl) (by kernel_rfl) (by kernel_rfl) (by kernel_rfl) (fun _ _ _ h => h) (Or.inr ⟨by rfl, rfl⟩) (by assumption) ?_
  try simp only [Act.put, List.setIfInBounds_toArray, List.set_cons_zero, List.set_cons_succ]
  refine wpAnyH_take (i := 14) (v := undef) (by simp only [List.getElem?_toArray, List.getElem?_cons_succ, List.getElem?_cons_zero]; rfl) (by kernel_rfl) (by kernel_rfl) (by kernel_rfl) (fun _ _ _ h => h) (Or.inr ⟨by rfl, rfl⟩) (by assumption) ?_
  try simp only [Act.put, List.setIfInBounds_toArray, List.set_cons_zero, List.set_cons_succ]
  refine wpAnyH_take (i := 15) (v := undef) (by simp only [List.getElem?_toArray, List.getElem?_cons_succ, List.getElem?_cons_zero]; rfl) (by kernel_rfl) (by kernel_rfl) (by kernel_rfl) (fun _ _ _ h => h) (Or.inr ⟨by rfl, rfl⟩) (by assumption) ?_
  try simp only [Act.put, List.setIfInBounds_toArray, List.set_cons_zero, List.set_cons_succ]
  refine wpAnyH_take (i := 16) (v := undef) (by simp only [List.getElem?_toArray, List.getElem?_cons_succ, List.getElem?_cons_zero]; rfl) (by kernel_rfl) (by kernel_rfl) (by kernel_rfl) (fun _ _ _ h => h) (Or.inr ⟨by rfl, rfl⟩) (by assumption) ?_
  try simp only [Act.put, List.setIfInBounds_toArray, List.set_cons_zero, List.set_cons_succ]
  refine wpAnyH_take (i := 17) (v := undef) (by simp only [List.getElem?_toArray, List.getElem?_cons_succ, List.getElem?_cons_zero]; rfl) (by kernel_rfl) (by kernel_rfl) (by kernel_rfl) (fun _ _ _ h => h) (Or.inr ⟨by rfl, rfl⟩) (by assumption) ?_
  try simp only [Act.put, List.setIfInBounds_toArray, List.set_cons_zero, List.set_cons_succ]
  refine wpAnyH_take (i := 18) (v := undef) (by simp only [List.getElem?_toArray, List.getElem?_cons_succ, List.getElem?_cons_zero]; rfl) (by kernel_rfl) (by kernel_rfl) (by kernel_rfl) (fun _ _ _ h => h) (Or.inr ⟨by rfl, rfl⟩) (by assumption) ?_
  try simp only [Act.put, List.setIfInBounds_toArray, List.set_cons_zero, List.set_cons_succ]
  refine wpAnyH_take (i := 19) (v := undef) (by simp only [List.getElem?_toArray, List.getElem?_cons_succ, List.getElem?_cons_zero]; rfl) (by kernel_rfl) (by kernel_rfl) (by kernel_rfl) (fun _ _ _ h => h) (Or.inr ⟨by rfl, rfl⟩) (by assumption) ?_
  try simp only [Act.put, List.setIfInBounds_toArray, List.set_cons_zero, List.set_cons_succ]
  refine wpAnyH_take (i := 20) (v := undef) (by simp only [List.getElem?_toArray, List.getElem?_cons_succ, List.getElem?_cons_zero]; rfl) (by kernel_rfl) (by kernel_rfl) (by kernel_rfl) (fun _ _ _ h => h) (Or.inr ⟨by rfl, rfl⟩) (by assumption) ?_
  try simp only [Act.put, List.setIfInBounds_toArray, List.set_cons_zero, List.set_cons_succ]
  refine wpAnyH_take (i := 21) (v := undef) (by simp only [List.getElem?_toArray, List.getElem?_cons_succ, List.getElem?_cons_zero]; rfl) (by kernel_rfl) (by kernel_rfl) (by kernel_rfl) (fun _ _ _ h => h) (Or.inr ⟨by rfl, rfl⟩) (by assumption) ?_
  try simp only [Act.put, List.setIfInBounds_toArray, List.set_cons_zero, List.set_cons_succ]
  refine wpAnyH_take (i := 22) (v := undef) (by simp only [List.getElem?_toArray, List.getElem?_cons_succ, List.getElem?_cons_zero]; rfl) (by kernel_rfl) (by kernel_rfl) (by kernel_rfl) (fun _ _ _ h => h) (Or.inr ⟨by rfl, rfl⟩) (by assumption) ?_
  try simp only [Act.put, List.setIfInBounds_toArray, List.set_cons_zero, List.set_cons_succ]
  refine wpAnyH_take (i := 23) (v := undef) (by simp only [List.getElem?_toArray, List.getElem?_cons_succ, List.getElem?_cons_zero]; rfl) (by kernel_rfl) (by kernel_rfl) (by kernel_rfl) (fun _ _ _ h => h) (Or.inr ⟨by rfl, rfl⟩) (by assumption) ?_
  try simp only [Act.put, List.setIfInBounds_toArray, List.set_cons_zero, List.set_cons_succ]
  refine wpAnyH_take (i := 24) (v := undef) (by simp only [List.getElem?_toArray, List.getElem?_cons_succ, List.getElem?_cons_zero]; rfl) (by kernel_rfl) (by kernel_rfl) (by kernel_rfl) (fun _ _ _ h => h) (Or.inr ⟨by rfl, rfl⟩) (by assumption) ?_
  try simp only [Act.put, List.setIfInBounds_toArray, List.set_cons_zero, List.set_cons_succ]
  refine wpAnyH_take (i := 25) (v := undef) (by simp only [List.getElem?_toArray, List.getElem?_cons_succ, List.getElem?_cons_zero]; rfl) (by kernel_rfl) (by kernel_rfl) (by kernel_rfl) (fun _ _ _ h => h) (Or.inr ⟨by rfl, rfl⟩) (by assumption) ?_
  try simp only [Act.put, List.setIfInBounds_toArray, List.set_cons_zero, List.set_cons_succ]
  refine wpAnyH_take (i := 26) (v := undef) (by simp only [List.getElem?_toArray, List.getElem?_cons_succ, List.getElem?_cons_zero]; rfl) (by kernel_rfl) (by kernel_rfl) (by kernel_rfl) (fun _ _ _ h => h) (Or.inr ⟨by rfl, rfl⟩) (by assumption) ?_
  try simp only [Act.put, List.setIfInBounds_toArray, List.set_cons_zero, List.set_cons_succ]
  refine wpAnyH_take (i := 27) (v := undef) (by simp only [List.getElem?_toArray, List.getElem?_cons_succ, List.getElem?_cons_zero]; rfl) (by kernel_rfl) (by kernel_rfl) (by kernel_rfl) (fun _ _ _ h => h) (Or.inr ⟨by rfl, rfl⟩) (by assumption) ?_
  try simp only [Act.put, List.setIfInBounds_toArray, List.set_cons_zero, List.set_cons_succ]
  refine wpAnyH_take (i := 28) (v := undef) (by simp only [List.getElem?_toArray, List.getElem?_cons_succ, List.getElem?_cons_zero]; rfl) (by kernel_rfl) (by kernel_rfl) (by kernel_rfl) (fun _ _ _ h => h) (Or.inr ⟨by rfl, rfl⟩) (by assumption) ?_
  try simp only [Act.put, List.setIfInBounds_toArray, List.set_cons_zero, List.set_cons_succ]
  refine wpAnyH_take (i := 29) (v := undef) (by simp only [List.getElem?_toArray, List.getElem?_cons_succ, List.getElem?_cons_zero]; rfl) (by kernel_rfl) (by kernel_rfl) (by kernel_rfl) (fun _ _ _ h => h) (Or.inr ⟨by rfl, rfl⟩) (by assumption) ?_
  try simp only [Act.put, List.setIfInBounds_toArray, List.set_cons_zero, List.set_cons_succ]
  refine wpAnyH_take (i := 30) (v := undef) (by simp only [List.getElem?_toArray, List.getElem?_cons_succ, List.getElem?_cons_zero]; rfl) (by kernel_rfl) (by kernel_rfl) (by kernel_rfl) (fun _ _ _ h => h) (Or.inr ⟨by rfl, rfl⟩) (by assumption) ?_
  try simp only [Act.put, List.setIfInBounds_toArray, List.set_cons_zero, List.set_cons_succ]
  refine wpAnyH_take (i := 31) (v := undef) (by simp only [List.getElem?_toArray, List.getElem?_cons_succ, List.getElem?_cons_zero]; rfl) (by kernel_rfl) (by kernel_rfl) (by kernel_rfl) (fun _ _ _ h => h) (Or.inr ⟨by rfl, rfl⟩) (by assumption) ?_
  try simp only [Act.put, List.setIfInBounds_toArray, List.set_cons_zero, List.set_cons_succ]
  refine wpAnyH_take (i := 32) (v := undef) (by simp only [List.getElem?_toArray, List.getElem?_cons_succ, List.getElem?_cons_zero]; rfl) (by kernel_rfl) (by kernel_rfl) (by kernel_rfl) (fun _ _ _ h => h) (Or.inr ⟨by rfl, rfl⟩) (by assumption) ?_
  try simp only [Act.put, List.setIfInBounds_toArray, List.set_cons_zero, List.set_cons_succ]
  refine wpAnyH_take (i := 33) (v := undef) (by simp only [List.getElem?_toArray, List.getElem?_cons_succ, List.getElem?_cons_zero]; rfl) (by kernel_rfl) (by kernel_rfl) (by kernel_rfl) (fun _ _ _ h => h) (Or.inr ⟨by rfl, rfl⟩) (by assumption) ?_
  try simp only [Act.put, List.setIfInBounds_toArray, List.set_cons_zero, List.set_cons_succ]
  refine wpAnyH_take (i := 34) (v := undef) (by simp only [List.getElem?_toArray, List.getElem?_cons_succ, List.getElem?_cons_zero]; rfl) (by kernel_rfl) (by kernel_rfl) (by kernel_rfl) (fun _ _ _ h => h) (Or.inr ⟨by rfl, rfl⟩) (by assumption) ?_
  try simp only [Act.put, List.setIfInBounds_toArray, List.set_cons_zero, List.set_cons_succ]
  refine wpAnyH_take (i := 35) (v := undef) (by simp only [List.getElem?_toArray, List.getElem?_cons_succ, List.getElem?_cons_zero]; rfl) (by kernel_rfl) (by kernel_rfl) (by kernel_rfl) (fun _ _ _ h => h) (Or.inr ⟨by rfl, rfl⟩) (by assumption) ?_
  try simp only [Act.put, List.setIfInBounds_toArray, List.set_cons_zero, List.set_cons_succ]
  refine wpAnyH_take (i := 36) (v := undef) (by simp only [List.getElem?_toArray, List.getElem?_cons_succ, List.getElem?_cons_zero]; rfl) (by kernel_rfl) (by kernel_rfl) (by kernel_rfl) (fun _ _ _ h => h) (Or.inr ⟨by rfl, rfl⟩) (by assumption) ?_
  try simp only [Act.put, List.setIfInBounds_toArray, List.set_cons_zero, List.set_cons_succ]
  refine wpAnyH_take (i := 37) (v := undef) (by simp only [List.getElem?_toArray, List.getElem?_cons_succ, List.getElem?_cons_zero]; rfl) (by kernel_rfl) (by kernel_rfl) (by kernel_rfl) (fun _ _ _ h => h) (Or.inr ⟨by rfl, rfl⟩) (by assumption) ?_
  try simp only [Act.put, List.setIfInBounds_toArray, List.set_cons_zero, List.set_cons_succ]
  refine wpAnyH_take (i := 38) (v := undef) (by simp only [List.getElem?_toArray, List.getElem?_cons_succ, List.getElem?_cons_zero]; rfl) (by kernel_rfl) (by kernel_rfl) (by kernel_rfl) (fun _ _ _ h => h) (Or.inr ⟨by rfl, rfl⟩) (by assumption) ?_
  try simp only [Act.put, List.setIfInBounds_toArray, List.set_cons_zero, List.set_cons_succ]
  refine wpAnyH_take (i := 39) (v := undef) (by simp only [List.getElem?_toArray, List.getElem?_cons_succ, List.getElem?_cons_zero]; rfl) (by kernel_rfl) (by kernel_rfl) (by kernel_rfl) (fun _ _ _ h => h) (Or.inr ⟨by rfl, rfl⟩) (by assumption) ?_
  try simp only [Act.put, List.setIfInBounds_toArray, List.set_cons_zero, List.set_cons_succ]
  refine wpAnyH_take (i := 40) (v := undef) (by simp only [List.getElem?_toArray, List.getElem?_cons_succ, List.getElem?_cons_zero]; rfl) (by kernel_rfl) (by kernel_rfl) (by kernel_rfl) (fun _ _ _ h => h) (Or.inr ⟨by rfl, rfl⟩) (by assumption) ?_
  try simp only [Act.put, List.setIfInBounds_toArray, List.set_cons_zero, List.set_cons_succ]
  refine wpAnyH_take (i := 41) (v := ?_) (by simp only [List.getElem?_toArray, List.getElem?_cons_succ, List.getElem?_cons_zero]; rfl) (by kernel_rfl) (by kernel_rfl) (by kernel_rfl) (fun _ _ _ h => h) (Or.inl ⟨by rfl, ?_⟩) (by assumption) ?_
  rotate_left
  · (intro ww hSw; (try dsimp only at hSw); go_simp; (try with_reducible rfl))
  try simp only [Act.put, List.setIfInBounds_toArray, List.set_cons_zero, List.set_cons_succ]
  refine wpAnyH_done (by kernel_rfl) ?_ _
  refine NoPanic.normal ?_
  clear hHeld KS
  have B_9 := Lib.hid (bl B_8.out (bdrew1 (Below.refl V8.heap.size V8)))
  have H_9 := Lib.hid (H_8.out.call (bdrew1 (Below.refl V8.heap.size V8)))
  have A_9 := Lib.hid (A_8.out.call (bdrew1 (Below.refl V8.heap.size V8)))
  have Q_9 := Lib.hid (Q_8.out.call (bdrew1 (Below.refl V8.heap.size V8)))
  have CC_9 := Lib.hid (CC_8.out.call (bdrew1 (Below.refl V8.heap.size V8)))
  have YA_9 := Lib.hid (YA_8.out.call (bdrew1 (Below.refl V8.heap.size V8)))
  clear B_8 H_8 A_8 Q_8 CC_8 YA_8
  generalize V8.drew = V9 at *
  have hcH := H_9.out.2.2
  have hlH := H_9.out.2.1
  have kc1 := CC_9.out.1
  have kc3 := CC_9.out.2.2
  go_wp2_with fail
  go_ret
  exact ⟨rfl, B_9.out⟩
set_option maxRecDepth 100000 in
set_option maxHeartbeats 1000000 in
theorem giftsNone_rich (x : Wd) (pd : Dp) (b o pac kb ko pkc : Nat) (pw : Option Addr) (pwc : Nat) (a d i k m : Nat) (haa : a ≤ 255) (hdd : d ≤ 255) (hm : m ≤ 1073741824) (hi : a % x.at_.length = i) (hk : d % x.at_.length = k) (w : World) (h : WorldAt w ⟨pd, some ⟨b, o, none⟩, pac, some ⟨kb, ko, none⟩, pkc, pw, pwc⟩ x) (hf : fitsB x = true) (c1 : w.cell? ⟨b, o + i, none⟩ = some (.int .i64 (roomOf x i : Int))) (c2 : w.cell? ⟨b, o + k, none⟩ = some (.int .i64 (roomOf x k : Int))) (hs : ¬ i = k) (hr : roomOf x i = roomOf x k) (ci ck : Int) (hci : 0 ≤ ci ∧ ci ≤ 1073741824) (hck : 0 ≤ ck ∧ ck ≤ 1073741824) (cc : CoC w kb ko i k ci ck) (lic : i < x.coins.length) (lkc : k < x.coins.length) (hP : tradeW x i k [] [] m 0 = (x, 11)) (hpo : 1073741824 < ck + (m : Int)) (hz2 : True) : Calls Try.prog 6 #[.agg #[.slice pd.ex x.d.exits.length pd.exc, .slice pd.pl x.d.players.length pd.plc, .slice pd.co x.d.coins.length pd.coc, .slice pd.it x.d.items.length pd.itc, .slice pd.bo x.d.boxes.length pd.boc, .int .i64 x.d.room, .int .i64 x.d.player, .int .i64 x.d.box, .slice (some ⟨b, o, none⟩) x.at_.length pac, .slice (some ⟨kb, ko, none⟩) x.coins.length pkc, .slice pw x.wher.length pwc], .int .u8 (a : Int), .int .u8 (d : Int), .int .u32 (m : Int)] w fun e w' => e = .returned (.bool true) ∧ Below w.heap.size w w' := by
  have r1 := run_tmod7 a x.at_.length
  have m1 := run_mod7 a x.at_.length
  rw [hi] at r1 m1
  have FT := Lib.hid (fits_fit hf)
  have hlp : 0 < x.at_.length := (right_lens FT.out.right).1
  have hne : ¬ x.at_ = [] := List.length_pos_iff.1 hlp
  have hil : i < x.at_.length := by rw [← hi]; exact Nat.mod_lt _ hlp
  have hlen6 := (right_lens FT.out.right).2.1
  have r2 := run_tmod7 d x.at_.length
  have m2 := run_mod7 d x.at_.length
  rw [hk] at r2 m2
  have hkl : k < x.at_.length := by rw [← hk]; exact Nat.mod_lt _ hlp
  obtain ⟨hT1, hT2⟩ := trade_none FT.out.right hil hkl
  obtain ⟨e, he⟩ : ∃ e, (tradeW x i k [] [] 0 0).2 = e := ⟨_, rfl⟩
  have HT := Lib.hid (show tradeW x i k [] [] 0 0 = (x, e) by rw [← he]; exact Prod.ext hT1 rfl)
  rw [he] at hT2
  have HAT := Lib.hid (⟨c1, c2⟩ : w.cell? ⟨b, o + i, none⟩ = some (.int .i64 (roomOf x i : Int)) ∧ w.cell? ⟨b, o + k, none⟩ = some (.int .i64 (roomOf x k : Int)))
  have hil2 : ¬ (x.at_.length : Int) ≤ (i : Int) := by omega
  have hil3 : (x.at_.length ≤ i) = False := by simp; omega
  have hkl2 : ¬ (x.at_.length : Int) ≤ (k : Int) := by omega
  have hkl3 : (x.at_.length ≤ k) = False := by simp; omega
  have hne2 : ((i : Int) != (k : Int)) = true := by simp; omega
  have hz : (e == 0) = true := by simp; exact hT2.2 ⟨hs, hr⟩
  have hro : ((roomOf x i : Int) == (roomOf x k : Int)) = true := by simp [hr]
  have HP := Lib.hid hP
  have CC_0 := Lib.hid cc
  have HZ := Lib.hid hz2
  clear hi hlp hk hT1 hT2 he c1 c2 hr hP cc hz2
  have hmw : IntKind.i64.wrap (m : Int) = (m : Int) := IntWalk.i64_in _ (by omega)
  have H_0 := Lib.hid (Holds.new w #[.slice pd.ex x.d.exits.length pd.exc, .slice pd.pl x.d.players.length pd.plc, .slice pd.co x.d.coins.length pd.coc, .slice pd.it x.d.items.length pd.itc, .slice pd.bo x.d.boxes.length pd.boc, .int .i64 x.d.room, .int .i64 x.d.player, .int .i64 x.d.box, .slice (some ⟨b, o, none⟩) x.at_.length pac, .slice (some ⟨kb, ko, none⟩) x.coins.length pkc, .slice pw x.wher.length pwc] 29)
  have HF := Lib.hid hf
  have HWA := Lib.hid h
  clear hf h
  go_enter Try.func6, Try.ntmps6
  go_wp2_with fail
  generalize w.alloc (.cells #[.slice pd.ex x.d.exits.length pd.exc, .slice pd.pl x.d.players.length pd.plc, .slice pd.co x.d.coins.length pd.coc, .slice pd.it x.d.items.length pd.itc, .slice pd.bo x.d.boxes.length pd.boc, .int .i64 x.d.room, .int .i64 x.d.player, .int .i64 x.d.box, .slice (some ⟨b, o, none⟩) x.at_.length pac, .slice (some ⟨kb, ko, none⟩) x.coins.length pkc, .slice pw x.wher.length pwc] 29) = V0 at *
  have B_0 := Lib.hid H_0.out.1
  refine (awake11_any _).mono ?_
  rintro e u1 ⟨rfl, b1⟩
  have B_1 := Lib.hid (bl B_0.out b1)
  have H_1 := Lib.hid (H_0.out.call b1)
  clear b1 B_0 H_0
  have hcH := H_1.out.2.2
  have hlH := H_1.out.2.1
  go_wp2_with fail
  refine (fits11_any x ⟨pd, some ⟨b, o, none⟩, pac, some ⟨kb, ko, none⟩, pkc, pw, pwc⟩ _ (HWA.out.below H_1.out.1 (Nat.le_refl _))).mono ?_
  rintro e u2 ⟨rfl, b2⟩
  rw [HF.out]
  clear hcH hlH
  have B_2 := Lib.hid (bl B_1.out b2)
  have H_2 := Lib.hid (H_1.out.call b2)
  clear b2 B_1 H_1
  have hcH := H_2.out.2.2
  have hlH := H_2.out.2.1
  go_wp2_with fail
  have CC_2 := Lib.hid (CC_0.out.call B_2.out)
  refine (trade_nil_as (Shape.refl x) ⟨pd, some ⟨b, o, none⟩, pac, some ⟨kb, ko, none⟩, pkc, pw, pwc⟩ i _ FT.out.right (HWA.out.below B_2.out (Nat.le_refl _)) hil k 0 HT.out).mono ?_
  rintro e u3 ⟨q1, rfl, gr, b3⟩
  clear hcH hlH
  have B_3 := Lib.hid (bl B_2.out b3)
  have H_3 := Lib.hid (H_2.out.call b3)
  have CC_3 := Lib.hid (CC_2.out.call b3)
  have YA_3 := Lib.hid gr
  clear b3 B_2 H_2 CC_2 gr
  have hcH := H_3.out.2.2
  have hlH := H_3.out.2.1
  go_wp2_with fail
  clear hcH hlH
  have s4 : (u3.alloc (.cells #[.slice q1.d.ex x.d.exits.length q1.d.exc, .slice q1.d.pl x.d.players.length q1.d.plc, .slice q1.d.co x.d.coins.length q1.d.coc, .slice q1.d.it x.d.items.length q1.d.itc, .slice q1.d.bo x.d.boxes.length q1.d.boc, .int .i64 x.d.room, .int .i64 x.d.player, .int .i64 x.d.box, .slice q1.at_ x.at_.length q1.atc, .slice q1.co x.coins.length q1.coc, .slice q1.wh x.wher.length q1.whc] 29)).heap.size = u3.heap.size + 1 := by simp
  have B_4 := Lib.hid (B_3.out.alloc B_3.out.size (.cells #[.slice q1.d.ex x.d.exits.length q1.d.exc, .slice q1.d.pl x.d.players.length q1.d.plc, .slice q1.d.co x.d.coins.length q1.d.coc, .slice q1.d.it x.d.items.length q1.d.itc, .slice q1.d.bo x.d.boxes.length q1.d.boc, .int .i64 x.d.room, .int .i64 x.d.player, .int .i64 x.d.box, .slice q1.at_ x.at_.length q1.atc, .slice q1.co x.coins.length q1.coc, .slice q1.wh x.wher.length q1.whc] 29))
  have H_4 := Lib.hid (H_3.out.alloc (.cells #[.slice q1.d.ex x.d.exits.length q1.d.exc, .slice q1.d.pl x.d.players.length q1.d.plc, .slice q1.d.co x.d.coins.length q1.d.coc, .slice q1.d.it x.d.items.length q1.d.itc, .slice q1.d.bo x.d.boxes.length q1.d.boc, .int .i64 x.d.room, .int .i64 x.d.player, .int .i64 x.d.box, .slice q1.at_ x.at_.length q1.atc, .slice q1.co x.coins.length q1.coc, .slice q1.wh x.wher.length q1.whc] 29))
  have CC_4 := Lib.hid (CC_3.out.call ((Below.refl _ _).alloc (Nat.le_refl _) (.cells #[.slice q1.d.ex x.d.exits.length q1.d.exc, .slice q1.d.pl x.d.players.length q1.d.plc, .slice q1.d.co x.d.coins.length q1.d.coc, .slice q1.d.it x.d.items.length q1.d.itc, .slice q1.d.bo x.d.boxes.length q1.d.boc, .int .i64 x.d.room, .int .i64 x.d.player, .int .i64 x.d.box, .slice q1.at_ x.at_.length q1.atc, .slice q1.co x.coins.length q1.coc, .slice q1.wh x.wher.length q1.whc] 29)))
  have YA_4 := Lib.hid (YA_3.out.call ((Below.refl _ _).alloc (Nat.le_refl _) (.cells #[.slice q1.d.ex x.d.exits.length q1.d.exc, .slice q1.d.pl x.d.players.length q1.d.plc, .slice q1.d.co x.d.coins.length q1.d.coc, .slice q1.d.it x.d.items.length q1.d.itc, .slice q1.d.bo x.d.boxes.length q1.d.boc, .int .i64 x.d.room, .int .i64 x.d.player, .int .i64 x.d.box, .slice q1.at_ x.at_.length q1.atc, .slice q1.co x.coins.length q1.coc, .slice q1.wh x.wher.length q1.whc] 29)))
  have A_4 := Lib.hid (Holds.newb (w := w) (A := #[.slice q1.d.ex x.d.exits.length q1.d.exc, .slice q1.d.pl x.d.players.length q1.d.plc, .slice q1.d.co x.d.coins.length q1.d.coc, .slice q1.d.it x.d.items.length q1.d.itc, .slice q1.d.bo x.d.boxes.length q1.d.boc, .int .i64 x.d.room, .int .i64 x.d.player, .int .i64 x.d.box, .slice q1.at_ x.at_.length q1.atc, .slice q1.co x.coins.length q1.coc, .slice q1.wh x.wher.length q1.whc]) (t := 29) (n := u3.heap.size) B_3.out rfl)
  clear B_3 H_3 CC_3 YA_3
  generalize u3.alloc (.cells #[.slice q1.d.ex x.d.exits.length q1.d.exc, .slice q1.d.pl x.d.players.length q1.d.plc, .slice q1.d.co x.d.coins.length q1.d.coc, .slice q1.d.it x.d.items.length q1.d.itc, .slice q1.d.bo x.d.boxes.length q1.d.boc, .int .i64 x.d.room, .int .i64 x.d.player, .int .i64 x.d.box, .slice q1.at_ x.at_.length q1.atc, .slice q1.co x.coins.length q1.coc, .slice q1.wh x.wher.length q1.whc] 29) = V4 at *
  have hcH := H_4.out.2.2
  have hlH := H_4.out.2.1
  have hcA := A_4.out.2.2
  have hlA := A_4.out.2.1
  clear hcH hlH hcA hlA
  have KS : Hid (∀ w', Below V4.heap.size V4 w' → Below V4.heap.size V4 w' ∧ (∀ ii, w'.cell? ⟨w.heap.size, ii, none⟩ = (#[.slice pd.ex x.d.exits.length pd.exc, .slice pd.pl x.d.players.length pd.plc, .slice pd.co x.d.coins.length pd.coc, .slice pd.it x.d.items.length pd.itc, .slice pd.bo x.d.boxes.length pd.boc, .int .i64 x.d.room, .int .i64 x.d.player, .int .i64 x.d.box, .slice (some ⟨b, o, none⟩) x.at_.length pac, .slice (some ⟨kb, ko, none⟩) x.coins.length pkc, .slice pw x.wher.length pwc][ii]? : Option Value)) ∧ w'.cell? ⟨b, o + i, none⟩ = some (.int .i64 (roomOf x i : Int)) ∧ w'.cell? ⟨b, o + k, none⟩ = some (.int .i64 (roomOf x k : Int))) := Lib.hid (fun w' hb => ⟨hb, fun ii => (hb.cell (p := ⟨w.heap.size, ii, none⟩) H_4.out.2.1).trans (H_4.out.2.2 ii), cell_call (cell_call HAT.out.1 B_4.out) hb, cell_call (cell_call HAT.out.2 B_4.out) hb⟩)
  refine wp_region_noPanic ?_
  refine wp_region_held_drew (S := (fun w' => Below V4.heap.size V4 w' ∧ (∀ ii, w'.cell? ⟨w.heap.size, ii, none⟩ = (#[.slice pd.ex x.d.exits.length pd.exc, .slice pd.pl x.d.players.length pd.plc, .slice pd.co x.d.coins.length pd.coc, .slice pd.it x.d.items.length pd.itc, .slice pd.bo x.d.boxes.length pd.boc, .int .i64 x.d.room, .int .i64 x.d.player, .int .i64 x.d.box, .slice (some ⟨b, o, none⟩) x.at_.length pac, .slice (some ⟨kb, ko, none⟩) x.coins.length pkc, .slice pw x.wher.length pwc][ii]? : Option Value)) ∧ w'.cell? ⟨b, o + i, none⟩ = some (.int .i64 (roomOf x i : Int)) ∧ w'.cell? ⟨b, o + k, none⟩ = some (.int .i64 (roomOf x k : Int)))) (by kernel_rfl) (by (first | (with_reducible exact KS.out _ (bdrew1 (Below.refl _ _))))) (fun hHeld => ?_)
  refine wpAnyH_take (i := 0) (v := ?_) (by simp only [List.getElem?_toArray, List.getElem?_cons_zero]; rfl) (by kernel_rfl) (by kernel_rfl) (by kernel_rfl) (fun _ _ _ h => h) (Or.inl ⟨by rfl, ?_⟩) (by assumption) ?_
  rotate_left
  · (intro ww hSw; (try dsimp only at hSw); go_simp; (try with_reducible rfl))
  try simp only [Act.put, List.setIfInBounds_toArray, List.set_cons_zero, List.set_cons_succ]
  refine wpAnyH_take (i := 1) (v := ?_) (by simp only [List.getElem?_toArray, List.getElem?_cons_succ, List.getElem?_cons_zero]; rfl) (by kernel_rfl) (by kernel_rfl) (by kernel_rfl) (fun _ _ _ h => h) (Or.inl ⟨by rfl, ?_⟩) (by assumption) ?_
  rotate_left
  · (intro ww hSw; (try dsimp only at hSw); go_simp; (try with_reducible rfl))
  try simp only [Act.put, List.setIfInBounds_toArray, List.set_cons_zero, List.set_cons_succ]
  refine wpAnyH_take (i := 2) (v := ?_) (by simp only [List.getElem?_toArray, List.getElem?_cons_succ, List.getElem?_cons_zero]; rfl) (by kernel_rfl) (by kernel_rfl) (by kernel_rfl) (fun _ _ _ h => h) (Or.inl ⟨by rfl, ?_⟩) (by assumption) ?_
  rotate_left
  · (intro ww hSw; (try dsimp only at hSw); go_simp; (try with_reducible rfl))
  try simp only [Act.put, List.setIfInBounds_toArray, List.set_cons_zero, List.set_cons_succ]
  refine wpAnyH_take (i := 3) (v := ?_) (by simp only [List.getElem?_toArray, List.getElem?_cons_succ, List.getElem?_cons_zero]; rfl) (by kernel_rfl) (by kernel_rfl) (by kernel_rfl) (fun _ _ _ h => h) (Or.inl ⟨by rfl, ?_⟩) (by assumption) ?_
  rotate_left
  · (intro ww hSw; (try dsimp only at hSw); go_simp; (try with_reducible rfl))
  try simp only [Act.put, List.setIfInBounds_toArray, List.set_cons_zero, List.set_cons_succ]
  refine wpAnyH_take (i := 4) (v := ?_) (by simp only [List.getElem?_toArray, List.getElem?_cons_succ, List.getElem?_cons_zero]; rfl) (by kernel_rfl) (by kernel_rfl) (by kernel_rfl) (fun _ _ _ h => h) (Or.inl ⟨by rfl, ?_⟩) (by assumption) ?_
  rotate_left
  · (intro ww hSw; (try dsimp only at hSw); go_simp; (try with_reducible rfl))
  try simp only [Act.put, List.setIfInBounds_toArray, List.set_cons_zero, List.set_cons_succ]
  refine wpAnyH_take (i := 5) (v := ?_) (by simp only [List.getElem?_toArray, List.getElem?_cons_succ, List.getElem?_cons_zero]; rfl) (by kernel_rfl) (by kernel_rfl) (by kernel_rfl) (fun _ _ _ h => h) (Or.inl ⟨by rfl, ?_⟩) (by assumption) ?_
  rotate_left
  · (intro ww hSw; (try dsimp only at hSw); go_simp; (try with_reducible rfl))
  try simp only [Act.put, List.setIfInBounds_toArray, List.set_cons_zero, List.set_cons_succ]
  refine wpAnyH_take (i := 6) (v := ?_) (by simp only [List.getElem?_toArray, List.getElem?_cons_succ, List.getElem?_cons_zero]; rfl) (by kernel_rfl) (by kernel_rfl) (by kernel_rfl) (fun _ _ _ h => h) (Or.inl ⟨by rfl, ?_⟩) (by assumption) ?_
  rotate_left
  · (intro ww hSw; (try dsimp only at hSw); go_simp; (try with_reducible rfl))
  try simp only [Act.put, List.setIfInBounds_toArray, List.set_cons_zero, List.set_cons_succ]
  refine wpAnyH_take (i := 7) (v := ?_) (by simp only [List.getElem?_toArray, List.getElem?_cons_succ, List.getElem?_cons_zero]; rfl) (by kernel_rfl) (by kernel_rfl) (by kernel_rfl) (fun _ _ _ h => h) (Or.inl ⟨by rfl, ?_⟩) (by assumption) ?_
  rotate_left
  · (intro ww hSw; (try dsimp only at hSw); go_simp; (try with_reducible rfl))
  try simp only [Act.put, List.setIfInBounds_toArray, List.set_cons_zero, List.set_cons_succ]
  refine wpAnyH_take (i := 8) (v := ?_) (by simp only [List.getElem?_toArray, List.getElem?_cons_succ, List.getElem?_cons_zero]; rfl) (by kernel_rfl) (by kernel_rfl) (by kernel_rfl) (fun _ _ _ h => h) (Or.inl ⟨by rfl, ?_⟩) (by assumption) ?_
  rotate_left
  · (intro ww hSw; (try dsimp only at hSw); go_simp; (try with_reducible rfl))
  try simp only [Act.put, List.setIfInBounds_toArray, List.set_cons_zero, List.set_cons_succ]
  refine wpAnyH_take (i := 9) (v := ?_) (by simp only [List.getElem?_toArray, List.getElem?_cons_succ, List.getElem?_cons_zero]; rfl) (by kernel_rfl) (by kernel_rfl) (by kernel_rfl) (fun _ _ _ h => h) (Or.inl ⟨by rfl, ?_⟩) (by assumption) ?_
  rotate_left
  · (intro ww hSw; (try dsimp only at hSw); go_simp; (try with_reducible rfl))
  try simp only [Act.put, List.setIfInBounds_toArray, List.set_cons_zero, List.set_cons_succ]
  refine wpAnyH_take (i := 10) (v := ?_) (by simp only [List.getElem?_toArray, List.getElem?_cons_succ, List.getElem?_cons_zero]; rfl) (by kernel_rfl) (by kernel_rfl) (by kernel_rfl) (fun _ _ _ h => h) (Or.inl ⟨by rfl, ?_⟩) (by assumption) ?_
  rotate_left
  · (intro ww hSw; (try dsimp only at hSw); go_simp; (try with_reducible rfl))
  try simp only [Act.put, List.setIfInBounds_toArray, List.set_cons_zero, List.set_cons_succ]
  refine wpAnyH_take (i := 11) (v := ?_) (by simp only [List.getElem?_toArray, List.getElem?_cons_succ, List.getElem?_cons_zero]; rfl) (by kernel_rfl) (by kernel_rfl) (by kernel_rfl) (fun _ _ _ h => h) (Or.inl ⟨by rfl, ?_⟩) (by assumption) ?_
  rotate_left
  · (intro ww hSw; (try dsimp only at hSw); go_simp; (try with_reducible rfl))
  try simp only [Act.put, List.setIfInBounds_toArray, List.set_cons_zero, List.set_cons_succ]
  refine wpAnyH_take (i := 12) (v := ?_) (by simp only [List.getElem?_toArray, List.getElem?_cons_succ, List.getElem?_cons_zero]; rfl) (by kernel_rfl) (by kernel_rfl) (by kernel_rfl) (fun _ _ _ h => h) (Or.inl ⟨by rfl, ?_⟩) (by assumption) ?_
  rotate_left
  · (intro ww hSw; (try dsimp only at hSw); go_simp; (try with_reducible rfl))
  try simp only [Act.put, List.setIfInBounds_toArray, List.set_cons_zero, List.set_cons_succ]
  refine wpAnyH_take (i := 13) (v := ?_) (by simp only [List.getElem?_toArray, List.getElem?_cons_succ, List.getElem?_cons_zero]; rfl) (by kernel_rfl) (by kernel_rfl) (by kernel_rfl) (fun _ _ _ h => h) (Or.inl ⟨by rfl, ?_⟩) (by assumption) ?_
  rotate_left
  · (intro ww hSw; (try dsimp only at hSw); go_simp; (try with_reducible rfl))
  try simp only [Act.put, List.setIfInBounds_toArray, List.set_cons_zero, List.set_cons_succ]
  refine wpAnyH_take (i := 14) (v := ?_) (by simp only [List.getElem?_toArray, List.getElem?_cons_succ, List.getElem?_cons_zero]; rfl) (by kernel_rfl) (by kernel_rfl) (by kernel_rfl) (fun _ _ _ h => h) (Or.inl ⟨by rfl, ?_⟩) (by assumption) ?_
  rotate_left
  · (intro ww hSw; (try dsimp only at hSw); go_simp; (try with_reducible rfl))
  try simp only [Act.put, List.setIfInBounds_toArray, List.set_cons_zero, List.set_cons_succ]
  refine wpAnyH_take (i := 15) (v := ?_) (by simp only [List.getElem?_toArray, List.getElem?_cons_succ, List.getElem?_cons_zero]; rfl) (by kernel_rfl) (by kernel_rfl) (by kernel_rfl) (fun _ _ _ h => h) (Or.inl ⟨by rfl, ?_⟩) (by assumption) ?_
  rotate_left
  · (intro ww hSw; (try dsimp only at hSw); go_simp; (try with_reducible rfl))
  try simp only [Act.put, List.setIfInBounds_toArray, List.set_cons_zero, List.set_cons_succ]
  refine wpAnyH_take (i := 16) (v := ?_) (by simp only [List.getElem?_toArray, List.getElem?_cons_succ, List.getElem?_cons_zero]; rfl) (by kernel_rfl) (by kernel_rfl) (by kernel_rfl) (fun _ _ _ h => h) (Or.inl ⟨by rfl, ?_⟩) (by assumption) ?_
  rotate_left
  · (intro ww hSw; (try dsimp only at hSw); go_simp; (try with_reducible rfl))
  try simp only [Act.put, List.setIfInBounds_toArray, List.set_cons_zero, List.set_cons_succ]
  refine wpAnyH_done (by kernel_rfl) ?_ _
  refine NoPanic.normal ?_
  clear hHeld KS
  have B_5 := Lib.hid (bl B_4.out (bdrew1 (Below.refl V4.heap.size V4)))
  have H_5 := Lib.hid (H_4.out.call (bdrew1 (Below.refl V4.heap.size V4)))
  have A_5 := Lib.hid (A_4.out.call (bdrew1 (Below.refl V4.heap.size V4)))
  have CC_5 := Lib.hid (CC_4.out.call (bdrew1 (Below.refl V4.heap.size V4)))
  have YA_5 := Lib.hid (YA_4.out.call (bdrew1 (Below.refl V4.heap.size V4)))
  clear B_4 H_4 A_4 CC_4 YA_4
  generalize V4.drew = V5 at *
  have hcH := H_5.out.2.2
  have hlH := H_5.out.2.1
  have hcA := A_5.out.2.2
  have hlA := A_5.out.2.1
  go_wp2_with fail
  refine (rsame_yes (Shape.refl x) (Shape.refl x) rfl _ ⟨pd, some ⟨b, o, none⟩, pac, some ⟨kb, ko, none⟩, pkc, pw, pwc⟩ _ YA_5.out (HWA.out.below B_5.out (Nat.le_refl _))).mono ?_
  rintro e u6 ⟨rfl, b6⟩
  clear hcH hlH hcA hlA
  have B_6 := Lib.hid (bl B_5.out b6)
  have H_6 := Lib.hid (H_5.out.call b6)
  have A_6 := Lib.hid (A_5.out.call b6)
  have CC_6 := Lib.hid (CC_5.out.call b6)
  have YA_6 := Lib.hid (YA_5.out.call b6)
  clear b6 B_5 H_5 A_5 CC_5 YA_5
  have hcH := H_6.out.2.2
  have hlH := H_6.out.2.1
  have hcA := A_6.out.2.2
  have hlA := A_6.out.2.1
  go_wp2_with fail
  refine (trade_nil_as (Shape.refl x) ⟨pd, some ⟨b, o, none⟩, pac, some ⟨kb, ko, none⟩, pkc, pw, pwc⟩ i _ FT.out.right (HWA.out.below B_6.out (Nat.le_refl _)) hil k (m : Int) HP.out).mono ?_
  rintro e u7 ⟨⟨xd, xa, xac, xk, xkc, xw, xwc⟩, rfl, gr, b7⟩
  clear hcH hlH hcA hlA
  have B_7 := Lib.hid (bl B_6.out b7)
  have H_7 := Lib.hid (H_6.out.call b7)
  have A_7 := Lib.hid (A_6.out.call b7)
  have CC_7 := Lib.hid (CC_6.out.call b7)
  have YA_7 := Lib.hid (YA_6.out.call b7)
  clear b7 B_6 H_6 A_6 CC_6 YA_6
  have hcH := H_7.out.2.2
  have hlH := H_7.out.2.1
  have hcA := A_7.out.2.2
  have hlA := A_7.out.2.1
  clear gr
  go_wp2_with fail
  clear hcH hlH hcA hlA
  have s8 : (u7.alloc (.cells #[.slice xd.ex x.d.exits.length xd.exc, .slice xd.pl x.d.players.length xd.plc, .slice xd.co x.d.coins.length xd.coc, .slice xd.it x.d.items.length xd.itc, .slice xd.bo x.d.boxes.length xd.boc, .int .i64 x.d.room, .int .i64 x.d.player, .int .i64 x.d.box, .slice xa x.at_.length xac, .slice xk x.coins.length xkc, .slice xw x.wher.length xwc] 29)).heap.size = u7.heap.size + 1 := by simp
  have B_8 := Lib.hid (B_7.out.alloc B_7.out.size (.cells #[.slice xd.ex x.d.exits.length xd.exc, .slice xd.pl x.d.players.length xd.plc, .slice xd.co x.d.coins.length xd.coc, .slice xd.it x.d.items.length xd.itc, .slice xd.bo x.d.boxes.length xd.boc, .int .i64 x.d.room, .int .i64 x.d.player, .int .i64 x.d.box, .slice xa x.at_.length xac, .slice xk x.coins.length xkc, .slice xw x.wher.length xwc] 29))
  have H_8 := Lib.hid (H_7.out.alloc (.cells #[.slice xd.ex x.d.exits.length xd.exc, .slice xd.pl x.d.players.length xd.plc, .slice xd.co x.d.coins.length xd.coc, .slice xd.it x.d.items.length xd.itc, .slice xd.bo x.d.boxes.length xd.boc, .int .i64 x.d.room, .int .i64 x.d.player, .int .i64 x.d.box, .slice xa x.at_.length xac, .slice xk x.coins.length xkc, .slice xw x.wher.length xwc] 29))
  have A_8 := Lib.hid (A_7.out.alloc (.cells #[.slice xd.ex x.d.exits.length xd.exc, .slice xd.pl x.d.players.length xd.plc, .slice xd.co x.d.coins.length xd.coc, .slice xd.it x.d.items.length xd.itc, .slice xd.bo x.d.boxes.length xd.boc, .int .i64 x.d.room, .int .i64 x.d.player, .int .i64 x.d.box, .slice xa x.at_.length xac, .slice xk x.coins.length xkc, .slice xw x.wher.length xwc] 29))
  have CC_8 := Lib.hid (CC_7.out.call ((Below.refl _ _).alloc (Nat.le_refl _) (.cells #[.slice xd.ex x.d.exits.length xd.exc, .slice xd.pl x.d.players.length xd.plc, .slice xd.co x.d.coins.length xd.coc, .slice xd.it x.d.items.length xd.itc, .slice xd.bo x.d.boxes.length xd.boc, .int .i64 x.d.room, .int .i64 x.d.player, .int .i64 x.d.box, .slice xa x.at_.length xac, .slice xk x.coins.length xkc, .slice xw x.wher.length xwc] 29)))
  have YA_8 := Lib.hid (YA_7.out.call ((Below.refl _ _).alloc (Nat.le_refl _) (.cells #[.slice xd.ex x.d.exits.length xd.exc, .slice xd.pl x.d.players.length xd.plc, .slice xd.co x.d.coins.length xd.coc, .slice xd.it x.d.items.length xd.itc, .slice xd.bo x.d.boxes.length xd.boc, .int .i64 x.d.room, .int .i64 x.d.player, .int .i64 x.d.box, .slice xa x.at_.length xac, .slice xk x.coins.length xkc, .slice xw x.wher.length xwc] 29)))
  have Q_8 := Lib.hid (Holds.newb (w := w) (A := #[.slice xd.ex x.d.exits.length xd.exc, .slice xd.pl x.d.players.length xd.plc, .slice xd.co x.d.coins.length xd.coc, .slice xd.it x.d.items.length xd.itc, .slice xd.bo x.d.boxes.length xd.boc, .int .i64 x.d.room, .int .i64 x.d.player, .int .i64 x.d.box, .slice xa x.at_.length xac, .slice xk x.coins.length xkc, .slice xw x.wher.length xwc]) (t := 29) (n := u7.heap.size) B_7.out rfl)
  clear B_7 H_7 A_7 CC_7 YA_7
  generalize u7.alloc (.cells #[.slice xd.ex x.d.exits.length xd.exc, .slice xd.pl x.d.players.length xd.plc, .slice xd.co x.d.coins.length xd.coc, .slice xd.it x.d.items.length xd.itc, .slice xd.bo x.d.boxes.length xd.boc, .int .i64 x.d.room, .int .i64 x.d.player, .int .i64 x.d.box, .slice xa x.at_.length xac, .slice xk x.coins.length xkc, .slice xw x.wher.length xwc] 29) = V8 at *
  have hcH := H_8.out.2.2
  have hlH := H_8.out.2.1
  have hcA := A_8.out.2.2
  have hlA := A_8.out.2.1
  have hcQ := Q_8.out.2.2
  have hlQ := Q_8.out.2.1
  clear hcH hlH hcA hlA hcQ hlQ
  have hil4 : ¬ (x.coins.length : Int) ≤ (i : Int) := by omega
  have hil5 : (x.coins.length ≤ i) = False := by simp; omega
  have hkl4 : ¬ (x.coins.length : Int) ≤ (k : Int) := by omega
  have hkl5 : (x.coins.length ≤ k) = False := by simp; omega
  have KS : Hid (∀ w', Below V8.heap.size V8 w' → Below V8.heap.size V8 w' ∧ (∀ ii, w'.cell? ⟨w.heap.size, ii, none⟩ = (#[.slice pd.ex x.d.exits.length pd.exc, .slice pd.pl x.d.players.length pd.plc, .slice pd.co x.d.coins.length pd.coc, .slice pd.it x.d.items.length pd.itc, .slice pd.bo x.d.boxes.length pd.boc, .int .i64 x.d.room, .int .i64 x.d.player, .int .i64 x.d.box, .slice (some ⟨b, o, none⟩) x.at_.length pac, .slice (some ⟨kb, ko, none⟩) x.coins.length pkc, .slice pw x.wher.length pwc][ii]? : Option Value)) ∧ (∀ ii, w'.cell? ⟨u7.heap.size, ii, none⟩ = (#[.slice xd.ex x.d.exits.length xd.exc, .slice xd.pl x.d.players.length xd.plc, .slice xd.co x.d.coins.length xd.coc, .slice xd.it x.d.items.length xd.itc, .slice xd.bo x.d.boxes.length xd.boc, .int .i64 x.d.room, .int .i64 x.d.player, .int .i64 x.d.box, .slice xa x.at_.length xac, .slice xk x.coins.length xkc, .slice xw x.wher.length xwc][ii]? : Option Value))) := Lib.hid (fun w' hb => ⟨hb, fun ii => (hb.cell (p := ⟨w.heap.size, ii, none⟩) H_8.out.2.1).trans (H_8.out.2.2 ii), fun ii => (hb.cell (p := ⟨u7.heap.size, ii, none⟩) Q_8.out.2.1).trans (Q_8.out.2.2 ii)⟩)
  refine wp_region_noPanic ?_
  refine wp_region_held_drew (S := (fun w' => Below V8.heap.size V8 w' ∧ (∀ ii, w'.cell? ⟨w.heap.size, ii, none⟩ = (#[.slice pd.ex x.d.exits.length pd.exc, .slice pd.pl x.d.players.length pd.plc, .slice pd.co x.d.coins.length pd.coc, .slice pd.it x.d.items.length pd.itc, .slice pd.bo x.d.boxes.length pd.boc, .int .i64 x.d.room, .int .i64 x.d.player, .int .i64 x.d.box, .slice (some ⟨b, o, none⟩) x.at_.length pac, .slice (some ⟨kb, ko, none⟩) x.coins.length pkc, .slice pw x.wher.length pwc][ii]? : Option Value)) ∧ (∀ ii, w'.cell? ⟨u7.heap.size, ii, none⟩ = (#[.slice xd.ex x.d.exits.length xd.exc, .slice xd.pl x.d.players.length xd.plc, .slice xd.co x.d.coins.length xd.coc, .slice xd.it x.d.items.length xd.itc, .slice xd.bo x.d.boxes.length xd.boc, .int .i64 x.d.room, .int .i64 x.d.player, .int .i64 x.d.box, .slice xa x.at_.length xac, .slice xk x.coins.length xkc, .slice xw x.wher.length xwc][ii]? : Option Value)))) (by kernel_rfl) (by (first | (with_reducible exact KS.out _ (bdrew1 (Below.refl _ _))))) (fun hHeld => ?_)
  refine wpAnyH_take (i := 0) (v := ?_) (by simp only [List.getElem?_toArray, List.getElem?_cons_zero]; rfl) (by kernel_rfl) (by kernel_rfl) (by kernel_rfl) (fun _ _ _ h => h) (Or.inl ⟨by rfl, ?_⟩) (by assumption) ?_
  rotate_left
  · (intro ww hSw; (try dsimp only at hSw); go_simp; (try with_reducible rfl))
  try simp only [Act.put, List.setIfInBounds_toArray, List.set_cons_zero, List.set_cons_succ]
  refine wpAnyH_take (i := 1) (v := ?_) (by simp only [List.getElem?_toArray, List.getElem?_cons_succ, List.getElem?_cons_zero]; rfl) (by kernel_rfl) (by kernel_rfl) (by kernel_rfl) (fun _ _ _ h => h) (Or.inl ⟨by rfl, ?_⟩) (by assumption) ?_
  rotate_left
  · (intro ww hSw; (try dsimp only at hSw); go_simp; (try with_reducible rfl))
  try simp only [Act.put, List.setIfInBounds_toArray, List.set_cons_zero, List.set_cons_succ]
  refine wpAnyH_take (i := 2) (v := ?_) (by simp only [List.getElem?_toArray, List.getElem?_cons_succ, List.getElem?_cons_zero]; rfl) (by kernel_rfl) (by kernel_rfl) (by kernel_rfl) (fun _ _ _ h => h) (Or.inl ⟨by rfl, ?_⟩) (by assumption) ?_
  rotate_left
  · (intro ww hSw; (try dsimp only at hSw); go_simp; (try with_reducible rfl))
  try simp only [Act.put, List.setIfInBounds_toArray, List.set_cons_zero, List.set_cons_succ]
  refine wpAnyH_take (i := 3) (v := undef) (by simp only [List.getElem?_toArray, List.getElem?_cons_succ, List.getElem?_cons_zero]; rfl) (by kernel_rfl) (by kernel_rfl) (by kernel_rfl) (fun _ _ _ h => h) (Or.inr ⟨by rfl, rfl⟩) (by assumption) ?_
  try simp only [Act.put, List.setIfInBounds_toArray, List.set_cons_zero, List.set_cons_succ]
  refine wpAnyH_take (i := 4) (v := undef) (by simp only [List.getElem?_toArray, List.getElem?_cons_succ, List.getElem?_cons_zero]; rfl) (by kernel_rfl) (by kernel_rfl) (by kernel_rfl) (fun _ _ _ h => h) (Or.inr ⟨by rfl, rfl⟩) (by assumption) ?_
  try simp only [Act.put, List.setIfInBounds_toArray, List.set_cons_zero, List.set_cons_succ]
  refine wpAnyH_take (i := 5) (v := undef) (by simp only [List.getElem?_toArray, List.getElem?_cons_succ, List.getElem?_cons_zero]; rfl) (by kernel_rfl) (by kernel_rfl) (by kernel_rfl) (fun _ _ _ h => h) (Or.inr ⟨by rfl, rfl⟩) (by assumption) ?_
  try simp only [Act.put, List.setIfInBounds_toArray, List.set_cons_zero, List.set_cons_succ]
  refine wpAnyH_take (i := 6) (v := undef) (by simp only [List.getElem?_toArray, List.getElem?_cons_succ, List.getElem?_cons_zero]; rfl) (by kernel_rfl) (by kernel_rfl) (by kernel_rfl) (fun _ _ _ h => h) (Or.inr ⟨by rfl, rfl⟩) (by assumption) ?_
  try simp only [Act.put, List.setIfInBounds_toArray, List.set_cons_zero, List.set_cons_succ]
  refine wpAnyH_take (i := 7) (v := undef) (by simp only [List.getElem?_toArray, List.getElem?_cons_succ, List.getElem?_cons_zero]; rfl) (by kernel_rfl) (by kernel_rfl) (by kernel_rfl) (fun _ _ _ h => h) (Or.inr ⟨by rfl, rfl⟩) (by assumption) ?_
  try simp only [Act.put, List.setIfInBounds_toArray, List.set_cons_zero, List.set_cons_succ]
  refine wpAnyH_take (i := 8) (v := undef) (by simp only [List.getElem?_toArray, List.getElem?_cons_succ, List.getElem?_cons_zero]; rfl) (by kernel_rfl) (by kernel_rfl) (by kernel_rfl) (fun _ _ _ h => h) (Or.inr ⟨by rfl, rfl⟩) (by assumption) ?_
  try simp only [Act.put, List.setIfInBounds_toArray, List.set_cons_zero, List.set_cons_succ]
  refine wpAnyH_take (i := 9) (v := undef) (by simp only [List.getElem?_toArray, List.getElem?_cons_succ, List.getElem?_cons_zero]; rfl) (by kernel_rfl) (by kernel_rfl) (by kernel_rfl) (fun _ _ _ h => h) (Or.inr ⟨by rfl, rfl⟩) (by assumption) ?_
  try simp only [Act.put, List.setIfInBounds_toArray, List.set_cons_zero, List.set_cons_succ]
  refine wpAnyH_take (i := 10) (v := undef) (by simp only [List.getElem?_toArray, List.getElem?_cons_succ, List.getElem?_cons_zero]; rfl) (by kernel_rfl) (by kernel_rfl) (by kernel_rfl) (fun _ _ _ h => h) (Or.inr ⟨by rfl, rfl⟩) (by assumption) ?_
  try simp only [Act.put, List.setIfInBounds_toArray, List.set_cons_zero, List.set_cons_succ]
  refine wpAnyH_take (i := 11) (v := undef) (by simp only [List.getElem?_toArray, List.getElem?_cons_succ, List.getElem?_cons_zero]; rfl) (by kernel_rfl) (by kernel_rfl) (by kernel_rfl) (fun _ _ _ h => h) (Or.inr ⟨by rfl, rfl⟩) (by assumption) ?_
  try simp only [Act.put, List.setIfInBounds_toArray, List.set_cons_zero, List.set_cons_succ]
  refine wpAnyH_take (i := 12) (v := undef) (by simp only [List.getElem?_toArray, List.getElem?_cons_succ, List.getElem?_cons_zero]; rfl) (by kernel_rfl) (by kernel_rfl) (by kernel_rfl) (fun _ _ _ h => h) (Or.inr ⟨by rfl, rfl⟩) (by assumption) ?_
  try simp only [Act.put, List.setIfInBounds_toArray, List.set_cons_zero, List.set_cons_succ]
  refine wpAnyH_take (i := 13) (v := undef) (by simp only [List.getElem?_toArray, List.getElem?_cons_succ, List.getElem?_cons_zero]; rfl) (by kernel_rfl) (by kernel_rfl) (by kernel_rfl) (fun _ _ _ h => h) (Or.inr ⟨by rfl, rfl⟩) (by assumption) ?_
  try simp only [Act.put, List.setIfInBounds_toArray, List.set_cons_zero, List.set_cons_succ]
  refine wpAnyH_take (i := 14) (v := undef) (by simp only [List.getElem?_toArray, List.getElem?_cons_succ, List.getElem?_cons_zero]; rfl) (by kernel_rfl) (by kernel_rfl) (by kernel_rfl) (fun _ _ _ h => h) (Or.inr ⟨by rfl, rfl⟩) (by assumption) ?_
  try simp only [Act.put, List.setIfInBounds_toArray, List.set_cons_zero, List.set_cons_succ]
  refine wpAnyH_take (i := 15) (v := undef) (by simp only [List.getElem?_toArray, List.getElem?_cons_succ, List.getElem?_cons_zero]; rfl) (by kernel_rfl) (by kernel_rfl) (by kernel_rfl) (fun _ _ _ h => h) (Or.inr ⟨by rfl, rfl⟩) (by assumption) ?_
  try simp only [Act.put, List.setIfInBounds_toArray, List.set_cons_zero, List.set_cons_succ]
  refine wpAnyH_take (i := 16) (v := undef) (by simp only [List.getElem?_toArray, List.getElem?_cons_succ, List.getElem?_cons_zero]; rfl) (by kernel_rfl) (by kernel_rfl) (by kernel_rfl) (fun _ _ _ h => h) (Or.inr ⟨by rfl, rfl⟩) (by assumption) ?_
  try simp only [Act.put, List.setIfInBounds_toArray, List.set_cons_zero, List.set_cons_succ]
  refine wpAnyH_take (i := 17) (v := undef) (by simp only [List.getElem?_toArray, List.getElem?_cons_succ, List.getElem?_cons_zero]; rfl) (by kernel_rfl) (by kernel_rfl) (by kernel_rfl) (fun _ _ _ h => h) (Or.inr ⟨by rfl, rfl⟩) (by assumption) ?_
  try simp only [Act.put, List.setIfInBounds_toArray, List.set_cons_zero, List.set_cons_succ]
  refine wpAnyH_take (i := 18) (v := undef) (by simp only [List.getElem?_toArray, List.getElem?_cons_succ, List.getElem?_cons_zero]; rfl) (by kernel_rfl) (by kernel_rfl) (by kernel_rfl) (fun _ _ _ h => h) (Or.inr ⟨by rfl, rfl⟩) (by assumption) ?_
  try simp only [Act.put, List.setIfInBounds_toArray, List.set_cons_zero, List.set_cons_succ]
  refine wpAnyH_take (i := 19) (v := undef) (by simp only [List.getElem?_toArray, List.getElem?_cons_succ, List.getElem?_cons_zero]; rfl) (by kernel_rfl) (by kernel_rfl) (by kernel_rfl) (fun _ _ _ h => h) (Or.inr ⟨by rfl, rfl⟩) (by assumption) ?_
  try simp only [Act.put, List.setIfInBounds_toArray, List.set_cons_zero, List.set_cons_succ]
  refine wpAnyH_take (i := 20) (v := undef) (by simp only [List.getElem?_toArray, List.getElem?_cons_succ, List.getElem?_cons_zero]; rfl) (by kernel_rfl) (by kernel_rfl) (by kernel_rfl) (fun _ _ _ h => h) (Or.inr ⟨by rfl, rfl⟩) (by assumption) ?_
  try simp only [Act.put, List.setIfInBounds_toArray, List.set_cons_zero, List.set_cons_succ]
  refine wpAnyH_take (i := 21) (v := undef) (by simp only [List.getElem?_toArray, List.getElem?_cons_succ, List.getElem?_cons_zero]; rfl) (by kernel_rfl) (by kernel_rfl) (by kernel_rfl) (fun _ _ _ h => h) (Or.inr ⟨by rfl, rfl⟩) (by assumption) ?_
  try simp only [Act.put, List.setIfInBounds_toArray, List.set_cons_zero, List.set_cons_succ]
  refine wpAnyH_take (i := 22) (v := undef) (by simp only [List.getElem?_toArray, List.getElem?_cons_succ, List.getElem?_cons_zero]; rfl) (by kernel_rfl) (by kernel_rfl) (by kernel_rfl) (fun _ _ _ h => h) (Or.inr ⟨by rfl, rfl⟩) (by assumption) ?_
  try simp only [Act.put, List.setIfInBounds_toArray, List.set_cons_zero, List.set_cons_succ]
  refine wpAnyH_take (i := 23) (v := undef) (by simp only [List.getElem?_toArray, List.getElem?_cons_succ, List.getElem?_cons_zero]; rfl) (by kernel_rfl) (by kernel_rfl) (by kernel_rfl) (fun _ _ _ h => h) (Or.inr ⟨by rfl, rfl⟩) (by assumption) ?_
  try simp only [Act.put, List.setIfInBounds_toArray, List.set_cons_zero, List.set_cons_succ]
  refine wpAnyH_take (i := 24) (v := undef) (by simp only [List.getElem?_toArray, List.getElem?_cons_succ, List.getElem?_cons_zero]; rfl) (by kernel_rfl) (by kernel_rfl) (by kernel_rfl) (fun _ _ _ h => h) (Or.inr ⟨by rfl, rfl⟩) (by assumption) ?_
  try simp only [Act.put, List.setIfInBounds_toArray, List.set_cons_zero, List.set_cons_succ]
  refine wpAnyH_take (i := 25) (v := undef) (by simp only [List.getElem?_toArray, List.getElem?_cons_succ, List.getElem?_cons_zero]; rfl) (by kernel_rfl) (by kernel_rfl) (by kernel_rfl) (fun _ _ _ h => h) (Or.inr ⟨by rfl, rfl⟩) (by assumption) ?_
  try simp only [Act.put, List.setIfInBounds_toArray, List.set_cons_zero, List.set_cons_succ]
  refine wpAnyH_take (i := 26) (v := undef) (by simp only [List.getElem?_toArray, List.getElem?_cons_succ, List.getElem?_cons_zero]; rfl) (by kernel_rfl) (by kernel_rfl) (by kernel_rfl) (fun _ _ _ h => h) (Or.inr ⟨by rfl, rfl⟩) (by assumption) ?_
  try simp only [Act.put, List.setIfInBounds_toArray, List.set_cons_zero, List.set_cons_succ]
  refine wpAnyH_take (i := 27) (v := undef) (by simp only [List.getElem?_toArray, List.getElem?_cons_succ, List.getElem?_cons_zero]; rfl) (by kernel_rfl) (by kernel_rfl) (by kernel_rfl) (fun _ _ _ h => h) (Or.inr ⟨by rfl, rfl⟩) (by assumption) ?_
  try simp only [Act.put, List.setIfInBounds_toArray, List.set_cons_zero, List.set_cons_succ]
  refine wpAnyH_take (i := 28) (v := undef) (by simp only [List.getElem?_toArray, List.getElem?_cons_succ, List.getElem?_cons_zero]; rfl) (by kernel_rfl) (by kernel_rfl) (by kernel_rfl) (fun _ _ _ h => h) (Or.inr ⟨by rfl, rfl⟩) (by assumption) ?_
  try simp only [Act.put, List.setIfInBounds_toArray, List.set_cons_zero, List.set_cons_succ]
  refine wpAnyH_take (i := 29) (v := undef) (by simp only [List.getElem?_toArray, List.getElem?_cons_succ, List.getElem?_cons_zero]; rfl) (by kernel_rfl) (by kernel_rfl) (by kernel_rfl) (fun _ _ _ h => h) (Or.inr ⟨by rfl, rfl⟩) (by assumption) ?_
  try simp only [Act.put, List.setIfInBounds_toArray, List.set_cons_zero, List.set_cons_succ]
  refine wpAnyH_take (i := 30) (v := undef) (by simp only [List.getElem?_toArray, List.getElem?_cons_succ, List.getElem?_cons_zero]; rfl) (by kernel_rfl) (by kernel_rfl) (by kernel_rfl) (fun _ _ _ h => h) (Or.inr ⟨by rfl, rfl⟩) (by assumption) ?_
  try simp only [Act.put, List.setIfInBounds_toArray, List.set_cons_zero, List.set_cons_succ]
  refine wpAnyH_take (i := 31) (v := undef) (by simp only [List.getElem?_toArray, List.getElem?_cons_succ, List.getElem?_cons_zero]; rfl) (by kernel_rfl) (by kernel_rfl) (by kernel_rfl) (fun _ _ _ h => h) (Or.inr ⟨by rfl, rfl⟩) (by assumption) ?_
  try simp only [Act.put, List.setIfInBounds_toArray, List.set_cons_zero, List.set_cons_succ]
  refine wpAnyH_take (i := 32) (v := undef) (by simp only [List.getElem?_toArray, List.getElem?_cons_succ, List.getElem?_cons_zero]; rfl) (by kernel_rfl) (by kernel_rfl) (by kernel_rfl) (fun _ _ _ h => h) (Or.inr ⟨by rfl, rfl⟩) (by assumption) ?_
  try simp only [Act.put, List.setIfInBounds_toArray, List.set_cons_zero, List.set_cons_succ]
  refine wpAnyH_take (i := 33) (v := undef) (by simp only [List.getElem?_toArray, List.getElem?_cons_succ, List.getElem?_cons_zero]; rfl) (by kernel_rfl) (by kernel_rfl) (by kernel_rfl) (fun _ _ _ h => h) (Or.inr ⟨by rfl, rfl⟩) (by assumption) ?_
  try simp only [Act.put, List.setIfInBounds_toArray, List.set_cons_zero, List.set_cons_succ]
  refine wpAnyH_take (i := 34) (v := undef) (by simp only [List.getElem?_toArray, List.getElem?_cons_succ, List.getElem?_cons_zero]; rfl) (by kernel_rfl) (by kernel_rfl) (by kernel_rfl) (fun _ _ _ h => h) (Or.inr ⟨by rfl, rfl⟩) (by assumption) ?_
  try simp only [Act.put, List.setIfInBounds_toArray, List.set_cons_zero, List.set_cons_succ]
  refine wpAnyH_take (i := 35) (v := undef) (by simp only [List.getElem?_toArray, List.getElem?_cons_succ, List.getElem?_cons_zero]; rfl) (by kernel_rfl) (by kernel_rfl) (by kernel_rfl) (fun _ _ _ h => h) (Or.inr ⟨by rfl, rfl⟩) (by assumption) ?_
  try simp only [Act.put, List.setIfInBounds_toArray, List.set_cons_zero, List.set_cons_succ]
  refine wpAnyH_take (i := 36) (v := undef) (by simp only [List.getElem?_toArray, List.getElem?_cons_succ, List.getElem?_cons_zero]; rfl) (by kernel_rfl) (by kernel_rfl) (by kernel_rfl) (fun _ _ _ h => h) (Or.inr ⟨by rfl, rfl⟩) (by assumption) ?_
  try simp only [Act.put, List.setIfInBounds_toArray, List.set_cons_zero, List.set_cons_succ]
  refine wpAnyH_take (i := 37) (v := undef) (by simp only [List.getElem?_toArray, List.getElem?_cons_succ, List.getElem?_cons_zero]; rfl) (by kernel_rfl) (by kernel_rfl) (by kernel_rfl) (fun _ _ _ h => h) (Or.inr ⟨by rfl, rfl⟩) (by assumption) ?_
  try simp only [Act.put, List.setIfInBounds_toArray, List.set_cons_zero, List.set_cons_succ]
  refine wpAnyH_take (i := 38) (v := undef) (by simp only [List.getElem?_toArray, List.getElem?_cons_succ, List.getElem?_cons_zero]; rfl) (by kernel_rfl) (by kernel_rfl) (by kernel_rfl) (fun _ _ _ h => h) (Or.inr ⟨by rfl, rfl⟩) (by assumption) ?_
  try simp only [Act.put, List.setIfInBounds_toArray, List.set_cons_zero, List.set_cons_succ]
  refine wpAnyH_take (i := 39) (v := undef) (by simp only [List.getElem?_toArray, List.getElem?_cons_succ, List.getElem?_cons_zero]; rfl) (by kernel_rfl) (by kernel_rfl) (by kernel_rfl) (fun _ _ _ h => h) (Or.inr ⟨by rfl, rfl⟩) (by assumption) ?_
  try simp only [Act.put, List.setIfInBounds_toArray, List.set_cons_zero, List.set_cons_succ]
  refine wpAnyH_take (i := 40) (v := undef) (by simp only [List.getElem?_toArray, List.getElem?_cons_succ, List.getElem?_cons_zero]; rfl) (by kernel_rfl) (by kernel_rfl) (by kernel_rfl) (fun _ _ _ h => h) (Or.inr ⟨by rfl, rfl⟩) (by assumption) ?_
  try simp only [Act.put, List.setIfInBounds_toArray, List.set_cons_zero, List.set_cons_succ]
  refine wpAnyH_take (i := 41) (v := ?_) (by simp only [List.getElem?_toArray, List.getElem?_cons_succ, List.getElem?_cons_zero]; rfl) (by kernel_rfl) (by kernel_rfl) (by kernel_rfl) (fun _ _ _ h => h) (Or.inl ⟨by rfl, ?_⟩) (by assumption) ?_
  rotate_left
  · (intro ww hSw; (try dsimp only at hSw); go_simp; (try with_reducible rfl))
  try simp only [Act.put, List.setIfInBounds_toArray, List.set_cons_zero, List.set_cons_succ]
  refine wpAnyH_done (by kernel_rfl) ?_ _
  refine NoPanic.normal ?_
  clear hHeld KS
  have B_9 := Lib.hid (bl B_8.out (bdrew1 (Below.refl V8.heap.size V8)))
  have H_9 := Lib.hid (H_8.out.call (bdrew1 (Below.refl V8.heap.size V8)))
  have A_9 := Lib.hid (A_8.out.call (bdrew1 (Below.refl V8.heap.size V8)))
  have Q_9 := Lib.hid (Q_8.out.call (bdrew1 (Below.refl V8.heap.size V8)))
  have CC_9 := Lib.hid (CC_8.out.call (bdrew1 (Below.refl V8.heap.size V8)))
  have YA_9 := Lib.hid (YA_8.out.call (bdrew1 (Below.refl V8.heap.size V8)))
  clear B_8 H_8 A_8 Q_8 CC_8 YA_8
  generalize V8.drew = V9 at *
  have hcH := H_9.out.2.2
  have hlH := H_9.out.2.1
  have kc2 := CC_9.out.2.1
  have kc3 := CC_9.out.2.2
  have hw2 : IntKind.i64.wrap (ck + (m : Int)) = ck + (m : Int) := IntWalk.i64_in _ (by omega)
  go_wp2_with fail
  go_ret
  exact ⟨rfl, B_9.out⟩
set_option maxRecDepth 100000 in
set_option maxHeartbeats 1000000 in
theorem giftsNone_ok (x : Wd) (pd : Dp) (b o pac kb ko pkc : Nat) (pw : Option Addr) (pwc : Nat) (a d i k m : Nat) (haa : a ≤ 255) (hdd : d ≤ 255) (hm : m ≤ 1073741824) (hi : a % x.at_.length = i) (hk : d % x.at_.length = k) (w : World) (h : WorldAt w ⟨pd, some ⟨b, o, none⟩, pac, some ⟨kb, ko, none⟩, pkc, pw, pwc⟩ x) (hf : fitsB x = true) (c1 : w.cell? ⟨b, o + i, none⟩ = some (.int .i64 (roomOf x i : Int))) (c2 : w.cell? ⟨b, o + k, none⟩ = some (.int .i64 (roomOf x k : Int))) (hs : ¬ i = k) (hr : roomOf x i = roomOf x k) (ci ck : Int) (hci : 0 ≤ ci ∧ ci ≤ 1073741824) (hck : 0 ≤ ck ∧ ck ≤ 1073741824) (cc : CoC w kb ko i k ci ck) (lic : i < x.coins.length) (lkc : k < x.coins.length) (z : Wd) (hP : tradeW x i k [] [] m 0 = (z, 0)) (hz2 : coinOf z i = ci - (m : Int) ∧ coinOf z k = ck + (m : Int) ∧ i < z.coins.length ∧ k < z.coins.length ∧ z.wher = x.wher) : Calls Try.prog 6 #[.agg #[.slice pd.ex x.d.exits.length pd.exc, .slice pd.pl x.d.players.length pd.plc, .slice pd.co x.d.coins.length pd.coc, .slice pd.it x.d.items.length pd.itc, .slice pd.bo x.d.boxes.length pd.boc, .int .i64 x.d.room, .int .i64 x.d.player, .int .i64 x.d.box, .slice (some ⟨b, o, none⟩) x.at_.length pac, .slice (some ⟨kb, ko, none⟩) x.coins.length pkc, .slice pw x.wher.length pwc], .int .u8 (a : Int), .int .u8 (d : Int), .int .u32 (m : Int)] w fun e w' => e = .returned (.bool true) ∧ Below w.heap.size w w' := by
  have r1 := run_tmod7 a x.at_.length
  have m1 := run_mod7 a x.at_.length
  rw [hi] at r1 m1
  have FT := Lib.hid (fits_fit hf)
  have hlp : 0 < x.at_.length := (right_lens FT.out.right).1
  have hne : ¬ x.at_ = [] := List.length_pos_iff.1 hlp
  have hil : i < x.at_.length := by rw [← hi]; exact Nat.mod_lt _ hlp
  have hlen6 := (right_lens FT.out.right).2.1
  have r2 := run_tmod7 d x.at_.length
  have m2 := run_mod7 d x.at_.length
  rw [hk] at r2 m2
  have hkl : k < x.at_.length := by rw [← hk]; exact Nat.mod_lt _ hlp
  obtain ⟨hT1, hT2⟩ := trade_none FT.out.right hil hkl
  obtain ⟨e, he⟩ : ∃ e, (tradeW x i k [] [] 0 0).2 = e := ⟨_, rfl⟩
  have HT := Lib.hid (show tradeW x i k [] [] 0 0 = (x, e) by rw [← he]; exact Prod.ext hT1 rfl)
  rw [he] at hT2
  have HAT := Lib.hid (⟨c1, c2⟩ : w.cell? ⟨b, o + i, none⟩ = some (.int .i64 (roomOf x i : Int)) ∧ w.cell? ⟨b, o + k, none⟩ = some (.int .i64 (roomOf x k : Int)))
  have hil2 : ¬ (x.at_.length : Int) ≤ (i : Int) := by omega
  have hil3 : (x.at_.length ≤ i) = False := by simp; omega
  have hkl2 : ¬ (x.at_.length : Int) ≤ (k : Int) := by omega
  have hkl3 : (x.at_.length ≤ k) = False := by simp; omega
  have hne2 : ((i : Int) != (k : Int)) = true := by simp; omega
  have hz : (e == 0) = true := by simp; exact hT2.2 ⟨hs, hr⟩
  have hro : ((roomOf x i : Int) == (roomOf x k : Int)) = true := by simp [hr]
  have HP := Lib.hid hP
  have CC_0 := Lib.hid cc
  have HZ := Lib.hid hz2
  clear hi hlp hk hT1 hT2 he c1 c2 hr hP cc hz2
  have hmw : IntKind.i64.wrap (m : Int) = (m : Int) := IntWalk.i64_in _ (by omega)
  have H_0 := Lib.hid (Holds.new w #[.slice pd.ex x.d.exits.length pd.exc, .slice pd.pl x.d.players.length pd.plc, .slice pd.co x.d.coins.length pd.coc, .slice pd.it x.d.items.length pd.itc, .slice pd.bo x.d.boxes.length pd.boc, .int .i64 x.d.room, .int .i64 x.d.player, .int .i64 x.d.box, .slice (some ⟨b, o, none⟩) x.at_.length pac, .slice (some ⟨kb, ko, none⟩) x.coins.length pkc, .slice pw x.wher.length pwc] 29)
  have HF := Lib.hid hf
  have HWA := Lib.hid h
  clear hf h
  go_enter Try.func6, Try.ntmps6
  go_wp2_with fail
  generalize w.alloc (.cells #[.slice pd.ex x.d.exits.length pd.exc, .slice pd.pl x.d.players.length pd.plc, .slice pd.co x.d.coins.length pd.coc, .slice pd.it x.d.items.length pd.itc, .slice pd.bo x.d.boxes.length pd.boc, .int .i64 x.d.room, .int .i64 x.d.player, .int .i64 x.d.box, .slice (some ⟨b, o, none⟩) x.at_.length pac, .slice (some ⟨kb, ko, none⟩) x.coins.length pkc, .slice pw x.wher.length pwc] 29) = V0 at *
  have B_0 := Lib.hid H_0.out.1
  refine (awake11_any _).mono ?_
  rintro e u1 ⟨rfl, b1⟩
  have B_1 := Lib.hid (bl B_0.out b1)
  have H_1 := Lib.hid (H_0.out.call b1)
  clear b1 B_0 H_0
  have hcH := H_1.out.2.2
  have hlH := H_1.out.2.1
  go_wp2_with fail
  refine (fits11_any x ⟨pd, some ⟨b, o, none⟩, pac, some ⟨kb, ko, none⟩, pkc, pw, pwc⟩ _ (HWA.out.below H_1.out.1 (Nat.le_refl _))).mono ?_
  rintro e u2 ⟨rfl, b2⟩
  rw [HF.out]
  clear hcH hlH
  have B_2 := Lib.hid (bl B_1.out b2)
  have H_2 := Lib.hid (H_1.out.call b2)
  clear b2 B_1 H_1
  have hcH := H_2.out.2.2
  have hlH := H_2.out.2.1
  go_wp2_with fail
  have CC_2 := Lib.hid (CC_0.out.call B_2.out)
  refine (trade_nil_as (Shape.refl x) ⟨pd, some ⟨b, o, none⟩, pac, some ⟨kb, ko, none⟩, pkc, pw, pwc⟩ i _ FT.out.right (HWA.out.below B_2.out (Nat.le_refl _)) hil k 0 HT.out).mono ?_
  rintro e u3 ⟨q1, rfl, gr, b3⟩
  clear hcH hlH
  have B_3 := Lib.hid (bl B_2.out b3)
  have H_3 := Lib.hid (H_2.out.call b3)
  have CC_3 := Lib.hid (CC_2.out.call b3)
  have YA_3 := Lib.hid gr
  clear b3 B_2 H_2 CC_2 gr
  have hcH := H_3.out.2.2
  have hlH := H_3.out.2.1
  go_wp2_with fail
  clear hcH hlH
  have s4 : (u3.alloc (.cells #[.slice q1.d.ex x.d.exits.length q1.d.exc, .slice q1.d.pl x.d.players.length q1.d.plc, .slice q1.d.co x.d.coins.length q1.d.coc, .slice q1.d.it x.d.items.length q1.d.itc, .slice q1.d.bo x.d.boxes.length q1.d.boc, .int .i64 x.d.room, .int .i64 x.d.player, .int .i64 x.d.box, .slice q1.at_ x.at_.length q1.atc, .slice q1.co x.coins.length q1.coc, .slice q1.wh x.wher.length q1.whc] 29)).heap.size = u3.heap.size + 1 := by simp
  have B_4 := Lib.hid (B_3.out.alloc B_3.out.size (.cells #[.slice q1.d.ex x.d.exits.length q1.d.exc, .slice q1.d.pl x.d.players.length q1.d.plc, .slice q1.d.co x.d.coins.length q1.d.coc, .slice q1.d.it x.d.items.length q1.d.itc, .slice q1.d.bo x.d.boxes.length q1.d.boc, .int .i64 x.d.room, .int .i64 x.d.player, .int .i64 x.d.box, .slice q1.at_ x.at_.length q1.atc, .slice q1.co x.coins.length q1.coc, .slice q1.wh x.wher.length q1.whc] 29))
  have H_4 := Lib.hid (H_3.out.alloc (.cells #[.slice q1.d.ex x.d.exits.length q1.d.exc, .slice q1.d.pl x.d.players.length q1.d.plc, .slice q1.d.co x.d.coins.length q1.d.coc, .slice q1.d.it x.d.items.length q1.d.itc, .slice q1.d.bo x.d.boxes.length q1.d.boc, .int .i64 x.d.room, .int .i64 x.d.player, .int .i64 x.d.box, .slice q1.at_ x.at_.length q1.atc, .slice q1.co x.coins.length q1.coc, .slice q1.wh x.wher.length q1.whc] 29))
  have CC_4 := Lib.hid (CC_3.out.call ((Below.refl _ _).alloc (Nat.le_refl _) (.cells #[.slice q1.d.ex x.d.exits.length q1.d.exc, .slice q1.d.pl x.d.players.length q1.d.plc, .slice q1.d.co x.d.coins.length q1.d.coc, .slice q1.d.it x.d.items.length q1.d.itc, .slice q1.d.bo x.d.boxes.length q1.d.boc, .int .i64 x.d.room, .int .i64 x.d.player, .int .i64 x.d.box, .slice q1.at_ x.at_.length q1.atc, .slice q1.co x.coins.length q1.coc, .slice q1.wh x.wher.length q1.whc] 29)))
  have YA_4 := Lib.hid (YA_3.out.call ((Below.refl _ _).alloc (Nat.le_refl _) (.cells #[.slice q1.d.ex x.d.exits.length q1.d.exc, .slice q1.d.pl x.d.players.length q1.d.plc, .slice q1.d.co x.d.coins.length q1.d.coc, .slice q1.d.it x.d.items.length q1.d.itc, .slice q1.d.bo x.d.boxes.length q1.d.boc, .int .i64 x.d.room, .int .i64 x.d.player, .int .i64 x.d.box, .slice q1.at_ x.at_.length q1.atc, .slice q1.co x.coins.length q1.coc, .slice q1.wh x.wher.length q1.whc] 29)))
  have A_4 := Lib.hid (Holds.newb (w := w) (A := #[.slice q1.d.ex x.d.exits.length q1.d.exc, .slice q1.d.pl x.d.players.length q1.d.plc, .slice q1.d.co x.d.coins.length q1.d.coc, .slice q1.d.it x.d.items.length q1.d.itc, .slice q1.d.bo x.d.boxes.length q1.d.boc, .int .i64 x.d.room, .int .i64 x.d.player, .int .i64 x.d.box, .slice q1.at_ x.at_.length q1.atc, .slice q1.co x.coins.length q1.coc, .slice q1.wh x.wher.length q1.whc]) (t := 29) (n := u3.heap.size) B_3.out rfl)
  clear B_3 H_3 CC_3 YA_3
  generalize u3.alloc (.cells #[.slice q1.d.ex x.d.exits.length q1.d.exc, .slice q1.d.pl x.d.players.length q1.d.plc, .slice q1.d.co x.d.coins.length q1.d.coc, .slice q1.d.it x.d.items.length q1.d.itc, .slice q1.d.bo x.d.boxes.length q1.d.boc, .int .i64 x.d.room, .int .i64 x.d.player, .int .i64 x.d.box, .slice q1.at_ x.at_.length q1.atc, .slice q1.co x.coins.length q1.coc, .slice q1.wh x.wher.length q1.whc] 29) = V4 at *
  have hcH := H_4.out.2.2
  have hlH := H_4.out.2.1
  have hcA := A_4.out.2.2
  have hlA := A_4.out.2.1
  clear hcH hlH hcA hlA
  have KS : Hid (∀ w', Below V4.heap.size V4 w' → Below V4.heap.size V4 w' ∧ (∀ ii, w'.cell? ⟨w.heap.size, ii, none⟩ = (#[.slice pd.ex x.d.exits.length pd.exc, .slice pd.pl x.d.players.length pd.plc, .slice pd.co x.d.coins.length pd.coc, .slice pd.it x.d.items.length pd.itc, .slice pd.bo x.d.boxes.length pd.boc, .int .i64 x.d.room, .int .i64 x.d.player, .int .i64 x.d.box, .slice (some ⟨b, o, none⟩) x.at_.length pac, .slice (some ⟨kb, ko, none⟩) x.coins.length pkc, .slice pw x.wher.length pwc][ii]? : Option Value)) ∧ w'.cell? ⟨b, o + i, none⟩ = some (.int .i64 (roomOf x i : Int)) ∧ w'.cell? ⟨b, o + k, none⟩ = some (.int .i64 (roomOf x k : Int))) := Lib.hid (fun w' hb => ⟨hb, fun ii => (hb.cell (p := ⟨w.heap.size, ii, none⟩) H_4.out.2.1).trans (H_4.out.2.2 ii), cell_call (cell_call HAT.out.1 B_4.out) hb, cell_call (cell_call HAT.out.2 B_4.out) hb⟩)
  refine wp_region_noPanic ?_
  refine wp_region_held_drew (S := (fun w' => Below V4.heap.size V4 w' ∧ (∀ ii, w'.cell? ⟨w.heap.size, ii, none⟩ = (#[.slice pd.ex x.d.exits.length pd.exc, .slice pd.pl x.d.players.length pd.plc, .slice pd.co x.d.coins.length pd.coc, .slice pd.it x.d.items.length pd.itc, .slice pd.bo x.d.boxes.length pd.boc, .int .i64 x.d.room, .int .i64 x.d.player, .int .i64 x.d.box, .slice (some ⟨b, o, none⟩) x.at_.length pac, .slice (some ⟨kb, ko, none⟩) x.coins.length pkc, .slice pw x.wher.length pwc][ii]? : Option Value)) ∧ w'.cell? ⟨b, o + i, none⟩ = some (.int .i64 (roomOf x i : Int)) ∧ w'.cell? ⟨b, o + k, none⟩ = some (.int .i64 (roomOf x k : Int)))) (by kernel_rfl) (by (first | (with_reducible exact KS.out _ (bdrew1 (Below.refl _ _))))) (fun hHeld => ?_)
  refine wpAnyH_take (i := 0) (v := ?_) (by simp only [List.getElem?_toArray, List.getElem?_cons_zero]; rfl) (by kernel_rfl) (by kernel_rfl) (by kernel_rfl) (fun _ _ _ h => h) (Or.inl ⟨by rfl, ?_⟩) (by assumption) ?_
  rotate_left
  · (intro ww hSw; (try dsimp only at hSw); go_simp; (try with_reducible rfl))
  try simp only [Act.put, List.setIfInBounds_toArray, List.set_cons_zero, List.set_cons_succ]
  refine wpAnyH_take (i := 1) (v := ?_) (by simp only [List.getElem?_toArray, List.getElem?_cons_succ, List.getElem?_cons_zero]; rfl) (by kernel_rfl) (by kernel_rfl) (by kernel_rfl) (fun _ _ _ h => h) (Or.inl ⟨by rfl, ?_⟩) (by assumption) ?_
  rotate_left
  · (intro ww hSw; (try dsimp only at hSw); go_simp; (try with_reducible rfl))
  try simp only [Act.put, List.setIfInBounds_toArray, List.set_cons_zero, List.set_cons_succ]
  refine wpAnyH_take (i := 2) (v := ?_) (by simp only [List.getElem?_toArray, List.getElem?_cons_succ, List.getElem?_cons_zero]; rfl) (by kernel_rfl) (by kernel_rfl) (by kernel_rfl) (fun _ _ _ h => h) (Or.inl ⟨by rfl, ?_⟩) (by assumption) ?_
  rotate_left
  · (intro ww hSw; (try dsimp only at hSw); go_simp; (try with_reducible rfl))
  try simp only [Act.put, List.setIfInBounds_toArray, List.set_cons_zero, List.set_cons_succ]
  refine wpAnyH_take (i := 3) (v := ?_) (by simp only [List.getElem?_toArray, List.getElem?_cons_succ, List.getElem?_cons_zero]; rfl) (by kernel_rfl) (by kernel_rfl) (by kernel_rfl) (fun _ _ _ h => h) (Or.inl ⟨by rfl, ?_⟩) (by assumption) ?_
  rotate_left
  · (intro ww hSw; (try dsimp only at hSw); go_simp; (try with_reducible rfl))
  try simp only [Act.put, List.setIfInBounds_toArray, List.set_cons_zero, List.set_cons_succ]
  refine wpAnyH_take (i := 4) (v := ?_) (by simp only [List.getElem?_toArray, List.getElem?_cons_succ, List.getElem?_cons_zero]; rfl) (by kernel_rfl) (by kernel_rfl) (by kernel_rfl) (fun _ _ _ h => h) (Or.inl ⟨by rfl, ?_⟩) (by assumption) ?_
  rotate_left
  · (intro ww hSw; (try dsimp only at hSw); go_simp; (try with_reducible rfl))
  try simp only [Act.put, List.setIfInBounds_toArray, List.set_cons_zero, List.set_cons_succ]
  refine wpAnyH_take (i := 5) (v := ?_) (by simp only [List.getElem?_toArray, List.getElem?_cons_succ, List.getElem?_cons_zero]; rfl) (by kernel_rfl) (by kernel_rfl) (by kernel_rfl) (fun _ _ _ h => h) (Or.inl ⟨by rfl, ?_⟩) (by assumption) ?_
  rotate_left
  · (intro ww hSw; (try dsimp only at hSw); go_simp; (try with_reducible rfl))
  try simp only [Act.put, List.setIfInBounds_toArray, List.set_cons_zero, List.set_cons_succ]
  refine wpAnyH_take (i := 6) (v := ?_) (by simp only [List.getElem?_toArray, List.getElem?_cons_succ, List.getElem?_cons_zero]; rfl) (by kernel_rfl) (by kernel_rfl) (by kernel_rfl) (fun _ _ _ h => h) (Or.inl ⟨by rfl, ?_⟩) (by assumption) ?_
  rotate_left
  · (intro ww hSw; (try dsimp only at hSw); go_simp; (try with_reducible rfl))
  try simp only [Act.put, List.setIfInBounds_toArray, List.set_cons_zero, List.set_cons_succ]
  refine wpAnyH_take (i := 7) (v := ?_) (by simp only [List.getElem?_toArray, List.getElem?_cons_succ, List.getElem?_cons_zero]; rfl) (by kernel_rfl) (by kernel_rfl) (by kernel_rfl) (fun _ _ _ h => h) (Or.inl ⟨by rfl, ?_⟩) (by assumption) ?_
  rotate_left
  · (intro ww hSw; (try dsimp only at hSw); go_simp; (try with_reducible rfl))
  try simp only [Act.put, List.setIfInBounds_toArray, List.set_cons_zero, List.set_cons_succ]
  refine wpAnyH_take (i := 8) (v := ?_) (by simp only [List.getElem?_toArray, List.getElem?_cons_succ, List.getElem?_cons_zero]; rfl) (by kernel_rfl) (by kernel_rfl) (by kernel_rfl) (fun _ _ _ h => h) (Or.inl ⟨by rfl, ?_⟩) (by assumption) ?_
  rotate_left
  · (intro ww hSw; (try dsimp only at hSw); go_simp; (try with_reducible rfl))
  try simp only [Act.put, List.setIfInBounds_toArray, List.set_cons_zero, List.set_cons_succ]
  refine wpAnyH_take (i := 9) (v := ?_) (by simp only [List.getElem?_toArray, List.getElem?_cons_succ, List.getElem?_cons_zero]; rfl) (by kernel_rfl) (by kernel_rfl) (by kernel_rfl) (fun _ _ _ h => h) (Or.inl ⟨by rfl, ?_⟩) (by assumption) ?_
  rotate_left
  · (intro ww hSw; (try dsimp only at hSw); go_simp; (try with_reducible rfl))
  try simp only [Act.put, List.setIfInBounds_toArray, List.set_cons_zero, List.set_cons_succ]
  refine wpAnyH_take (i := 10) (v := ?_) (by simp only [List.getElem?_toArray, List.getElem?_cons_succ, List.getElem?_cons_zero]; rfl) (by kernel_rfl) (by kernel_rfl) (by kernel_rfl) (fun _ _ _ h => h) (Or.inl ⟨by rfl, ?_⟩) (by assumption) ?_
  rotate_left
  · (intro ww hSw; (try dsimp only at hSw); go_simp; (try with_reducible rfl))
  try simp only [Act.put, List.setIfInBounds_toArray, List.set_cons_zero, List.set_cons_succ]
  refine wpAnyH_take (i := 11) (v := ?_) (by simp only [List.getElem?_toArray, List.getElem?_cons_succ, List.getElem?_cons_zero]; rfl) (by kernel_rfl) (by kernel_rfl) (by kernel_rfl) (fun _ _ _ h => h) (Or.inl ⟨by rfl, ?_⟩) (by assumption) ?_
  rotate_left
  · (intro ww hSw; (try dsimp only at hSw); go_simp; (try with_reducible rfl))
  try simp only [Act.put, List.setIfInBounds_toArray, List.set_cons_zero, List.set_cons_succ]
  refine wpAnyH_take (i := 12) (v := ?_) (by simp only [List.getElem?_toArray, List.getElem?_cons_succ, List.getElem?_cons_zero]; rfl) (by kernel_rfl) (by kernel_rfl) (by kernel_rfl) (fun _ _ _ h => h) (Or.inl ⟨by rfl, ?_⟩) (by assumption) ?_
  rotate_left
  · (intro ww hSw; (try dsimp only at hSw); go_simp; (try with_reducible rfl))
  try simp only [Act.put, List.setIfInBounds_toArray, List.set_cons_zero, List.set_cons_succ]
  refine wpAnyH_take (i := 13) (v := ?_) (by simp only [List.getElem?_toArray, List.getElem?_cons_succ, List.getElem?_cons_zero]; rfl) (by kernel_rfl) (by kernel_rfl) (by kernel_rfl) (fun _ _ _ h => h) (Or.inl ⟨by rfl, ?_⟩) (by assumption) ?_
  rotate_left
  · (intro ww hSw; (try dsimp only at hSw); go_simp; (try with_reducible rfl))
  try simp only [Act.put, List.setIfInBounds_toArray, List.set_cons_zero, List.set_cons_succ]
  refine wpAnyH_take (i := 14) (v := ?_) (by simp only [List.getElem?_toArray, List.getElem?_cons_succ, List.getElem?_cons_zero]; rfl) (by kernel_rfl) (by kernel_rfl) (by kernel_rfl) (fun _ _ _ h => h) (Or.inl ⟨by rfl, ?_⟩) (by assumption) ?_
  rotate_left
  · (intro ww hSw; (try dsimp only at hSw); go_simp; (try with_reducible rfl))
  try simp only [Act.put, List.setIfInBounds_toArray, List.set_cons_zero, List.set_cons_succ]
  refine wpAnyH_take (i := 15) (v := ?_) (by simp only [List.getElem?_toArray, List.getElem?_cons_succ, List.getElem?_cons_zero]; rfl) (by kernel_rfl) (by kernel_rfl) (by kernel_rfl) (fun _ _ _ h => h) (Or.inl ⟨by rfl, ?_⟩) (by assumption) ?_
  rotate_left
  · (intro ww hSw; (try dsimp only at hSw); go_simp; (try with_reducible rfl))
  try simp only [Act.put, List.setIfInBounds_toArray, List.set_cons_zero, List.set_cons_succ]
  refine wpAnyH_take (i := 16) (v := ?_) (by simp only [List.getElem?_toArray, List.getElem?_cons_succ, List.getElem?_cons_zero]; rfl) (by kernel_rfl) (by kernel_rfl) (by kernel_rfl) (fun _ _ _ h => h) (Or.inl ⟨by rfl, ?_⟩) (by assumption) ?_
  rotate_left
  · (intro ww hSw; (try dsimp only at hSw); go_simp; (try with_reducible rfl))
  try simp only [Act.put, List.setIfInBounds_toArray, List.set_cons_zero, List.set_cons_succ]
  refine wpAnyH_done (by kernel_rfl) ?_ _
  refine NoPanic.normal ?_
  clear hHeld KS
  have B_5 := Lib.hid (bl B_4.out (bdrew1 (Below.refl V4.heap.size V4)))
  have H_5 := Lib.hid (H_4.out.call (bdrew1 (Below.refl V4.heap.size V4)))
  have A_5 := Lib.hid (A_4.out.call (bdrew1 (Below.refl V4.heap.size V4)))
  have CC_5 := Lib.hid (CC_4.out.call (bdrew1 (Below.refl V4.heap.size V4)))
  have YA_5 := Lib.hid (YA_4.out.call (bdrew1 (Below.refl V4.heap.size V4)))
  clear B_4 H_4 A_4 CC_4 YA_4
  generalize V4.drew = V5 at *
  have hcH := H_5.out.2.2
  have hlH := H_5.out.2.1
  have hcA := A_5.out.2.2
  have hlA := A_5.out.2.1
  go_wp2_with fail
  refine (rsame_yes (Shape.refl x) (Shape.refl x) rfl _ ⟨pd, some ⟨b, o, none⟩, pac, some ⟨kb, ko, none⟩, pkc, pw, pwc⟩ _ YA_5.out (HWA.out.below B_5.out (Nat.le_refl _))).mono ?_
  rintro e u6 ⟨rfl, b6⟩
  clear hcH hlH hcA hlA
  have B_6 := Lib.hid (bl B_5.out b6)
  have H_6 := Lib.hid (H_5.out.call b6)
  have A_6 := Lib.hid (A_5.out.call b6)
  have CC_6 := Lib.hid (CC_5.out.call b6)
  have YA_6 := Lib.hid (YA_5.out.call b6)
  clear b6 B_5 H_5 A_5 CC_5 YA_5
  have hcH := H_6.out.2.2
  have hlH := H_6.out.2.1
  have hcA := A_6.out.2.2
  have hlA := A_6.out.2.1
  go_wp2_with fail
  refine (trade_nil_as (Shape.refl x) ⟨pd, some ⟨b, o, none⟩, pac, some ⟨kb, ko, none⟩, pkc, pw, pwc⟩ i _ FT.out.right (HWA.out.below B_6.out (Nat.le_refl _)) hil k (m : Int) HP.out).mono ?_
  rintro e u7 ⟨⟨xd, xa, xac, xk, xkc, xw, xwc⟩, rfl, gr, b7⟩
  clear hcH hlH hcA hlA
  have B_7 := Lib.hid (bl B_6.out b7)
  have H_7 := Lib.hid (H_6.out.call b7)
  have A_7 := Lib.hid (A_6.out.call b7)
  have CC_7 := Lib.hid (CC_6.out.call b7)
  have YA_7 := Lib.hid (YA_6.out.call b7)
  clear b7 B_6 H_6 A_6 CC_6 YA_6
  have hcH := H_7.out.2.2
  have hlH := H_7.out.2.1
  have hcA := A_7.out.2.2
  have hlA := A_7.out.2.1
  obtain ⟨zb, zo, ez, hcc⟩ := coc_of gr.co (i := i) (k := k) HZ.out.2.2.1 HZ.out.2.2.2.1
  simp only at ez
  subst ez
  rw [HZ.out.1, HZ.out.2.1] at hcc
  have CZ_7 := Lib.hid hcc
  have WZ_7 := Lib.hid (show PlsInn u7 xw x.wher from HZ.out.2.2.2.2 ▸ gr.wh)
  clear hcc gr
  go_wp2_with fail
  clear hcH hlH hcA hlA
  have s8 : (u7.alloc (.cells #[.slice xd.ex x.d.exits.length xd.exc, .slice xd.pl x.d.players.length xd.plc, .slice xd.co x.d.coins.length xd.coc, .slice xd.it x.d.items.length xd.itc, .slice xd.bo x.d.boxes.length xd.boc, .int .i64 x.d.room, .int .i64 x.d.player, .int .i64 x.d.box, .slice xa x.at_.length xac, .slice (some ⟨zb, zo, none⟩) x.coins.length xkc, .slice xw x.wher.length xwc] 29)).heap.size = u7.heap.size + 1 := by simp
  have B_8 := Lib.hid (B_7.out.alloc B_7.out.size (.cells #[.slice xd.ex x.d.exits.length xd.exc, .slice xd.pl x.d.players.length xd.plc, .slice xd.co x.d.coins.length xd.coc, .slice xd.it x.d.items.length xd.itc, .slice xd.bo x.d.boxes.length xd.boc, .int .i64 x.d.room, .int .i64 x.d.player, .int .i64 x.d.box, .slice xa x.at_.length xac, .slice (some ⟨zb, zo, none⟩) x.coins.length xkc, .slice xw x.wher.length xwc] 29))
  have H_8 := Lib.hid (H_7.out.alloc (.cells #[.slice xd.ex x.d.exits.length xd.exc, .slice xd.pl x.d.players.length xd.plc, .slice xd.co x.d.coins.length xd.coc, .slice xd.it x.d.items.length xd.itc, .slice xd.bo x.d.boxes.length xd.boc, .int .i64 x.d.room, .int .i64 x.d.player, .int .i64 x.d.box, .slice xa x.at_.length xac, .slice (some ⟨zb, zo, none⟩) x.coins.length xkc, .slice xw x.wher.length xwc] 29))
  have A_8 := Lib.hid (A_7.out.alloc (.cells #[.slice xd.ex x.d.exits.length xd.exc, .slice xd.pl x.d.players.length xd.plc, .slice xd.co x.d.coins.length xd.coc, .slice xd.it x.d.items.length xd.itc, .slice xd.bo x.d.boxes.length xd.boc, .int .i64 x.d.room, .int .i64 x.d.player, .int .i64 x.d.box, .slice xa x.at_.length xac, .slice (some ⟨zb, zo, none⟩) x.coins.length xkc, .slice xw x.wher.length xwc] 29))
  have CC_8 := Lib.hid (CC_7.out.call ((Below.refl _ _).alloc (Nat.le_refl _) (.cells #[.slice xd.ex x.d.exits.length xd.exc, .slice xd.pl x.d.players.length xd.plc, .slice xd.co x.d.coins.length xd.coc, .slice xd.it x.d.items.length xd.itc, .slice xd.bo x.d.boxes.length xd.boc, .int .i64 x.d.room, .int .i64 x.d.player, .int .i64 x.d.box, .slice xa x.at_.length xac, .slice (some ⟨zb, zo, none⟩) x.coins.length xkc, .slice xw x.wher.length xwc] 29)))
  have YA_8 := Lib.hid (YA_7.out.call ((Below.refl _ _).alloc (Nat.le_refl _) (.cells #[.slice xd.ex x.d.exits.length xd.exc, .slice xd.pl x.d.players.length xd.plc, .slice xd.co x.d.coins.length xd.coc, .slice xd.it x.d.items.length xd.itc, .slice xd.bo x.d.boxes.length xd.boc, .int .i64 x.d.room, .int .i64 x.d.player, .int .i64 x.d.box, .slice xa x.at_.length xac, .slice (some ⟨zb, zo, none⟩) x.coins.length xkc, .slice xw x.wher.length xwc] 29)))
  have CZ_8 := Lib.hid (CZ_7.out.call ((Below.refl _ _).alloc (Nat.le_refl _) (.cells #[.slice xd.ex x.d.exits.length xd.exc, .slice xd.pl x.d.players.length xd.plc, .slice xd.co x.d.coins.length xd.coc, .slice xd.it x.d.items.length xd.itc, .slice xd.bo x.d.boxes.length xd.boc, .int .i64 x.d.room, .int .i64 x.d.player, .int .i64 x.d.box, .slice xa x.at_.length xac, .slice (some ⟨zb, zo, none⟩) x.coins.length xkc, .slice xw x.wher.length xwc] 29)))
  have WZ_8 := Lib.hid (WZ_7.out.call ((Below.refl _ _).alloc (Nat.le_refl _) (.cells #[.slice xd.ex x.d.exits.length xd.exc, .slice xd.pl x.d.players.length xd.plc, .slice xd.co x.d.coins.length xd.coc, .slice xd.it x.d.items.length xd.itc, .slice xd.bo x.d.boxes.length xd.boc, .int .i64 x.d.room, .int .i64 x.d.player, .int .i64 x.d.box, .slice xa x.at_.length xac, .slice (some ⟨zb, zo, none⟩) x.coins.length xkc, .slice xw x.wher.length xwc] 29)))
  have Q_8 := Lib.hid (Holds.newb (w := w) (A := #[.slice xd.ex x.d.exits.length xd.exc, .slice xd.pl x.d.players.length xd.plc, .slice xd.co x.d.coins.length xd.coc, .slice xd.it x.d.items.length xd.itc, .slice xd.bo x.d.boxes.length xd.boc, .int .i64 x.d.room, .int .i64 x.d.player, .int .i64 x.d.box, .slice xa x.at_.length xac, .slice (some ⟨zb, zo, none⟩) x.coins.length xkc, .slice xw x.wher.length xwc]) (t := 29) (n := u7.heap.size) B_7.out rfl)
  clear B_7 H_7 A_7 CC_7 YA_7 CZ_7 WZ_7
  generalize u7.alloc (.cells #[.slice xd.ex x.d.exits.length xd.exc, .slice xd.pl x.d.players.length xd.plc, .slice xd.co x.d.coins.length xd.coc, .slice xd.it x.d.items.length xd.itc, .slice xd.bo x.d.boxes.length xd.boc, .int .i64 x.d.room, .int .i64 x.d.player, .int .i64 x.d.box, .slice xa x.at_.length xac, .slice (some ⟨zb, zo, none⟩) x.coins.length xkc, .slice xw x.wher.length xwc] 29) = V8 at *
  have hcH := H_8.out.2.2
  have hlH := H_8.out.2.1
  have hcA := A_8.out.2.2
  have hlA := A_8.out.2.1
  have hcQ := Q_8.out.2.2
  have hlQ := Q_8.out.2.1
  clear hcH hlH hcA hlA hcQ hlQ
  have hil4 : ¬ (x.coins.length : Int) ≤ (i : Int) := by omega
  have hil5 : (x.coins.length ≤ i) = False := by simp; omega
  have hkl4 : ¬ (x.coins.length : Int) ≤ (k : Int) := by omega
  have hkl5 : (x.coins.length ≤ k) = False := by simp; omega
  have hw1 : IntKind.i64.wrap (ci - (m : Int)) = ci - (m : Int) := IntWalk.i64_in _ (by omega)
  have hw2 : IntKind.i64.wrap (ck + (m : Int)) = ck + (m : Int) := IntWalk.i64_in _ (by omega)
  have KS : Hid (∀ w', Below V8.heap.size V8 w' → Below V8.heap.size V8 w' ∧ (∀ ii, w'.cell? ⟨w.heap.size, ii, none⟩ = (#[.slice pd.ex x.d.exits.length pd.exc, .slice pd.pl x.d.players.length pd.plc, .slice pd.co x.d.coins.length pd.coc, .slice pd.it x.d.items.length pd.itc, .slice pd.bo x.d.boxes.length pd.boc, .int .i64 x.d.room, .int .i64 x.d.player, .int .i64 x.d.box, .slice (some ⟨b, o, none⟩) x.at_.length pac, .slice (some ⟨kb, ko, none⟩) x.coins.length pkc, .slice pw x.wher.length pwc][ii]? : Option Value)) ∧ (∀ ii, w'.cell? ⟨u7.heap.size, ii, none⟩ = (#[.slice xd.ex x.d.exits.length xd.exc, .slice xd.pl x.d.players.length xd.plc, .slice xd.co x.d.coins.length xd.coc, .slice xd.it x.d.items.length xd.itc, .slice xd.bo x.d.boxes.length xd.boc, .int .i64 x.d.room, .int .i64 x.d.player, .int .i64 x.d.box, .slice xa x.at_.length xac, .slice (some ⟨zb, zo, none⟩) x.coins.length xkc, .slice xw x.wher.length xwc][ii]? : Option Value)) ∧ w'.cell? ⟨kb, ko + i, none⟩ = some (.int .i64 ci) ∧ w'.cell? ⟨kb, ko + k, none⟩ = some (.int .i64 ck) ∧ w'.cell? ⟨zb, zo + i, none⟩ = some (.int .i64 (ci - (m : Int))) ∧ w'.cell? ⟨zb, zo + k, none⟩ = some (.int .i64 (ck + (m : Int)))) := Lib.hid (fun w' hb => ⟨hb, fun ii => (hb.cell (p := ⟨w.heap.size, ii, none⟩) H_8.out.2.1).trans (H_8.out.2.2 ii), fun ii => (hb.cell (p := ⟨u7.heap.size, ii, none⟩) Q_8.out.2.1).trans (Q_8.out.2.2 ii), cell_call CC_8.out.1 hb, cell_call CC_8.out.2.1 hb, cell_call CZ_8.out.1 hb, cell_call CZ_8.out.2.1 hb⟩)
  refine wp_region_noPanic ?_
  refine wp_region_held_drew (S := (fun w' => Below V8.heap.size V8 w' ∧ (∀ ii, w'.cell? ⟨w.heap.size, ii, none⟩ = (#[.slice pd.ex x.d.exits.length pd.exc, .slice pd.pl x.d.players.length pd.plc, .slice pd.co x.d.coins.length pd.coc, .slice pd.it x.d.items.length pd.itc, .slice pd.bo x.d.boxes.length pd.boc, .int .i64 x.d.room, .int .i64 x.d.player, .int .i64 x.d.box, .slice (some ⟨b, o, none⟩) x.at_.length pac, .slice (some ⟨kb, ko, none⟩) x.coins.length pkc, .slice pw x.wher.length pwc][ii]? : Option Value)) ∧ (∀ ii, w'.cell? ⟨u7.heap.size, ii, none⟩ = (#[.slice xd.ex x.d.exits.length xd.exc, .slice xd.pl x.d.players.length xd.plc, .slice xd.co x.d.coins.length xd.coc, .slice xd.it x.d.items.length xd.itc, .slice xd.bo x.d.boxes.length xd.boc, .int .i64 x.d.room, .int .i64 x.d.player, .int .i64 x.d.box, .slice xa x.at_.length xac, .slice (some ⟨zb, zo, none⟩) x.coins.length xkc, .slice xw x.wher.length xwc][ii]? : Option Value)) ∧ w'.cell? ⟨kb, ko + i, none⟩ = some (.int .i64 ci) ∧ w'.cell? ⟨kb, ko + k, none⟩ = some (.int .i64 ck) ∧ w'.cell? ⟨zb, zo + i, none⟩ = some (.int .i64 (ci - (m : Int))) ∧ w'.cell? ⟨zb, zo + k, none⟩ = some (.int .i64 (ck + (m : Int))))) (by kernel_rfl) (by (first | (with_reducible exact KS.out _ (bdrew1 (Below.refl _ _))))) (fun hHeld => ?_)
  refine wpAnyH_take (i := 0) (v := ?_) (by simp only [List.getElem?_toArray, List.getElem?_cons_zero]; rfl) (by kernel_rfl) (by kernel_rfl) (by kernel_rfl) (fun _ _ _ h => h) (Or.inl ⟨by rfl, ?_⟩) (by assumption) ?_
  rotate_left
  · (intro ww hSw; (try dsimp only at hSw); go_simp; (try with_reducible rfl))
  try simp only [Act.put, List.setIfInBounds_toArray, List.set_cons_zero, List.set_cons_succ]
  refine wpAnyH_take (i := 1) (v := ?_) (by simp only [List.getElem?_toArray, List.getElem?_cons_succ, List.getElem?_cons_zero]; rfl) (by kernel_rfl) (by kernel_rfl) (by kernel_rfl) (fun _ _ _ h => h) (Or.inl ⟨by rfl, ?_⟩) (by assumption) ?_
  rotate_left
  · (intro ww hSw; (try dsimp only at hSw); go_simp; (try with_reducible rfl))
  try simp only [Act.put, List.setIfInBounds_toArray, List.set_cons_zero, List.set_cons_succ]
  refine wpAnyH_take (i := 2) (v := ?_) (by simp only [List.getElem?_toArray, List.getElem?_cons_succ, List.getElem?_cons_zero]; rfl) (by kernel_rfl) (by kernel_rfl) (by kernel_rfl) (fun _ _ _ h => h) (Or.inl ⟨by rfl, ?_⟩) (by assumption) ?_
  rotate_left
  · (intro ww hSw; (try dsimp only at hSw); go_simp; (try with_reducible rfl))
  try simp only [Act.put, List.setIfInBounds_toArray, List.set_cons_zero, List.set_cons_succ]
  refine wpAnyH_take (i := 3) (v := ?_) (by simp only [List.getElem?_toArray, List.getElem?_cons_succ, List.getElem?_cons_zero]; rfl) (by kernel_rfl) (by kernel_rfl) (by kernel_rfl) (fun _ _ _ h => h) (Or.inl ⟨by rfl, ?_⟩) (by assumption) ?_
  rotate_left
  · (intro ww hSw; (try dsimp only at hSw); go_simp; (try with_reducible rfl))
  try simp only [Act.put, List.setIfInBounds_toArray, List.set_cons_zero, List.set_cons_succ]
  refine wpAnyH_take (i := 4) (v := ?_) (by simp only [List.getElem?_toArray, List.getElem?_cons_succ, List.getElem?_cons_zero]; rfl) (by kernel_rfl) (by kernel_rfl) (by kernel_rfl) (fun _ _ _ h => h) (Or.inl ⟨by rfl, ?_⟩) (by assumption) ?_
  rotate_left
  · (intro ww hSw; (try dsimp only at hSw); go_simp; (try with_reducible rfl))
  try simp only [Act.put, List.setIfInBounds_toArray, List.set_cons_zero, List.set_cons_succ]
  refine wpAnyH_take (i := 5) (v := ?_) (by simp only [List.getElem?_toArray, List.getElem?_cons_succ, List.getElem?_cons_zero]; rfl) (by kernel_rfl) (by kernel_rfl) (by kernel_rfl) (fun _ _ _ h => h) (Or.inl ⟨by rfl, ?_⟩) (by assumption) ?_
  rotate_left
  · (intro ww hSw; (try dsimp only at hSw); go_simp; (try with_reducible rfl))
  try simp only [Act.put, List.setIfInBounds_toArray, List.set_cons_zero, List.set_cons_succ]
  refine wpAnyH_take (i := 6) (v := ?_) (by simp only [List.getElem?_toArray, List.getElem?_cons_succ, List.getElem?_cons_zero]; rfl) (by kernel_rfl) (by kernel_rfl) (by kernel_rfl) (fun _ _ _ h => h) (Or.inl ⟨by rfl, ?_⟩) (by assumption) ?_
  rotate_left
  · (intro ww hSw; (try dsimp only at hSw); go_simp; (try with_reducible rfl))
  try simp only [Act.put, List.setIfInBounds_toArray, List.set_cons_zero, List.set_cons_succ]
  refine wpAnyH_take (i := 7) (v := ?_) (by simp only [List.getElem?_toArray, List.getElem?_cons_succ, List.getElem?_cons_zero]; rfl) (by kernel_rfl) (by kernel_rfl) (by kernel_rfl) (fun _ _ _ h => h) (Or.inl ⟨by rfl, ?_⟩) (by assumption) ?_
  rotate_left
  · (intro ww hSw; (try dsimp only at hSw); go_simp; (try with_reducible rfl))
  try simp only [Act.put, List.setIfInBounds_toArray, List.set_cons_zero, List.set_cons_succ]
  refine wpAnyH_take (i := 8) (v := ?_) (by simp only [List.getElem?_toArray, List.getElem?_cons_succ, List.getElem?_cons_zero]; rfl) (by kernel_rfl) (by kernel_rfl) (by kernel_rfl) (fun _ _ _ h => h) (Or.inl ⟨by rfl, ?_⟩) (by assumption) ?_
  rotate_left
  · (intro ww hSw; (try dsimp only at hSw); go_simp; (try with_reducible rfl))
  try simp only [Act.put, List.setIfInBounds_toArray, List.set_cons_zero, List.set_cons_succ]
  refine wpAnyH_take (i := 9) (v := ?_) (by simp only [List.getElem?_toArray, List.getElem?_cons_succ, List.getElem?_cons_zero]; rfl) (by kernel_rfl) (by kernel_rfl) (by kernel_rfl) (fun _ _ _ h => h) (Or.inl ⟨by rfl, ?_⟩) (by assumption) ?_
  rotate_left
  · (intro ww hSw; (try dsimp only at hSw); go_simp; (try with_reducible rfl))
  try simp only [Act.put, List.setIfInBounds_toArray, List.set_cons_zero, List.set_cons_succ]
  refine wpAnyH_take (i := 10) (v := ?_) (by simp only [List.getElem?_toArray, List.getElem?_cons_succ, List.getElem?_cons_zero]; rfl) (by kernel_rfl) (by kernel_rfl) (by kernel_rfl) (fun _ _ _ h => h) (Or.inl ⟨by rfl, ?_⟩) (by assumption) ?_
  rotate_left
  · (intro ww hSw; (try dsimp only at hSw); go_simp; (try with_reducible rfl))
  try simp only [Act.put, List.setIfInBounds_toArray, List.set_cons_zero, List.set_cons_succ]
  refine wpAnyH_take (i := 11) (v := ?_) (by simp only [List.getElem?_toArray, List.getElem?_cons_succ, List.getElem?_cons_zero]; rfl) (by kernel_rfl) (by kernel_rfl) (by kernel_rfl) (fun _ _ _ h => h) (Or.inl ⟨by rfl, ?_⟩) (by assumption) ?_
  rotate_left
  · (intro ww hSw; (try dsimp only at hSw); go_simp; (try with_reducible rfl))
  try simp only [Act.put, List.setIfInBounds_toArray, List.set_cons_zero, List.set_cons_succ]
  refine wpAnyH_take (i := 12) (v := ?_) (by simp only [List.getElem?_toArray, List.getElem?_cons_succ, List.getElem?_cons_zero]; rfl) (by kernel_rfl) (by kernel_rfl) (by kernel_rfl) (fun _ _ _ h => h) (Or.inl ⟨by rfl, ?_⟩) (by assumption) ?_
  rotate_left
  · (intro ww hSw; (try dsimp only at hSw); go_simp; (try with_reducible rfl))
  try simp only [Act.put, List.setIfInBounds_toArray, List.set_cons_zero, List.set_cons_succ]
  refine wpAnyH_take (i := 13) (v := ?_) (by simp only [List.getElem?_toArray, List.getElem?_cons_succ, List.getElem?_cons_zero]; rfl) (by kernel_rfl) (by kernel_rfl) (by kernel_rfl) (fun _ _ _ h => h) (Or.inl ⟨by rfl, ?_⟩) (by assumption) ?_
  rotate_left
  · (intro ww hSw; (try dsimp only at hSw); go_simp; (try with_reducible rfl))
  try simp only [Act.put, List.setIfInBounds_toArray, List.set_cons_zero, List.set_cons_succ]
  refine wpAnyH_take (i := 14) (v := ?_) (by simp only [List.getElem?_toArray, List.getElem?_cons_succ, List.getElem?_cons_zero]; rfl) (by kernel_rfl) (by kernel_rfl) (by kernel_rfl) (fun _ _ _ h => h) (Or.inl ⟨by rfl, ?_⟩) (by assumption) ?_
  rotate_left
  · (intro ww hSw; (try dsimp only at hSw); go_simp; (try with_reducible rfl))
  try simp only [Act.put, List.setIfInBounds_toArray, List.set_cons_zero, List.set_cons_succ]
  refine wpAnyH_take (i := 15) (v := ?_) (by simp only [List.getElem?_toArray, List.getElem?_cons_succ, List.getElem?_cons_zero]; rfl) (by kernel_rfl) (by kernel_rfl) (by kernel_rfl) (fun _ _ _ h => h) (Or.inl ⟨by rfl, ?_⟩) (by assumption) ?_
  rotate_left
  · (intro ww hSw; (try dsimp only at hSw); go_simp; (try with_reducible rfl))
  try simp only [Act.put, List.setIfInBounds_toArray, List.set_cons_zero, List.set_cons_succ]
  refine wpAnyH_take (i := 16) (v := ?_) (by simp only [List.getElem?_toArray, List.getElem?_cons_succ, List.getElem?_cons_zero]; rfl) (by kernel_rfl) (by kernel_rfl) (by kernel_rfl) (fun _ _ _ h => h) (Or.inl ⟨by rfl, ?_⟩) (by assumption) ?_
  rotate_left
  · (intro ww hSw; (try dsimp only at hSw); go_simp; (try with_reducible rfl))
  try simp only [Act.put, List.setIfInBounds_toArray, List.set_cons_zero, List.set_cons_succ]
  refine wpAnyH_take (i := 17) (v := ?_) (by simp only [List.getElem?_toArray, List.getElem?_cons_succ, List.getElem?_cons_zero]; rfl) (by kernel_rfl) (by kernel_rfl) (by kernel_rfl) (fun _ _ _ h => h) (Or.inl ⟨by rfl, ?_⟩) (by assumption) ?_
  rotate_left
  · (intro ww hSw; (try dsimp only at hSw); go_simp; (try with_reducible rfl))
  try simp only [Act.put, List.setIfInBounds_toArray, List.set_cons_zero, List.set_cons_succ]
  refine wpAnyH_take (i := 18) (v := ?_) (by simp only [List.getElem?_toArray, List.getElem?_cons_succ, List.getElem?_cons_zero]; rfl) (by kernel_rfl) (by kernel_rfl) (by kernel_rfl) (fun _ _ _ h => h) (Or.inl ⟨by rfl, ?_⟩) (by assumption) ?_
  rotate_left
  · (intro ww hSw; (try dsimp only at hSw); go_simp; (try with_reducible rfl))
  try simp only [Act.put, List.setIfInBounds_toArray, List.set_cons_zero, List.set_cons_succ]
  refine wpAnyH_take (i := 19) (v := ?_) (by simp only [List.getElem?_toArray, List.getElem?_cons_succ, List.getElem?_cons_zero]; rfl) (by kernel_rfl) (by kernel_rfl) (by kernel_rfl) (fun _ _ _ h => h) (Or.inl ⟨by rfl, ?_⟩) (by assumption) ?_
  rotate_left
  · (intro ww hSw; (try dsimp only at hSw); go_simp; (try with_reducible rfl))
  try simp only [Act.put, List.setIfInBounds_toArray, List.set_cons_zero, List.set_cons_succ]
  refine wpAnyH_take (i := 20) (v := ?_) (by simp only [List.getElem?_toArray, List.getElem?_cons_succ, List.getElem?_cons_zero]; rfl) (by kernel_rfl) (by kernel_rfl) (by kernel_rfl) (fun _ _ _ h => h) (Or.inl ⟨by rfl, ?_⟩) (by assumption) ?_
  rotate_left
  · (intro ww hSw; (try dsimp only at hSw); go_simp; (try with_reducible rfl))
  try simp only [Act.put, List.setIfInBounds_toArray, List.set_cons_zero, List.set_cons_succ]
  refine wpAnyH_take (i := 21) (v := ?_) (by simp only [List.getElem?_toArray, List.getElem?_cons_succ, List.getElem?_cons_zero]; rfl) (by kernel_rfl) (by kernel_rfl) (by kernel_rfl) (fun _ _ _ h => h) (Or.inl ⟨by rfl, ?_⟩) (by assumption) ?_
  rotate_left
  · (intro ww hSw; (try dsimp only at hSw); go_simp; (try with_reducible rfl))
  try simp only [Act.put, List.setIfInBounds_toArray, List.set_cons_zero, List.set_cons_succ]
  refine wpAnyH_take (i := 22) (v := ?_) (by simp only [List.getElem?_toArray, List.getElem?_cons_succ, List.getElem?_cons_zero]; rfl) (by kernel_rfl) (by kernel_rfl) (by kernel_rfl) (fun _ _ _ h => h) (Or.inl ⟨by rfl, ?_⟩) (by assumption) ?_
  rotate_left
  · (intro ww hSw; (try dsimp only at hSw); go_simp; (try with_reducible rfl))
  try simp only [Act.put, List.setIfInBounds_toArray, List.set_cons_zero, List.set_cons_succ]
  refine wpAnyH_take (i := 23) (v := ?_) (by simp only [List.getElem?_toArray, List.getElem?_cons_succ, List.getElem?_cons_zero]; rfl) (by kernel_rfl) (by kernel_rfl) (by kernel_rfl) (fun _ _ _ h => h) (Or.inl ⟨by rfl, ?_⟩) (by assumption) ?_
  rotate_left
  · (intro ww hSw; (try dsimp only at hSw); go_simp; (try with_reducible rfl))
  try simp only [Act.put, List.setIfInBounds_toArray, List.set_cons_zero, List.set_cons_succ]
  refine wpAnyH_take (i := 24) (v := ?_) (by simp only [List.getElem?_toArray, List.getElem?_cons_succ, List.getElem?_cons_zero]; rfl) (by kernel_rfl) (by kernel_rfl) (by kernel_rfl) (fun _ _ _ h => h) (Or.inl ⟨by rfl, ?_⟩) (by assumption) ?_
  rotate_left
  · (intro ww hSw; (try dsimp only at hSw); go_simp; (try with_reducible rfl))
  try simp only [Act.put, List.setIfInBounds_toArray, List.set_cons_zero, List.set_cons_succ]
  refine wpAnyH_take (i := 25) (v := ?_) (by simp only [List.getElem?_toArray, List.getElem?_cons_succ, List.getElem?_cons_zero]; rfl) (by kernel_rfl) (by kernel_rfl) (by kernel_rfl) (fun _ _ _ h => h) (Or.inl ⟨by rfl, ?_⟩) (by assumption) ?_
  rotate_left
  · (intro ww hSw; (try dsimp only at hSw); go_simp; (try with_reducible rfl))
  try simp only [Act.put, List.setIfInBounds_toArray, List.set_cons_zero, List.set_cons_succ]
  refine wpAnyH_take (i := 26) (v := ?_) (by simp only [List.getElem?_toArray, List.getElem?_cons_succ, List.getElem?_cons_zero]; rfl) (by kernel_rfl) (by kernel_rfl) (by kernel_rfl) (fun _ _ _ h => h) (Or.inl ⟨by rfl, ?_⟩) (by assumption) ?_
  rotate_left
  · (intro ww hSw; (try dsimp only at hSw); go_simp; (try with_reducible rfl))
  try simp only [Act.put, List.setIfInBounds_toArray, List.set_cons_zero, List.set_cons_succ]
  refine wpAnyH_take (i := 27) (v := ?_) (by simp only [List.getElem?_toArray, List.getElem?_cons_succ, List.getElem?_cons_zero]; rfl) (by kernel_rfl) (by kernel_rfl) (by kernel_rfl) (fun _ _ _ h => h) (Or.inl ⟨by rfl, ?_⟩) (by assumption) ?_
  rotate_left
  · (intro ww hSw; (try dsimp only at hSw); go_simp; (try with_reducible rfl))
  try simp only [Act.put, List.setIfInBounds_toArray, List.set_cons_zero, List.set_cons_succ]
  refine wpAnyH_take (i := 28) (v := ?_) (by simp only [List.getElem?_toArray, List.getElem?_cons_succ, List.getElem?_cons_zero]; rfl) (by kernel_rfl) (by kernel_rfl) (by kernel_rfl) (fun _ _ _ h => h) (Or.inl ⟨by rfl, ?_⟩) (by assumption) ?_
  rotate_left
  · (intro ww hSw; (try dsimp only at hSw); go_simp; (try with_reducible rfl))
  try simp only [Act.put, List.setIfInBounds_toArray, List.set_cons_zero, List.set_cons_succ]
  refine wpAnyH_take (i := 29) (v := ?_) (by simp only [List.getElem?_toArray, List.getElem?_cons_succ, List.getElem?_cons_zero]; rfl) (by kernel_rfl) (by kernel_rfl) (by kernel_rfl) (fun _ _ _ h => h) (Or.inl ⟨by rfl, ?_⟩) (by assumption) ?_
  rotate_left
  · (intro ww hSw; (try dsimp only at hSw); go_simp; (try with_reducible rfl))
  try simp only [Act.put, List.setIfInBounds_toArray, List.set_cons_zero, List.set_cons_succ]
  refine wpAnyH_take (i := 30) (v := ?_) (by simp only [List.getElem?_toArray, List.getElem?_cons_succ, List.getElem?_cons_zero]; rfl) (by kernel_rfl) (by kernel_rfl) (by kernel_rfl) (fun _ _ _ h => h) (Or.inl ⟨by rfl, ?_⟩) (by assumption) ?_
  rotate_left
  · (intro ww hSw; (try dsimp only at hSw); go_simp; (try with_reducible rfl))
  try simp only [Act.put, List.setIfInBounds_toArray, List.set_cons_zero, List.set_cons_succ]
  refine wpAnyH_take (i := 31) (v := ?_) (by simp only [List.getElem?_toArray, List.getElem?_cons_succ, List.getElem?_cons_zero]; rfl) (by kernel_rfl) (by kernel_rfl) (by kernel_rfl) (fun _ _ _ h => h) (Or.inl ⟨by rfl, ?_⟩) (by assumption) ?_
  rotate_left
  · (intro ww hSw; (try dsimp only at hSw); go_simp; (try with_reducible rfl))
  try simp only [Act.put, List.setIfInBounds_toArray, List.set_cons_zero, List.set_cons_succ]
  refine wpAnyH_take (i := 32) (v := ?_) (by simp only [List.getElem?_toArray, List.getElem?_cons_succ, List.getElem?_cons_zero]; rfl) (by kernel_rfl) (by kernel_rfl) (by kernel_rfl) (fun _ _ _ h => h) (Or.inl ⟨by rfl, ?_⟩) (by assumption) ?_
  rotate_left
  · (intro ww hSw; (try dsimp only at hSw); go_simp; (try with_reducible rfl))
  try simp only [Act.put, List.setIfInBounds_toArray, List.set_cons_zero, List.set_cons_succ]
  refine wpAnyH_take (i := 33) (v := ?_) (by simp only [List.getElem?_toArray, List.getElem?_cons_succ, List.getElem?_cons_zero]; rfl) (by kernel_rfl) (by kernel_rfl) (by kernel_rfl) (fun _ _ _ h => h) (Or.inl ⟨by rfl, ?_⟩) (by assumption) ?_
  rotate_left
  · (intro ww hSw; (try dsimp only at hSw); go_simp; (try with_reducible rfl))
  try simp only [Act.put, List.setIfInBounds_toArray, List.set_cons_zero, List.set_cons_succ]
  refine wpAnyH_take (i := 34) (v := ?_) (by simp only [List.getElem?_toArray, List.getElem?_cons_succ, List.getElem?_cons_zero]; rfl) (by kernel_rfl) (by kernel_rfl) (by kernel_rfl) (fun _ _ _ h => h) (Or.inl ⟨by rfl, ?_⟩) (by assumption) ?_
  rotate_left
  · (intro ww hSw; (try dsimp only at hSw); go_simp; (try with_reducible rfl))
  try simp only [Act.put, List.setIfInBounds_toArray, List.set_cons_zero, List.set_cons_succ]
  refine wpAnyH_take (i := 35) (v := ?_) (by simp only [List.getElem?_toArray, List.getElem?_cons_succ, List.getElem?_cons_zero]; rfl) (by kernel_rfl) (by kernel_rfl) (by kernel_rfl) (fun _ _ _ h => h) (Or.inl ⟨by rfl, ?_⟩) (by assumption) ?_
  rotate_left
  · (intro ww hSw; (try dsimp only at hSw); go_simp; (try with_reducible rfl))
  try simp only [Act.put, List.setIfInBounds_toArray, List.set_cons_zero, List.set_cons_succ]
  refine wpAnyH_take (i := 36) (v := ?_) (by simp only [List.getElem?_toArray, List.getElem?_cons_succ, List.getElem?_cons_zero]; rfl) (by kernel_rfl) (by kernel_rfl) (by kernel_rfl) (fun _ _ _ h => h) (Or.inl ⟨by rfl, ?_⟩) (by assumption) ?_
  rotate_left
  · (intro ww hSw; (try dsimp only at hSw); go_simp; (try with_reducible rfl))
  try simp only [Act.put, List.setIfInBounds_toArray, List.set_cons_zero, List.set_cons_succ]
  refine wpAnyH_take (i := 37) (v := ?_) (by simp only [List.getElem?_toArray, List.getElem?_cons_succ, List.getElem?_cons_zero]; rfl) (by kernel_rfl) (by kernel_rfl) (by kernel_rfl) (fun _ _ _ h => h) (Or.inl ⟨by rfl, ?_⟩) (by assumption) ?_
  rotate_left
  · (intro ww hSw; (try dsimp only at hSw); go_simp; (try with_reducible rfl))
  try simp only [Act.put, List.setIfInBounds_toArray, List.set_cons_zero, List.set_cons_succ]
  refine wpAnyH_ready (rs := [38]) (by kernel_rfl) (by simp) (AllReadyH.cons (by simp only [List.getElem?_toArray, List.getElem?_cons_succ, List.getElem?_cons_zero]; rfl) (fun K hK => ?_) AllReadyH.nil)
  go_simp
  refine (refplaces_any xw pw xwc pwc x.wher x.wher _ (WZ_8.out.call (bdrew1 (Below.refl _ _))) ((HWA.out.below B_8.out (Nat.le_refl _)).call (bdrew1 (Below.refl _ _))).wh).mono ?_; rintro e w9 ⟨rfl, hb9⟩; rw [decide_eq_true rfl]
  try go_wp2_with fail
  refine hK.out _ _ (by (first | (with_reducible exact KS.out _ (below_call (bdrew1 (Below.refl _ _)) (Nat.le_refl _) hb9)))) (fun hHeld => ?_)
  clear hK K
  try simp only [Act.put, List.setIfInBounds_toArray, List.set_cons_zero, List.set_cons_succ]
  refine wpAnyH_take (i := 39) (v := ?_) (by simp only [List.getElem?_toArray, List.getElem?_cons_succ, List.getElem?_cons_zero]; rfl) (by kernel_rfl) (by kernel_rfl) (by kernel_rfl) (fun _ _ _ h => h) (Or.inl ⟨by rfl, ?_⟩) (by assumption) ?_
  rotate_left
  · (intro ww hSw; (try dsimp only at hSw); go_simp; (try with_reducible rfl))
  try simp only [Act.put, List.setIfInBounds_toArray, List.set_cons_zero, List.set_cons_succ]
  refine wpAnyH_take (i := 40) (v := ?_) (by simp only [List.getElem?_toArray, List.getElem?_cons_succ, List.getElem?_cons_zero]; rfl) (by kernel_rfl) (by kernel_rfl) (by kernel_rfl) (fun _ _ _ h => h) (Or.inl ⟨by rfl, ?_⟩) (by assumption) ?_
  rotate_left
  · (intro ww hSw; (try dsimp only at hSw); go_simp; (try with_reducible rfl))
  try simp only [Act.put, List.setIfInBounds_toArray, List.set_cons_zero, List.set_cons_succ]
  refine wpAnyH_take (i := 41) (v := ?_) (by simp only [List.getElem?_toArray, List.getElem?_cons_succ, List.getElem?_cons_zero]; rfl) (by kernel_rfl) (by kernel_rfl) (by kernel_rfl) (fun _ _ _ h => h) (Or.inl ⟨by rfl, ?_⟩) (by assumption) ?_
  rotate_left
  · (intro ww hSw; (try dsimp only at hSw); go_simp; (try with_reducible rfl))
  try simp only [Act.put, List.setIfInBounds_toArray, List.set_cons_zero, List.set_cons_succ]
  refine wpAnyH_done (by kernel_rfl) ?_ _
  refine NoPanic.normal ?_
  have hB := Lib.hid (below_call B_8.out B_8.out.size hHeld.1)
  clear hHeld KS
  go_wp2_with fail
  go_ret
  exact ⟨rfl, hB.out⟩
theorem walk_giftsNone (x : Wd) (p : Wp) (a d m : Int) (w : World) (ha : (Lit.int .u8 a).wf = true) (hd : (Lit.int .u8 d).wf = true) (hm : (Lit.int .u32 m).wf = true) (h : WorldAt w p x) : Calls Try.prog 6 #[.agg #[.slice p.d.ex x.d.exits.length p.d.exc, .slice p.d.pl x.d.players.length p.d.plc, .slice p.d.co x.d.coins.length p.d.coc, .slice p.d.it x.d.items.length p.d.itc, .slice p.d.bo x.d.boxes.length p.d.boc, .int .i64 x.d.room, .int .i64 x.d.player, .int .i64 x.d.box, .slice p.at_ x.at_.length p.atc, .slice p.co x.coins.length p.coc, .slice p.wh x.wher.length p.whc], .int .u8 a, .int .u8 d, .int .u32 m] w fun e w' => e = .returned (.bool true) ∧ Below w.heap.size w w' := by
  cases hf : fitsB x
  · exact giftsNone_no x p a d m w h hf
  by_cases h1 : 1073741824 < m
  · exact giftsNone_big x p a d m w h hf h1
  have g1 := wf_u8 ha
  have g2 := wf_u8 hd
  have g3 := wf_u32 hm
  obtain ⟨a, rfl⟩ : ∃ n : Nat, a = n := ⟨a.toNat, by omega⟩
  obtain ⟨d, rfl⟩ : ∃ n : Nat, d = n := ⟨d.toNat, by omega⟩
  obtain ⟨m, rfl⟩ : ∃ n : Nat, m = n := ⟨m.toNat, by omega⟩
  have hx := (fits_fit hf).right
  have hil : a % x.at_.length < x.at_.length := Nat.mod_lt _ (right_lens hx).1
  have hkl : d % x.at_.length < x.at_.length := Nat.mod_lt _ (right_lens hx).1
  obtain ⟨b, o, ea, hb, hat⟩ := h.at_.at_ hil
  have c1 := hat _ hil
  have c2 := hat _ hkl
  rw [(room_at hx hil).1] at c1
  rw [(room_at hx hkl).1] at c2
  obtain ⟨li, ei, bi⟩ := lcoin_at hx hil
  obtain ⟨lk, ek, bk⟩ := lcoin_at hx hkl
  obtain ⟨kb, ko, eb, cc⟩ := coc_of h.co li lk
  obtain ⟨pd, pa, pac, pk, pkc, pw, pwc⟩ := p
  simp only at ea eb
  subst ea eb
  generalize hi : a % x.at_.length = i at *
  generalize hk : d % x.at_.length = k at *
  by_cases hs : i = k
  · exact giftsNone_same x pd b o pac kb ko pkc pw pwc a d i k m (by omega) (by omega) (by omega) hi hk w h hf c1 c2 hs
  by_cases hr : roomOf x i = roomOf x k
  case neg => exact giftsNone_room x pd b o pac kb ko pkc pw pwc a d i k m (by omega) (by omega) (by omega) hi hk w h hf c1 c2 hs hr
  have hP := trade_pay hx hil hkl hs hr (m : Int) (by omega)
  by_cases p1 : coinOf x i < (m : Int)
  · rw [if_pos p1] at hP
    exact giftsNone_poor x pd b o pac kb ko pkc pw pwc a d i k m (by omega) (by omega) (by omega) hi hk w h hf c1 c2 hs hr _ _ bi bk cc li lk hP p1 trivial
  by_cases p2 : 1073741824 < coinOf x k + (m : Int)
  · rw [if_neg p1, if_pos p2] at hP
    exact giftsNone_rich x pd b o pac kb ko pkc pw pwc a d i k m (by omega) (by omega) (by omega) hi hk w h hf c1 c2 hs hr _ _ bi bk cc li lk hP p2 trivial
  rw [if_neg p1, if_neg p2] at hP
  refine giftsNone_ok x pd b o pac kb ko pkc pw pwc a d i k m (by omega) (by omega) (by omega) hi hk w h hf c1 c2 hs hr _ _ bi bk cc li lk _ hP ⟨?_, ?_, ?_, ?_, rfl⟩
  · show ((x.coins.set i _).set k _).getD i 0 = _
    rw [List.getD_eq_getElem?_getD, List.getElem?_set_ne (fun e => hs e.symm), List.getElem?_set_self li]
    rfl
  · show ((x.coins.set i _).set k _).getD k 0 = _
    rw [List.getD_eq_getElem?_getD, List.getElem?_set_self (by simpa using lk)]
    rfl
  · show i < ((x.coins.set i _).set k _).length
    simpa using li
  · show k < ((x.coins.set i _).set k _).length
    simpa using lk
set_option maxRecDepth 100000 in
theorem lifted_giftsNone (os : Os) (started : os.Started) (H : Type) (enc : TypeId × Value → H) :
    ReturnsInHanded {} Try.checked os 6 .any (Rows.giftsNoneSpec.pre6 enc Try.prog Try.f6 Rows.giftsNoneRow.domain false) (Rows.giftsNoneSpec.post enc Try.prog Try.f6 false true false false) := by
  refine returnsInHanded_of_change (C := Try.checked) (by kernel_rfl) started (by kernel_rfl) Try.func6
    (ChangeSpec.witness6 (enc := enc) (C := Try.checked) false ⟨#[], #[.agg #[.slice none 0 0, .slice none 0 0, .slice none 0 0, .slice none 0 0, .slice none 0 0, .int .i64 0, .int .i64 0, .int .i64 0, .slice none 0 0, .slice none 0 0, .slice none 0 0], .int .u8 0, .int .u8 0, .int .u32 0], []⟩ 8 (by kernel_rfl) (by kernel_rfl) (by kernel_rfl) (by kernel_rfl)) ?_
  intro W base args ds gs before hval0 hW hcnd _
  have hval : ∀ (j : Nat) t v, Try.f6.params[j]? = some t → args[j]? = some v → Value.okWide Try.prog W .any base t v := hval0
  have hW' := hW
  obtain ⟨p, q, hA0, hV, rfl, hfz, hnd⟩ := hW
  have hA : DataW.TrodAll enc Try.prog W 0 (fun _ => true) true Try.f6.params.toList args.toList ds p := hA0
  rw [Try.params6] at hA hval
  obtain ⟨v0, vs0, d0, ds0, p0, q0, hargs, rfl, rfl, h0, r0⟩ := trodAll_cons hA
  obtain ⟨v1, vs1, d1, ds1, p1, q1, rfl, rfl, rfl, h1, r1⟩ := trodAll_cons r0
  obtain ⟨v2, vs2, d2, ds2, p2, q2, rfl, rfl, rfl, h2, r2⟩ := trodAll_cons r1
  obtain ⟨v3, vs3, d3, ds3, p3, q3, rfl, rfl, rfl, h3, r3⟩ := trodAll_cons r2
  obtain ⟨rfl, rfl, rfl⟩ := trodAll_nil r3
  obtain rfl : args = #[v0, v1, v2, v3] := by cases args; simp_all
  obtain ⟨rfl, rfl⟩ := trodVars_none hV
  obtain ⟨wx0, wp0, rfl, m0⟩ := read_world (hval 0 29 v0 rfl rfl) h0
  obtain ⟨a1, rfl, rfl, rfl, w1⟩ := open_int Try.underlying5 (hval 1 5 v1 rfl rfl) h1
  obtain ⟨a2, rfl, rfl, rfl, w2⟩ := open_int Try.underlying5 (hval 2 5 v2 rfl rfl) h2
  obtain ⟨a3, rfl, rfl, rfl, w3⟩ := open_int Try.underlying49 (hval 3 49 v3 rfl rfl) h3
  clear hA0 hval0
  simp only [List.append_nil] at hW'
  refine (walk_giftsNone wx0 wp0 a1 a2 a3 W w1 w2 w3 m0).mono fun e W' ⟨he, hg⟩ => ?_
  subst he
  exact ⟨_, rfl, law_post (by kernel_rfl) rfl (by rw [Try.params6]; decide +kernel) rfl rfl Try.underlying4 hW' hg⟩

/-- ████ THE STATEMENT ████ -/
theorem proved_giftsNone : Rows.GiftsNoneSaid :=
  OpenClaim.holds_of_wide 6 Try.f6 rfl rfl rfl rfl rfl rfl rfl ⟨rfl, rfl, rfl, rfl, rfl⟩ rfl rfl rfl rfl rfl (by kernel_rfl) Try.func6 (by kernel_rfl)
    (of_decide_eq_true (by kernel_rfl)) (by unfold Func.isWrapper; first | (rw [if_pos (by decide +kernel)]; kernel_rfl) | (rw [if_neg (by decide +kernel)]; exact ⟨rfl, rfl⟩))
    (fun os started H enc _ => lifted_giftsNone os started H enc)
#print axioms proved_giftsNone
end Go.Proofs.Ytcigbliilmonfaa
