/- HoldAll: of all items on the floor, got one by one, as many are got as there is room in the hands; then each is full; a got one is not there for anybody else. -/
import Derived.Test.YtjlipbcmkibkcaaRows
import Derived.Test.YtjlipbcmkibkcaaKit
import Derived.Test.YtjlipbcmkibkcaaGMem
import Derived.Test.YtjlipbcmkibkcaaCoin
import Derived.Test.YtjlipbcmkibkcaaGWorld
import Derived.Test.YtjlipbcmkibkcaaDescMay
import Derived.Test.YtjlipbcmkibkcaaGDescN
import Derived.Test.YtjlipbcmkibkcaaGRight
import Derived.Test.YtjlipbcmkibkcaaGCopy
import Derived.Test.YtjlipbcmkibkcaaGRefD
import Derived.Test.YtjlipbcmkibkcaaGAs
import Derived.Test.YtjlipbcmkibkcaaGEq
import Derived.Test.YtjlipbcmkibkcaaGNew
import Derived.Test.YtjlipbcmkibkcaaRefRight
import Derived.Test.YtjlipbcmkibkcaaGTreeL
import Derived.Test.YtjlipbcmkibkcaaTreeRefB
import Derived.Test.YtjlipbcmkibkcaaGHoldA
import Derived.Test.YtjlipbcmkibkcaaHoldD
import Derived.Test.YtjlipbcmkibkcaaHoldE
import Derived.Test.YtjlipbcmkibkcaaHoldAwake
import Derived.Deep.QuietTactic
import Derived.BigQuiet
import Derived.Deep.RegionHeld3
import Derived.WalkKit
import Derived.ProofKit
import Derived.OpenShut
import Derived.IntWalk
namespace Go.Proofs.Ytjlipbcmkibkcaa
open Go.ChangeShapes Go.WideShapes Go.ChangeAt Go.RowKit
set_option linter.unusedVariables false
open Go.RowKit
def RowOff {α : Type} (b : Nat) (a : Option Addr) (xs : List α) : Prop := xs = [] ∨ ∀ r, a = some r → r.block ≠ b
theorem RowAt.off {α : Type} {k : Nat} {enc : α → List Value} {W : World} {a : Option Addr} {xs : List α} (h : RowAt k enc W a xs) {b : Nat} (ho : RowOff b a xs) (i : Nat) (u : Value) : RowAt k enc (W.setCell ⟨b, i, none⟩ u) a xs := by
  obtain ⟨hl, h⟩ := h
  refine ⟨hl, ?_⟩
  rcases ho with ho | ho
  · exact .inl ho
  rcases h with h | ⟨b', off, rfl, hb, hc⟩
  · exact .inl h
  · have hne : b' ≠ b := ho _ rfl
    exact .inr ⟨b', off, rfl, by simpa [World.setCell] using hb, fun j hj r hr => (World.cell?_setCell_far _ _ _ _ (by show b ≠ b'; exact fun e => hne e.symm)).trans (hc j hj r hr)⟩
theorem RowAt.out {α : Type} {k : Nat} {enc : α → List Value} {W : World} {a : Option Addr} {xs : List α} (h : RowAt k enc W a xs) {b : Nat} (hb : W.heap.size ≤ b) : RowOff b a xs := by
  rcases h.2 with h | ⟨b', off, rfl, h2, _⟩
  · exact .inl h
  · exact .inr fun r hr => by cases hr; show b' ≠ b; omega
theorem OwnR.off {α : Type} {k : Nat} {e : TypeId} {enc : α → List Value} {n : Nat} {W : World} {a : Option Addr} {xs : List α} (h : OwnR k e enc n W a xs) {b : Nat} (hb : b < n) : RowOff b a xs :=
  .inr fun r hr => by have := h.from_ hr; omega
structure WOff (b : Nat) (q : Wp) (y : Wd) : Prop where
  ex : RowOff b q.d.ex y.d.exits
  pl : RowOff b q.d.pl y.d.players
  co : RowOff b q.d.co y.d.coins
  it : RowOff b q.d.it y.d.items
  bo : RowOff b q.d.bo y.d.boxes
  at_ : RowOff b q.at_ y.at_
  cn : RowOff b q.co y.coins
  wh : RowOff b q.wh y.wher
theorem WorldAt.out {W : World} {q : Wp} {y : Wd} (h : WorldAt W q y) {b : Nat} (hb : W.heap.size ≤ b) : WOff b q y :=
  ⟨h.d.ex.out hb, (ints_row.1 h.d.pl).out hb, (ints_row.1 h.d.co).out hb, (ints_row.1 h.d.it).out hb, h.d.bo.out hb, (ints_row.1 h.at_).out hb, (ints_row.1 h.co).out hb, h.wh.out hb⟩
theorem WorldOwn.off {n : Nat} {W : World} {q : Wp} {y : Wd} (h : WorldOwn n W q y) {b : Nat} (hb : b < n) : WOff b q y := by
  obtain ⟨m1, m2, m3, h1, h2, h3, h4, hd, hdm, ha, ham, hc, hcm, hw⟩ := h.ex
  exact ⟨hd.ex.off hb, hd.pl.off hb, hd.co.off hb, hd.it.off hb, hd.bo.off hb, ha.off (by omega), hc.off (by omega), hw.off (by omega)⟩
theorem WorldAt.set {W : World} {q : Wp} {y : Wd} (h : WorldAt W q y) {b : Nat} (ho : WOff b q y) (i : Nat) (u : Value) : WorldAt (W.setCell ⟨b, i, none⟩ u) q y :=
  ⟨⟨h.d.ex.off ho.ex i u, ints_row.2 ((ints_row.1 h.d.pl).off ho.pl i u), ints_row.2 ((ints_row.1 h.d.co).off ho.co i u), ints_row.2 ((ints_row.1 h.d.it).off ho.it i u), h.d.bo.off ho.bo i u⟩, ints_row.2 ((ints_row.1 h.at_).off ho.at_ i u), ints_row.2 ((ints_row.1 h.co).off ho.cn i u), h.wh.off ho.wh i u⟩
/-- Eleven cells are written. -/
theorem blk_eleven {W : World} {b : Nat} {t : TypeId} {a0 a1 a2 a3 a4 a5 a6 a7 a8 a9 a10 : Value} (h : Blk W b t #[a0, a1, a2, a3, a4, a5, a6, a7, a8, a9, a10]) (v0 v1 v2 v3 v4 v5 v6 v7 v8 v9 v10 : Value) :
    Blk (((((((((((W.setCell ⟨b, 0, none⟩ v0).setCell ⟨b, 1, none⟩ v1).setCell ⟨b, 2, none⟩ v2).setCell ⟨b, 3, none⟩ v3).setCell ⟨b, 4, none⟩ v4).setCell ⟨b, 5, none⟩ v5).setCell ⟨b, 6, none⟩ v6).setCell ⟨b, 7, none⟩ v7).setCell ⟨b, 8, none⟩ v8).setCell ⟨b, 9, none⟩ v9).setCell ⟨b, 10, none⟩ v10) b t #[v0, v1, v2, v3, v4, v5, v6, v7, v8, v9, v10] := by
  have := ((((((((((h.set_ 0 v0).set_ 1 v1).set_ 2 v2).set_ 3 v3).set_ 4 v4).set_ 5 v5).set_ 6 v6).set_ 7 v7).set_ 8 v8).set_ 9 v9).set_ 10 v10
  simpa using this
set_option maxRecDepth 100000 in
theorem holdAll_no (x : Wd) (p : Wp) (a c : Int) (w : World) (h : WorldAt w p x) (hf : fitsB x = false) : Calls Try.prog 6 #[.agg #[.slice p.d.ex x.d.exits.length p.d.exc, .slice p.d.pl x.d.players.length p.d.plc, .slice p.d.co x.d.coins.length p.d.coc, .slice p.d.it x.d.items.length p.d.itc, .slice p.d.bo x.d.boxes.length p.d.boc, .int .i64 x.d.room, .int .i64 x.d.player, .int .i64 x.d.box, .slice p.at_ x.at_.length p.atc, .slice p.co x.coins.length p.coc, .slice p.wh x.wher.length p.whc], .int .u8 a, .int .u8 c] w fun e w' => e = .returned (.bool true) ∧ Below w.heap.size w w' := by
  have H_0 := Lib.hid (Holds.new w #[.slice p.d.ex x.d.exits.length p.d.exc, .slice p.d.pl x.d.players.length p.d.plc, .slice p.d.co x.d.coins.length p.d.coc, .slice p.d.it x.d.items.length p.d.itc, .slice p.d.bo x.d.boxes.length p.d.boc, .int .i64 x.d.room, .int .i64 x.d.player, .int .i64 x.d.box, .slice p.at_ x.at_.length p.atc, .slice p.co x.coins.length p.coc, .slice p.wh x.wher.length p.whc] 29)
  have HF := Lib.hid hf
  have HWA := Lib.hid h
  clear hf h
  go_enter Try.func6, Try.ntmps6
  go_wp2_with fail
  generalize w.alloc (.cells #[.slice p.d.ex x.d.exits.length p.d.exc, .slice p.d.pl x.d.players.length p.d.plc, .slice p.d.co x.d.coins.length p.d.coc, .slice p.d.it x.d.items.length p.d.itc, .slice p.d.bo x.d.boxes.length p.d.boc, .int .i64 x.d.room, .int .i64 x.d.player, .int .i64 x.d.box, .slice p.at_ x.at_.length p.atc, .slice p.co x.coins.length p.coc, .slice p.wh x.wher.length p.whc] 29) = V0 at *
  have B_0 := Lib.hid H_0.out.1
  refine (awake9_any _).mono ?_
  rintro e u1 ⟨rfl, b1⟩
  have B_1 := Lib.hid (bl B_0.out b1)
  have H_1 := Lib.hid (H_0.out.call b1)
  clear b1 B_0 H_0
  have hcH := H_1.out.2.2
  have hlH := H_1.out.2.1
  go_wp2_with fail
  refine (fits9_any x p _ (HWA.out.below H_1.out.1 (Nat.le_refl _))).mono ?_
  rintro e u2 ⟨rfl, b2⟩
  rw [HF.out]
  clear hcH hlH
  have B_2 := Lib.hid (bl B_1.out b2)
  have H_2 := Lib.hid (H_1.out.call b2)
  clear b2 B_1 H_1
  have hcH := H_2.out.2.2
  have hlH := H_2.out.2.1
  go_wp2_with fail
  refine (awake9_any _).mono ?_
  rintro e u3 ⟨rfl, b3⟩
  clear hcH hlH
  have B_3 := Lib.hid (bl B_2.out b3)
  have H_3 := Lib.hid (H_2.out.call b3)
  clear b3 B_2 H_2
  have hcH := H_3.out.2.2
  have hlH := H_3.out.2.1
  go_wp2_with fail
  go_ret
  exact ⟨rfl, B_3.out⟩
theorem run_min9 (a b : Nat) (W : World) : (Builtin.min_ #[3, 3] 3 #[.int .i64 (a : Int), .int .i64 (b : Int)]).run Try.prog W = .ok (.int .i64 ((min a b : Nat) : Int)) W := by
  by_cases h : b < a
  · have h1 : (b : Int) < (a : Int) := by omega
    rw [show min a b = b by omega]; clear h; go_simp
  · have h1 : ¬ (b : Int) < (a : Int) := by omega
    rw [show min a b = a by omega]; clear h; go_simp
theorem rin_rm (x : Wd) (p : Wp) (r : Nat) (w : World) (h : PlsAt w p.wh x.wher) (hl16 : x.wher.length ≤ 40) : Calls Try.prog 23 #[.agg #[.slice p.d.ex x.d.exits.length p.d.exc, .slice p.d.pl x.d.players.length p.d.plc, .slice p.d.co x.d.coins.length p.d.coc, .slice p.d.it x.d.items.length p.d.itc, .slice p.d.bo x.d.boxes.length p.d.boc, .int .i64 x.d.room, .int .i64 x.d.player, .int .i64 x.d.box, .slice p.at_ x.at_.length p.atc, .slice p.co x.coins.length p.coc, .slice p.wh x.wher.length p.whc], .agg #[.int .i64 0, .int .i64 (r : Int)]] w fun e w' => ∃ q cap, e = .returned (.slice q (inL x.wher ⟨0, (r : Int)⟩).length cap) ∧ IntsAt w' q ((inL x.wher ⟨0, (r : Int)⟩).map fun (i : Nat) => (i : Int)) ∧ Below w.heap.size w w' := by
  refine (refins_any x p ⟨0, r⟩ w h hl16).mono ?_
  rintro e w' ⟨q, cap, he, ho, hb⟩
  rw [in_inL] at he ho
  rw [List.length_map] at he
  exact ⟨q, cap, he, ints_row.2 ho.row, hb⟩
theorem get_off {x u : Wd} (hs : Shape x u) (p : Wp) (i : Nat) (item : Int) (w : World) (hu : rightW u = true) (h : WorldAt w p u) (hi : i < u.at_.length) (y : Wd) (e : Int) (hR : getW u i item = (y, e)) : Calls Try.prog 10 #[.agg #[.slice p.d.ex x.d.exits.length p.d.exc, .slice p.d.pl x.d.players.length p.d.plc, .slice p.d.co x.d.coins.length p.d.coc, .slice p.d.it x.d.items.length p.d.itc, .slice p.d.bo x.d.boxes.length p.d.boc, .int .i64 x.d.room, .int .i64 x.d.player, .int .i64 x.d.box, .slice p.at_ x.at_.length p.atc, .slice p.co x.coins.length p.coc, .slice p.wh x.wher.length p.whc], .int .i64 (i : Int), .int .i64 item] w fun e' w' => ∃ q : Wp, e' = .returned (.tuple #[.agg #[.slice q.d.ex x.d.exits.length q.d.exc, .slice q.d.pl x.d.players.length q.d.plc, .slice q.d.co x.d.coins.length q.d.coc, .slice q.d.it x.d.items.length q.d.itc, .slice q.d.bo x.d.boxes.length q.d.boc, .int .i64 x.d.room, .int .i64 x.d.player, .int .i64 x.d.box, .slice q.at_ x.at_.length q.atc, .slice q.co x.coins.length q.coc, .slice q.wh x.wher.length q.whc], .int .i64 e]) ∧ WorldAt w' q y ∧ (∀ b, b < w.heap.size → WOff b p u → WOff b q y) ∧ Below w.heap.size w w' := by
  have := hget_any u p i item w hu h hi
  rw [hR, hs.val p] at this
  refine this.mono ?_
  rintro e' w' ⟨q, h1, h2, h3⟩
  rw [hs.val q] at h1
  refine ⟨q, h1, h2.world (h.call h3), fun b hb ho => ?_, h3⟩
  rcases h2 with ⟨_, e1, e2⟩ | ⟨_, e2⟩
  · simp only at e1; rw [e1, e2]; exact ho
  · exact e2.off hb
/-- The items got under way: x lies in block b8. -/
def AllI (x : Wd) (i Rn : Nat) (T : List Nat) (b8 : Nat) (Win wr : World) (n : Nat) : Prop :=
  ∃ (q : Wp) (z : Wd), Gt x i T (min n Rn) z ∧ Below Win.heap.size Win wr ∧ Blk wr b8 29 #[.slice q.d.ex x.d.exits.length q.d.exc, .slice q.d.pl x.d.players.length q.d.plc, .slice q.d.co x.d.coins.length q.d.coc, .slice q.d.it x.d.items.length q.d.itc, .slice q.d.bo x.d.boxes.length q.d.boc, .int .i64 x.d.room, .int .i64 x.d.player, .int .i64 x.d.box, .slice q.at_ x.at_.length q.atc, .slice q.co x.coins.length q.coc, .slice q.wh x.wher.length q.whc] ∧ WorldAt wr q z ∧ WOff b8 q z
set_option maxRecDepth 100000 in
set_option maxHeartbeats 4000000 in
theorem holdAll_go (x : Wd) (pd : Dp) (b o pac : Nat) (pk pw : Option Addr) (pkc pwc : Nat) (a c i k Rn : Nat) (T : List Nat) (haa : a ≤ 255) (hcc : c ≤ 255) (hi : a % x.at_.length = i) (hk : c % x.at_.length = k) (hRn : roomI x ⟨1, (i : Int)⟩ = (Rn : Int)) (hT : inL x.wher ⟨0, (roomOf x i : Int)⟩ = T) (w : World) (h : WorldAt w ⟨pd, some ⟨b, o, none⟩, pac, pk, pkc, pw, pwc⟩ x) (hf : fitsB x = true) (c0 : w.cell? ⟨b, o + i, none⟩ = some (.int .i64 (roomOf x i : Int))) : Calls Try.prog 6 #[.agg #[.slice pd.ex x.d.exits.length pd.exc, .slice pd.pl x.d.players.length pd.plc, .slice pd.co x.d.coins.length pd.coc, .slice pd.it x.d.items.length pd.itc, .slice pd.bo x.d.boxes.length pd.boc, .int .i64 x.d.room, .int .i64 x.d.player, .int .i64 x.d.box, .slice (some ⟨b, o, none⟩) x.at_.length pac, .slice pk x.coins.length pkc, .slice pw x.wher.length pwc], .int .u8 (a : Int), .int .u8 (c : Int)] w fun e w' => e = .returned (.bool true) ∧ Below w.heap.size w w' := by
  have r1 := run_tmod7 a x.at_.length
  have m1 := run_mod7 a x.at_.length
  rw [hi] at r1 m1
  have FT := Lib.hid (fits_fit hf)
  have hlp : 0 < x.at_.length := (right_lens FT.out.right).1
  have hne : ¬ x.at_ = [] := List.length_pos_iff.1 hlp
  have hil : i < x.at_.length := by rw [← hi]; exact Nat.mod_lt _ hlp
  have hlen6 := (right_lens FT.out.right).2.1
  have r2 := run_tmod7 c x.at_.length
  have m2 := run_mod7 c x.at_.length
  rw [hk] at r2 m2
  have hkl : k < x.at_.length := by rw [← hk]; exact Nat.mod_lt _ hlp
  have hlen := h.wh.len
  have hTl : T.length ≤ x.wher.length := by rw [← hT]; unfold inL; exact Nat.le_trans (List.length_filter_le _ _) (by simp)
  have HRN := Lib.hid hRn
  have HT := Lib.hid hT
  have C0 := Lib.hid c0
  clear hi hk hlp hRn hT c0
  have H_0 := Lib.hid (Holds.new w #[.slice pd.ex x.d.exits.length pd.exc, .slice pd.pl x.d.players.length pd.plc, .slice pd.co x.d.coins.length pd.coc, .slice pd.it x.d.items.length pd.itc, .slice pd.bo x.d.boxes.length pd.boc, .int .i64 x.d.room, .int .i64 x.d.player, .int .i64 x.d.box, .slice (some ⟨b, o, none⟩) x.at_.length pac, .slice pk x.coins.length pkc, .slice pw x.wher.length pwc] 29)
  have HF := Lib.hid hf
  have HWA := Lib.hid h
  clear hf h
  go_enter Try.func6, Try.ntmps6
  go_wp2_with fail
  generalize w.alloc (.cells #[.slice pd.ex x.d.exits.length pd.exc, .slice pd.pl x.d.players.length pd.plc, .slice pd.co x.d.coins.length pd.coc, .slice pd.it x.d.items.length pd.itc, .slice pd.bo x.d.boxes.length pd.boc, .int .i64 x.d.room, .int .i64 x.d.player, .int .i64 x.d.box, .slice (some ⟨b, o, none⟩) x.at_.length pac, .slice pk x.coins.length pkc, .slice pw x.wher.length pwc] 29) = V0 at *
  have B_0 := Lib.hid H_0.out.1
  refine (awake9_any _).mono ?_
  rintro e u1 ⟨rfl, b1⟩
  have B_1 := Lib.hid (bl B_0.out b1)
  have H_1 := Lib.hid (H_0.out.call b1)
  clear b1 B_0 H_0
  have hcH := H_1.out.2.2
  have hlH := H_1.out.2.1
  go_wp2_with fail
  refine (fits9_any x ⟨pd, some ⟨b, o, none⟩, pac, pk, pkc, pw, pwc⟩ _ (HWA.out.below H_1.out.1 (Nat.le_refl _))).mono ?_
  rintro e u2 ⟨rfl, b2⟩
  rw [HF.out]
  clear hcH hlH
  have B_2 := Lib.hid (bl B_1.out b2)
  have H_2 := Lib.hid (H_1.out.call b2)
  clear b2 B_1 H_1
  have hcH := H_2.out.2.2
  have hlH := H_2.out.2.1
  go_wp2_with fail
  refine (rroom_pl x ⟨pd, some ⟨b, o, none⟩, pac, pk, pkc, pw, pwc⟩ i _ FT.out.right (HWA.out.below B_2.out (Nat.le_refl _))).mono ?_
  rintro e u3 ⟨rfl, b3⟩
  rw [HRN.out]
  clear hcH hlH
  have B_3 := Lib.hid (bl B_2.out b3)
  have H_3 := Lib.hid (H_2.out.call b3)
  clear b3 B_2 H_2
  have hcH := H_3.out.2.2
  have hlH := H_3.out.2.1
  go_wp2_with fail
  clear hcH hlH
  have KS : Hid (∀ w', Below u3.heap.size u3 w' → Below u3.heap.size u3 w' ∧ (∀ i, w'.cell? ⟨w.heap.size, i, none⟩ = (#[.slice pd.ex x.d.exits.length pd.exc, .slice pd.pl x.d.players.length pd.plc, .slice pd.co x.d.coins.length pd.coc, .slice pd.it x.d.items.length pd.itc, .slice pd.bo x.d.boxes.length pd.boc, .int .i64 x.d.room, .int .i64 x.d.player, .int .i64 x.d.box, .slice (some ⟨b, o, none⟩) x.at_.length pac, .slice pk x.coins.length pkc, .slice pw x.wher.length pwc][i]? : Option Value)) ∧ w'.cell? ⟨b, o + i, none⟩ = some (.int .i64 (roomOf x i : Int))) := Lib.hid (fun w' hb => ⟨hb, fun i => (hb.cell (p := ⟨w.heap.size, i, none⟩) H_3.out.2.1).trans (H_3.out.2.2 i), cell_call (cell_call C0.out B_3.out) hb⟩)
  refine wp_region_noPanic ?_
  refine wp_region_held_drew (S := (fun w' => Below u3.heap.size u3 w' ∧ (∀ i, w'.cell? ⟨w.heap.size, i, none⟩ = (#[.slice pd.ex x.d.exits.length pd.exc, .slice pd.pl x.d.players.length pd.plc, .slice pd.co x.d.coins.length pd.coc, .slice pd.it x.d.items.length pd.itc, .slice pd.bo x.d.boxes.length pd.boc, .int .i64 x.d.room, .int .i64 x.d.player, .int .i64 x.d.box, .slice (some ⟨b, o, none⟩) x.at_.length pac, .slice pk x.coins.length pkc, .slice pw x.wher.length pwc][i]? : Option Value)) ∧ w'.cell? ⟨b, o + i, none⟩ = some (.int .i64 (roomOf x i : Int)))) (by kernel_rfl) (by (first | (with_reducible exact KS.out _ (bdrew1 (Below.refl _ _))) | (with_reducible exact KS.out _ (below_call hHeld.1 hHeld.1.size hb9)) | (with_reducible exact hHeld))) (fun hHeld => ?_)
  first
    | (refine wpAnyH_take (i := 0) (v := undef) (by simp only [List.getElem?_toArray, List.getElem?_cons_zero]; rfl) (by kernel_rfl) (by kernel_rfl) (by kernel_rfl) (fun _ _ _ h => h) (Or.inr ⟨by rfl, rfl⟩) (by assumption) ?_; try simp only [Act.put, List.setIfInBounds_toArray, List.set_cons_zero, List.set_cons_succ])
    | (refine wpAnyH_take (i := 0) (v := ?_) (by simp only [List.getElem?_toArray, List.getElem?_cons_zero]; rfl) (by kernel_rfl) (by kernel_rfl) (by kernel_rfl) (fun _ _ _ h => h) (Or.inl ⟨by rfl, ?_⟩) (by assumption) ?_
       rotate_left
       · (intro ww hSw; (try dsimp only at hSw); go_simp; (try with_reducible rfl))
       try simp only [Act.put, List.setIfInBounds_toArray, List.set_cons_zero, List.set_cons_succ])
    | (refine wpAnyH_ready (rs := [0]) (by kernel_rfl) (by simp) (AllReadyH.cons (by simp only [List.getElem?_toArray, List.getElem?_cons_succ, List.getElem?_cons_zero]; rfl) (fun K hK => ?_) AllReadyH.nil)
       go_simp
       first
         | (fail)
       try go_wp2_with fail
       refine hK.out _ _ (by (first | (with_reducible exact KS.out _ (bdrew1 (Below.refl _ _))) | (with_reducible exact KS.out _ (below_call hHeld.1 hHeld.1.size hb9)) | (with_reducible exact hHeld))) (fun hHeld => ?_)
       clear hK K
       try simp only [Act.put, List.setIfInBounds_toArray, List.set_cons_zero, List.set_cons_succ])
  first
    | (refine wpAnyH_take (i := 1) (v := undef) (by simp only [List.getElem?_toArray, List.getElem?_cons_succ, List.getElem?_cons_zero]; rfl) (by kernel_rfl) (by kernel_rfl) (by kernel_rfl) (fun _ _ _ h => h) (Or.inr ⟨by rfl, rfl⟩) (by assumption) ?_; try simp only [Act.put, List.setIfInBounds_toArray, List.set_cons_zero, List.set_cons_succ])
    | (refine wpAnyH_take (i := 1) (v := ?_) (by simp only [List.getElem?_toArray, List.getElem?_cons_succ, List.getElem?_cons_zero]; rfl) (by kernel_rfl) (by kernel_rfl) (by kernel_rfl) (fun _ _ _ h => h) (Or.inl ⟨by rfl, ?_⟩) (by assumption) ?_
       rotate_left
       · (intro ww hSw; (try dsimp only at hSw); go_simp; (try with_reducible rfl))
       try simp only [Act.put, List.setIfInBounds_toArray, List.set_cons_zero, List.set_cons_succ])
    | (refine wpAnyH_ready (rs := [1]) (by kernel_rfl) (by simp) (AllReadyH.cons (by simp only [List.getElem?_toArray, List.getElem?_cons_succ, List.getElem?_cons_zero]; rfl) (fun K hK => ?_) AllReadyH.nil)
       go_simp
       first
         | (fail)
       try go_wp2_with fail
       refine hK.out _ _ (by (first | (with_reducible exact KS.out _ (bdrew1 (Below.refl _ _))) | (with_reducible exact KS.out _ (below_call hHeld.1 hHeld.1.size hb9)) | (with_reducible exact hHeld))) (fun hHeld => ?_)
       clear hK K
       try simp only [Act.put, List.setIfInBounds_toArray, List.set_cons_zero, List.set_cons_succ])
  first
    | (refine wpAnyH_take (i := 2) (v := undef) (by simp only [List.getElem?_toArray, List.getElem?_cons_succ, List.getElem?_cons_zero]; rfl) (by kernel_rfl) (by kernel_rfl) (by kernel_rfl) (fun _ _ _ h => h) (Or.inr ⟨by rfl, rfl⟩) (by assumption) ?_; try simp only [Act.put, List.setIfInBounds_toArray, List.set_cons_zero, List.set_cons_succ])
    | (refine wpAnyH_take (i := 2) (v := ?_) (by simp only [List.getElem?_toArray, List.getElem?_cons_succ, List.getElem?_cons_zero]; rfl) (by kernel_rfl) (by kernel_rfl) (by kernel_rfl) (fun _ _ _ h => h) (Or.inl ⟨by rfl, ?_⟩) (by assumption) ?_
       rotate_left
       · (intro ww hSw; (try dsimp only at hSw); go_simp; (try with_reducible rfl))
       try simp only [Act.put, List.setIfInBounds_toArray, List.set_cons_zero, List.set_cons_succ])
    | (refine wpAnyH_ready (rs := [2]) (by kernel_rfl) (by simp) (AllReadyH.cons (by simp only [List.getElem?_toArray, List.getElem?_cons_succ, List.getElem?_cons_zero]; rfl) (fun K hK => ?_) AllReadyH.nil)
       go_simp
       first
         | (fail)
       try go_wp2_with fail
       refine hK.out _ _ (by (first | (with_reducible exact KS.out _ (bdrew1 (Below.refl _ _))) | (with_reducible exact KS.out _ (below_call hHeld.1 hHeld.1.size hb9)) | (with_reducible exact hHeld))) (fun hHeld => ?_)
       clear hK K
       try simp only [Act.put, List.setIfInBounds_toArray, List.set_cons_zero, List.set_cons_succ])
  first
    | (refine wpAnyH_take (i := 3) (v := undef) (by simp only [List.getElem?_toArray, List.getElem?_cons_succ, List.getElem?_cons_zero]; rfl) (by kernel_rfl) (by kernel_rfl) (by kernel_rfl) (fun _ _ _ h => h) (Or.inr ⟨by rfl, rfl⟩) (by assumption) ?_; try simp only [Act.put, List.setIfInBounds_toArray, List.set_cons_zero, List.set_cons_succ])
    | (refine wpAnyH_take (i := 3) (v := ?_) (by simp only [List.getElem?_toArray, List.getElem?_cons_succ, List.getElem?_cons_zero]; rfl) (by kernel_rfl) (by kernel_rfl) (by kernel_rfl) (fun _ _ _ h => h) (Or.inl ⟨by rfl, ?_⟩) (by assumption) ?_
       rotate_left
       · (intro ww hSw; (try dsimp only at hSw); go_simp; (try with_reducible rfl))
       try simp only [Act.put, List.setIfInBounds_toArray, List.set_cons_zero, List.set_cons_succ])
    | (refine wpAnyH_ready (rs := [3]) (by kernel_rfl) (by simp) (AllReadyH.cons (by simp only [List.getElem?_toArray, List.getElem?_cons_succ, List.getElem?_cons_zero]; rfl) (fun K hK => ?_) AllReadyH.nil)
       go_simp
       first
         | (fail)
       try go_wp2_with fail
       refine hK.out _ _ (by (first | (with_reducible exact KS.out _ (bdrew1 (Below.refl _ _))) | (with_reducible exact KS.out _ (below_call hHeld.1 hHeld.1.size hb9)) | (with_reducible exact hHeld))) (fun hHeld => ?_)
       clear hK K
       try simp only [Act.put, List.setIfInBounds_toArray, List.set_cons_zero, List.set_cons_succ])
  first
    | (refine wpAnyH_take (i := 4) (v := undef) (by simp only [List.getElem?_toArray, List.getElem?_cons_succ, List.getElem?_cons_zero]; rfl) (by kernel_rfl) (by kernel_rfl) (by kernel_rfl) (fun _ _ _ h => h) (Or.inr ⟨by rfl, rfl⟩) (by assumption) ?_; try simp only [Act.put, List.setIfInBounds_toArray, List.set_cons_zero, List.set_cons_succ])
    | (refine wpAnyH_take (i := 4) (v := ?_) (by simp only [List.getElem?_toArray, List.getElem?_cons_succ, List.getElem?_cons_zero]; rfl) (by kernel_rfl) (by kernel_rfl) (by kernel_rfl) (fun _ _ _ h => h) (Or.inl ⟨by rfl, ?_⟩) (by assumption) ?_
       rotate_left
       · (intro ww hSw; (try dsimp only at hSw); go_simp; (try with_reducible rfl))
       try simp only [Act.put, List.setIfInBounds_toArray, List.set_cons_zero, List.set_cons_succ])
    | (refine wpAnyH_ready (rs := [4]) (by kernel_rfl) (by simp) (AllReadyH.cons (by simp only [List.getElem?_toArray, List.getElem?_cons_succ, List.getElem?_cons_zero]; rfl) (fun K hK => ?_) AllReadyH.nil)
       go_simp
       first
         | (fail)
       try go_wp2_with fail
       refine hK.out _ _ (by (first | (with_reducible exact KS.out _ (bdrew1 (Below.refl _ _))) | (with_reducible exact KS.out _ (below_call hHeld.1 hHeld.1.size hb9)) | (with_reducible exact hHeld))) (fun hHeld => ?_)
       clear hK K
       try simp only [Act.put, List.setIfInBounds_toArray, List.set_cons_zero, List.set_cons_succ])
  first
    | (refine wpAnyH_take (i := 5) (v := undef) (by simp only [List.getElem?_toArray, List.getElem?_cons_succ, List.getElem?_cons_zero]; rfl) (by kernel_rfl) (by kernel_rfl) (by kernel_rfl) (fun _ _ _ h => h) (Or.inr ⟨by rfl, rfl⟩) (by assumption) ?_; try simp only [Act.put, List.setIfInBounds_toArray, List.set_cons_zero, List.set_cons_succ])
    | (refine wpAnyH_take (i := 5) (v := ?_) (by simp only [List.getElem?_toArray, List.getElem?_cons_succ, List.getElem?_cons_zero]; rfl) (by kernel_rfl) (by kernel_rfl) (by kernel_rfl) (fun _ _ _ h => h) (Or.inl ⟨by rfl, ?_⟩) (by assumption) ?_
       rotate_left
       · (intro ww hSw; (try dsimp only at hSw); go_simp; (try with_reducible rfl))
       try simp only [Act.put, List.setIfInBounds_toArray, List.set_cons_zero, List.set_cons_succ])
    | (refine wpAnyH_ready (rs := [5]) (by kernel_rfl) (by simp) (AllReadyH.cons (by simp only [List.getElem?_toArray, List.getElem?_cons_succ, List.getElem?_cons_zero]; rfl) (fun K hK => ?_) AllReadyH.nil)
       go_simp
       first
         | (fail)
       try go_wp2_with fail
       refine hK.out _ _ (by (first | (with_reducible exact KS.out _ (bdrew1 (Below.refl _ _))) | (with_reducible exact KS.out _ (below_call hHeld.1 hHeld.1.size hb9)) | (with_reducible exact hHeld))) (fun hHeld => ?_)
       clear hK K
       try simp only [Act.put, List.setIfInBounds_toArray, List.set_cons_zero, List.set_cons_succ])
  first
    | (refine wpAnyH_take (i := 6) (v := undef) (by simp only [List.getElem?_toArray, List.getElem?_cons_succ, List.getElem?_cons_zero]; rfl) (by kernel_rfl) (by kernel_rfl) (by kernel_rfl) (fun _ _ _ h => h) (Or.inr ⟨by rfl, rfl⟩) (by assumption) ?_; try simp only [Act.put, List.setIfInBounds_toArray, List.set_cons_zero, List.set_cons_succ])
    | (refine wpAnyH_take (i := 6) (v := ?_) (by simp only [List.getElem?_toArray, List.getElem?_cons_succ, List.getElem?_cons_zero]; rfl) (by kernel_rfl) (by kernel_rfl) (by kernel_rfl) (fun _ _ _ h => h) (Or.inl ⟨by rfl, ?_⟩) (by assumption) ?_
       rotate_left
       · (intro ww hSw; (try dsimp only at hSw); go_simp; (try with_reducible rfl))
       try simp only [Act.put, List.setIfInBounds_toArray, List.set_cons_zero, List.set_cons_succ])
    | (refine wpAnyH_ready (rs := [6]) (by kernel_rfl) (by simp) (AllReadyH.cons (by simp only [List.getElem?_toArray, List.getElem?_cons_succ, List.getElem?_cons_zero]; rfl) (fun K hK => ?_) AllReadyH.nil)
       go_simp
       first
         | (fail)
       try go_wp2_with fail
       refine hK.out _ _ (by (first | (with_reducible exact KS.out _ (bdrew1 (Below.refl _ _))) | (with_reducible exact KS.out _ (below_call hHeld.1 hHeld.1.size hb9)) | (with_reducible exact hHeld))) (fun hHeld => ?_)
       clear hK K
       try simp only [Act.put, List.setIfInBounds_toArray, List.set_cons_zero, List.set_cons_succ])
  refine wpAnyH_ready (rs := [7]) (by kernel_rfl) (by simp) (AllReadyH.cons (by simp only [List.getElem?_toArray, List.getElem?_cons_succ, List.getElem?_cons_zero]; rfl) (fun K hK => ?_) AllReadyH.nil)
  go_simp; refine (rin_rm x ⟨pd, some ⟨b, o, none⟩, pac, pk, pkc, pw, pwc⟩ (roomOf x i) _ (HWA.out.wh.below (below_call B_3.out B_3.out.size hHeld.1) (Nat.le_refl _)) (by have := (right_lens FT.out.right).2.2.2.1; omega)).mono ?_; rintro e w9 ⟨qT, cT, rfl, hTT, hb9⟩; rw [HT.out] at hTT ⊢; have TT := Lib.hid hTT; clear hTT; try go_wp2_with fail
  refine hK.out _ _ (by (first | (with_reducible exact KS.out _ (bdrew1 (Below.refl _ _))) | (with_reducible exact KS.out _ (below_call hHeld.1 hHeld.1.size hb9)) | (with_reducible exact hHeld))) (fun hHeld => ?_)
  clear hK K
  try simp only [Act.put, List.setIfInBounds_toArray, List.set_cons_zero, List.set_cons_succ]
  first
    | (refine wpAnyH_take (i := 8) (v := undef) (by simp only [List.getElem?_toArray, List.getElem?_cons_succ, List.getElem?_cons_zero]; rfl) (by kernel_rfl) (by kernel_rfl) (by kernel_rfl) (fun _ _ _ h => h) (Or.inr ⟨by rfl, rfl⟩) (by assumption) ?_; try simp only [Act.put, List.setIfInBounds_toArray, List.set_cons_zero, List.set_cons_succ])
    | (refine wpAnyH_take (i := 8) (v := ?_) (by simp only [List.getElem?_toArray, List.getElem?_cons_succ, List.getElem?_cons_zero]; rfl) (by kernel_rfl) (by kernel_rfl) (by kernel_rfl) (fun _ _ _ h => h) (Or.inl ⟨by rfl, ?_⟩) (by assumption) ?_
       rotate_left
       · (intro ww hSw; (try dsimp only at hSw); go_simp; (try with_reducible rfl))
       try simp only [Act.put, List.setIfInBounds_toArray, List.set_cons_zero, List.set_cons_succ])
    | (refine wpAnyH_ready (rs := [8]) (by kernel_rfl) (by simp) (AllReadyH.cons (by simp only [List.getElem?_toArray, List.getElem?_cons_succ, List.getElem?_cons_zero]; rfl) (fun K hK => ?_) AllReadyH.nil)
       go_simp
       first
         | (fail)
       try go_wp2_with fail
       refine hK.out _ _ (by (first | (with_reducible exact KS.out _ (bdrew1 (Below.refl _ _))) | (with_reducible exact KS.out _ (below_call hHeld.1 hHeld.1.size hb9)) | (with_reducible exact hHeld))) (fun hHeld => ?_)
       clear hK K
       try simp only [Act.put, List.setIfInBounds_toArray, List.set_cons_zero, List.set_cons_succ])
  refine wpAnyH_done (by kernel_rfl) ?_ _
  refine NoPanic.normal ?_
  have hB9 := Lib.hid hHeld.1
  clear hHeld
  have B_4 := Lib.hid (below_call B_3.out B_3.out.size hB9.out)
  have H_4 := Lib.hid (H_3.out.call hB9.out)
  clear hB9 KS B_3 H_3
  have hcH := H_4.out.2.2
  have hlH := H_4.out.2.1
  go_wp2_with fail
  clear hcH hlH
  have BX := Lib.hid (Blk.new w9 29 #[.slice pd.ex x.d.exits.length pd.exc, .slice pd.pl x.d.players.length pd.plc, .slice pd.co x.d.coins.length pd.coc, .slice pd.it x.d.items.length pd.itc, .slice pd.bo x.d.boxes.length pd.boc, .int .i64 x.d.room, .int .i64 x.d.player, .int .i64 x.d.box, .slice (some ⟨b, o, none⟩) x.at_.length pac, .slice pk x.coins.length pkc, .slice pw x.wher.length pwc])
  have BB := Lib.hid (show Below w9.heap.size w9 (w9.alloc (.cells #[.slice pd.ex x.d.exits.length pd.exc, .slice pd.pl x.d.players.length pd.plc, .slice pd.co x.d.coins.length pd.coc, .slice pd.it x.d.items.length pd.itc, .slice pd.bo x.d.boxes.length pd.boc, .int .i64 x.d.room, .int .i64 x.d.player, .int .i64 x.d.box, .slice (some ⟨b, o, none⟩) x.at_.length pac, .slice pk x.coins.length pkc, .slice pw x.wher.length pwc] 29)) from (Below.refl _ _).alloc (Nat.le_refl _) _)
  have YX := Lib.hid (HWA.out.below (B_4.out.alloc B_4.out.size (.cells #[.slice pd.ex x.d.exits.length pd.exc, .slice pd.pl x.d.players.length pd.plc, .slice pd.co x.d.coins.length pd.coc, .slice pd.it x.d.items.length pd.itc, .slice pd.bo x.d.boxes.length pd.boc, .int .i64 x.d.room, .int .i64 x.d.player, .int .i64 x.d.box, .slice (some ⟨b, o, none⟩) x.at_.length pac, .slice pk x.coins.length pkc, .slice pw x.wher.length pwc] 29)) (Nat.le_refl _))
  have OX := Lib.hid (HWA.out.out (b := w9.heap.size) B_4.out.size)
  have GS := Lib.hid (show Gt x i T 0 x from Gt.start FT.out.right (fun m hm => by have h7 := HT.out; subst h7; exact (inL_at hm).2))
  have TL := Lib.hid (show (∀ m (hm : m < T.length), T[m] < x.wher.length) ∧ T.Pairwise (· < ·) from by have h7 := HT.out; subst h7; exact ⟨fun m hm => (inL_at hm).1, inL_up _ _⟩)
  obtain ⟨b8, hb8⟩ : ∃ b8, w9.heap.size = b8 := ⟨_, rfl⟩
  have HB8 := Lib.hid hb8
  rw [hb8] at BX OX ⊢
  clear hb8
  generalize hV1 : w9.alloc (.cells #[.slice pd.ex x.d.exits.length pd.exc, .slice pd.pl x.d.players.length pd.plc, .slice pd.co x.d.coins.length pd.coc, .slice pd.it x.d.items.length pd.itc, .slice pd.bo x.d.boxes.length pd.boc, .int .i64 x.d.room, .int .i64 x.d.player, .int .i64 x.d.box, .slice (some ⟨b, o, none⟩) x.at_.length pac, .slice pk x.coins.length pkc, .slice pw x.wher.length pwc] 29) = V1 at *
  clear hV1
  go_loopw [11, 13] (fun d v wr => ∃ n g : Nat, n ≤ T.length ∧ v = .int .i64 n ∧ d = .int .i64 g ∧ g = min n Rn ∧ AllI x i Rn T b8 w9 wr n) (fun _ v _ => T.length - (intOf v).toNat)
  case atStart => exact ⟨0, 0, Nat.zero_le _, rfl, rfl, by simp, ⟨pd, some ⟨b, o, none⟩, pac, pk, pkc, pw, pwc⟩, x, by rw [Nat.zero_min]; exact GS.out, BB.out, BX.out, YX.out, OX.out⟩
  case round =>
    obtain ⟨n, g, hn, rfl, rfl, hg, q, z, hGt, hBw, hB8, hY, hO⟩ := hrel
    have HG := Lib.hid hGt
    have HBW := Lib.hid hBw
    have HQ8 := Lib.hid hB8
    have HY := Lib.hid hY
    have HO := Lib.hid hO
    have SZ := Lib.hid hGt.shape
    have HZ := Lib.hid hGt.right
    have HIZ := Lib.hid (show i < z.at_.length by rw [hGt.at_]; exact hil)
    have N8 := Lib.hid (show w9.heap.size ≤ b8 from Nat.le_of_eq HB8.out)
    have HGM := Lib.hid hg
    clear hGt hBw hB8 hY hO hg BX YX OX BB GS
    by_cases hlt : n < T.length
    · obtain ⟨tb, to_, eT, htb, hcT⟩ := TT.out.at_ (show n < (T.map fun (i : Nat) => (i : Int)).length by simpa using hlt)
      have cT := hcT n (by simpa using hlt)
      simp only [List.getElem_map] at cT
      subst eT
      have cT := cell_call cT HBW.out
      have TN := Lib.hid (TL.out.1 n hlt)
      have c8 := HQ8.out.cell
      have l8 := HQ8.out.lt
      have hwn : IntKind.i64.wrap ((n : Int) + 1) = (n : Int) + 1 := IntWalk.i64_in _ (by omega)
      obtain ⟨tn, htn⟩ : ∃ tn, T[n] = tn := ⟨_, rfl⟩
      by_cases hroom : n < Rn
      · have hgn : g = n := by have := HGM.out; omega
        subst hgn
        have hmin : min g Rn = g := by omega
        have GT := HG.out
        rw [hmin] at GT
        have MORE := GT.more hil hlt TL.out.1 TL.out.2 (by rw [HRN.out]; omega)
        rw [htn] at MORE cT TN
        have HR := Lib.hid MORE.1
        have GN := Lib.hid MORE.2
        have hltr : (g : Int) < (Rn : Int) := by omega
        have TNZ := Lib.hid (show tn < z.wher.length by rw [SZ.out.w]; exact TN.out)
        have HAW := Lib.hid (got_away z TNZ.out i k)
        have SY := Lib.hid (show Shape x (putW z tn ⟨1, (i : Int)⟩) from GN.out.shape)
        have HGY := Lib.hid (show rightW (putW z tn ⟨1, (i : Int)⟩) = true from GN.out.right)
        have HKY := Lib.hid (show k < (putW z tn ⟨1, (i : Int)⟩).at_.length by rw [GN.out.at_]; exact hkl)
        clear GT MORE hmin
        have cT0 := Lib.hid cT
        have KS : Hid (∀ w', Below wr.heap.size wr w' → Below wr.heap.size wr w' ∧ (∀ j, w'.cell? ⟨b8, j, none⟩ = (#[.slice q.d.ex x.d.exits.length q.d.exc, .slice q.d.pl x.d.players.length q.d.plc, .slice q.d.co x.d.coins.length q.d.coc, .slice q.d.it x.d.items.length q.d.itc, .slice q.d.bo x.d.boxes.length q.d.boc, .int .i64 x.d.room, .int .i64 x.d.player, .int .i64 x.d.box, .slice q.at_ x.at_.length q.atc, .slice q.co x.coins.length q.coc, .slice q.wh x.wher.length q.whc][j]? : Option Value)) ∧ w'.cell? ⟨tb, to_ + g, none⟩ = some (.int .i64 (tn : Int))) := Lib.hid (fun w' hb => ⟨hb, fun j => (hb.cell (p := ⟨b8, j, none⟩) l8).trans (c8 j), cell_call cT hb⟩)
        have L8 := Lib.hid l8
        go_wp2_with fail
        clear c8 l8 cT
        refine wp_region_noPanic ?_
        refine wp_region_held_drew (S := (fun w' => Below wr.heap.size wr w' ∧ (∀ j, w'.cell? ⟨b8, j, none⟩ = (#[.slice q.d.ex x.d.exits.length q.d.exc, .slice q.d.pl x.d.players.length q.d.plc, .slice q.d.co x.d.coins.length q.d.coc, .slice q.d.it x.d.items.length q.d.itc, .slice q.d.bo x.d.boxes.length q.d.boc, .int .i64 x.d.room, .int .i64 x.d.player, .int .i64 x.d.box, .slice q.at_ x.at_.length q.atc, .slice q.co x.coins.length q.coc, .slice q.wh x.wher.length q.whc][j]? : Option Value)) ∧ w'.cell? ⟨tb, to_ + g, none⟩ = some (.int .i64 (tn : Int)))) (by kernel_rfl) (by (first | (with_reducible exact KS.out _ (bdrew1 (Below.refl _ _))))) (fun hHeld => ?_)
        refine wpAnyH_take (i := 0) (v := ?_) (by simp only [List.getElem?_toArray, List.getElem?_cons_zero]; rfl) (by kernel_rfl) (by kernel_rfl) (by kernel_rfl) (fun _ _ _ h => h) (Or.inl ⟨by rfl, ?_⟩) (by assumption) ?_
        rotate_left
        · (intro ww hSw; (try dsimp only at hSw); go_simp; (try with_reducible rfl))
        try simp only [Act.put, List.setIfInBounds_toArray, List.set_cons_zero, List.set_cons_succ]
        refine wpAnyH_take (i := 1) (v := ?_) (by simp only [List.getElem?_toArray, List.getElem?_cons_succ, List.getElem?_cons_zero]; rfl) (by kernel_rfl) (by kernel_rfl) (by kernel_rfl) (fun _ _ _ h => h) (Or.inl ⟨by rfl, ?_⟩) (by assumption) ?_
        rotate_left
        · (intro ww hSw; (try dsimp only at hSw); go_simp; (try with_reducible rfl))
        try simp only [Act.put, List.setIfInBounds_toArray, List.set_cons_zero, List.set_cons_succ]
        refine wpAnyH_take (i := 2) (v := ?_) (by simp only [List.getElem?_toArray, List.getElem?_cons_succ, List.getElem?_cons_zero]; rfl) (by kernel_rfl) (by kernel_rfl) (by kernel_rfl) (fun _ _ _ h => h) (Or.inl ⟨by rfl, ?_⟩) (by assumption) ?_
        rotate_left
        · (intro ww hSw; (try dsimp only at hSw); go_simp; (try with_reducible rfl))
        try simp only [Act.put, List.setIfInBounds_toArray, List.set_cons_zero, List.set_cons_succ]
        refine wpAnyH_take (i := 3) (v := ?_) (by simp only [List.getElem?_toArray, List.getElem?_cons_succ, List.getElem?_cons_zero]; rfl) (by kernel_rfl) (by kernel_rfl) (by kernel_rfl) (fun _ _ _ h => h) (Or.inl ⟨by rfl, ?_⟩) (by assumption) ?_
        rotate_left
        · (intro ww hSw; (try dsimp only at hSw); go_simp; (try with_reducible rfl))
        try simp only [Act.put, List.setIfInBounds_toArray, List.set_cons_zero, List.set_cons_succ]
        refine wpAnyH_take (i := 4) (v := ?_) (by simp only [List.getElem?_toArray, List.getElem?_cons_succ, List.getElem?_cons_zero]; rfl) (by kernel_rfl) (by kernel_rfl) (by kernel_rfl) (fun _ _ _ h => h) (Or.inl ⟨by rfl, ?_⟩) (by assumption) ?_
        rotate_left
        · (intro ww hSw; (try dsimp only at hSw); go_simp; (try with_reducible rfl))
        try simp only [Act.put, List.setIfInBounds_toArray, List.set_cons_zero, List.set_cons_succ]
        refine wpAnyH_take (i := 5) (v := ?_) (by simp only [List.getElem?_toArray, List.getElem?_cons_succ, List.getElem?_cons_zero]; rfl) (by kernel_rfl) (by kernel_rfl) (by kernel_rfl) (fun _ _ _ h => h) (Or.inl ⟨by rfl, ?_⟩) (by assumption) ?_
        rotate_left
        · (intro ww hSw; (try dsimp only at hSw); go_simp; (try with_reducible rfl))
        try simp only [Act.put, List.setIfInBounds_toArray, List.set_cons_zero, List.set_cons_succ]
        refine wpAnyH_ready (rs := [6, 10]) (by kernel_rfl) (by simp) (AllReadyH.cons (by simp only [List.getElem?_toArray, List.getElem?_cons_succ, List.getElem?_cons_zero]; rfl) (fun K hK => ?_) (AllReadyH.cons (by simp only [List.getElem?_toArray, List.getElem?_cons_succ, List.getElem?_cons_zero]; rfl) (fun K hK => ?_) AllReadyH.nil))
        · skip
          go_simp
          go_at_call 10; with_reducible refine (get_off SZ.out q i tn _ HZ.out (HY.out.below hHeld.1 (Nat.le_refl _)) HIZ.out (putW z tn ⟨1, (i : Int)⟩) 0 HR.out).mono ?_; rintro e9 v9 ⟨⟨qd, qa, qac, qk, qkc, qw, qwc⟩, rfl, y2, o2, hb9⟩; have HB9 := Lib.hid (below_call hHeld.1 hHeld.1.size hb9); have Y2 := Lib.hid y2; have O2 := Lib.hid (o2 b8 (Nat.lt_of_lt_of_le L8.out hHeld.1.size) HO.out); clear y2 o2 hb9
          try go_wp2_with fail
          refine hK.out _ _ (by (first | (with_reducible exact KS.out _ HB9.out))) (fun hHeld => ?_)
          clear hK K
          try simp only [Act.put, List.setIfInBounds_toArray, List.set_cons_zero, List.set_cons_succ]
          refine wpAnyH_take (i := 7) (v := ?_) (by simp only [List.getElem?_toArray, List.getElem?_cons_succ, List.getElem?_cons_zero]; rfl) (by kernel_rfl) (by kernel_rfl) (by kernel_rfl) (fun _ _ _ h => h) (Or.inl ⟨by rfl, ?_⟩) (by assumption) ?_
          rotate_left
          · (intro ww hSw; (try dsimp only at hSw); go_simp; (try with_reducible rfl))
          try simp only [Act.put, List.setIfInBounds_toArray, List.set_cons_zero, List.set_cons_succ]
          refine wpAnyH_take (i := 8) (v := ?_) (by simp only [List.getElem?_toArray, List.getElem?_cons_succ, List.getElem?_cons_zero]; rfl) (by kernel_rfl) (by kernel_rfl) (by kernel_rfl) (fun _ _ _ h => h) (Or.inl ⟨by rfl, ?_⟩) (by assumption) ?_
          rotate_left
          · (intro ww hSw; (try dsimp only at hSw); go_simp; (try with_reducible rfl))
          try simp only [Act.put, List.setIfInBounds_toArray, List.set_cons_zero, List.set_cons_succ]
          refine wpAnyH_take (i := 9) (v := ?_) (by simp only [List.getElem?_toArray, List.getElem?_cons_succ, List.getElem?_cons_zero]; rfl) (by kernel_rfl) (by kernel_rfl) (by kernel_rfl) (fun _ _ _ h => h) (Or.inl ⟨by rfl, ?_⟩) (by assumption) ?_
          rotate_left
          · (intro ww hSw; (try dsimp only at hSw); go_simp; (try with_reducible rfl))
          try simp only [Act.put, List.setIfInBounds_toArray, List.set_cons_zero, List.set_cons_succ]
          refine wpAnyH_ready (rs := [10]) (by kernel_rfl) (by simp) (AllReadyH.cons (by simp only [List.getElem?_toArray, List.getElem?_cons_succ, List.getElem?_cons_zero]; rfl) (fun K hK => ?_) AllReadyH.nil)
          go_simp
          try go_wp2_with fail
          refine hK.out _ _ (by (first | (with_reducible exact KS.out _ (Below.alloc HB9.out HB9.out.size _)))) (fun hHeld => ?_)
          clear hK K
          try simp only [Act.put, List.setIfInBounds_toArray, List.set_cons_zero, List.set_cons_succ]
          refine wpAnyH_ready (rs := [11]) (by kernel_rfl) (by simp) (AllReadyH.cons (by simp only [List.getElem?_toArray, List.getElem?_cons_succ, List.getElem?_cons_zero]; rfl) (fun K hK => ?_) AllReadyH.nil)
          go_simp
          try go_wp2_with fail
          refine hK.out _ _ (by (first | (with_reducible exact KS.out _ (Below.alloc HB9.out HB9.out.size _)))) (fun hHeld => ?_)
          clear hK K
          try simp only [Act.put, List.setIfInBounds_toArray, List.set_cons_zero, List.set_cons_succ]
          refine wpAnyH_take (i := 12) (v := ?_) (by simp only [List.getElem?_toArray, List.getElem?_cons_succ, List.getElem?_cons_zero]; rfl) (by kernel_rfl) (by kernel_rfl) (by kernel_rfl) (fun _ _ _ h => h) (Or.inl ⟨by rfl, ?_⟩) (by assumption) ?_
          rotate_left
          · (intro ww hSw; (try dsimp only at hSw); go_simp; (try with_reducible rfl))
          try simp only [Act.put, List.setIfInBounds_toArray, List.set_cons_zero, List.set_cons_succ]
          refine wpAnyH_done (by kernel_rfl) ?_ _
          refine NoPanic.normal ?_
          clear hHeld
          have BG := Lib.hid (Blk.new v9 29 #[.slice qd.ex x.d.exits.length qd.exc, .slice qd.pl x.d.players.length qd.plc, .slice qd.co x.d.coins.length qd.coc, .slice qd.it x.d.items.length qd.itc, .slice qd.bo x.d.boxes.length qd.boc, .int .i64 x.d.room, .int .i64 x.d.player, .int .i64 x.d.box, .slice qa x.at_.length qac, .slice qk x.coins.length qkc, .slice qw x.wher.length qwc])
          have BV := Lib.hid (Below.alloc HB9.out HB9.out.size (.cells #[.slice qd.ex x.d.exits.length qd.exc, .slice qd.pl x.d.players.length qd.plc, .slice qd.co x.d.coins.length qd.coc, .slice qd.it x.d.items.length qd.itc, .slice qd.bo x.d.boxes.length qd.boc, .int .i64 x.d.room, .int .i64 x.d.player, .int .i64 x.d.box, .slice qa x.at_.length qac, .slice qk x.coins.length qkc, .slice qw x.wher.length qwc] 29))
          have YV := Lib.hid (Y2.out.call ((Below.refl _ _).alloc (Nat.le_refl _) (.cells #[.slice qd.ex x.d.exits.length qd.exc, .slice qd.pl x.d.players.length qd.plc, .slice qd.co x.d.coins.length qd.coc, .slice qd.it x.d.items.length qd.itc, .slice qd.bo x.d.boxes.length qd.boc, .int .i64 x.d.room, .int .i64 x.d.player, .int .i64 x.d.box, .slice qa x.at_.length qac, .slice qk x.coins.length qkc, .slice qw x.wher.length qwc] 29)))
          clear HB9 Y2
          generalize v9.alloc (.cells #[.slice qd.ex x.d.exits.length qd.exc, .slice qd.pl x.d.players.length qd.plc, .slice qd.co x.d.coins.length qd.coc, .slice qd.it x.d.items.length qd.itc, .slice qd.bo x.d.boxes.length qd.boc, .int .i64 x.d.room, .int .i64 x.d.player, .int .i64 x.d.box, .slice qa x.at_.length qac, .slice qk x.coins.length qkc, .slice qw x.wher.length qwc] 29) = VV at *
          obtain ⟨rb, hrb⟩ : ∃ rb, v9.heap.size = rb := ⟨_, rfl⟩
          rw [hrb] at BG ⊢
          clear hrb KS
          have C8 := Lib.hid (HQ8.out.call BV.out)
          have BW := Lib.hid (below_call HBW.out HBW.out.size BV.out)
          have cT1 := Lib.hid (cell_call cT0.out BV.out)
          clear BV
          have cG := BG.out.cell
          have lG := BG.out.lt
          have KS : Hid (∀ w', Below VV.heap.size VV w' → Below VV.heap.size VV w' ∧ (∀ j, w'.cell? ⟨rb, j, none⟩ = (#[.slice qd.ex x.d.exits.length qd.exc, .slice qd.pl x.d.players.length qd.plc, .slice qd.co x.d.coins.length qd.coc, .slice qd.it x.d.items.length qd.itc, .slice qd.bo x.d.boxes.length qd.boc, .int .i64 x.d.room, .int .i64 x.d.player, .int .i64 x.d.box, .slice qa x.at_.length qac, .slice qk x.coins.length qkc, .slice qw x.wher.length qwc][j]? : Option Value)) ∧ w'.cell? ⟨tb, to_ + g, none⟩ = some (.int .i64 (tn : Int))) := Lib.hid (fun w' hb => ⟨hb, fun j => (hb.cell (p := ⟨rb, j, none⟩) lG).trans (cG j), cell_call cT1.out hb⟩)
          go_wp2_with fail
          clear cG lG
          refine wp_region_noPanic ?_
          refine wp_region_held_drew (S := (fun w' => Below VV.heap.size VV w' ∧ (∀ j, w'.cell? ⟨rb, j, none⟩ = (#[.slice qd.ex x.d.exits.length qd.exc, .slice qd.pl x.d.players.length qd.plc, .slice qd.co x.d.coins.length qd.coc, .slice qd.it x.d.items.length qd.itc, .slice qd.bo x.d.boxes.length qd.boc, .int .i64 x.d.room, .int .i64 x.d.player, .int .i64 x.d.box, .slice qa x.at_.length qac, .slice qk x.coins.length qkc, .slice qw x.wher.length qwc][j]? : Option Value)) ∧ w'.cell? ⟨tb, to_ + g, none⟩ = some (.int .i64 (tn : Int)))) (by kernel_rfl) (by (first | (with_reducible exact KS.out _ (bdrew1 (Below.refl _ _))))) (fun hHeld => ?_)
          refine wpAnyH_take (i := 0) (v := ?_) (by simp only [List.getElem?_toArray, List.getElem?_cons_zero]; rfl) (by kernel_rfl) (by kernel_rfl) (by kernel_rfl) (fun _ _ _ h => h) (Or.inl ⟨by rfl, ?_⟩) (by assumption) ?_
          rotate_left
          · (intro ww hSw; (try dsimp only at hSw); go_simp; (try with_reducible rfl))
          try simp only [Act.put, List.setIfInBounds_toArray, List.set_cons_zero, List.set_cons_succ]
          refine wpAnyH_take (i := 1) (v := ?_) (by simp only [List.getElem?_toArray, List.getElem?_cons_succ, List.getElem?_cons_zero]; rfl) (by kernel_rfl) (by kernel_rfl) (by kernel_rfl) (fun _ _ _ h => h) (Or.inl ⟨by rfl, ?_⟩) (by assumption) ?_
          rotate_left
          · (intro ww hSw; (try dsimp only at hSw); go_simp; (try with_reducible rfl))
          try simp only [Act.put, List.setIfInBounds_toArray, List.set_cons_zero, List.set_cons_succ]
          refine wpAnyH_take (i := 2) (v := ?_) (by simp only [List.getElem?_toArray, List.getElem?_cons_succ, List.getElem?_cons_zero]; rfl) (by kernel_rfl) (by kernel_rfl) (by kernel_rfl) (fun _ _ _ h => h) (Or.inl ⟨by rfl, ?_⟩) (by assumption) ?_
          rotate_left
          · (intro ww hSw; (try dsimp only at hSw); go_simp; (try with_reducible rfl))
          try simp only [Act.put, List.setIfInBounds_toArray, List.set_cons_zero, List.set_cons_succ]
          refine wpAnyH_take (i := 3) (v := ?_) (by simp only [List.getElem?_toArray, List.getElem?_cons_succ, List.getElem?_cons_zero]; rfl) (by kernel_rfl) (by kernel_rfl) (by kernel_rfl) (fun _ _ _ h => h) (Or.inl ⟨by rfl, ?_⟩) (by assumption) ?_
          rotate_left
          · (intro ww hSw; (try dsimp only at hSw); go_simp; (try with_reducible rfl))
          try simp only [Act.put, List.setIfInBounds_toArray, List.set_cons_zero, List.set_cons_succ]
          refine wpAnyH_take (i := 4) (v := ?_) (by simp only [List.getElem?_toArray, List.getElem?_cons_succ, List.getElem?_cons_zero]; rfl) (by kernel_rfl) (by kernel_rfl) (by kernel_rfl) (fun _ _ _ h => h) (Or.inl ⟨by rfl, ?_⟩) (by assumption) ?_
          rotate_left
          · (intro ww hSw; (try dsimp only at hSw); go_simp; (try with_reducible rfl))
          try simp only [Act.put, List.setIfInBounds_toArray, List.set_cons_zero, List.set_cons_succ]
          refine wpAnyH_take (i := 5) (v := ?_) (by simp only [List.getElem?_toArray, List.getElem?_cons_succ, List.getElem?_cons_zero]; rfl) (by kernel_rfl) (by kernel_rfl) (by kernel_rfl) (fun _ _ _ h => h) (Or.inl ⟨by rfl, ?_⟩) (by assumption) ?_
          rotate_left
          · (intro ww hSw; (try dsimp only at hSw); go_simp; (try with_reducible rfl))
          try simp only [Act.put, List.setIfInBounds_toArray, List.set_cons_zero, List.set_cons_succ]
          refine wpAnyH_ready (rs := [6, 10]) (by kernel_rfl) (by simp) (AllReadyH.cons (by simp only [List.getElem?_toArray, List.getElem?_cons_succ, List.getElem?_cons_zero]; rfl) (fun K hK => ?_) (AllReadyH.cons (by simp only [List.getElem?_toArray, List.getElem?_cons_succ, List.getElem?_cons_zero]; rfl) (fun K hK => ?_) AllReadyH.nil))
          · skip
            go_simp
            go_at_call 10; with_reducible refine (get_as SY.out ⟨qd, qa, qac, qk, qkc, qw, qwc⟩ k tn _ HGY.out (YV.out.below hHeld.1 (Nat.le_refl _)) HKY.out HAW.out).mono ?_; rintro e7 v7 ⟨⟨ed, ea, eac, ek, ekc, ew, ewc⟩, rfl, -, hb9⟩; have HB9 := Lib.hid (below_call hHeld.1 hHeld.1.size hb9); clear hb9
            try go_wp2_with fail
            refine hK.out _ _ (by (first | (with_reducible exact KS.out _ HB9.out))) (fun hHeld => ?_)
            clear hK K
            try simp only [Act.put, List.setIfInBounds_toArray, List.set_cons_zero, List.set_cons_succ]
            refine wpAnyH_take (i := 7) (v := ?_) (by simp only [List.getElem?_toArray, List.getElem?_cons_succ, List.getElem?_cons_zero]; rfl) (by kernel_rfl) (by kernel_rfl) (by kernel_rfl) (fun _ _ _ h => h) (Or.inl ⟨by rfl, ?_⟩) (by assumption) ?_
            rotate_left
            · (intro ww hSw; (try dsimp only at hSw); go_simp; (try with_reducible rfl))
            try simp only [Act.put, List.setIfInBounds_toArray, List.set_cons_zero, List.set_cons_succ]
            refine wpAnyH_take (i := 8) (v := ?_) (by simp only [List.getElem?_toArray, List.getElem?_cons_succ, List.getElem?_cons_zero]; rfl) (by kernel_rfl) (by kernel_rfl) (by kernel_rfl) (fun _ _ _ h => h) (Or.inl ⟨by rfl, ?_⟩) (by assumption) ?_
            rotate_left
            · (intro ww hSw; (try dsimp only at hSw); go_simp; (try with_reducible rfl))
            try simp only [Act.put, List.setIfInBounds_toArray, List.set_cons_zero, List.set_cons_succ]
            refine wpAnyH_take (i := 9) (v := ?_) (by simp only [List.getElem?_toArray, List.getElem?_cons_succ, List.getElem?_cons_zero]; rfl) (by kernel_rfl) (by kernel_rfl) (by kernel_rfl) (fun _ _ _ h => h) (Or.inl ⟨by rfl, ?_⟩) (by assumption) ?_
            rotate_left
            · (intro ww hSw; (try dsimp only at hSw); go_simp; (try with_reducible rfl))
            try simp only [Act.put, List.setIfInBounds_toArray, List.set_cons_zero, List.set_cons_succ]
            refine wpAnyH_ready (rs := [10]) (by kernel_rfl) (by simp) (AllReadyH.cons (by simp only [List.getElem?_toArray, List.getElem?_cons_succ, List.getElem?_cons_zero]; rfl) (fun K hK => ?_) AllReadyH.nil)
            go_simp
            try go_wp2_with fail
            refine hK.out _ _ (by (first | (with_reducible exact KS.out _ (Below.alloc HB9.out HB9.out.size _)))) (fun hHeld => ?_)
            clear hK K
            try simp only [Act.put, List.setIfInBounds_toArray, List.set_cons_zero, List.set_cons_succ]
            refine wpAnyH_ready (rs := [11]) (by kernel_rfl) (by simp) (AllReadyH.cons (by simp only [List.getElem?_toArray, List.getElem?_cons_succ, List.getElem?_cons_zero]; rfl) (fun K hK => ?_) AllReadyH.nil)
            go_simp
            try go_wp2_with fail
            refine hK.out _ _ (by (first | (with_reducible exact KS.out _ (Below.alloc HB9.out HB9.out.size _)))) (fun hHeld => ?_)
            clear hK K
            try simp only [Act.put, List.setIfInBounds_toArray, List.set_cons_zero, List.set_cons_succ]
            refine wpAnyH_take (i := 12) (v := ?_) (by simp only [List.getElem?_toArray, List.getElem?_cons_succ, List.getElem?_cons_zero]; rfl) (by kernel_rfl) (by kernel_rfl) (by kernel_rfl) (fun _ _ _ h => h) (Or.inl ⟨by rfl, ?_⟩) (by assumption) ?_
            rotate_left
            · (intro ww hSw; (try dsimp only at hSw); go_simp; (try with_reducible rfl))
            try simp only [Act.put, List.setIfInBounds_toArray, List.set_cons_zero, List.set_cons_succ]
            refine wpAnyH_done (by kernel_rfl) ?_ _
            refine NoPanic.normal ?_
            clear hHeld KS
            have BV2 := Lib.hid (Below.alloc HB9.out HB9.out.size (.cells #[.slice ed.ex x.d.exits.length ed.exc, .slice ed.pl x.d.players.length ed.plc, .slice ed.co x.d.coins.length ed.coc, .slice ed.it x.d.items.length ed.itc, .slice ed.bo x.d.boxes.length ed.boc, .int .i64 x.d.room, .int .i64 x.d.player, .int .i64 x.d.box, .slice ea x.at_.length eac, .slice ek x.coins.length ekc, .slice ew x.wher.length ewc] 29))
            clear HB9
            generalize v7.alloc (.cells #[.slice ed.ex x.d.exits.length ed.exc, .slice ed.pl x.d.players.length ed.plc, .slice ed.co x.d.coins.length ed.coc, .slice ed.it x.d.items.length ed.itc, .slice ed.bo x.d.boxes.length ed.boc, .int .i64 x.d.room, .int .i64 x.d.player, .int .i64 x.d.box, .slice ea x.at_.length eac, .slice ek x.coins.length ekc, .slice ew x.wher.length ewc] 29) = V7 at *
            have BG7 := Lib.hid (BG.out.call BV2.out)
            have C87 := Lib.hid (C8.out.call BV2.out)
            have BW7 := Lib.hid (below_call BW.out BW.out.size BV2.out)
            have YV7 := Lib.hid (YV.out.call BV2.out)
            clear BG C8 BW YV BV2
            have cG := BG7.out.cell
            have lG := BG7.out.lt
            have c8 := C87.out.cell
            have l8 := C87.out.lt
            have z8 := C87.out.frozen
            go_wp2_with fail
            go_roundw
            case rel =>
              refine ⟨g + 1, g + 1, by omega, by go_num, by go_num, by omega, ⟨qd, qa, qac, qk, qkc, qw, qwc⟩, _, by rw [show min (g + 1) Rn = g + 1 by omega]; exact GN.out, ?_, ?_, ?_, O2.out⟩
              · (iterate 11 refine Below.setCell ?_ (by exact N8.out) _)
                exact BW7.out
              · exact blk_eleven C87.out _ _ _ _ _ _ _ _ _ _ _
              · (iterate 11 refine WorldAt.set ?_ O2.out _ _)
                exact YV7.out
            case measure => simp [intOf]; omega
          · skip
            go_simp
            try go_wp2_with fail
            refine hK.out _ _ (by (first | (with_reducible exact KS.out _ (bdrew1 (Below.alloc (Below.refl _ _) (Nat.le_refl _) _))))) (fun hHeld => ?_)
            clear hK K
            try simp only [Act.put, List.setIfInBounds_toArray, List.set_cons_zero, List.set_cons_succ]
            refine wpAnyH_ready (rs := [6]) (by kernel_rfl) (by simp) (AllReadyH.cons (by simp only [List.getElem?_toArray, List.getElem?_cons_succ, List.getElem?_cons_zero]; rfl) (fun K hK => ?_) AllReadyH.nil)
            go_simp
            go_at_call 10; with_reducible refine (get_as SY.out ⟨qd, qa, qac, qk, qkc, qw, qwc⟩ k tn _ HGY.out (YV.out.below hHeld.1 (Nat.le_refl _)) HKY.out HAW.out).mono ?_; rintro e7 v7 ⟨⟨ed, ea, eac, ek, ekc, ew, ewc⟩, rfl, -, hb9⟩; have HB9 := Lib.hid (below_call hHeld.1 hHeld.1.size hb9); have BG0 := Lib.hid (show Blk v7 VV.heap.size 29 #[.slice none 0 0, .slice none 0 0, .slice none 0 0, .slice none 0 0, .slice none 0 0, .int .i64 0, .int .i64 0, .int .i64 0, .slice none 0 0, .slice none 0 0, .slice none 0 0] from (Blk.new VV 29 #[.slice none 0 0, .slice none 0 0, .slice none 0 0, .slice none 0 0, .slice none 0 0, .int .i64 0, .int .i64 0, .int .i64 0, .slice none 0 0, .slice none 0 0, .slice none 0 0]).drew.call hb9); have cg := BG0.out.cell; have lg := BG0.out.lt; have zg := BG0.out.frozen; clear hb9
            try go_wp2_with fail
            refine hK.out _ _ (by (first | (with_reducible exact KS.out _ HB9.out))) (fun hHeld => ?_)
            clear hK K
            try simp only [Act.put, List.setIfInBounds_toArray, List.set_cons_zero, List.set_cons_succ]
            refine wpAnyH_take (i := 7) (v := ?_) (by simp only [List.getElem?_toArray, List.getElem?_cons_succ, List.getElem?_cons_zero]; rfl) (by kernel_rfl) (by kernel_rfl) (by kernel_rfl) (fun _ _ _ h => h) (Or.inl ⟨by rfl, ?_⟩) (by assumption) ?_
            rotate_left
            · (intro ww hSw; (try dsimp only at hSw); go_simp; (try with_reducible rfl))
            try simp only [Act.put, List.setIfInBounds_toArray, List.set_cons_zero, List.set_cons_succ]
            refine wpAnyH_take (i := 8) (v := ?_) (by simp only [List.getElem?_toArray, List.getElem?_cons_succ, List.getElem?_cons_zero]; rfl) (by kernel_rfl) (by kernel_rfl) (by kernel_rfl) (fun _ _ _ h => h) (Or.inl ⟨by rfl, ?_⟩) (by assumption) ?_
            rotate_left
            · (intro ww hSw; (try dsimp only at hSw); go_simp; (try with_reducible rfl))
            try simp only [Act.put, List.setIfInBounds_toArray, List.set_cons_zero, List.set_cons_succ]
            refine wpAnyH_take (i := 9) (v := ?_) (by simp only [List.getElem?_toArray, List.getElem?_cons_succ, List.getElem?_cons_zero]; rfl) (by kernel_rfl) (by kernel_rfl) (by kernel_rfl) (fun _ _ _ h => h) (Or.inl ⟨by rfl, ?_⟩) (by assumption) ?_
            rotate_left
            · (intro ww hSw; (try dsimp only at hSw); go_simp; (try with_reducible rfl))
            try simp only [Act.put, List.setIfInBounds_toArray, List.set_cons_zero, List.set_cons_succ]
            refine wpAnyH_ready (rs := [11]) (by kernel_rfl) (by simp) (AllReadyH.cons (by simp only [List.getElem?_toArray, List.getElem?_cons_succ, List.getElem?_cons_zero]; rfl) (fun K hK => ?_) AllReadyH.nil)
            go_simp
            try go_wp2_with fail
            refine hK.out _ _ (by (first | ((with_reducible refine KS.out _ ?_); (iterate 11 with_reducible refine Below.setCell ?_ (by exact Nat.le_refl _) _); with_reducible exact HB9.out))) (fun hHeld => ?_)
            clear hK K
            try simp only [Act.put, List.setIfInBounds_toArray, List.set_cons_zero, List.set_cons_succ]
            refine wpAnyH_take (i := 12) (v := ?_) (by simp only [List.getElem?_toArray, List.getElem?_cons_succ, List.getElem?_cons_zero]; rfl) (by kernel_rfl) (by kernel_rfl) (by kernel_rfl) (fun _ _ _ h => h) (Or.inl ⟨by rfl, ?_⟩) (by assumption) ?_
            rotate_left
            · (intro ww hSw; (try dsimp only at hSw); go_simp; (try with_reducible rfl))
            try simp only [Act.put, List.setIfInBounds_toArray, List.set_cons_zero, List.set_cons_succ]
            refine wpAnyH_done (by kernel_rfl) ?_ _
            refine NoPanic.normal ?_
            clear hHeld cg lg zg KS
            have BV2 := Lib.hid (show Below VV.heap.size VV (((((((((((v7.setCell ⟨VV.heap.size, 0, none⟩ (.slice ed.ex x.d.exits.length ed.exc)).setCell ⟨VV.heap.size, 1, none⟩ (.slice ed.pl x.d.players.length ed.plc)).setCell ⟨VV.heap.size, 2, none⟩ (.slice ed.co x.d.coins.length ed.coc)).setCell ⟨VV.heap.size, 3, none⟩ (.slice ed.it x.d.items.length ed.itc)).setCell ⟨VV.heap.size, 4, none⟩ (.slice ed.bo x.d.boxes.length ed.boc)).setCell ⟨VV.heap.size, 5, none⟩ (.int .i64 x.d.room)).setCell ⟨VV.heap.size, 6, none⟩ (.int .i64 x.d.player)).setCell ⟨VV.heap.size, 7, none⟩ (.int .i64 x.d.box)).setCell ⟨VV.heap.size, 8, none⟩ (.slice ea x.at_.length eac)).setCell ⟨VV.heap.size, 9, none⟩ (.slice ek x.coins.length ekc)).setCell ⟨VV.heap.size, 10, none⟩ (.slice ew x.wher.length ewc)) by (iterate 11 refine Below.setCell ?_ (by exact Nat.le_refl _) _); exact HB9.out)
            clear HB9 BG0
            generalize (((((((((((v7.setCell ⟨VV.heap.size, 0, none⟩ (.slice ed.ex x.d.exits.length ed.exc)).setCell ⟨VV.heap.size, 1, none⟩ (.slice ed.pl x.d.players.length ed.plc)).setCell ⟨VV.heap.size, 2, none⟩ (.slice ed.co x.d.coins.length ed.coc)).setCell ⟨VV.heap.size, 3, none⟩ (.slice ed.it x.d.items.length ed.itc)).setCell ⟨VV.heap.size, 4, none⟩ (.slice ed.bo x.d.boxes.length ed.boc)).setCell ⟨VV.heap.size, 5, none⟩ (.int .i64 x.d.room)).setCell ⟨VV.heap.size, 6, none⟩ (.int .i64 x.d.player)).setCell ⟨VV.heap.size, 7, none⟩ (.int .i64 x.d.box)).setCell ⟨VV.heap.size, 8, none⟩ (.slice ea x.at_.length eac)).setCell ⟨VV.heap.size, 9, none⟩ (.slice ek x.coins.length ekc)).setCell ⟨VV.heap.size, 10, none⟩ (.slice ew x.wher.length ewc)) = V7 at *
            have BG7 := Lib.hid (BG.out.call BV2.out)
            have C87 := Lib.hid (C8.out.call BV2.out)
            have BW7 := Lib.hid (below_call BW.out BW.out.size BV2.out)
            have YV7 := Lib.hid (YV.out.call BV2.out)
            clear BG C8 BW YV BV2
            have cG := BG7.out.cell
            have lG := BG7.out.lt
            have c8 := C87.out.cell
            have l8 := C87.out.lt
            have z8 := C87.out.frozen
            go_wp2_with fail
            go_roundw
            case rel =>
              refine ⟨g + 1, g + 1, by omega, by go_num, by go_num, by omega, ⟨qd, qa, qac, qk, qkc, qw, qwc⟩, _, by rw [show min (g + 1) Rn = g + 1 by omega]; exact GN.out, ?_, ?_, ?_, O2.out⟩
              · (iterate 11 refine Below.setCell ?_ (by exact N8.out) _)
                exact BW7.out
              · exact blk_eleven C87.out _ _ _ _ _ _ _ _ _ _ _
              · (iterate 11 refine WorldAt.set ?_ O2.out _ _)
                exact YV7.out
            case measure => simp [intOf]; omega
        · skip
          go_simp
          try go_wp2_with fail
          refine hK.out _ _ (by (first | (with_reducible exact KS.out _ (bdrew1 (Below.alloc (Below.refl _ _) (Nat.le_refl _) _))))) (fun hHeld => ?_)
          clear hK K
          try simp only [Act.put, List.setIfInBounds_toArray, List.set_cons_zero, List.set_cons_succ]
          refine wpAnyH_ready (rs := [6]) (by kernel_rfl) (by simp) (AllReadyH.cons (by simp only [List.getElem?_toArray, List.getElem?_cons_succ, List.getElem?_cons_zero]; rfl) (fun K hK => ?_) AllReadyH.nil)
          go_simp
          go_at_call 10; with_reducible refine (get_off SZ.out q i tn _ HZ.out (HY.out.below hHeld.1 (Nat.le_refl _)) HIZ.out (putW z tn ⟨1, (i : Int)⟩) 0 HR.out).mono ?_; rintro e9 v9 ⟨⟨qd, qa, qac, qk, qkc, qw, qwc⟩, rfl, y2, o2, hb9⟩; have HB9 := Lib.hid (below_call hHeld.1 hHeld.1.size hb9); have Y2 := Lib.hid y2; have O2 := Lib.hid (o2 b8 (Nat.lt_of_lt_of_le L8.out hHeld.1.size) HO.out); have BG0 := Lib.hid (show Blk v9 wr.heap.size 29 #[.slice none 0 0, .slice none 0 0, .slice none 0 0, .slice none 0 0, .slice none 0 0, .int .i64 0, .int .i64 0, .int .i64 0, .slice none 0 0, .slice none 0 0, .slice none 0 0] from (Blk.new wr 29 #[.slice none 0 0, .slice none 0 0, .slice none 0 0, .slice none 0 0, .slice none 0 0, .int .i64 0, .int .i64 0, .int .i64 0, .slice none 0 0, .slice none 0 0, .slice none 0 0]).drew.call hb9); have OG := Lib.hid (o2 wr.heap.size (Blk.new wr 29 #[.slice none 0 0, .slice none 0 0, .slice none 0 0, .slice none 0 0, .slice none 0 0, .int .i64 0, .int .i64 0, .int .i64 0, .slice none 0 0, .slice none 0 0, .slice none 0 0]).drew.lt (HY.out.out (Nat.le_refl _))); have cg := BG0.out.cell; have lg := BG0.out.lt; have zg := BG0.out.frozen; clear y2 o2 hb9
          try go_wp2_with fail
          refine hK.out _ _ (by (first | (with_reducible exact KS.out _ HB9.out))) (fun hHeld => ?_)
          clear hK K
          try simp only [Act.put, List.setIfInBounds_toArray, List.set_cons_zero, List.set_cons_succ]
          refine wpAnyH_take (i := 7) (v := ?_) (by simp only [List.getElem?_toArray, List.getElem?_cons_succ, List.getElem?_cons_zero]; rfl) (by kernel_rfl) (by kernel_rfl) (by kernel_rfl) (fun _ _ _ h => h) (Or.inl ⟨by rfl, ?_⟩) (by assumption) ?_
          rotate_left
          · (intro ww hSw; (try dsimp only at hSw); go_simp; (try with_reducible rfl))
          try simp only [Act.put, List.setIfInBounds_toArray, List.set_cons_zero, List.set_cons_succ]
          refine wpAnyH_take (i := 8) (v := ?_) (by simp only [List.getElem?_toArray, List.getElem?_cons_succ, List.getElem?_cons_zero]; rfl) (by kernel_rfl) (by kernel_rfl) (by kernel_rfl) (fun _ _ _ h => h) (Or.inl ⟨by rfl, ?_⟩) (by assumption) ?_
          rotate_left
          · (intro ww hSw; (try dsimp only at hSw); go_simp; (try with_reducible rfl))
          try simp only [Act.put, List.setIfInBounds_toArray, List.set_cons_zero, List.set_cons_succ]
          refine wpAnyH_take (i := 9) (v := ?_) (by simp only [List.getElem?_toArray, List.getElem?_cons_succ, List.getElem?_cons_zero]; rfl) (by kernel_rfl) (by kernel_rfl) (by kernel_rfl) (fun _ _ _ h => h) (Or.inl ⟨by rfl, ?_⟩) (by assumption) ?_
          rotate_left
          · (intro ww hSw; (try dsimp only at hSw); go_simp; (try with_reducible rfl))
          try simp only [Act.put, List.setIfInBounds_toArray, List.set_cons_zero, List.set_cons_succ]
          refine wpAnyH_ready (rs := [11]) (by kernel_rfl) (by simp) (AllReadyH.cons (by simp only [List.getElem?_toArray, List.getElem?_cons_succ, List.getElem?_cons_zero]; rfl) (fun K hK => ?_) AllReadyH.nil)
          go_simp
          try go_wp2_with fail
          refine hK.out _ _ (by (first | ((with_reducible refine KS.out _ ?_); (iterate 11 with_reducible refine Below.setCell ?_ (by exact Nat.le_refl _) _); with_reducible exact HB9.out))) (fun hHeld => ?_)
          clear hK K
          try simp only [Act.put, List.setIfInBounds_toArray, List.set_cons_zero, List.set_cons_succ]
          refine wpAnyH_take (i := 12) (v := ?_) (by simp only [List.getElem?_toArray, List.getElem?_cons_succ, List.getElem?_cons_zero]; rfl) (by kernel_rfl) (by kernel_rfl) (by kernel_rfl) (fun _ _ _ h => h) (Or.inl ⟨by rfl, ?_⟩) (by assumption) ?_
          rotate_left
          · (intro ww hSw; (try dsimp only at hSw); go_simp; (try with_reducible rfl))
          try simp only [Act.put, List.setIfInBounds_toArray, List.set_cons_zero, List.set_cons_succ]
          refine wpAnyH_done (by kernel_rfl) ?_ _
          refine NoPanic.normal ?_
          clear hHeld cg lg zg
          have BG := Lib.hid (blk_eleven BG0.out (.slice qd.ex x.d.exits.length qd.exc) (.slice qd.pl x.d.players.length qd.plc) (.slice qd.co x.d.coins.length qd.coc) (.slice qd.it x.d.items.length qd.itc) (.slice qd.bo x.d.boxes.length qd.boc) (.int .i64 x.d.room) (.int .i64 x.d.player) (.int .i64 x.d.box) (.slice qa x.at_.length qac) (.slice qk x.coins.length qkc) (.slice qw x.wher.length qwc))
          have BV := Lib.hid (show Below wr.heap.size wr (((((((((((v9.setCell ⟨wr.heap.size, 0, none⟩ (.slice qd.ex x.d.exits.length qd.exc)).setCell ⟨wr.heap.size, 1, none⟩ (.slice qd.pl x.d.players.length qd.plc)).setCell ⟨wr.heap.size, 2, none⟩ (.slice qd.co x.d.coins.length qd.coc)).setCell ⟨wr.heap.size, 3, none⟩ (.slice qd.it x.d.items.length qd.itc)).setCell ⟨wr.heap.size, 4, none⟩ (.slice qd.bo x.d.boxes.length qd.boc)).setCell ⟨wr.heap.size, 5, none⟩ (.int .i64 x.d.room)).setCell ⟨wr.heap.size, 6, none⟩ (.int .i64 x.d.player)).setCell ⟨wr.heap.size, 7, none⟩ (.int .i64 x.d.box)).setCell ⟨wr.heap.size, 8, none⟩ (.slice qa x.at_.length qac)).setCell ⟨wr.heap.size, 9, none⟩ (.slice qk x.coins.length qkc)).setCell ⟨wr.heap.size, 10, none⟩ (.slice qw x.wher.length qwc)) by (iterate 11 refine Below.setCell ?_ (by exact Nat.le_refl _) _); exact HB9.out)
          have YV := Lib.hid (show WorldAt (((((((((((v9.setCell ⟨wr.heap.size, 0, none⟩ (.slice qd.ex x.d.exits.length qd.exc)).setCell ⟨wr.heap.size, 1, none⟩ (.slice qd.pl x.d.players.length qd.plc)).setCell ⟨wr.heap.size, 2, none⟩ (.slice qd.co x.d.coins.length qd.coc)).setCell ⟨wr.heap.size, 3, none⟩ (.slice qd.it x.d.items.length qd.itc)).setCell ⟨wr.heap.size, 4, none⟩ (.slice qd.bo x.d.boxes.length qd.boc)).setCell ⟨wr.heap.size, 5, none⟩ (.int .i64 x.d.room)).setCell ⟨wr.heap.size, 6, none⟩ (.int .i64 x.d.player)).setCell ⟨wr.heap.size, 7, none⟩ (.int .i64 x.d.box)).setCell ⟨wr.heap.size, 8, none⟩ (.slice qa x.at_.length qac)).setCell ⟨wr.heap.size, 9, none⟩ (.slice qk x.coins.length qkc)).setCell ⟨wr.heap.size, 10, none⟩ (.slice qw x.wher.length qwc)) ⟨qd, qa, qac, qk, qkc, qw, qwc⟩ (putW z tn ⟨1, (i : Int)⟩) by (iterate 11 refine WorldAt.set ?_ OG.out _ _); exact Y2.out)
          clear HB9 Y2 BG0 OG
          generalize (((((((((((v9.setCell ⟨wr.heap.size, 0, none⟩ (.slice qd.ex x.d.exits.length qd.exc)).setCell ⟨wr.heap.size, 1, none⟩ (.slice qd.pl x.d.players.length qd.plc)).setCell ⟨wr.heap.size, 2, none⟩ (.slice qd.co x.d.coins.length qd.coc)).setCell ⟨wr.heap.size, 3, none⟩ (.slice qd.it x.d.items.length qd.itc)).setCell ⟨wr.heap.size, 4, none⟩ (.slice qd.bo x.d.boxes.length qd.boc)).setCell ⟨wr.heap.size, 5, none⟩ (.int .i64 x.d.room)).setCell ⟨wr.heap.size, 6, none⟩ (.int .i64 x.d.player)).setCell ⟨wr.heap.size, 7, none⟩ (.int .i64 x.d.box)).setCell ⟨wr.heap.size, 8, none⟩ (.slice qa x.at_.length qac)).setCell ⟨wr.heap.size, 9, none⟩ (.slice qk x.coins.length qkc)).setCell ⟨wr.heap.size, 10, none⟩ (.slice qw x.wher.length qwc)) = VV at *
          obtain ⟨rb, hrb⟩ : ∃ rb, wr.heap.size = rb := ⟨_, rfl⟩
          rw [hrb] at BG ⊢
          clear hrb KS
          have C8 := Lib.hid (HQ8.out.call BV.out)
          have BW := Lib.hid (below_call HBW.out HBW.out.size BV.out)
          have cT1 := Lib.hid (cell_call cT0.out BV.out)
          clear BV
          have cG := BG.out.cell
          have lG := BG.out.lt
          have KS : Hid (∀ w', Below VV.heap.size VV w' → Below VV.heap.size VV w' ∧ (∀ j, w'.cell? ⟨rb, j, none⟩ = (#[.slice qd.ex x.d.exits.length qd.exc, .slice qd.pl x.d.players.length qd.plc, .slice qd.co x.d.coins.length qd.coc, .slice qd.it x.d.items.length qd.itc, .slice qd.bo x.d.boxes.length qd.boc, .int .i64 x.d.room, .int .i64 x.d.player, .int .i64 x.d.box, .slice qa x.at_.length qac, .slice qk x.coins.length qkc, .slice qw x.wher.length qwc][j]? : Option Value)) ∧ w'.cell? ⟨tb, to_ + g, none⟩ = some (.int .i64 (tn : Int))) := Lib.hid (fun w' hb => ⟨hb, fun j => (hb.cell (p := ⟨rb, j, none⟩) lG).trans (cG j), cell_call cT1.out hb⟩)
          go_wp2_with fail
          clear cG lG
          refine wp_region_noPanic ?_
          refine wp_region_held_drew (S := (fun w' => Below VV.heap.size VV w' ∧ (∀ j, w'.cell? ⟨rb, j, none⟩ = (#[.slice qd.ex x.d.exits.length qd.exc, .slice qd.pl x.d.players.length qd.plc, .slice qd.co x.d.coins.length qd.coc, .slice qd.it x.d.items.length qd.itc, .slice qd.bo x.d.boxes.length qd.boc, .int .i64 x.d.room, .int .i64 x.d.player, .int .i64 x.d.box, .slice qa x.at_.length qac, .slice qk x.coins.length qkc, .slice qw x.wher.length qwc][j]? : Option Value)) ∧ w'.cell? ⟨tb, to_ + g, none⟩ = some (.int .i64 (tn : Int)))) (by kernel_rfl) (by (first | (with_reducible exact KS.out _ (bdrew1 (Below.refl _ _))))) (fun hHeld => ?_)
          refine wpAnyH_take (i := 0) (v := ?_) (by simp only [List.getElem?_toArray, List.getElem?_cons_zero]; rfl) (by kernel_rfl) (by kernel_rfl) (by kernel_rfl) (fun _ _ _ h => h) (Or.inl ⟨by rfl, ?_⟩) (by assumption) ?_
          rotate_left
          · (intro ww hSw; (try dsimp only at hSw); go_simp; (try with_reducible rfl))
          try simp only [Act.put, List.setIfInBounds_toArray, List.set_cons_zero, List.set_cons_succ]
          refine wpAnyH_take (i := 1) (v := ?_) (by simp only [List.getElem?_toArray, List.getElem?_cons_succ, List.getElem?_cons_zero]; rfl) (by kernel_rfl) (by kernel_rfl) (by kernel_rfl) (fun _ _ _ h => h) (Or.inl ⟨by rfl, ?_⟩) (by assumption) ?_
          rotate_left
          · (intro ww hSw; (try dsimp only at hSw); go_simp; (try with_reducible rfl))
          try simp only [Act.put, List.setIfInBounds_toArray, List.set_cons_zero, List.set_cons_succ]
          refine wpAnyH_take (i := 2) (v := ?_) (by simp only [List.getElem?_toArray, List.getElem?_cons_succ, List.getElem?_cons_zero]; rfl) (by kernel_rfl) (by kernel_rfl) (by kernel_rfl) (fun _ _ _ h => h) (Or.inl ⟨by rfl, ?_⟩) (by assumption) ?_
          rotate_left
          · (intro ww hSw; (try dsimp only at hSw); go_simp; (try with_reducible rfl))
          try simp only [Act.put, List.setIfInBounds_toArray, List.set_cons_zero, List.set_cons_succ]
          refine wpAnyH_take (i := 3) (v := ?_) (by simp only [List.getElem?_toArray, List.getElem?_cons_succ, List.getElem?_cons_zero]; rfl) (by kernel_rfl) (by kernel_rfl) (by kernel_rfl) (fun _ _ _ h => h) (Or.inl ⟨by rfl, ?_⟩) (by assumption) ?_
          rotate_left
          · (intro ww hSw; (try dsimp only at hSw); go_simp; (try with_reducible rfl))
          try simp only [Act.put, List.setIfInBounds_toArray, List.set_cons_zero, List.set_cons_succ]
          refine wpAnyH_take (i := 4) (v := ?_) (by simp only [List.getElem?_toArray, List.getElem?_cons_succ, List.getElem?_cons_zero]; rfl) (by kernel_rfl) (by kernel_rfl) (by kernel_rfl) (fun _ _ _ h => h) (Or.inl ⟨by rfl, ?_⟩) (by assumption) ?_
          rotate_left
          · (intro ww hSw; (try dsimp only at hSw); go_simp; (try with_reducible rfl))
          try simp only [Act.put, List.setIfInBounds_toArray, List.set_cons_zero, List.set_cons_succ]
          refine wpAnyH_take (i := 5) (v := ?_) (by simp only [List.getElem?_toArray, List.getElem?_cons_succ, List.getElem?_cons_zero]; rfl) (by kernel_rfl) (by kernel_rfl) (by kernel_rfl) (fun _ _ _ h => h) (Or.inl ⟨by rfl, ?_⟩) (by assumption) ?_
          rotate_left
          · (intro ww hSw; (try dsimp only at hSw); go_simp; (try with_reducible rfl))
          try simp only [Act.put, List.setIfInBounds_toArray, List.set_cons_zero, List.set_cons_succ]
          refine wpAnyH_ready (rs := [6, 10]) (by kernel_rfl) (by simp) (AllReadyH.cons (by simp only [List.getElem?_toArray, List.getElem?_cons_succ, List.getElem?_cons_zero]; rfl) (fun K hK => ?_) (AllReadyH.cons (by simp only [List.getElem?_toArray, List.getElem?_cons_succ, List.getElem?_cons_zero]; rfl) (fun K hK => ?_) AllReadyH.nil))
          · skip
            go_simp
            go_at_call 10; with_reducible refine (get_as SY.out ⟨qd, qa, qac, qk, qkc, qw, qwc⟩ k tn _ HGY.out (YV.out.below hHeld.1 (Nat.le_refl _)) HKY.out HAW.out).mono ?_; rintro e7 v7 ⟨⟨ed, ea, eac, ek, ekc, ew, ewc⟩, rfl, -, hb9⟩; have HB9 := Lib.hid (below_call hHeld.1 hHeld.1.size hb9); clear hb9
            try go_wp2_with fail
            refine hK.out _ _ (by (first | (with_reducible exact KS.out _ HB9.out))) (fun hHeld => ?_)
            clear hK K
            try simp only [Act.put, List.setIfInBounds_toArray, List.set_cons_zero, List.set_cons_succ]
            refine wpAnyH_take (i := 7) (v := ?_) (by simp only [List.getElem?_toArray, List.getElem?_cons_succ, List.getElem?_cons_zero]; rfl) (by kernel_rfl) (by kernel_rfl) (by kernel_rfl) (fun _ _ _ h => h) (Or.inl ⟨by rfl, ?_⟩) (by assumption) ?_
            rotate_left
            · (intro ww hSw; (try dsimp only at hSw); go_simp; (try with_reducible rfl))
            try simp only [Act.put, List.setIfInBounds_toArray, List.set_cons_zero, List.set_cons_succ]
            refine wpAnyH_take (i := 8) (v := ?_) (by simp only [List.getElem?_toArray, List.getElem?_cons_succ, List.getElem?_cons_zero]; rfl) (by kernel_rfl) (by kernel_rfl) (by kernel_rfl) (fun _ _ _ h => h) (Or.inl ⟨by rfl, ?_⟩) (by assumption) ?_
            rotate_left
            · (intro ww hSw; (try dsimp only at hSw); go_simp; (try with_reducible rfl))
            try simp only [Act.put, List.setIfInBounds_toArray, List.set_cons_zero, List.set_cons_succ]
            refine wpAnyH_take (i := 9) (v := ?_) (by simp only [List.getElem?_toArray, List.getElem?_cons_succ, List.getElem?_cons_zero]; rfl) (by kernel_rfl) (by kernel_rfl) (by kernel_rfl) (fun _ _ _ h => h) (Or.inl ⟨by rfl, ?_⟩) (by assumption) ?_
            rotate_left
            · (intro ww hSw; (try dsimp only at hSw); go_simp; (try with_reducible rfl))
            try simp only [Act.put, List.setIfInBounds_toArray, List.set_cons_zero, List.set_cons_succ]
            refine wpAnyH_ready (rs := [10]) (by kernel_rfl) (by simp) (AllReadyH.cons (by simp only [List.getElem?_toArray, List.getElem?_cons_succ, List.getElem?_cons_zero]; rfl) (fun K hK => ?_) AllReadyH.nil)
            go_simp
            try go_wp2_with fail
            refine hK.out _ _ (by (first | (with_reducible exact KS.out _ (Below.alloc HB9.out HB9.out.size _)))) (fun hHeld => ?_)
            clear hK K
            try simp only [Act.put, List.setIfInBounds_toArray, List.set_cons_zero, List.set_cons_succ]
            refine wpAnyH_ready (rs := [11]) (by kernel_rfl) (by simp) (AllReadyH.cons (by simp only [List.getElem?_toArray, List.getElem?_cons_succ, List.getElem?_cons_zero]; rfl) (fun K hK => ?_) AllReadyH.nil)
            go_simp
            try go_wp2_with fail
            refine hK.out _ _ (by (first | (with_reducible exact KS.out _ (Below.alloc HB9.out HB9.out.size _)))) (fun hHeld => ?_)
            clear hK K
            try simp only [Act.put, List.setIfInBounds_toArray, List.set_cons_zero, List.set_cons_succ]
            refine wpAnyH_take (i := 12) (v := ?_) (by simp only [List.getElem?_toArray, List.getElem?_cons_succ, List.getElem?_cons_zero]; rfl) (by kernel_rfl) (by kernel_rfl) (by kernel_rfl) (fun _ _ _ h => h) (Or.inl ⟨by rfl, ?_⟩) (by assumption) ?_
            rotate_left
            · (intro ww hSw; (try dsimp only at hSw); go_simp; (try with_reducible rfl))
            try simp only [Act.put, List.setIfInBounds_toArray, List.set_cons_zero, List.set_cons_succ]
            refine wpAnyH_done (by kernel_rfl) ?_ _
            refine NoPanic.normal ?_
            clear hHeld KS
            have BV2 := Lib.hid (Below.alloc HB9.out HB9.out.size (.cells #[.slice ed.ex x.d.exits.length ed.exc, .slice ed.pl x.d.players.length ed.plc, .slice ed.co x.d.coins.length ed.coc, .slice ed.it x.d.items.length ed.itc, .slice ed.bo x.d.boxes.length ed.boc, .int .i64 x.d.room, .int .i64 x.d.player, .int .i64 x.d.box, .slice ea x.at_.length eac, .slice ek x.coins.length ekc, .slice ew x.wher.length ewc] 29))
            clear HB9
            generalize v7.alloc (.cells #[.slice ed.ex x.d.exits.length ed.exc, .slice ed.pl x.d.players.length ed.plc, .slice ed.co x.d.coins.length ed.coc, .slice ed.it x.d.items.length ed.itc, .slice ed.bo x.d.boxes.length ed.boc, .int .i64 x.d.room, .int .i64 x.d.player, .int .i64 x.d.box, .slice ea x.at_.length eac, .slice ek x.coins.length ekc, .slice ew x.wher.length ewc] 29) = V7 at *
            have BG7 := Lib.hid (BG.out.call BV2.out)
            have C87 := Lib.hid (C8.out.call BV2.out)
            have BW7 := Lib.hid (below_call BW.out BW.out.size BV2.out)
            have YV7 := Lib.hid (YV.out.call BV2.out)
            clear BG C8 BW YV BV2
            have cG := BG7.out.cell
            have lG := BG7.out.lt
            have c8 := C87.out.cell
            have l8 := C87.out.lt
            have z8 := C87.out.frozen
            go_wp2_with fail
            go_roundw
            case rel =>
              refine ⟨g + 1, g + 1, by omega, by go_num, by go_num, by omega, ⟨qd, qa, qac, qk, qkc, qw, qwc⟩, _, by rw [show min (g + 1) Rn = g + 1 by omega]; exact GN.out, ?_, ?_, ?_, O2.out⟩
              · (iterate 11 refine Below.setCell ?_ (by exact N8.out) _)
                exact BW7.out
              · exact blk_eleven C87.out _ _ _ _ _ _ _ _ _ _ _
              · (iterate 11 refine WorldAt.set ?_ O2.out _ _)
                exact YV7.out
            case measure => simp [intOf]; omega
          · skip
            go_simp
            try go_wp2_with fail
            refine hK.out _ _ (by (first | (with_reducible exact KS.out _ (bdrew1 (Below.alloc (Below.refl _ _) (Nat.le_refl _) _))))) (fun hHeld => ?_)
            clear hK K
            try simp only [Act.put, List.setIfInBounds_toArray, List.set_cons_zero, List.set_cons_succ]
            refine wpAnyH_ready (rs := [6]) (by kernel_rfl) (by simp) (AllReadyH.cons (by simp only [List.getElem?_toArray, List.getElem?_cons_succ, List.getElem?_cons_zero]; rfl) (fun K hK => ?_) AllReadyH.nil)
            go_simp
            go_at_call 10; with_reducible refine (get_as SY.out ⟨qd, qa, qac, qk, qkc, qw, qwc⟩ k tn _ HGY.out (YV.out.below hHeld.1 (Nat.le_refl _)) HKY.out HAW.out).mono ?_; rintro e7 v7 ⟨⟨ed, ea, eac, ek, ekc, ew, ewc⟩, rfl, -, hb9⟩; have HB9 := Lib.hid (below_call hHeld.1 hHeld.1.size hb9); have BG0 := Lib.hid (show Blk v7 VV.heap.size 29 #[.slice none 0 0, .slice none 0 0, .slice none 0 0, .slice none 0 0, .slice none 0 0, .int .i64 0, .int .i64 0, .int .i64 0, .slice none 0 0, .slice none 0 0, .slice none 0 0] from (Blk.new VV 29 #[.slice none 0 0, .slice none 0 0, .slice none 0 0, .slice none 0 0, .slice none 0 0, .int .i64 0, .int .i64 0, .int .i64 0, .slice none 0 0, .slice none 0 0, .slice none 0 0]).drew.call hb9); have cg := BG0.out.cell; have lg := BG0.out.lt; have zg := BG0.out.frozen; clear hb9
            try go_wp2_with fail
            refine hK.out _ _ (by (first | (with_reducible exact KS.out _ HB9.out))) (fun hHeld => ?_)
            clear hK K
            try simp only [Act.put, List.setIfInBounds_toArray, List.set_cons_zero, List.set_cons_succ]
            refine wpAnyH_take (i := 7) (v := ?_) (by simp only [List.getElem?_toArray, List.getElem?_cons_succ, List.getElem?_cons_zero]; rfl) (by kernel_rfl) (by kernel_rfl) (by kernel_rfl) (fun _ _ _ h => h) (Or.inl ⟨by rfl, ?_⟩) (by assumption) ?_
            rotate_left
            · (intro ww hSw; (try dsimp only at hSw); go_simp; (try with_reducible rfl))
            try simp only [Act.put, List.setIfInBounds_toArray, List.set_cons_zero, List.set_cons_succ]
            refine wpAnyH_take (i := 8) (v := ?_) (by simp only [List.getElem?_toArray, List.getElem?_cons_succ, List.getElem?_cons_zero]; rfl) (by kernel_rfl) (by kernel_rfl) (by kernel_rfl) (fun _ _ _ h => h) (Or.inl ⟨by rfl, ?_⟩) (by assumption) ?_
            rotate_left
            · (intro ww hSw; (try dsimp only at hSw); go_simp; (try with_reducible rfl))
            try simp only [Act.put, List.setIfInBounds_toArray, List.set_cons_zero, List.set_cons_succ]
            refine wpAnyH_take (i := 9) (v := ?_) (by simp only [List.getElem?_toArray, List.getElem?_cons_succ, List.getElem?_cons_zero]; rfl) (by kernel_rfl) (by kernel_rfl) (by kernel_rfl) (fun _ _ _ h => h) (Or.inl ⟨by rfl, ?_⟩) (by assumption) ?_
            rotate_left
            · (intro ww hSw; (try dsimp only at hSw); go_simp; (try with_reducible rfl))
            try simp only [Act.put, List.setIfInBounds_toArray, List.set_cons_zero, List.set_cons_succ]
            refine wpAnyH_ready (rs := [11]) (by kernel_rfl) (by simp) (AllReadyH.cons (by simp only [List.getElem?_toArray, List.getElem?_cons_succ, List.getElem?_cons_zero]; rfl) (fun K hK => ?_) AllReadyH.nil)
            go_simp
            try go_wp2_with fail
            refine hK.out _ _ (by (first | ((with_reducible refine KS.out _ ?_); (iterate 11 with_reducible refine Below.setCell ?_ (by exact Nat.le_refl _) _); with_reducible exact HB9.out))) (fun hHeld => ?_)
            clear hK K
            try simp only [Act.put, List.setIfInBounds_toArray, List.set_cons_zero, List.set_cons_succ]
            refine wpAnyH_take (i := 12) (v := ?_) (by simp only [List.getElem?_toArray, List.getElem?_cons_succ, List.getElem?_cons_zero]; rfl) (by kernel_rfl) (by kernel_rfl) (by kernel_rfl) (fun _ _ _ h => h) (Or.inl ⟨by rfl, ?_⟩) (by assumption) ?_
            rotate_left
            · (intro ww hSw; (try dsimp only at hSw); go_simp; (try with_reducible rfl))
            try simp only [Act.put, List.setIfInBounds_toArray, List.set_cons_zero, List.set_cons_succ]
            refine wpAnyH_done (by kernel_rfl) ?_ _
            refine NoPanic.normal ?_
            clear hHeld cg lg zg KS
            have BV2 := Lib.hid (show Below VV.heap.size VV (((((((((((v7.setCell ⟨VV.heap.size, 0, none⟩ (.slice ed.ex x.d.exits.length ed.exc)).setCell ⟨VV.heap.size, 1, none⟩ (.slice ed.pl x.d.players.length ed.plc)).setCell ⟨VV.heap.size, 2, none⟩ (.slice ed.co x.d.coins.length ed.coc)).setCell ⟨VV.heap.size, 3, none⟩ (.slice ed.it x.d.items.length ed.itc)).setCell ⟨VV.heap.size, 4, none⟩ (.slice ed.bo x.d.boxes.length ed.boc)).setCell ⟨VV.heap.size, 5, none⟩ (.int .i64 x.d.room)).setCell ⟨VV.heap.size, 6, none⟩ (.int .i64 x.d.player)).setCell ⟨VV.heap.size, 7, none⟩ (.int .i64 x.d.box)).setCell ⟨VV.heap.size, 8, none⟩ (.slice ea x.at_.length eac)).setCell ⟨VV.heap.size, 9, none⟩ (.slice ek x.coins.length ekc)).setCell ⟨VV.heap.size, 10, none⟩ (.slice ew x.wher.length ewc)) by (iterate 11 refine Below.setCell ?_ (by exact Nat.le_refl _) _); exact HB9.out)
            clear HB9 BG0
            generalize (((((((((((v7.setCell ⟨VV.heap.size, 0, none⟩ (.slice ed.ex x.d.exits.length ed.exc)).setCell ⟨VV.heap.size, 1, none⟩ (.slice ed.pl x.d.players.length ed.plc)).setCell ⟨VV.heap.size, 2, none⟩ (.slice ed.co x.d.coins.length ed.coc)).setCell ⟨VV.heap.size, 3, none⟩ (.slice ed.it x.d.items.length ed.itc)).setCell ⟨VV.heap.size, 4, none⟩ (.slice ed.bo x.d.boxes.length ed.boc)).setCell ⟨VV.heap.size, 5, none⟩ (.int .i64 x.d.room)).setCell ⟨VV.heap.size, 6, none⟩ (.int .i64 x.d.player)).setCell ⟨VV.heap.size, 7, none⟩ (.int .i64 x.d.box)).setCell ⟨VV.heap.size, 8, none⟩ (.slice ea x.at_.length eac)).setCell ⟨VV.heap.size, 9, none⟩ (.slice ek x.coins.length ekc)).setCell ⟨VV.heap.size, 10, none⟩ (.slice ew x.wher.length ewc)) = V7 at *
            have BG7 := Lib.hid (BG.out.call BV2.out)
            have C87 := Lib.hid (C8.out.call BV2.out)
            have BW7 := Lib.hid (below_call BW.out BW.out.size BV2.out)
            have YV7 := Lib.hid (YV.out.call BV2.out)
            clear BG C8 BW YV BV2
            have cG := BG7.out.cell
            have lG := BG7.out.lt
            have c8 := C87.out.cell
            have l8 := C87.out.lt
            have z8 := C87.out.frozen
            go_wp2_with fail
            go_roundw
            case rel =>
              refine ⟨g + 1, g + 1, by omega, by go_num, by go_num, by omega, ⟨qd, qa, qac, qk, qkc, qw, qwc⟩, _, by rw [show min (g + 1) Rn = g + 1 by omega]; exact GN.out, ?_, ?_, ?_, O2.out⟩
              · (iterate 11 refine Below.setCell ?_ (by exact N8.out) _)
                exact BW7.out
              · exact blk_eleven C87.out _ _ _ _ _ _ _ _ _ _ _
              · (iterate 11 refine WorldAt.set ?_ O2.out _ _)
                exact YV7.out
            case measure => simp [intOf]; omega
      · have hgn : g = Rn := by have := HGM.out; omega
        have hmin : min n Rn = Rn := by omega
        have GT := HG.out
        rw [hmin] at GT
        have FULL := GT.full TL.out.1 (by rw [HRN.out]) hlt (by omega)
        rw [htn] at FULL cT TN
        have HR := Lib.hid FULL
        have GN := Lib.hid (show Gt x i T (min (n + 1) Rn) z by rw [show min (n + 1) Rn = Rn by omega]; exact GT)
        subst hgn
        have hltr : ¬ (g : Int) < (g : Int) := by omega
        clear GT FULL hmin
        have cT0 := Lib.hid cT
        have KS : Hid (∀ w', Below wr.heap.size wr w' → Below wr.heap.size wr w' ∧ (∀ j, w'.cell? ⟨b8, j, none⟩ = (#[.slice q.d.ex x.d.exits.length q.d.exc, .slice q.d.pl x.d.players.length q.d.plc, .slice q.d.co x.d.coins.length q.d.coc, .slice q.d.it x.d.items.length q.d.itc, .slice q.d.bo x.d.boxes.length q.d.boc, .int .i64 x.d.room, .int .i64 x.d.player, .int .i64 x.d.box, .slice q.at_ x.at_.length q.atc, .slice q.co x.coins.length q.coc, .slice q.wh x.wher.length q.whc][j]? : Option Value)) ∧ w'.cell? ⟨tb, to_ + n, none⟩ = some (.int .i64 (tn : Int))) := Lib.hid (fun w' hb => ⟨hb, fun j => (hb.cell (p := ⟨b8, j, none⟩) l8).trans (c8 j), cell_call cT hb⟩)
        have L8 := Lib.hid l8
        go_wp2_with fail
        clear c8 l8 cT
        refine wp_region_noPanic ?_
        refine wp_region_held_drew (S := (fun w' => Below wr.heap.size wr w' ∧ (∀ j, w'.cell? ⟨b8, j, none⟩ = (#[.slice q.d.ex x.d.exits.length q.d.exc, .slice q.d.pl x.d.players.length q.d.plc, .slice q.d.co x.d.coins.length q.d.coc, .slice q.d.it x.d.items.length q.d.itc, .slice q.d.bo x.d.boxes.length q.d.boc, .int .i64 x.d.room, .int .i64 x.d.player, .int .i64 x.d.box, .slice q.at_ x.at_.length q.atc, .slice q.co x.coins.length q.coc, .slice q.wh x.wher.length q.whc][j]? : Option Value)) ∧ w'.cell? ⟨tb, to_ + n, none⟩ = some (.int .i64 (tn : Int)))) (by kernel_rfl) (by (first | (with_reducible exact KS.out _ (bdrew1 (Below.refl _ _))))) (fun hHeld => ?_)
        refine wpAnyH_take (i := 0) (v := ?_) (by simp only [List.getElem?_toArray, List.getElem?_cons_zero]; rfl) (by kernel_rfl) (by kernel_rfl) (by kernel_rfl) (fun _ _ _ h => h) (Or.inl ⟨by rfl, ?_⟩) (by assumption) ?_
        rotate_left
        · (intro ww hSw; (try dsimp only at hSw); go_simp; (try with_reducible rfl))
        try simp only [Act.put, List.setIfInBounds_toArray, List.set_cons_zero, List.set_cons_succ]
        refine wpAnyH_take (i := 1) (v := ?_) (by simp only [List.getElem?_toArray, List.getElem?_cons_succ, List.getElem?_cons_zero]; rfl) (by kernel_rfl) (by kernel_rfl) (by kernel_rfl) (fun _ _ _ h => h) (Or.inl ⟨by rfl, ?_⟩) (by assumption) ?_
        rotate_left
        · (intro ww hSw; (try dsimp only at hSw); go_simp; (try with_reducible rfl))
        try simp only [Act.put, List.setIfInBounds_toArray, List.set_cons_zero, List.set_cons_succ]
        refine wpAnyH_take (i := 2) (v := ?_) (by simp only [List.getElem?_toArray, List.getElem?_cons_succ, List.getElem?_cons_zero]; rfl) (by kernel_rfl) (by kernel_rfl) (by kernel_rfl) (fun _ _ _ h => h) (Or.inl ⟨by rfl, ?_⟩) (by assumption) ?_
        rotate_left
        · (intro ww hSw; (try dsimp only at hSw); go_simp; (try with_reducible rfl))
        try simp only [Act.put, List.setIfInBounds_toArray, List.set_cons_zero, List.set_cons_succ]
        refine wpAnyH_take (i := 3) (v := ?_) (by simp only [List.getElem?_toArray, List.getElem?_cons_succ, List.getElem?_cons_zero]; rfl) (by kernel_rfl) (by kernel_rfl) (by kernel_rfl) (fun _ _ _ h => h) (Or.inl ⟨by rfl, ?_⟩) (by assumption) ?_
        rotate_left
        · (intro ww hSw; (try dsimp only at hSw); go_simp; (try with_reducible rfl))
        try simp only [Act.put, List.setIfInBounds_toArray, List.set_cons_zero, List.set_cons_succ]
        refine wpAnyH_take (i := 4) (v := ?_) (by simp only [List.getElem?_toArray, List.getElem?_cons_succ, List.getElem?_cons_zero]; rfl) (by kernel_rfl) (by kernel_rfl) (by kernel_rfl) (fun _ _ _ h => h) (Or.inl ⟨by rfl, ?_⟩) (by assumption) ?_
        rotate_left
        · (intro ww hSw; (try dsimp only at hSw); go_simp; (try with_reducible rfl))
        try simp only [Act.put, List.setIfInBounds_toArray, List.set_cons_zero, List.set_cons_succ]
        refine wpAnyH_take (i := 5) (v := ?_) (by simp only [List.getElem?_toArray, List.getElem?_cons_succ, List.getElem?_cons_zero]; rfl) (by kernel_rfl) (by kernel_rfl) (by kernel_rfl) (fun _ _ _ h => h) (Or.inl ⟨by rfl, ?_⟩) (by assumption) ?_
        rotate_left
        · (intro ww hSw; (try dsimp only at hSw); go_simp; (try with_reducible rfl))
        try simp only [Act.put, List.setIfInBounds_toArray, List.set_cons_zero, List.set_cons_succ]
        refine wpAnyH_ready (rs := [6, 10]) (by kernel_rfl) (by simp) (AllReadyH.cons (by simp only [List.getElem?_toArray, List.getElem?_cons_succ, List.getElem?_cons_zero]; rfl) (fun K hK => ?_) (AllReadyH.cons (by simp only [List.getElem?_toArray, List.getElem?_cons_succ, List.getElem?_cons_zero]; rfl) (fun K hK => ?_) AllReadyH.nil))
        · skip
          go_simp
          go_at_call 10; with_reducible refine (get_off SZ.out q i tn _ HZ.out (HY.out.below hHeld.1 (Nat.le_refl _)) HIZ.out z 9 HR.out).mono ?_; rintro e9 v9 ⟨⟨qd, qa, qac, qk, qkc, qw, qwc⟩, rfl, y2, o2, hb9⟩; have HB9 := Lib.hid (below_call hHeld.1 hHeld.1.size hb9); have Y2 := Lib.hid y2; have O2 := Lib.hid (o2 b8 (Nat.lt_of_lt_of_le L8.out hHeld.1.size) HO.out); clear y2 o2 hb9
          try go_wp2_with fail
          refine hK.out _ _ (by (first | (with_reducible exact KS.out _ HB9.out))) (fun hHeld => ?_)
          clear hK K
          try simp only [Act.put, List.setIfInBounds_toArray, List.set_cons_zero, List.set_cons_succ]
          refine wpAnyH_take (i := 7) (v := ?_) (by simp only [List.getElem?_toArray, List.getElem?_cons_succ, List.getElem?_cons_zero]; rfl) (by kernel_rfl) (by kernel_rfl) (by kernel_rfl) (fun _ _ _ h => h) (Or.inl ⟨by rfl, ?_⟩) (by assumption) ?_
          rotate_left
          · (intro ww hSw; (try dsimp only at hSw); go_simp; (try with_reducible rfl))
          try simp only [Act.put, List.setIfInBounds_toArray, List.set_cons_zero, List.set_cons_succ]
          refine wpAnyH_take (i := 8) (v := ?_) (by simp only [List.getElem?_toArray, List.getElem?_cons_succ, List.getElem?_cons_zero]; rfl) (by kernel_rfl) (by kernel_rfl) (by kernel_rfl) (fun _ _ _ h => h) (Or.inl ⟨by rfl, ?_⟩) (by assumption) ?_
          rotate_left
          · (intro ww hSw; (try dsimp only at hSw); go_simp; (try with_reducible rfl))
          try simp only [Act.put, List.setIfInBounds_toArray, List.set_cons_zero, List.set_cons_succ]
          refine wpAnyH_take (i := 9) (v := ?_) (by simp only [List.getElem?_toArray, List.getElem?_cons_succ, List.getElem?_cons_zero]; rfl) (by kernel_rfl) (by kernel_rfl) (by kernel_rfl) (fun _ _ _ h => h) (Or.inl ⟨by rfl, ?_⟩) (by assumption) ?_
          rotate_left
          · (intro ww hSw; (try dsimp only at hSw); go_simp; (try with_reducible rfl))
          try simp only [Act.put, List.setIfInBounds_toArray, List.set_cons_zero, List.set_cons_succ]
          refine wpAnyH_ready (rs := [10]) (by kernel_rfl) (by simp) (AllReadyH.cons (by simp only [List.getElem?_toArray, List.getElem?_cons_succ, List.getElem?_cons_zero]; rfl) (fun K hK => ?_) AllReadyH.nil)
          go_simp
          try go_wp2_with fail
          refine hK.out _ _ (by (first | (with_reducible exact KS.out _ (Below.alloc HB9.out HB9.out.size _)))) (fun hHeld => ?_)
          clear hK K
          try simp only [Act.put, List.setIfInBounds_toArray, List.set_cons_zero, List.set_cons_succ]
          refine wpAnyH_ready (rs := [11]) (by kernel_rfl) (by simp) (AllReadyH.cons (by simp only [List.getElem?_toArray, List.getElem?_cons_succ, List.getElem?_cons_zero]; rfl) (fun K hK => ?_) AllReadyH.nil)
          go_simp
          try go_wp2_with fail
          refine hK.out _ _ (by (first | (with_reducible exact KS.out _ (Below.alloc HB9.out HB9.out.size _)))) (fun hHeld => ?_)
          clear hK K
          try simp only [Act.put, List.setIfInBounds_toArray, List.set_cons_zero, List.set_cons_succ]
          refine wpAnyH_take (i := 12) (v := ?_) (by simp only [List.getElem?_toArray, List.getElem?_cons_succ, List.getElem?_cons_zero]; rfl) (by kernel_rfl) (by kernel_rfl) (by kernel_rfl) (fun _ _ _ h => h) (Or.inl ⟨by rfl, ?_⟩) (by assumption) ?_
          rotate_left
          · (intro ww hSw; (try dsimp only at hSw); go_simp; (try with_reducible rfl))
          try simp only [Act.put, List.setIfInBounds_toArray, List.set_cons_zero, List.set_cons_succ]
          refine wpAnyH_done (by kernel_rfl) ?_ _
          refine NoPanic.normal ?_
          clear hHeld
          have BG := Lib.hid (Blk.new v9 29 #[.slice qd.ex x.d.exits.length qd.exc, .slice qd.pl x.d.players.length qd.plc, .slice qd.co x.d.coins.length qd.coc, .slice qd.it x.d.items.length qd.itc, .slice qd.bo x.d.boxes.length qd.boc, .int .i64 x.d.room, .int .i64 x.d.player, .int .i64 x.d.box, .slice qa x.at_.length qac, .slice qk x.coins.length qkc, .slice qw x.wher.length qwc])
          have BV := Lib.hid (Below.alloc HB9.out HB9.out.size (.cells #[.slice qd.ex x.d.exits.length qd.exc, .slice qd.pl x.d.players.length qd.plc, .slice qd.co x.d.coins.length qd.coc, .slice qd.it x.d.items.length qd.itc, .slice qd.bo x.d.boxes.length qd.boc, .int .i64 x.d.room, .int .i64 x.d.player, .int .i64 x.d.box, .slice qa x.at_.length qac, .slice qk x.coins.length qkc, .slice qw x.wher.length qwc] 29))
          have YV := Lib.hid (Y2.out.call ((Below.refl _ _).alloc (Nat.le_refl _) (.cells #[.slice qd.ex x.d.exits.length qd.exc, .slice qd.pl x.d.players.length qd.plc, .slice qd.co x.d.coins.length qd.coc, .slice qd.it x.d.items.length qd.itc, .slice qd.bo x.d.boxes.length qd.boc, .int .i64 x.d.room, .int .i64 x.d.player, .int .i64 x.d.box, .slice qa x.at_.length qac, .slice qk x.coins.length qkc, .slice qw x.wher.length qwc] 29)))
          clear HB9 Y2
          generalize v9.alloc (.cells #[.slice qd.ex x.d.exits.length qd.exc, .slice qd.pl x.d.players.length qd.plc, .slice qd.co x.d.coins.length qd.coc, .slice qd.it x.d.items.length qd.itc, .slice qd.bo x.d.boxes.length qd.boc, .int .i64 x.d.room, .int .i64 x.d.player, .int .i64 x.d.box, .slice qa x.at_.length qac, .slice qk x.coins.length qkc, .slice qw x.wher.length qwc] 29) = VV at *
          obtain ⟨rb, hrb⟩ : ∃ rb, v9.heap.size = rb := ⟨_, rfl⟩
          rw [hrb] at BG ⊢
          clear hrb KS
          have C8 := Lib.hid (HQ8.out.call BV.out)
          have BW := Lib.hid (below_call HBW.out HBW.out.size BV.out)
          have cT1 := Lib.hid (cell_call cT0.out BV.out)
          clear BV
          have cG := BG.out.cell
          have lG := BG.out.lt
          have c8 := C8.out.cell
          have l8 := C8.out.lt
          have z8 := C8.out.frozen
          go_wp2_with fail
          go_roundw
          case rel =>
            refine ⟨n + 1, g, by omega, by go_num, by go_num, by omega, ⟨qd, qa, qac, qk, qkc, qw, qwc⟩, z, GN.out, ?_, ?_, ?_, O2.out⟩
            · (iterate 11 refine Below.setCell ?_ (by exact N8.out) _)
              exact BW.out
            · exact blk_eleven C8.out _ _ _ _ _ _ _ _ _ _ _
            · (iterate 11 refine WorldAt.set ?_ O2.out _ _)
              exact YV.out
          case measure => simp [intOf]; omega
        · skip
          go_simp
          try go_wp2_with fail
          refine hK.out _ _ (by (first | (with_reducible exact KS.out _ (bdrew1 (Below.alloc (Below.refl _ _) (Nat.le_refl _) _))))) (fun hHeld => ?_)
          clear hK K
          try simp only [Act.put, List.setIfInBounds_toArray, List.set_cons_zero, List.set_cons_succ]
          refine wpAnyH_ready (rs := [6]) (by kernel_rfl) (by simp) (AllReadyH.cons (by simp only [List.getElem?_toArray, List.getElem?_cons_succ, List.getElem?_cons_zero]; rfl) (fun K hK => ?_) AllReadyH.nil)
          go_simp
          go_at_call 10; with_reducible refine (get_off SZ.out q i tn _ HZ.out (HY.out.below hHeld.1 (Nat.le_refl _)) HIZ.out z 9 HR.out).mono ?_; rintro e9 v9 ⟨⟨qd, qa, qac, qk, qkc, qw, qwc⟩, rfl, y2, o2, hb9⟩; have HB9 := Lib.hid (below_call hHeld.1 hHeld.1.size hb9); have Y2 := Lib.hid y2; have O2 := Lib.hid (o2 b8 (Nat.lt_of_lt_of_le L8.out hHeld.1.size) HO.out); have BG0 := Lib.hid (show Blk v9 wr.heap.size 29 #[.slice none 0 0, .slice none 0 0, .slice none 0 0, .slice none 0 0, .slice none 0 0, .int .i64 0, .int .i64 0, .int .i64 0, .slice none 0 0, .slice none 0 0, .slice none 0 0] from (Blk.new wr 29 #[.slice none 0 0, .slice none 0 0, .slice none 0 0, .slice none 0 0, .slice none 0 0, .int .i64 0, .int .i64 0, .int .i64 0, .slice none 0 0, .slice none 0 0, .slice none 0 0]).drew.call hb9); have OG := Lib.hid (o2 wr.heap.size (Blk.new wr 29 #[.slice none 0 0, .slice none 0 0, .slice none 0 0, .slice none 0 0, .slice none 0 0, .int .i64 0, .int .i64 0, .int .i64 0, .slice none 0 0, .slice none 0 0, .slice none 0 0]).drew.lt (HY.out.out (Nat.le_refl _))); have cg := BG0.out.cell; have lg := BG0.out.lt; have zg := BG0.out.frozen; clear y2 o2 hb9
          try go_wp2_with fail
          refine hK.out _ _ (by (first | (with_reducible exact KS.out _ HB9.out))) (fun hHeld => ?_)
          clear hK K
          try simp only [Act.put, List.setIfInBounds_toArray, List.set_cons_zero, List.set_cons_succ]
          refine wpAnyH_take (i := 7) (v := ?_) (by simp only [List.getElem?_toArray, List.getElem?_cons_succ, List.getElem?_cons_zero]; rfl) (by kernel_rfl) (by kernel_rfl) (by kernel_rfl) (fun _ _ _ h => h) (Or.inl ⟨by rfl, ?_⟩) (by assumption) ?_
          rotate_left
          · (intro ww hSw; (try dsimp only at hSw); go_simp; (try with_reducible rfl))
          try simp only [Act.put, List.setIfInBounds_toArray, List.set_cons_zero, List.set_cons_succ]
          refine wpAnyH_take (i := 8) (v := ?_) (by simp only [List.getElem?_toArray, List.getElem?_cons_succ, List.getElem?_cons_zero]; rfl) (by kernel_rfl) (by kernel_rfl) (by kernel_rfl) (fun _ _ _ h => h) (Or.inl ⟨by rfl, ?_⟩) (by assumption) ?_
          rotate_left
          · (intro ww hSw; (try dsimp only at hSw); go_simp; (try with_reducible rfl))
          try simp only [Act.put, List.setIfInBounds_toArray, List.set_cons_zero, List.set_cons_succ]
          refine wpAnyH_take (i := 9) (v := ?_) (by simp only [List.getElem?_toArray, List.getElem?_cons_succ, List.getElem?_cons_zero]; rfl) (by kernel_rfl) (by kernel_rfl) (by kernel_rfl) (fun _ _ _ h => h) (Or.inl ⟨by rfl, ?_⟩) (by assumption) ?_
          rotate_left
          · (intro ww hSw; (try dsimp only at hSw); go_simp; (try with_reducible rfl))
          try simp only [Act.put, List.setIfInBounds_toArray, List.set_cons_zero, List.set_cons_succ]
          refine wpAnyH_ready (rs := [11]) (by kernel_rfl) (by simp) (AllReadyH.cons (by simp only [List.getElem?_toArray, List.getElem?_cons_succ, List.getElem?_cons_zero]; rfl) (fun K hK => ?_) AllReadyH.nil)
          go_simp
          try go_wp2_with fail
          refine hK.out _ _ (by (first | ((with_reducible refine KS.out _ ?_); (iterate 11 with_reducible refine Below.setCell ?_ (by exact Nat.le_refl _) _); with_reducible exact HB9.out))) (fun hHeld => ?_)
          clear hK K
          try simp only [Act.put, List.setIfInBounds_toArray, List.set_cons_zero, List.set_cons_succ]
          refine wpAnyH_take (i := 12) (v := ?_) (by simp only [List.getElem?_toArray, List.getElem?_cons_succ, List.getElem?_cons_zero]; rfl) (by kernel_rfl) (by kernel_rfl) (by kernel_rfl) (fun _ _ _ h => h) (Or.inl ⟨by rfl, ?_⟩) (by assumption) ?_
          rotate_left
          · (intro ww hSw; (try dsimp only at hSw); go_simp; (try with_reducible rfl))
          try simp only [Act.put, List.setIfInBounds_toArray, List.set_cons_zero, List.set_cons_succ]
          refine wpAnyH_done (by kernel_rfl) ?_ _
          refine NoPanic.normal ?_
          clear hHeld cg lg zg
          have BG := Lib.hid (blk_eleven BG0.out (.slice qd.ex x.d.exits.length qd.exc) (.slice qd.pl x.d.players.length qd.plc) (.slice qd.co x.d.coins.length qd.coc) (.slice qd.it x.d.items.length qd.itc) (.slice qd.bo x.d.boxes.length qd.boc) (.int .i64 x.d.room) (.int .i64 x.d.player) (.int .i64 x.d.box) (.slice qa x.at_.length qac) (.slice qk x.coins.length qkc) (.slice qw x.wher.length qwc))
          have BV := Lib.hid (show Below wr.heap.size wr (((((((((((v9.setCell ⟨wr.heap.size, 0, none⟩ (.slice qd.ex x.d.exits.length qd.exc)).setCell ⟨wr.heap.size, 1, none⟩ (.slice qd.pl x.d.players.length qd.plc)).setCell ⟨wr.heap.size, 2, none⟩ (.slice qd.co x.d.coins.length qd.coc)).setCell ⟨wr.heap.size, 3, none⟩ (.slice qd.it x.d.items.length qd.itc)).setCell ⟨wr.heap.size, 4, none⟩ (.slice qd.bo x.d.boxes.length qd.boc)).setCell ⟨wr.heap.size, 5, none⟩ (.int .i64 x.d.room)).setCell ⟨wr.heap.size, 6, none⟩ (.int .i64 x.d.player)).setCell ⟨wr.heap.size, 7, none⟩ (.int .i64 x.d.box)).setCell ⟨wr.heap.size, 8, none⟩ (.slice qa x.at_.length qac)).setCell ⟨wr.heap.size, 9, none⟩ (.slice qk x.coins.length qkc)).setCell ⟨wr.heap.size, 10, none⟩ (.slice qw x.wher.length qwc)) by (iterate 11 refine Below.setCell ?_ (by exact Nat.le_refl _) _); exact HB9.out)
          have YV := Lib.hid (show WorldAt (((((((((((v9.setCell ⟨wr.heap.size, 0, none⟩ (.slice qd.ex x.d.exits.length qd.exc)).setCell ⟨wr.heap.size, 1, none⟩ (.slice qd.pl x.d.players.length qd.plc)).setCell ⟨wr.heap.size, 2, none⟩ (.slice qd.co x.d.coins.length qd.coc)).setCell ⟨wr.heap.size, 3, none⟩ (.slice qd.it x.d.items.length qd.itc)).setCell ⟨wr.heap.size, 4, none⟩ (.slice qd.bo x.d.boxes.length qd.boc)).setCell ⟨wr.heap.size, 5, none⟩ (.int .i64 x.d.room)).setCell ⟨wr.heap.size, 6, none⟩ (.int .i64 x.d.player)).setCell ⟨wr.heap.size, 7, none⟩ (.int .i64 x.d.box)).setCell ⟨wr.heap.size, 8, none⟩ (.slice qa x.at_.length qac)).setCell ⟨wr.heap.size, 9, none⟩ (.slice qk x.coins.length qkc)).setCell ⟨wr.heap.size, 10, none⟩ (.slice qw x.wher.length qwc)) ⟨qd, qa, qac, qk, qkc, qw, qwc⟩ z by (iterate 11 refine WorldAt.set ?_ OG.out _ _); exact Y2.out)
          clear HB9 Y2 BG0 OG
          generalize (((((((((((v9.setCell ⟨wr.heap.size, 0, none⟩ (.slice qd.ex x.d.exits.length qd.exc)).setCell ⟨wr.heap.size, 1, none⟩ (.slice qd.pl x.d.players.length qd.plc)).setCell ⟨wr.heap.size, 2, none⟩ (.slice qd.co x.d.coins.length qd.coc)).setCell ⟨wr.heap.size, 3, none⟩ (.slice qd.it x.d.items.length qd.itc)).setCell ⟨wr.heap.size, 4, none⟩ (.slice qd.bo x.d.boxes.length qd.boc)).setCell ⟨wr.heap.size, 5, none⟩ (.int .i64 x.d.room)).setCell ⟨wr.heap.size, 6, none⟩ (.int .i64 x.d.player)).setCell ⟨wr.heap.size, 7, none⟩ (.int .i64 x.d.box)).setCell ⟨wr.heap.size, 8, none⟩ (.slice qa x.at_.length qac)).setCell ⟨wr.heap.size, 9, none⟩ (.slice qk x.coins.length qkc)).setCell ⟨wr.heap.size, 10, none⟩ (.slice qw x.wher.length qwc)) = VV at *
          obtain ⟨rb, hrb⟩ : ∃ rb, wr.heap.size = rb := ⟨_, rfl⟩
          rw [hrb] at BG ⊢
          clear hrb KS
          have C8 := Lib.hid (HQ8.out.call BV.out)
          have BW := Lib.hid (below_call HBW.out HBW.out.size BV.out)
          have cT1 := Lib.hid (cell_call cT0.out BV.out)
          clear BV
          have cG := BG.out.cell
          have lG := BG.out.lt
          have c8 := C8.out.cell
          have l8 := C8.out.lt
          have z8 := C8.out.frozen
          go_wp2_with fail
          go_roundw
          case rel =>
            refine ⟨n + 1, g, by omega, by go_num, by go_num, by omega, ⟨qd, qa, qac, qk, qkc, qw, qwc⟩, z, GN.out, ?_, ?_, ?_, O2.out⟩
            · (iterate 11 refine Below.setCell ?_ (by exact N8.out) _)
              exact BW.out
            · exact blk_eleven C8.out _ _ _ _ _ _ _ _ _ _ _
            · (iterate 11 refine WorldAt.set ?_ O2.out _ _)
              exact YV.out
          case measure => simp [intOf]; omega
    · have hne9 : n = T.length := by omega
      subst hne9
      have c8 := HQ8.out.cell
      have l8 := HQ8.out.lt
      have RM : ∀ W, (Builtin.min_ #[3, 3] 3 #[.int .i64 (Rn : Int), .int .i64 (T.length : Int)]).run Try.prog W = .ok (.int .i64 (g : Int)) W := fun W => by rw [HGM.out, Nat.min_comm]; exact run_min9 Rn T.length W
      have BWW := Lib.hid (below_call B_4.out B_4.out.size HBW.out)
      go_wp2_with fail
      refine (rright_as SZ.out q _ HY.out).mono ?_
      rintro e7 v7 ⟨rfl, b7⟩
      rw [HZ.out]
      have BE := Lib.hid (below_call BWW.out BWW.out.size b7)
      clear b7
      go_wp2_with fail
      go_ret
      exact ⟨rfl, BE.out⟩
theorem walk_holdAll (x : Wd) (p : Wp) (a c : Int) (w : World) (ha : (Lit.int .u8 a).wf = true) (hc : (Lit.int .u8 c).wf = true) (h : WorldAt w p x) : Calls Try.prog 6 #[.agg #[.slice p.d.ex x.d.exits.length p.d.exc, .slice p.d.pl x.d.players.length p.d.plc, .slice p.d.co x.d.coins.length p.d.coc, .slice p.d.it x.d.items.length p.d.itc, .slice p.d.bo x.d.boxes.length p.d.boc, .int .i64 x.d.room, .int .i64 x.d.player, .int .i64 x.d.box, .slice p.at_ x.at_.length p.atc, .slice p.co x.coins.length p.coc, .slice p.wh x.wher.length p.whc], .int .u8 a, .int .u8 c] w fun e w' => e = .returned (.bool true) ∧ Below w.heap.size w w' := by
  cases hf : fitsB x
  · exact holdAll_no x p a c w h hf
  have h1 := wf_u8 ha
  have h2 := wf_u8 hc
  obtain ⟨m1, rfl⟩ : ∃ m : Nat, a = m := ⟨a.toNat, by omega⟩
  obtain ⟨m2, rfl⟩ : ∃ m : Nat, c = m := ⟨c.toNat, by omega⟩
  have hx := (fits_fit hf).right
  obtain ⟨i, hi⟩ : ∃ i, m1 % x.at_.length = i := ⟨_, rfl⟩
  have hil : i < x.at_.length := by rw [← hi]; exact Nat.mod_lt _ (right_lens hx).1
  have hr := room_at hx hil
  have hn := room_nn hx (f := ⟨1, (i : Int)⟩) (by simp)
  obtain ⟨b, o, ea, hb, hc⟩ := h.at_.at_ hil
  have c0 := hc _ hil
  rw [hr.1] at c0
  obtain ⟨pd, pa, pac, pk, pkc, pw, pwc⟩ := p
  simp only at ea
  subst ea
  exact holdAll_go x pd b o pac pk pw pkc pwc m1 m2 i _ (roomI x ⟨1, (i : Int)⟩).toNat _ (by omega) (by omega) hi rfl (by omega) rfl w h hf c0
set_option maxRecDepth 100000 in
theorem lifted_holdAll (os : Os) (started : os.Started) (H : Type) (enc : TypeId × Value → H) :
    ReturnsInHanded {} Try.checked os 6 .any (Rows.holdAllSpec.pre6 enc Try.prog Try.f6 Rows.holdAllRow.domain false) (Rows.holdAllSpec.post enc Try.prog Try.f6 false true false false) := by
  refine returnsInHanded_of_change (C := Try.checked) (by kernel_rfl) started (by kernel_rfl) Try.func6
    (ChangeSpec.witness6 (enc := enc) (C := Try.checked) false ⟨#[], #[.agg #[.slice none 0 0, .slice none 0 0, .slice none 0 0, .slice none 0 0, .slice none 0 0, .int .i64 0, .int .i64 0, .int .i64 0, .slice none 0 0, .slice none 0 0, .slice none 0 0], .int .u8 0, .int .u8 0], []⟩ 8 (by kernel_rfl) (by kernel_rfl) (by kernel_rfl) (by kernel_rfl)) ?_
  intro W base args ds gs before hval0 hW hcnd _
  have hval : ∀ (j : Nat) t v, Try.f6.params[j]? = some t → args[j]? = some v → Value.okWide Try.prog W .any base t v := hval0
  have hW' := hW
  obtain ⟨p, q, hA0, hV, rfl, hfz, hnd⟩ := hW
  have hA : DataW.TrodAll enc Try.prog W 0 (fun _ => true) true Try.f6.params.toList args.toList ds p := hA0
  rw [Try.params6] at hA hval
  obtain ⟨v0, vs0, d0, ds0, p0, q0, hargs, rfl, rfl, h0, r0⟩ := trodAll_cons hA
  obtain ⟨v1, vs1, d1, ds1, p1, q1, rfl, rfl, rfl, h1, r1⟩ := trodAll_cons r0
  obtain ⟨v2, vs2, d2, ds2, p2, q2, rfl, rfl, rfl, h2, r2⟩ := trodAll_cons r1
  obtain ⟨rfl, rfl, rfl⟩ := trodAll_nil r2
  obtain rfl : args = #[v0, v1, v2] := by cases args; simp_all
  obtain ⟨rfl, rfl⟩ := trodVars_none hV
  obtain ⟨wx0, wp0, rfl, m0⟩ := read_world (hval 0 29 v0 rfl rfl) h0
  obtain ⟨a1, rfl, rfl, rfl, w1⟩ := open_int Try.underlying5 (hval 1 5 v1 rfl rfl) h1
  obtain ⟨a2, rfl, rfl, rfl, w2⟩ := open_int Try.underlying5 (hval 2 5 v2 rfl rfl) h2
  clear hA0 hval0
  simp only [List.append_nil] at hW'
  refine (walk_holdAll wx0 wp0 a1 a2 W w1 w2 m0).mono fun e W' ⟨he, hg⟩ => ?_
  subst he
  exact ⟨_, rfl, law_post (by kernel_rfl) rfl (by rw [Try.params6]; decide +kernel) rfl rfl Try.underlying4 hW' hg⟩

/-- ████ THE STATEMENT ████ -/
theorem proved_holdAll : Rows.HoldAllSaid :=
  OpenClaim.holds_of_wide 6 Try.f6 rfl rfl rfl rfl rfl rfl rfl ⟨rfl, rfl, rfl, rfl, rfl⟩ rfl rfl rfl rfl rfl (by kernel_rfl) Try.func6 (by kernel_rfl)
    (of_decide_eq_true (by kernel_rfl)) (by unfold Func.isWrapper; first | (rw [if_pos (by decide +kernel)]; kernel_rfl) | (rw [if_neg (by decide +kernel)]; exact ⟨rfl, rfl⟩))
    (fun os started H enc _ => lifted_holdAll os started H enc)
#print axioms proved_holdAll
end Go.Proofs.Ytjlipbcmkibkcaa
