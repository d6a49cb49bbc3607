/- SightMoves: what is got is had, who goes is there. -/
import Derived.Test.YtojfichbnnfjpaaRows
import Derived.Test.YtojfichbnnfjpaaTk
import Derived.Test.YtojfichbnnfjpaaKit
import Derived.Test.YtojfichbnnfjpaaGMem
import Derived.Test.YtojfichbnnfjpaaCoin
import Derived.Test.YtojfichbnnfjpaaGWorld
import Derived.Test.YtojfichbnnfjpaaDescMay
import Derived.Test.YtojfichbnnfjpaaGDescN
import Derived.Test.YtojfichbnnfjpaaGRight
import Derived.Test.YtojfichbnnfjpaaGCopy
import Derived.Test.YtojfichbnnfjpaaGRefD
import Derived.Test.YtojfichbnnfjpaaGAs
import Derived.Test.YtojfichbnnfjpaaRefRight
import Derived.Test.YtojfichbnnfjpaaGTreeL
import Derived.Test.YtojfichbnnfjpaaRepMath
import Derived.Test.YtojfichbnnfjpaaRepSame
import Derived.Test.YtojfichbnnfjpaaSightMath
import Derived.Test.YtojfichbnnfjpaaSightA
import Derived.Test.YtojfichbnnfjpaaSightB
import Derived.Test.YtojfichbnnfjpaaSightOff
import Derived.Test.YtojfichbnnfjpaaSightAwake
import Derived.Test.YtojfichbnnfjpaaGNew
import Derived.Test.YtojfichbnnfjpaaGHoldA
import Derived.Test.YtojfichbnnfjpaaHoldD
import Derived.Test.YtojfichbnnfjpaaHoldE
import Derived.Deep.QuietTactic
import Derived.BigQuiet
import Derived.Deep.RegionHeld3
import Derived.WalkKit
import Derived.ProofKit
import Derived.OpenShut
import Derived.IntWalk
namespace Go.Proofs.Ytojfichbnnfjpaa
open Go.ChangeShapes Go.WideShapes Go.ChangeAt Go.RowKit
set_option linter.unusedVariables false
open Go.RowKit
set_option maxRecDepth 100000 in
theorem sightMoves_no (x : Wd) (p : Wp) (a c d : Int) (w : World) (h : WorldAt w p x) (hf : fitsB x = false) : Calls Try.prog 6 #[.agg #[.slice p.d.ex x.d.exits.length p.d.exc, .slice p.d.pl x.d.players.length p.d.plc, .slice p.d.co x.d.coins.length p.d.coc, .slice p.d.it x.d.items.length p.d.itc, .slice p.d.bo x.d.boxes.length p.d.boc, .int .i64 x.d.room, .int .i64 x.d.player, .int .i64 x.d.box, .slice p.at_ x.at_.length p.atc, .slice p.co x.coins.length p.coc, .slice p.wh x.wher.length p.whc], .int .u8 a, .int .u8 c, .int .u8 d] w fun e w' => e = .returned (.bool true) ∧ Below w.heap.size w w' := by
  have H_0 := Lib.hid (Holds.new w #[.slice p.d.ex x.d.exits.length p.d.exc, .slice p.d.pl x.d.players.length p.d.plc, .slice p.d.co x.d.coins.length p.d.coc, .slice p.d.it x.d.items.length p.d.itc, .slice p.d.bo x.d.boxes.length p.d.boc, .int .i64 x.d.room, .int .i64 x.d.player, .int .i64 x.d.box, .slice p.at_ x.at_.length p.atc, .slice p.co x.coins.length p.coc, .slice p.wh x.wher.length p.whc] 29)
  have HF := Lib.hid hf
  have HWA := Lib.hid h
  clear hf h
  go_enter Try.func6, Try.ntmps6
  go_wp2_with fail
  generalize w.alloc (.cells #[.slice p.d.ex x.d.exits.length p.d.exc, .slice p.d.pl x.d.players.length p.d.plc, .slice p.d.co x.d.coins.length p.d.coc, .slice p.d.it x.d.items.length p.d.itc, .slice p.d.bo x.d.boxes.length p.d.boc, .int .i64 x.d.room, .int .i64 x.d.player, .int .i64 x.d.box, .slice p.at_ x.at_.length p.atc, .slice p.co x.coins.length p.coc, .slice p.wh x.wher.length p.whc] 29) = V0 at *
  have B_0 := Lib.hid H_0.out.1
  refine (awake12_any _).mono ?_
  rintro e u1 ⟨rfl, b1⟩
  have B_1 := Lib.hid (bl B_0.out b1)
  have H_1 := Lib.hid (H_0.out.call b1)
  clear b1 B_0 H_0
  have hcH := H_1.out.2.2
  have hlH := H_1.out.2.1
  go_wp2_with fail
  refine (fits12_any x p _ (HWA.out.below H_1.out.1 (Nat.le_refl _))).mono ?_
  rintro e u2 ⟨rfl, b2⟩
  rw [HF.out]
  clear hcH hlH
  have B_2 := Lib.hid (bl B_1.out b2)
  have H_2 := Lib.hid (H_1.out.call b2)
  clear b2 B_1 H_1
  have hcH := H_2.out.2.2
  have hlH := H_2.out.2.1
  go_wp2_with fail
  refine (awake12_any _).mono ?_
  rintro e u3 ⟨rfl, b3⟩
  clear hcH hlH
  have B_3 := Lib.hid (bl B_2.out b3)
  have H_3 := Lib.hid (H_2.out.call b3)
  clear b3 B_2 H_2
  have hcH := H_3.out.2.2
  have hlH := H_3.out.2.1
  go_wp2_with fail
  go_ret
  exact ⟨rfl, B_3.out⟩
set_option maxRecDepth 100000 in
theorem sightMoves_none (x : Wd) (p : Wp) (a c d : Int) (w : World) (h : WorldAt w p x) (hf : fitsB x = true) (h0 : ((x.wher.length : Int) == 0) = true) : Calls Try.prog 6 #[.agg #[.slice p.d.ex x.d.exits.length p.d.exc, .slice p.d.pl x.d.players.length p.d.plc, .slice p.d.co x.d.coins.length p.d.coc, .slice p.d.it x.d.items.length p.d.itc, .slice p.d.bo x.d.boxes.length p.d.boc, .int .i64 x.d.room, .int .i64 x.d.player, .int .i64 x.d.box, .slice p.at_ x.at_.length p.atc, .slice p.co x.coins.length p.coc, .slice p.wh x.wher.length p.whc], .int .u8 a, .int .u8 c, .int .u8 d] w fun e w' => e = .returned (.bool true) ∧ Below w.heap.size w w' := by
  have H_0 := Lib.hid (Holds.new w #[.slice p.d.ex x.d.exits.length p.d.exc, .slice p.d.pl x.d.players.length p.d.plc, .slice p.d.co x.d.coins.length p.d.coc, .slice p.d.it x.d.items.length p.d.itc, .slice p.d.bo x.d.boxes.length p.d.boc, .int .i64 x.d.room, .int .i64 x.d.player, .int .i64 x.d.box, .slice p.at_ x.at_.length p.atc, .slice p.co x.coins.length p.coc, .slice p.wh x.wher.length p.whc] 29)
  have HF := Lib.hid hf
  have HWA := Lib.hid h
  clear hf h
  go_enter Try.func6, Try.ntmps6
  go_wp2_with fail
  generalize w.alloc (.cells #[.slice p.d.ex x.d.exits.length p.d.exc, .slice p.d.pl x.d.players.length p.d.plc, .slice p.d.co x.d.coins.length p.d.coc, .slice p.d.it x.d.items.length p.d.itc, .slice p.d.bo x.d.boxes.length p.d.boc, .int .i64 x.d.room, .int .i64 x.d.player, .int .i64 x.d.box, .slice p.at_ x.at_.length p.atc, .slice p.co x.coins.length p.coc, .slice p.wh x.wher.length p.whc] 29) = V0 at *
  have B_0 := Lib.hid H_0.out.1
  refine (awake12_any _).mono ?_
  rintro e u1 ⟨rfl, b1⟩
  have B_1 := Lib.hid (bl B_0.out b1)
  have H_1 := Lib.hid (H_0.out.call b1)
  clear b1 B_0 H_0
  have hcH := H_1.out.2.2
  have hlH := H_1.out.2.1
  go_wp2_with fail
  refine (fits12_any x p _ (HWA.out.below H_1.out.1 (Nat.le_refl _))).mono ?_
  rintro e u2 ⟨rfl, b2⟩
  rw [HF.out]
  clear hcH hlH
  have B_2 := Lib.hid (bl B_1.out b2)
  have H_2 := Lib.hid (H_1.out.call b2)
  clear b2 B_1 H_1
  have hcH := H_2.out.2.2
  have hlH := H_2.out.2.1
  go_wp2_with fail
  refine (awake12_any _).mono ?_
  rintro e u3 ⟨rfl, b3⟩
  clear hcH hlH
  have B_3 := Lib.hid (bl B_2.out b3)
  have H_3 := Lib.hid (H_2.out.call b3)
  clear b3 B_2 H_2
  have hcH := H_3.out.2.2
  have hlH := H_3.out.2.1
  go_wp2_with fail
  go_ret
  exact ⟨rfl, B_3.out⟩
set_option maxRecDepth 100000 in
set_option maxHeartbeats 4000000 in
theorem sightMoves_lies (x : Wd) (xb xo xc : Nat) (pl co it bo : Option Addr) (plc coc itc boc b o pac : Nat) (pk : Option Addr) (pkc wb wo pwc : Nat) (a i c k d dd : Nat) (haa : a ≤ 255) (hcc : c ≤ 255) (hdd : d ≤ 255) (hi : a % x.at_.length = i) (hk : c % x.wher.length = k) (hd : d % 4 = dd) (w : World) (h : WorldAt w ⟨⟨some ⟨xb, xo, none⟩, xc, pl, plc, co, coc, it, itc, bo, boc⟩, some ⟨b, o, none⟩, pac, pk, pkc, some ⟨wb, wo, none⟩, pwc⟩ x) (hf : fitsB x = true) (hlw : 0 < x.wher.length) (hz : plOf x.wher k = ⟨0, (roomOf x i : Int)⟩) (hry : rightW (putW x k ⟨1, (i : Int)⟩) = false) : Calls Try.prog 6 #[.agg #[.slice (some ⟨xb, xo, none⟩) x.d.exits.length xc, .slice pl x.d.players.length plc, .slice co x.d.coins.length coc, .slice it x.d.items.length itc, .slice bo x.d.boxes.length boc, .int .i64 x.d.room, .int .i64 x.d.player, .int .i64 x.d.box, .slice (some ⟨b, o, none⟩) x.at_.length pac, .slice pk x.coins.length pkc, .slice (some ⟨wb, wo, none⟩) x.wher.length pwc], .int .u8 (a : Int), .int .u8 (c : Int), .int .u8 (d : Int)] w fun e w' => e = .returned (.bool true) ∧ Below w.heap.size w w' := by
  have FT := Lib.hid (fits_fit hf)
  have hlp : 0 < x.at_.length := (right_lens FT.out.right).1
  have hne : ¬ x.at_ = [] := List.length_pos_iff.1 hlp
  have hlen6 := (right_lens FT.out.right).2.1
  have hne0 : ((x.wher.length : Int) == 0) = false := by rw [beq_eq_false_iff_ne]; omega
  have hnw : ¬ x.wher = [] := List.length_pos_iff.1 hlw
  have r1 := run_tmod7 a x.at_.length
  have m1 := run_mod7 a x.at_.length
  rw [hi] at r1 m1
  have hil : i < x.at_.length := by rw [← hi]; exact Nat.mod_lt _ hlp
  have r2 := run_tmod7 c x.wher.length
  have m2 := run_mod7 c x.wher.length
  rw [hk] at r2 m2
  have hkl : k < x.wher.length := by rw [← hk]; exact Nat.mod_lt _ hlw
  have r3 : (d : Int).tmod 4 = (dd : Int) := by rw [← hd]; rfl
  have m3 : (d : Int) % 4 = (dd : Int) := by omega
  have hd4 : dd < 4 := by rw [← hd]; exact Nat.mod_lt _ (by omega)
  have HIL := Lib.hid hil
  have HKL := Lib.hid hkl
  obtain ⟨r, hr⟩ : ∃ r, roomOf x i = r := ⟨_, rfl⟩
  have hrl : r < x.d.exits.length := by rw [← hr]; exact (room_at FT.out.right hil).2
  have HRR := Lib.hid hr
  obtain ⟨b', o', ea, -, hac⟩ := h.at_.at_ hil
  simp only [Option.some.injEq, Addr.mk.injEq, and_true] at ea
  obtain ⟨rfl, rfl⟩ := ea
  have c0 := hac i hil
  rw [(room_at FT.out.right hil).1, hr] at c0
  obtain ⟨wb', wo', ew, -, w0, w1⟩ := PlsAt.cells h.wh hkl
  simp only [Option.some.injEq, Addr.mk.injEq, and_true] at ew
  obtain ⟨rfl, rfl⟩ := ew
  rw [← plOf_get hkl] at w0 w1
  obtain ⟨xb', xo', ex, -, hxc⟩ := h.d.ex.at_ hrl
  simp only [Option.some.injEq, Addr.mk.injEq, and_true] at ex
  obtain ⟨rfl, rfl⟩ := ex
  have x0 := hxc r hrl dd hd4
  rw [exC_at _ hd4, exits_to hrl] at x0
  have hi1 : ¬ (x.at_.length : Int) ≤ (i : Int) := by omega
  have hi2 : (x.at_.length ≤ i) = False := by simp; omega
  have hk1 : ¬ (x.wher.length : Int) ≤ (k : Int) := by omega
  have hk2 : (x.wher.length ≤ k) = False := by simp; omega
  have hr1 : ¬ (x.d.exits.length : Int) ≤ (r : Int) := by omega
  have hr2 : (x.d.exits.length ≤ r) = False := by simp; omega
  have hd1 : ¬ (4 : Int) ≤ (dd : Int) := by omega
  have hd2 : (4 ≤ dd) = False := by simp; omega
  have hd3 : (dd : Int) < 4 := by omega
  rw [hr] at hz
  rw [hz] at w0 w1
  simp only at w0 w1
  have hrun := run_pls7 0 (r : Int)
  obtain ⟨y, hy⟩ : ∃ y, putW x k ⟨1, (i : Int)⟩ = y := ⟨_, rfl⟩
  have SY := Lib.hid (show Shape x y by rw [← hy]; exact putW_shape _ _ _)
  have HY := Lib.hid hy
  have HZ := Lib.hid hz
  rw [hy] at hry
  have RY := Lib.hid hry
  clear hy hz hry
  clear x0 hxc
  have HHX := Lib.hid (show ∀ W : World, Below w.heap.size w W → (W.cell? ⟨b, o + i, none⟩ = some (.int .i64 (r : Int)) ∧ W.cell? ⟨wb, wo + k * 2, none⟩ = some (.int .i64 0) ∧ W.cell? ⟨wb, wo + k * 2 + 1, none⟩ = some (.int .i64 (r : Int))) from fun W hW => ⟨cell_call c0 hW, cell_call w0 hW, cell_call w1 hW⟩)
  clear hi hk hd hlp hil hkl hlw hr hac c0 w0 w1 hlen6 hrl
  have H_0 := Lib.hid (Holds.new w #[.slice (some ⟨xb, xo, none⟩) x.d.exits.length xc, .slice pl x.d.players.length plc, .slice co x.d.coins.length coc, .slice it x.d.items.length itc, .slice bo x.d.boxes.length boc, .int .i64 x.d.room, .int .i64 x.d.player, .int .i64 x.d.box, .slice (some ⟨b, o, none⟩) x.at_.length pac, .slice pk x.coins.length pkc, .slice (some ⟨wb, wo, none⟩) x.wher.length pwc] 29)
  have HF := Lib.hid hf
  have HWA := Lib.hid h
  clear hf h
  go_enter Try.func6, Try.ntmps6
  go_wp2_with fail
  generalize w.alloc (.cells #[.slice (some ⟨xb, xo, none⟩) x.d.exits.length xc, .slice pl x.d.players.length plc, .slice co x.d.coins.length coc, .slice it x.d.items.length itc, .slice bo x.d.boxes.length boc, .int .i64 x.d.room, .int .i64 x.d.player, .int .i64 x.d.box, .slice (some ⟨b, o, none⟩) x.at_.length pac, .slice pk x.coins.length pkc, .slice (some ⟨wb, wo, none⟩) x.wher.length pwc] 29) = V0 at *
  have B_0 := Lib.hid H_0.out.1
  refine (awake12_any _).mono ?_
  rintro e u1 ⟨rfl, b1⟩
  have B_1 := Lib.hid (bl B_0.out b1)
  have H_1 := Lib.hid (H_0.out.call b1)
  clear b1 B_0 H_0
  have hcH := H_1.out.2.2
  have hlH := H_1.out.2.1
  go_wp2_with fail
  refine (fits12_any x ⟨⟨some ⟨xb, xo, none⟩, xc, pl, plc, co, coc, it, itc, bo, boc⟩, some ⟨b, o, none⟩, pac, pk, pkc, some ⟨wb, wo, none⟩, pwc⟩ _ (HWA.out.below H_1.out.1 (Nat.le_refl _))).mono ?_
  rintro e u2 ⟨rfl, b2⟩
  rw [HF.out]
  clear hcH hlH
  have B_2 := Lib.hid (bl B_1.out b2)
  have H_2 := Lib.hid (H_1.out.call b2)
  clear b2 B_1 H_1
  have hcH := H_2.out.2.2
  have hlH := H_2.out.2.1
  go_wp2_with fail
  obtain ⟨d0, d1, d2⟩ := HHX.out _ B_2.out
  clear hcH hlH
  have KS : Hid (∀ w', Below u2.heap.size u2 w' → Below u2.heap.size u2 w' ∧ (∀ ii, w'.cell? ⟨w.heap.size, ii, none⟩ = (#[.slice (some ⟨xb, xo, none⟩) x.d.exits.length xc, .slice pl x.d.players.length plc, .slice co x.d.coins.length coc, .slice it x.d.items.length itc, .slice bo x.d.boxes.length boc, .int .i64 x.d.room, .int .i64 x.d.player, .int .i64 x.d.box, .slice (some ⟨b, o, none⟩) x.at_.length pac, .slice pk x.coins.length pkc, .slice (some ⟨wb, wo, none⟩) x.wher.length pwc][ii]? : Option Value)) ∧ w'.cell? ⟨b, o + i, none⟩ = some (.int .i64 (r : Int)) ∧ w'.cell? ⟨wb, wo + k * 2, none⟩ = some (.int .i64 0) ∧ w'.cell? ⟨wb, wo + k * 2 + 1, none⟩ = some (.int .i64 (r : Int))) := Lib.hid (fun w' hb => ⟨hb, fun ii => (hb.cell (p := ⟨w.heap.size, ii, none⟩) H_2.out.2.1).trans (H_2.out.2.2 ii), cell_call d0 hb, cell_call d1 hb, cell_call d2 hb⟩)
  have D0 := Lib.hid (bdrew1 (Below.refl u2.heap.size u2))
  refine wp_region_noPanic ?_
  refine wp_region_held_drew (S := (fun w' => Below u2.heap.size u2 w' ∧ (∀ ii, w'.cell? ⟨w.heap.size, ii, none⟩ = (#[.slice (some ⟨xb, xo, none⟩) x.d.exits.length xc, .slice pl x.d.players.length plc, .slice co x.d.coins.length coc, .slice it x.d.items.length itc, .slice bo x.d.boxes.length boc, .int .i64 x.d.room, .int .i64 x.d.player, .int .i64 x.d.box, .slice (some ⟨b, o, none⟩) x.at_.length pac, .slice pk x.coins.length pkc, .slice (some ⟨wb, wo, none⟩) x.wher.length pwc][ii]? : Option Value)) ∧ w'.cell? ⟨b, o + i, none⟩ = some (.int .i64 (r : Int)) ∧ w'.cell? ⟨wb, wo + k * 2, none⟩ = some (.int .i64 0) ∧ w'.cell? ⟨wb, wo + k * 2 + 1, none⟩ = some (.int .i64 (r : Int)))) (by kernel_rfl) (by (first | (with_reducible exact KS.out _ D0.out))) (fun hHeld => ?_)
  clear d0 d1 d2
  iterate 10
    (first | refine tkW 0 (v := ?_) ?_ ?_ | refine tkW 1 (v := ?_) ?_ ?_ | refine tkW 2 (v := ?_) ?_ ?_ | refine tkW 3 (v := ?_) ?_ ?_ | refine tkW 4 (v := ?_) ?_ ?_ | refine tkW 5 (v := ?_) ?_ ?_ | refine tkW 6 (v := ?_) ?_ ?_ | refine tkW 7 (v := ?_) ?_ ?_ | refine tkW 8 (v := ?_) ?_ ?_ | refine tkW 9 (v := ?_) ?_ ?_)
    rotate_left
    · (intro ww hSw; (try dsimp only at hSw); go_simp; (try with_reducible rfl))
    try simp only [Act.put, List.setIfInBounds_toArray, List.set_cons_zero, List.set_cons_succ]
  iterate 2
    (first | refine tkW 10 (v := ?_) ?_ ?_ | refine tkW 11 (v := ?_) ?_ ?_)
    rotate_left
    · (intro ww hSw; (try dsimp only at hSw); go_simp; (try with_reducible rfl))
    try simp only [Act.put, List.setIfInBounds_toArray, List.set_cons_zero, List.set_cons_succ]
  refine wpAnyH_done (by kernel_rfl) ?_ _
  refine NoPanic.normal ?_
  clear hHeld KS
  have B_3 := Lib.hid (bl B_2.out D0.out)
  have H_3 := Lib.hid (H_2.out.call D0.out)
  clear B_2 H_2 D0
  generalize u2.drew = V902 at *
  have hcH := H_3.out.2.2
  have hlH := H_3.out.2.1
  go_wp2_with fail
  clear hrun
  clear hcH hlH
  refine (copied_own3 x ⟨⟨some ⟨xb, xo, none⟩, xc, pl, plc, co, coc, it, itc, bo, boc⟩, some ⟨b, o, none⟩, pac, pk, pkc, some ⟨wb, wo, none⟩, pwc⟩ _ (HWA.out.below B_3.out (Nat.le_refl _)) (right_fewW9 FT.out.right)).mono ?_
  rintro e9 wq1 ⟨⟨d1, pa1, pac1, pk1, pkc1, pw1, pwc1⟩, rfl, -, b3, hn⟩
  obtain ⟨g1, hg, hb1, hb2, ⟨e0, e1⟩, hfz, hput⟩ := hn.putPlace (k := k) HKL.out
  simp only at hg
  subst hg
  have HN := Lib.hid (hput ⟨1, (i : Int)⟩)
  have sz1 := b3.size
  have BS := Lib.hid (show Below V902.heap.size V902 ((wq1.setCell ⟨g1, k * 2, none⟩ (.int .i64 1)).setCell ⟨g1, k * 2 + 1, none⟩ (.int .i64 (i : Int))) from ((b3.setCell (p := ⟨g1, k * 2, none⟩) (by show V902.heap.size ≤ g1; omega) (.int .i64 1)).setCell (p := ⟨g1, k * 2 + 1, none⟩) (by show V902.heap.size ≤ g1; omega) (.int .i64 (i : Int))))
  have A4 := Lib.hid (show WorldAt ((wq1.setCell ⟨g1, k * 2, none⟩ (.int .i64 1)).setCell ⟨g1, k * 2 + 1, none⟩ (.int .i64 (i : Int))) ⟨d1, pa1, pac1, pk1, pkc1, some ⟨g1, 0, none⟩, pwc1⟩ y from by rw [← HY.out]; exact HN.out.new.world (HWA.out.below B_3.out (Nat.le_refl _)).d BS.out)
  have z0 : ((wq1.setCell ⟨g1, k * 2, none⟩ (.int .i64 1)).setCell ⟨g1, k * 2 + 1, none⟩ (.int .i64 (i : Int))).heap.size = wq1.heap.size := by simp [World.setCell]
  have ne1 : wq1.heap.size ≠ g1 := by omega
  have ne2 : g1 ≠ wq1.heap.size := by omega
  clear hn b3 hput HN
  go_wp2_with fail
  clear e0 e1 hfz ne1 ne2
  have BO := Lib.hid (Holds.newb (w := w) (A := #[.slice d1.ex x.d.exits.length d1.exc, .slice d1.pl x.d.players.length d1.plc, .slice d1.co x.d.coins.length d1.coc, .slice d1.it x.d.items.length d1.itc, .slice d1.bo x.d.boxes.length d1.boc, .int .i64 x.d.room, .int .i64 x.d.player, .int .i64 x.d.box, .slice pa1 x.at_.length pac1, .slice pk1 x.coins.length pkc1, .slice (some ⟨g1, 0, none⟩) x.wher.length pwc1]) (t := 29) (n := wq1.heap.size) (bl B_3.out BS.out) z0)
  have A5 := Lib.hid (A4.out.call ((Below.refl _ _).alloc (Nat.le_refl _) (.cells #[.slice d1.ex x.d.exits.length d1.exc, .slice d1.pl x.d.players.length d1.plc, .slice d1.co x.d.coins.length d1.coc, .slice d1.it x.d.items.length d1.itc, .slice d1.bo x.d.boxes.length d1.boc, .int .i64 x.d.room, .int .i64 x.d.player, .int .i64 x.d.box, .slice pa1 x.at_.length pac1, .slice pk1 x.coins.length pkc1, .slice (some ⟨g1, 0, none⟩) x.wher.length pwc1] 29)))
  have BS2 := Lib.hid (BS.out.alloc BS.out.size (.cells #[.slice d1.ex x.d.exits.length d1.exc, .slice d1.pl x.d.players.length d1.plc, .slice d1.co x.d.coins.length d1.coc, .slice d1.it x.d.items.length d1.itc, .slice d1.bo x.d.boxes.length d1.boc, .int .i64 x.d.room, .int .i64 x.d.player, .int .i64 x.d.box, .slice pa1 x.at_.length pac1, .slice pk1 x.coins.length pkc1, .slice (some ⟨g1, 0, none⟩) x.wher.length pwc1] 29))
  clear A4 BS z0 hb1 hb2
  generalize ((wq1.setCell ⟨g1, k * 2, none⟩ (.int .i64 1)).setCell ⟨g1, k * 2 + 1, none⟩ (.int .i64 (i : Int))).alloc (.cells #[.slice d1.ex x.d.exits.length d1.exc, .slice d1.pl x.d.players.length d1.plc, .slice d1.co x.d.coins.length d1.coc, .slice d1.it x.d.items.length d1.itc, .slice d1.bo x.d.boxes.length d1.boc, .int .i64 x.d.room, .int .i64 x.d.player, .int .i64 x.d.box, .slice pa1 x.at_.length pac1, .slice pk1 x.coins.length pkc1, .slice (some ⟨g1, 0, none⟩) x.wher.length pwc1] 29) = VN1 at *
  have B_4 := Lib.hid (bl B_3.out BS2.out)
  have H_4 := Lib.hid (H_3.out.call BS2.out)
  have X_4 := BO
  have YA_4 := A5
  clear BO A5 BS2 sz1 B_3 H_3
  have hcH := H_4.out.2.2
  have hlH := H_4.out.2.1
  have hcX := X_4.out.2.2
  have hlX := X_4.out.2.1
  refine (rright_as SY.out ⟨d1, pa1, pac1, pk1, pkc1, some ⟨g1, 0, none⟩, pwc1⟩ _ YA_4.out).mono ?_
  rintro e u4 ⟨rfl, b4⟩
  rw [RY.out]
  clear hcH hlH hcX hlX
  have B_5 := Lib.hid (bl B_4.out b4)
  have H_5 := Lib.hid (H_4.out.call b4)
  have X_5 := Lib.hid (X_4.out.call b4)
  have YA_5 := Lib.hid (YA_4.out.call b4)
  clear b4 B_4 H_4 X_4 YA_4
  have hcH := H_5.out.2.2
  have hlH := H_5.out.2.1
  have hcX := X_5.out.2.2
  have hlX := X_5.out.2.1
  go_wp2_with fail
  go_ret
  exact ⟨rfl, B_5.out⟩
set_option maxRecDepth 100000 in
set_option maxHeartbeats 4000000 in
theorem sightMoves_got_shut (x : Wd) (xb xo xc : Nat) (pl co it bo : Option Addr) (plc coc itc boc b o pac : Nat) (pk : Option Addr) (pkc wb wo pwc : Nat) (a i c k d dd : Nat) (haa : a ≤ 255) (hcc : c ≤ 255) (hdd : d ≤ 255) (hi : a % x.at_.length = i) (hk : c % x.wher.length = k) (hd : d % 4 = dd) (w : World) (h : WorldAt w ⟨⟨some ⟨xb, xo, none⟩, xc, pl, plc, co, coc, it, itc, bo, boc⟩, some ⟨b, o, none⟩, pac, pk, pkc, some ⟨wb, wo, none⟩, pwc⟩ x) (hf : fitsB x = true) (hlw : 0 < x.wher.length) (hz : plOf x.wher k = ⟨0, (roomOf x i : Int)⟩) (hry : rightW (putW x k ⟨1, (i : Int)⟩) = true) (ht : toW x (roomOf x i) dd = -1) : Calls Try.prog 6 #[.agg #[.slice (some ⟨xb, xo, none⟩) x.d.exits.length xc, .slice pl x.d.players.length plc, .slice co x.d.coins.length coc, .slice it x.d.items.length itc, .slice bo x.d.boxes.length boc, .int .i64 x.d.room, .int .i64 x.d.player, .int .i64 x.d.box, .slice (some ⟨b, o, none⟩) x.at_.length pac, .slice pk x.coins.length pkc, .slice (some ⟨wb, wo, none⟩) x.wher.length pwc], .int .u8 (a : Int), .int .u8 (c : Int), .int .u8 (d : Int)] w fun e w' => e = .returned (.bool true) ∧ Below w.heap.size w w' := by
  have FT := Lib.hid (fits_fit hf)
  have hlp : 0 < x.at_.length := (right_lens FT.out.right).1
  have hne : ¬ x.at_ = [] := List.length_pos_iff.1 hlp
  have hlen6 := (right_lens FT.out.right).2.1
  have hne0 : ((x.wher.length : Int) == 0) = false := by rw [beq_eq_false_iff_ne]; omega
  have hnw : ¬ x.wher = [] := List.length_pos_iff.1 hlw
  have r1 := run_tmod7 a x.at_.length
  have m1 := run_mod7 a x.at_.length
  rw [hi] at r1 m1
  have hil : i < x.at_.length := by rw [← hi]; exact Nat.mod_lt _ hlp
  have r2 := run_tmod7 c x.wher.length
  have m2 := run_mod7 c x.wher.length
  rw [hk] at r2 m2
  have hkl : k < x.wher.length := by rw [← hk]; exact Nat.mod_lt _ hlw
  have r3 : (d : Int).tmod 4 = (dd : Int) := by rw [← hd]; rfl
  have m3 : (d : Int) % 4 = (dd : Int) := by omega
  have hd4 : dd < 4 := by rw [← hd]; exact Nat.mod_lt _ (by omega)
  have HIL := Lib.hid hil
  have HKL := Lib.hid hkl
  obtain ⟨r, hr⟩ : ∃ r, roomOf x i = r := ⟨_, rfl⟩
  have hrl : r < x.d.exits.length := by rw [← hr]; exact (room_at FT.out.right hil).2
  have HRR := Lib.hid hr
  obtain ⟨b', o', ea, -, hac⟩ := h.at_.at_ hil
  simp only [Option.some.injEq, Addr.mk.injEq, and_true] at ea
  obtain ⟨rfl, rfl⟩ := ea
  have c0 := hac i hil
  rw [(room_at FT.out.right hil).1, hr] at c0
  obtain ⟨wb', wo', ew, -, w0, w1⟩ := PlsAt.cells h.wh hkl
  simp only [Option.some.injEq, Addr.mk.injEq, and_true] at ew
  obtain ⟨rfl, rfl⟩ := ew
  rw [← plOf_get hkl] at w0 w1
  obtain ⟨xb', xo', ex, -, hxc⟩ := h.d.ex.at_ hrl
  simp only [Option.some.injEq, Addr.mk.injEq, and_true] at ex
  obtain ⟨rfl, rfl⟩ := ex
  have x0 := hxc r hrl dd hd4
  rw [exC_at _ hd4, exits_to hrl] at x0
  have hi1 : ¬ (x.at_.length : Int) ≤ (i : Int) := by omega
  have hi2 : (x.at_.length ≤ i) = False := by simp; omega
  have hk1 : ¬ (x.wher.length : Int) ≤ (k : Int) := by omega
  have hk2 : (x.wher.length ≤ k) = False := by simp; omega
  have hr1 : ¬ (x.d.exits.length : Int) ≤ (r : Int) := by omega
  have hr2 : (x.d.exits.length ≤ r) = False := by simp; omega
  have hd1 : ¬ (4 : Int) ≤ (dd : Int) := by omega
  have hd2 : (4 ≤ dd) = False := by simp; omega
  have hd3 : (dd : Int) < 4 := by omega
  rw [hr] at hz
  rw [hz] at w0 w1
  simp only at w0 w1
  have hrun := run_pls7 0 (r : Int)
  obtain ⟨y, hy⟩ : ∃ y, putW x k ⟨1, (i : Int)⟩ = y := ⟨_, rfl⟩
  have SY := Lib.hid (show Shape x y by rw [← hy]; exact putW_shape _ _ _)
  have HY := Lib.hid hy
  have HZ := Lib.hid hz
  obtain ⟨R1, hR1⟩ : ∃ R, lookR x i = R := ⟨_, rfl⟩
  obtain ⟨R2, hR2⟩ : ∃ R, lookR y i = R := ⟨_, rfl⟩
  obtain ⟨R3, hR3⟩ : ∃ R, haveR x i = R := ⟨_, rfl⟩
  obtain ⟨R4, hR4⟩ : ∃ R, haveR y i = R := ⟨_, rfl⟩
  have hcnt : R1.items.length + R3.items.length = R2.items.length + R4.items.length ∧ R2.items.length < R1.items.length := by
    have := got_counts FT.out.right hkl (f := ⟨0, (r : Int)⟩) (g := ⟨1, (i : Int)⟩) (by simp) (by simp) hz (by simp) hry
    rw [← hR1, ← hR2, ← hR3, ← hR4, ← hy]
    simp only [lookR, haveR, lookN, ownN]
    rw [show roomOf (putW x k ⟨1, (i : Int)⟩) i = r from hr, hr, show (putW x k ⟨1, (i : Int)⟩).wher.length = x.wher.length from (putW_shape _ _ _).w]
    exact this
  have hA16 : R1.items.length ≤ 16 := by rw [← hR1]; exact Nat.le_trans (underN_len _ _ _) FT.out.len
  have hC16 : R3.items.length ≤ 16 := by rw [← hR3]; exact Nat.le_trans (underN_len _ _ _) FT.out.len
  rw [hy] at hry
  have RY := Lib.hid hry
  obtain ⟨A, hA⟩ : ∃ n, R1.items.length = n := ⟨_, rfl⟩
  obtain ⟨B, hB⟩ : ∃ n, R2.items.length = n := ⟨_, rfl⟩
  obtain ⟨C, hC⟩ : ∃ n, R3.items.length = n := ⟨_, rfl⟩
  obtain ⟨D, hD⟩ : ∃ n, R4.items.length = n := ⟨_, rfl⟩
  rw [hA, hB, hC, hD] at hcnt
  rw [hA] at hA16
  rw [hC] at hC16
  have hs1 : IntKind.i64.wrap ((A : Int) + (C : Int)) = ((A + C : Nat) : Int) := by rw [IntWalk.i64_in _ (by omega)]; omega
  have hs2 : IntKind.i64.wrap ((B : Int) + (D : Int)) = ((A + C : Nat) : Int) := by rw [IntWalk.i64_in _ (by omega)]; omega
  have hs3 : ¬ (A : Int) ≤ (B : Int) := by omega
  have HA := Lib.hid hA
  have HB := Lib.hid hB
  have HC := Lib.hid hC
  have HD := Lib.hid hD
  have HR1 := Lib.hid hR1
  have HR2 := Lib.hid hR2
  have HR3 := Lib.hid hR3
  have HR4 := Lib.hid hR4
  clear hcnt hA16 hC16 hA hB hC hD hR1 hR2 hR3 hR4
  clear hy hz hry
  rw [hr] at ht
  rw [ht] at x0
  clear ht
  have HHX := Lib.hid (show ∀ W : World, Below w.heap.size w W → (W.cell? ⟨b, o + i, none⟩ = some (.int .i64 (r : Int)) ∧ W.cell? ⟨wb, wo + k * 2, none⟩ = some (.int .i64 0) ∧ W.cell? ⟨wb, wo + k * 2 + 1, none⟩ = some (.int .i64 (r : Int)) ∧ W.cell? ⟨xb, xo + r * 4 + dd, none⟩ = some (.int .i64 (-1))) from fun W hW => ⟨cell_call c0 hW, cell_call w0 hW, cell_call w1 hW, cell_call x0 hW⟩)
  clear hi hk hd hlp hil hkl hlw hr hac c0 w0 w1 x0 hxc hlen6 hrl
  have H_0 := Lib.hid (Holds.new w #[.slice (some ⟨xb, xo, none⟩) x.d.exits.length xc, .slice pl x.d.players.length plc, .slice co x.d.coins.length coc, .slice it x.d.items.length itc, .slice bo x.d.boxes.length boc, .int .i64 x.d.room, .int .i64 x.d.player, .int .i64 x.d.box, .slice (some ⟨b, o, none⟩) x.at_.length pac, .slice pk x.coins.length pkc, .slice (some ⟨wb, wo, none⟩) x.wher.length pwc] 29)
  have HF := Lib.hid hf
  have HWA := Lib.hid h
  clear hf h
  go_enter Try.func6, Try.ntmps6
  go_wp2_with fail
  generalize w.alloc (.cells #[.slice (some ⟨xb, xo, none⟩) x.d.exits.length xc, .slice pl x.d.players.length plc, .slice co x.d.coins.length coc, .slice it x.d.items.length itc, .slice bo x.d.boxes.length boc, .int .i64 x.d.room, .int .i64 x.d.player, .int .i64 x.d.box, .slice (some ⟨b, o, none⟩) x.at_.length pac, .slice pk x.coins.length pkc, .slice (some ⟨wb, wo, none⟩) x.wher.length pwc] 29) = V0 at *
  have B_0 := Lib.hid H_0.out.1
  refine (awake12_any _).mono ?_
  rintro e u1 ⟨rfl, b1⟩
  have B_1 := Lib.hid (bl B_0.out b1)
  have H_1 := Lib.hid (H_0.out.call b1)
  clear b1 B_0 H_0
  have hcH := H_1.out.2.2
  have hlH := H_1.out.2.1
  go_wp2_with fail
  refine (fits12_any x ⟨⟨some ⟨xb, xo, none⟩, xc, pl, plc, co, coc, it, itc, bo, boc⟩, some ⟨b, o, none⟩, pac, pk, pkc, some ⟨wb, wo, none⟩, pwc⟩ _ (HWA.out.below H_1.out.1 (Nat.le_refl _))).mono ?_
  rintro e u2 ⟨rfl, b2⟩
  rw [HF.out]
  clear hcH hlH
  have B_2 := Lib.hid (bl B_1.out b2)
  have H_2 := Lib.hid (H_1.out.call b2)
  clear b2 B_1 H_1
  have hcH := H_2.out.2.2
  have hlH := H_2.out.2.1
  go_wp2_with fail
  obtain ⟨d0, d1, d2, -⟩ := HHX.out _ B_2.out
  clear hcH hlH
  have KS : Hid (∀ w', Below u2.heap.size u2 w' → Below u2.heap.size u2 w' ∧ (∀ ii, w'.cell? ⟨w.heap.size, ii, none⟩ = (#[.slice (some ⟨xb, xo, none⟩) x.d.exits.length xc, .slice pl x.d.players.length plc, .slice co x.d.coins.length coc, .slice it x.d.items.length itc, .slice bo x.d.boxes.length boc, .int .i64 x.d.room, .int .i64 x.d.player, .int .i64 x.d.box, .slice (some ⟨b, o, none⟩) x.at_.length pac, .slice pk x.coins.length pkc, .slice (some ⟨wb, wo, none⟩) x.wher.length pwc][ii]? : Option Value)) ∧ w'.cell? ⟨b, o + i, none⟩ = some (.int .i64 (r : Int)) ∧ w'.cell? ⟨wb, wo + k * 2, none⟩ = some (.int .i64 0) ∧ w'.cell? ⟨wb, wo + k * 2 + 1, none⟩ = some (.int .i64 (r : Int))) := Lib.hid (fun w' hb => ⟨hb, fun ii => (hb.cell (p := ⟨w.heap.size, ii, none⟩) H_2.out.2.1).trans (H_2.out.2.2 ii), cell_call d0 hb, cell_call d1 hb, cell_call d2 hb⟩)
  have D0 := Lib.hid (bdrew1 (Below.refl u2.heap.size u2))
  refine wp_region_noPanic ?_
  refine wp_region_held_drew (S := (fun w' => Below u2.heap.size u2 w' ∧ (∀ ii, w'.cell? ⟨w.heap.size, ii, none⟩ = (#[.slice (some ⟨xb, xo, none⟩) x.d.exits.length xc, .slice pl x.d.players.length plc, .slice co x.d.coins.length coc, .slice it x.d.items.length itc, .slice bo x.d.boxes.length boc, .int .i64 x.d.room, .int .i64 x.d.player, .int .i64 x.d.box, .slice (some ⟨b, o, none⟩) x.at_.length pac, .slice pk x.coins.length pkc, .slice (some ⟨wb, wo, none⟩) x.wher.length pwc][ii]? : Option Value)) ∧ w'.cell? ⟨b, o + i, none⟩ = some (.int .i64 (r : Int)) ∧ w'.cell? ⟨wb, wo + k * 2, none⟩ = some (.int .i64 0) ∧ w'.cell? ⟨wb, wo + k * 2 + 1, none⟩ = some (.int .i64 (r : Int)))) (by kernel_rfl) (by (first | (with_reducible exact KS.out _ D0.out))) (fun hHeld => ?_)
  clear d0 d1 d2
  iterate 10
    (first | refine tkW 0 (v := ?_) ?_ ?_ | refine tkW 1 (v := ?_) ?_ ?_ | refine tkW 2 (v := ?_) ?_ ?_ | refine tkW 3 (v := ?_) ?_ ?_ | refine tkW 4 (v := ?_) ?_ ?_ | refine tkW 5 (v := ?_) ?_ ?_ | refine tkW 6 (v := ?_) ?_ ?_ | refine tkW 7 (v := ?_) ?_ ?_ | refine tkW 8 (v := ?_) ?_ ?_ | refine tkW 9 (v := ?_) ?_ ?_)
    rotate_left
    · (intro ww hSw; (try dsimp only at hSw); go_simp; (try with_reducible rfl))
    try simp only [Act.put, List.setIfInBounds_toArray, List.set_cons_zero, List.set_cons_succ]
  iterate 2
    (first | refine tkW 10 (v := ?_) ?_ ?_ | refine tkW 11 (v := ?_) ?_ ?_)
    rotate_left
    · (intro ww hSw; (try dsimp only at hSw); go_simp; (try with_reducible rfl))
    try simp only [Act.put, List.setIfInBounds_toArray, List.set_cons_zero, List.set_cons_succ]
  refine wpAnyH_done (by kernel_rfl) ?_ _
  refine NoPanic.normal ?_
  clear hHeld KS
  have B_3 := Lib.hid (bl B_2.out D0.out)
  have H_3 := Lib.hid (H_2.out.call D0.out)
  clear B_2 H_2 D0
  generalize u2.drew = V902 at *
  have hcH := H_3.out.2.2
  have hlH := H_3.out.2.1
  go_wp2_with fail
  clear hrun
  clear hcH hlH
  refine (copied_own3 x ⟨⟨some ⟨xb, xo, none⟩, xc, pl, plc, co, coc, it, itc, bo, boc⟩, some ⟨b, o, none⟩, pac, pk, pkc, some ⟨wb, wo, none⟩, pwc⟩ _ (HWA.out.below B_3.out (Nat.le_refl _)) (right_fewW9 FT.out.right)).mono ?_
  rintro e9 wq1 ⟨⟨d1, pa1, pac1, pk1, pkc1, pw1, pwc1⟩, rfl, -, b3, hn⟩
  obtain ⟨g1, hg, hb1, hb2, ⟨e0, e1⟩, hfz, hput⟩ := hn.putPlace (k := k) HKL.out
  simp only at hg
  subst hg
  have HN := Lib.hid (hput ⟨1, (i : Int)⟩)
  have sz1 := b3.size
  have BS := Lib.hid (show Below V902.heap.size V902 ((wq1.setCell ⟨g1, k * 2, none⟩ (.int .i64 1)).setCell ⟨g1, k * 2 + 1, none⟩ (.int .i64 (i : Int))) from ((b3.setCell (p := ⟨g1, k * 2, none⟩) (by show V902.heap.size ≤ g1; omega) (.int .i64 1)).setCell (p := ⟨g1, k * 2 + 1, none⟩) (by show V902.heap.size ≤ g1; omega) (.int .i64 (i : Int))))
  have A4 := Lib.hid (show WorldAt ((wq1.setCell ⟨g1, k * 2, none⟩ (.int .i64 1)).setCell ⟨g1, k * 2 + 1, none⟩ (.int .i64 (i : Int))) ⟨d1, pa1, pac1, pk1, pkc1, some ⟨g1, 0, none⟩, pwc1⟩ y from by rw [← HY.out]; exact HN.out.new.world (HWA.out.below B_3.out (Nat.le_refl _)).d BS.out)
  have z0 : ((wq1.setCell ⟨g1, k * 2, none⟩ (.int .i64 1)).setCell ⟨g1, k * 2 + 1, none⟩ (.int .i64 (i : Int))).heap.size = wq1.heap.size := by simp [World.setCell]
  have ne1 : wq1.heap.size ≠ g1 := by omega
  have ne2 : g1 ≠ wq1.heap.size := by omega
  clear hn b3 hput HN
  go_wp2_with fail
  clear e0 e1 hfz ne1 ne2
  have BO := Lib.hid (Holds.newb (w := w) (A := #[.slice d1.ex x.d.exits.length d1.exc, .slice d1.pl x.d.players.length d1.plc, .slice d1.co x.d.coins.length d1.coc, .slice d1.it x.d.items.length d1.itc, .slice d1.bo x.d.boxes.length d1.boc, .int .i64 x.d.room, .int .i64 x.d.player, .int .i64 x.d.box, .slice pa1 x.at_.length pac1, .slice pk1 x.coins.length pkc1, .slice (some ⟨g1, 0, none⟩) x.wher.length pwc1]) (t := 29) (n := wq1.heap.size) (bl B_3.out BS.out) z0)
  have A5 := Lib.hid (A4.out.call ((Below.refl _ _).alloc (Nat.le_refl _) (.cells #[.slice d1.ex x.d.exits.length d1.exc, .slice d1.pl x.d.players.length d1.plc, .slice d1.co x.d.coins.length d1.coc, .slice d1.it x.d.items.length d1.itc, .slice d1.bo x.d.boxes.length d1.boc, .int .i64 x.d.room, .int .i64 x.d.player, .int .i64 x.d.box, .slice pa1 x.at_.length pac1, .slice pk1 x.coins.length pkc1, .slice (some ⟨g1, 0, none⟩) x.wher.length pwc1] 29)))
  have BS2 := Lib.hid (BS.out.alloc BS.out.size (.cells #[.slice d1.ex x.d.exits.length d1.exc, .slice d1.pl x.d.players.length d1.plc, .slice d1.co x.d.coins.length d1.coc, .slice d1.it x.d.items.length d1.itc, .slice d1.bo x.d.boxes.length d1.boc, .int .i64 x.d.room, .int .i64 x.d.player, .int .i64 x.d.box, .slice pa1 x.at_.length pac1, .slice pk1 x.coins.length pkc1, .slice (some ⟨g1, 0, none⟩) x.wher.length pwc1] 29))
  clear A4 BS z0 hb1 hb2
  generalize ((wq1.setCell ⟨g1, k * 2, none⟩ (.int .i64 1)).setCell ⟨g1, k * 2 + 1, none⟩ (.int .i64 (i : Int))).alloc (.cells #[.slice d1.ex x.d.exits.length d1.exc, .slice d1.pl x.d.players.length d1.plc, .slice d1.co x.d.coins.length d1.coc, .slice d1.it x.d.items.length d1.itc, .slice d1.bo x.d.boxes.length d1.boc, .int .i64 x.d.room, .int .i64 x.d.player, .int .i64 x.d.box, .slice pa1 x.at_.length pac1, .slice pk1 x.coins.length pkc1, .slice (some ⟨g1, 0, none⟩) x.wher.length pwc1] 29) = VN1 at *
  have B_4 := Lib.hid (bl B_3.out BS2.out)
  have H_4 := Lib.hid (H_3.out.call BS2.out)
  have X_4 := BO
  have YA_4 := A5
  clear BO A5 BS2 sz1 B_3 H_3
  have hcH := H_4.out.2.2
  have hlH := H_4.out.2.1
  have hcX := X_4.out.2.2
  have hlX := X_4.out.2.1
  refine (rright_as SY.out ⟨d1, pa1, pac1, pk1, pkc1, some ⟨g1, 0, none⟩, pwc1⟩ _ YA_4.out).mono ?_
  rintro e u4 ⟨rfl, b4⟩
  rw [RY.out]
  clear hcH hlH hcX hlX
  have B_5 := Lib.hid (bl B_4.out b4)
  have H_5 := Lib.hid (H_4.out.call b4)
  have X_5 := Lib.hid (X_4.out.call b4)
  have YA_5 := Lib.hid (YA_4.out.call b4)
  clear b4 B_4 H_4 X_4 YA_4
  have hcH := H_5.out.2.2
  have hlH := H_5.out.2.1
  have hcX := X_5.out.2.2
  have hlX := X_5.out.2.1
  go_wp2_with fail
  have FI := field_items
  refine (slook_any x ⟨⟨some ⟨xb, xo, none⟩, xc, pl, plc, co, coc, it, itc, bo, boc⟩, some ⟨b, o, none⟩, pac, pk, pkc, some ⟨wb, wo, none⟩, pwc⟩ i _ FT.out.right (HWA.out.below B_5.out (Nat.le_refl _)) HIL.out HR1.out).mono ?_
  rintro e u5 ⟨pa5, ia5, pc5, ic5, rfl, -, b5⟩
  rw [HA.out]
  clear hcH hlH hcX hlX
  have B_6 := Lib.hid (bl B_5.out b5)
  have H_6 := Lib.hid (H_5.out.call b5)
  have X_6 := Lib.hid (X_5.out.call b5)
  have YA_6 := Lib.hid (YA_5.out.call b5)
  clear b5 B_5 H_5 X_5 YA_5
  have hcH := H_6.out.2.2
  have hlH := H_6.out.2.1
  have hcX := X_6.out.2.2
  have hlX := X_6.out.2.1
  go_wp2_with fail
  refine (slook_as SY.out ⟨d1, pa1, pac1, pk1, pkc1, some ⟨g1, 0, none⟩, pwc1⟩ i _ RY.out YA_6.out (by rw [SY.out.at_]; exact HIL.out) HR2.out).mono ?_
  rintro e u6 ⟨pa6, ia6, pc6, ic6, rfl, -, b6⟩
  rw [HB.out]
  clear hcH hlH hcX hlX
  have B_7 := Lib.hid (bl B_6.out b6)
  have H_7 := Lib.hid (H_6.out.call b6)
  have X_7 := Lib.hid (X_6.out.call b6)
  have YA_7 := Lib.hid (YA_6.out.call b6)
  clear b6 B_6 H_6 X_6 YA_6
  have hcH := H_7.out.2.2
  have hlH := H_7.out.2.1
  have hcX := X_7.out.2.2
  have hlX := X_7.out.2.1
  go_wp2_with fail
  refine (sown_any x ⟨⟨some ⟨xb, xo, none⟩, xc, pl, plc, co, coc, it, itc, bo, boc⟩, some ⟨b, o, none⟩, pac, pk, pkc, some ⟨wb, wo, none⟩, pwc⟩ i _ FT.out.right (HWA.out.below B_7.out (Nat.le_refl _)) HIL.out HR3.out).mono ?_
  rintro e u7 ⟨pa7, ia7, pc7, ic7, rfl, -, b7⟩
  rw [HC.out]
  clear hcH hlH hcX hlX
  have B_8 := Lib.hid (bl B_7.out b7)
  have H_8 := Lib.hid (H_7.out.call b7)
  have X_8 := Lib.hid (X_7.out.call b7)
  have YA_8 := Lib.hid (YA_7.out.call b7)
  clear b7 B_7 H_7 X_7 YA_7
  have hcH := H_8.out.2.2
  have hlH := H_8.out.2.1
  have hcX := X_8.out.2.2
  have hlX := X_8.out.2.1
  go_wp2_with fail
  refine (sown_as SY.out ⟨d1, pa1, pac1, pk1, pkc1, some ⟨g1, 0, none⟩, pwc1⟩ i _ RY.out YA_8.out (by rw [SY.out.at_]; exact HIL.out) HR4.out).mono ?_
  rintro e u8 ⟨pa8, ia8, pc8, ic8, rfl, -, b8⟩
  rw [HD.out]
  clear hcH hlH hcX hlX
  have B_9 := Lib.hid (bl B_8.out b8)
  have H_9 := Lib.hid (H_8.out.call b8)
  have X_9 := Lib.hid (X_8.out.call b8)
  have YA_9 := Lib.hid (YA_8.out.call b8)
  clear b8 B_8 H_8 X_8 YA_8
  have hcH := H_9.out.2.2
  have hlH := H_9.out.2.1
  have hcX := X_9.out.2.2
  have hlX := X_9.out.2.1
  go_wp2_with fail
  clear hs1 hs2 hs3 FI
  clear hcH hlH hcX hlX
  clear X_9 YA_9
  obtain ⟨d0, -, -, d3⟩ := HHX.out _ B_9.out
  have KS : Hid (∀ w', Below u8.heap.size u8 w' → Below u8.heap.size u8 w' ∧ (∀ ii, w'.cell? ⟨w.heap.size, ii, none⟩ = (#[.slice (some ⟨xb, xo, none⟩) x.d.exits.length xc, .slice pl x.d.players.length plc, .slice co x.d.coins.length coc, .slice it x.d.items.length itc, .slice bo x.d.boxes.length boc, .int .i64 x.d.room, .int .i64 x.d.player, .int .i64 x.d.box, .slice (some ⟨b, o, none⟩) x.at_.length pac, .slice pk x.coins.length pkc, .slice (some ⟨wb, wo, none⟩) x.wher.length pwc][ii]? : Option Value)) ∧ w'.cell? ⟨b, o + i, none⟩ = some (.int .i64 (r : Int)) ∧ w'.cell? ⟨xb, xo + r * 4 + dd, none⟩ = some (.int .i64 (-1))) := Lib.hid (fun w' hb => ⟨hb, fun ii => (hb.cell (p := ⟨w.heap.size, ii, none⟩) H_9.out.2.1).trans (H_9.out.2.2 ii), cell_call d0 hb, cell_call d3 hb⟩)
  have D0 := Lib.hid (bdrew1 (Below.refl u8.heap.size u8))
  refine wp_region_noPanic ?_
  refine wp_region_held_drew (S := (fun w' => Below u8.heap.size u8 w' ∧ (∀ ii, w'.cell? ⟨w.heap.size, ii, none⟩ = (#[.slice (some ⟨xb, xo, none⟩) x.d.exits.length xc, .slice pl x.d.players.length plc, .slice co x.d.coins.length coc, .slice it x.d.items.length itc, .slice bo x.d.boxes.length boc, .int .i64 x.d.room, .int .i64 x.d.player, .int .i64 x.d.box, .slice (some ⟨b, o, none⟩) x.at_.length pac, .slice pk x.coins.length pkc, .slice (some ⟨wb, wo, none⟩) x.wher.length pwc][ii]? : Option Value)) ∧ w'.cell? ⟨b, o + i, none⟩ = some (.int .i64 (r : Int)) ∧ w'.cell? ⟨xb, xo + r * 4 + dd, none⟩ = some (.int .i64 (-1)))) (by kernel_rfl) (by (first | (with_reducible exact KS.out _ D0.out))) (fun hHeld => ?_)
  clear d0 d3
  iterate 10
    (first | refine tkW 0 (v := ?_) ?_ ?_ | refine tkW 1 (v := ?_) ?_ ?_ | refine tkW 2 (v := ?_) ?_ ?_ | refine tkW 3 (v := ?_) ?_ ?_ | refine tkW 4 (v := ?_) ?_ ?_ | refine tkW 5 (v := ?_) ?_ ?_ | refine tkW 6 (v := ?_) ?_ ?_ | refine tkW 7 (v := ?_) ?_ ?_ | refine tkW 8 (v := ?_) ?_ ?_ | refine tkW 9 (v := ?_) ?_ ?_)
    rotate_left
    · (intro ww hSw; (try dsimp only at hSw); go_simp; (try with_reducible rfl))
    try simp only [Act.put, List.setIfInBounds_toArray, List.set_cons_zero, List.set_cons_succ]
  iterate 4
    (first | refine tkW 10 (v := ?_) ?_ ?_ | refine tkW 11 (v := ?_) ?_ ?_ | refine tkW 12 (v := ?_) ?_ ?_ | refine tkW 13 (v := ?_) ?_ ?_)
    rotate_left
    · (intro ww hSw; (try dsimp only at hSw); go_simp; (try with_reducible rfl))
    try simp only [Act.put, List.setIfInBounds_toArray, List.set_cons_zero, List.set_cons_succ]
  refine wpAnyH_done (by kernel_rfl) ?_ _
  refine NoPanic.normal ?_
  clear hHeld KS
  have B_10 := Lib.hid (bl B_9.out D0.out)
  have H_10 := Lib.hid (H_9.out.call D0.out)
  clear B_9 H_9 D0
  generalize u8.drew = V908 at *
  have hcH := H_10.out.2.2
  have hlH := H_10.out.2.1
  go_wp2_with fail
  go_ret
  exact ⟨rfl, B_10.out⟩
set_option maxRecDepth 100000 in
set_option maxHeartbeats 4000000 in
theorem sightMoves_got_go (x : Wd) (xb xo xc : Nat) (pl co it bo : Option Addr) (plc coc itc boc b o pac : Nat) (pk : Option Addr) (pkc wb wo pwc : Nat) (a i c k d dd : Nat) (haa : a ≤ 255) (hcc : c ≤ 255) (hdd : d ≤ 255) (hi : a % x.at_.length = i) (hk : c % x.wher.length = k) (hd : d % 4 = dd) (w : World) (h : WorldAt w ⟨⟨some ⟨xb, xo, none⟩, xc, pl, plc, co, coc, it, itc, bo, boc⟩, some ⟨b, o, none⟩, pac, pk, pkc, some ⟨wb, wo, none⟩, pwc⟩ x) (hf : fitsB x = true) (hlw : 0 < x.wher.length) (hz : plOf x.wher k = ⟨0, (roomOf x i : Int)⟩) (hry : rightW (putW x k ⟨1, (i : Int)⟩) = true) (tn : Nat) (ht : toW x (roomOf x i) dd = (tn : Int)) : Calls Try.prog 6 #[.agg #[.slice (some ⟨xb, xo, none⟩) x.d.exits.length xc, .slice pl x.d.players.length plc, .slice co x.d.coins.length coc, .slice it x.d.items.length itc, .slice bo x.d.boxes.length boc, .int .i64 x.d.room, .int .i64 x.d.player, .int .i64 x.d.box, .slice (some ⟨b, o, none⟩) x.at_.length pac, .slice pk x.coins.length pkc, .slice (some ⟨wb, wo, none⟩) x.wher.length pwc], .int .u8 (a : Int), .int .u8 (c : Int), .int .u8 (d : Int)] w fun e w' => e = .returned (.bool true) ∧ Below w.heap.size w w' := by
  have FT := Lib.hid (fits_fit hf)
  have hlp : 0 < x.at_.length := (right_lens FT.out.right).1
  have hne : ¬ x.at_ = [] := List.length_pos_iff.1 hlp
  have hlen6 := (right_lens FT.out.right).2.1
  have hne0 : ((x.wher.length : Int) == 0) = false := by rw [beq_eq_false_iff_ne]; omega
  have hnw : ¬ x.wher = [] := List.length_pos_iff.1 hlw
  have r1 := run_tmod7 a x.at_.length
  have m1 := run_mod7 a x.at_.length
  rw [hi] at r1 m1
  have hil : i < x.at_.length := by rw [← hi]; exact Nat.mod_lt _ hlp
  have r2 := run_tmod7 c x.wher.length
  have m2 := run_mod7 c x.wher.length
  rw [hk] at r2 m2
  have hkl : k < x.wher.length := by rw [← hk]; exact Nat.mod_lt _ hlw
  have r3 : (d : Int).tmod 4 = (dd : Int) := by rw [← hd]; rfl
  have m3 : (d : Int) % 4 = (dd : Int) := by omega
  have hd4 : dd < 4 := by rw [← hd]; exact Nat.mod_lt _ (by omega)
  have HIL := Lib.hid hil
  have HKL := Lib.hid hkl
  obtain ⟨r, hr⟩ : ∃ r, roomOf x i = r := ⟨_, rfl⟩
  have hrl : r < x.d.exits.length := by rw [← hr]; exact (room_at FT.out.right hil).2
  have HRR := Lib.hid hr
  obtain ⟨b', o', ea, -, hac⟩ := h.at_.at_ hil
  simp only [Option.some.injEq, Addr.mk.injEq, and_true] at ea
  obtain ⟨rfl, rfl⟩ := ea
  have c0 := hac i hil
  rw [(room_at FT.out.right hil).1, hr] at c0
  obtain ⟨wb', wo', ew, -, w0, w1⟩ := PlsAt.cells h.wh hkl
  simp only [Option.some.injEq, Addr.mk.injEq, and_true] at ew
  obtain ⟨rfl, rfl⟩ := ew
  rw [← plOf_get hkl] at w0 w1
  obtain ⟨xb', xo', ex, -, hxc⟩ := h.d.ex.at_ hrl
  simp only [Option.some.injEq, Addr.mk.injEq, and_true] at ex
  obtain ⟨rfl, rfl⟩ := ex
  have x0 := hxc r hrl dd hd4
  rw [exC_at _ hd4, exits_to hrl] at x0
  have hi1 : ¬ (x.at_.length : Int) ≤ (i : Int) := by omega
  have hi2 : (x.at_.length ≤ i) = False := by simp; omega
  have hk1 : ¬ (x.wher.length : Int) ≤ (k : Int) := by omega
  have hk2 : (x.wher.length ≤ k) = False := by simp; omega
  have hr1 : ¬ (x.d.exits.length : Int) ≤ (r : Int) := by omega
  have hr2 : (x.d.exits.length ≤ r) = False := by simp; omega
  have hd1 : ¬ (4 : Int) ≤ (dd : Int) := by omega
  have hd2 : (4 ≤ dd) = False := by simp; omega
  have hd3 : (dd : Int) < 4 := by omega
  rw [hr] at hz
  rw [hz] at w0 w1
  simp only at w0 w1
  have hrun := run_pls7 0 (r : Int)
  obtain ⟨y, hy⟩ : ∃ y, putW x k ⟨1, (i : Int)⟩ = y := ⟨_, rfl⟩
  have SY := Lib.hid (show Shape x y by rw [← hy]; exact putW_shape _ _ _)
  have HY := Lib.hid hy
  have HZ := Lib.hid hz
  obtain ⟨R1, hR1⟩ : ∃ R, lookR x i = R := ⟨_, rfl⟩
  obtain ⟨R2, hR2⟩ : ∃ R, lookR y i = R := ⟨_, rfl⟩
  obtain ⟨R3, hR3⟩ : ∃ R, haveR x i = R := ⟨_, rfl⟩
  obtain ⟨R4, hR4⟩ : ∃ R, haveR y i = R := ⟨_, rfl⟩
  have hcnt : R1.items.length + R3.items.length = R2.items.length + R4.items.length ∧ R2.items.length < R1.items.length := by
    have := got_counts FT.out.right hkl (f := ⟨0, (r : Int)⟩) (g := ⟨1, (i : Int)⟩) (by simp) (by simp) hz (by simp) hry
    rw [← hR1, ← hR2, ← hR3, ← hR4, ← hy]
    simp only [lookR, haveR, lookN, ownN]
    rw [show roomOf (putW x k ⟨1, (i : Int)⟩) i = r from hr, hr, show (putW x k ⟨1, (i : Int)⟩).wher.length = x.wher.length from (putW_shape _ _ _).w]
    exact this
  have hA16 : R1.items.length ≤ 16 := by rw [← hR1]; exact Nat.le_trans (underN_len _ _ _) FT.out.len
  have hC16 : R3.items.length ≤ 16 := by rw [← hR3]; exact Nat.le_trans (underN_len _ _ _) FT.out.len
  rw [hy] at hry
  have RY := Lib.hid hry
  obtain ⟨A, hA⟩ : ∃ n, R1.items.length = n := ⟨_, rfl⟩
  obtain ⟨B, hB⟩ : ∃ n, R2.items.length = n := ⟨_, rfl⟩
  obtain ⟨C, hC⟩ : ∃ n, R3.items.length = n := ⟨_, rfl⟩
  obtain ⟨D, hD⟩ : ∃ n, R4.items.length = n := ⟨_, rfl⟩
  rw [hA, hB, hC, hD] at hcnt
  rw [hA] at hA16
  rw [hC] at hC16
  have hs1 : IntKind.i64.wrap ((A : Int) + (C : Int)) = ((A + C : Nat) : Int) := by rw [IntWalk.i64_in _ (by omega)]; omega
  have hs2 : IntKind.i64.wrap ((B : Int) + (D : Int)) = ((A + C : Nat) : Int) := by rw [IntWalk.i64_in _ (by omega)]; omega
  have hs3 : ¬ (A : Int) ≤ (B : Int) := by omega
  have HA := Lib.hid hA
  have HB := Lib.hid hB
  have HC := Lib.hid hC
  have HD := Lib.hid hD
  have HR1 := Lib.hid hR1
  have HR2 := Lib.hid hR2
  have HR3 := Lib.hid hR3
  have HR4 := Lib.hid hR4
  clear hcnt hA16 hC16 hA hB hC hD hR1 hR2 hR3 hR4
  clear hy hz hry
  rw [hr] at ht
  rw [ht] at x0
  have htn : tn < x.d.exits.length := by have := toW_in FT.out.right hrl hd4; rw [ht] at this; omega
  clear ht
  have hpos : ¬ (tn : Int) < 0 := by omega
  obtain ⟨v, hv⟩ : ∃ v, goW x i (tn : Int) = v := ⟨_, rfl⟩
  have SV := Lib.hid (show Shape x v by rw [← hv]; exact goW_shape _ _ _)
  have RV := Lib.hid (show rightW v = true by rw [← hv]; exact goW_right FT.out.right ⟨by omega, by omega⟩)
  have hvi : roomOf v i = tn := by rw [← hv]; simp [roomOf, goW, List.getD, hil]
  have hvl : v.at_.length = x.at_.length := SV.out.at_
  have HV := Lib.hid hv
  obtain ⟨l1, hl1⟩ : ∃ l, presN v v.at_.length r = l := ⟨_, rfl⟩
  obtain ⟨l2, hl2⟩ : ∃ l, presN v v.at_.length tn = l := ⟨_, rfl⟩
  obtain ⟨R5, hR5⟩ : ∃ R, lookR v i = R := ⟨_, rfl⟩
  have HRM := Lib.hid (show R5.room = (tn : Int) by rw [← hR5]; show (roomOf v i : Int) = _; rw [hvi])
  have HIV := Lib.hid (show i < v.at_.length by omega)
  have HL1 := Lib.hid (show ∀ n (h : n < l1.length), ∃ m : Nat, l1[n] = m ∧ (m = i → tn = r) from by intro n hn; subst hl1; obtain ⟨m, e, _, hm⟩ := pres_get hn; exact ⟨m, e, fun e2 => by subst e2; rw [← hvi, hm]⟩)
  have HL2 := Lib.hid (show ∀ n (h : n < l2.length), ∃ m : Nat, l2[n] = m from by intro n hn; subst hl2; obtain ⟨m, e, _⟩ := pres_get hn; exact ⟨m, e⟩)
  have HI2 := Lib.hid (show inT l2 l2.length (i : Int) = true from inT_all (by rw [← hl2]; exact pres_mem.2 ⟨HIV.out, hvi⟩))
  have hn1 : l1.length ≤ 6 := by rw [← hl1]; exact Nat.le_trans (presN_len _ _ _) (by omega)
  have hn2 : l2.length ≤ 6 := by rw [← hl2]; exact Nat.le_trans (presN_len _ _ _) (by omega)
  have HP1 := Lib.hid hl1
  have HP2 := Lib.hid hl2
  have HR5 := Lib.hid hR5
  clear hv hvi hvl hl1 hl2 hR5 htn
  have HHX := Lib.hid (show ∀ W : World, Below w.heap.size w W → (W.cell? ⟨b, o + i, none⟩ = some (.int .i64 (r : Int)) ∧ W.cell? ⟨wb, wo + k * 2, none⟩ = some (.int .i64 0) ∧ W.cell? ⟨wb, wo + k * 2 + 1, none⟩ = some (.int .i64 (r : Int)) ∧ W.cell? ⟨xb, xo + r * 4 + dd, none⟩ = some (.int .i64 (tn : Int))) from fun W hW => ⟨cell_call c0 hW, cell_call w0 hW, cell_call w1 hW, cell_call x0 hW⟩)
  clear hi hk hd hlp hil hkl hlw hr hac c0 w0 w1 x0 hxc hlen6 hrl
  have H_0 := Lib.hid (Holds.new w #[.slice (some ⟨xb, xo, none⟩) x.d.exits.length xc, .slice pl x.d.players.length plc, .slice co x.d.coins.length coc, .slice it x.d.items.length itc, .slice bo x.d.boxes.length boc, .int .i64 x.d.room, .int .i64 x.d.player, .int .i64 x.d.box, .slice (some ⟨b, o, none⟩) x.at_.length pac, .slice pk x.coins.length pkc, .slice (some ⟨wb, wo, none⟩) x.wher.length pwc] 29)
  have HF := Lib.hid hf
  have HWA := Lib.hid h
  clear hf h
  go_enter Try.func6, Try.ntmps6
  go_wp2_with fail
  generalize w.alloc (.cells #[.slice (some ⟨xb, xo, none⟩) x.d.exits.length xc, .slice pl x.d.players.length plc, .slice co x.d.coins.length coc, .slice it x.d.items.length itc, .slice bo x.d.boxes.length boc, .int .i64 x.d.room, .int .i64 x.d.player, .int .i64 x.d.box, .slice (some ⟨b, o, none⟩) x.at_.length pac, .slice pk x.coins.length pkc, .slice (some ⟨wb, wo, none⟩) x.wher.length pwc] 29) = V0 at *
  have B_0 := Lib.hid H_0.out.1
  refine (awake12_any _).mono ?_
  rintro e u1 ⟨rfl, b1⟩
  have B_1 := Lib.hid (bl B_0.out b1)
  have H_1 := Lib.hid (H_0.out.call b1)
  clear b1 B_0 H_0
  have hcH := H_1.out.2.2
  have hlH := H_1.out.2.1
  go_wp2_with fail
  refine (fits12_any x ⟨⟨some ⟨xb, xo, none⟩, xc, pl, plc, co, coc, it, itc, bo, boc⟩, some ⟨b, o, none⟩, pac, pk, pkc, some ⟨wb, wo, none⟩, pwc⟩ _ (HWA.out.below H_1.out.1 (Nat.le_refl _))).mono ?_
  rintro e u2 ⟨rfl, b2⟩
  rw [HF.out]
  clear hcH hlH
  have B_2 := Lib.hid (bl B_1.out b2)
  have H_2 := Lib.hid (H_1.out.call b2)
  clear b2 B_1 H_1
  have hcH := H_2.out.2.2
  have hlH := H_2.out.2.1
  go_wp2_with fail
  obtain ⟨d0, d1, d2, -⟩ := HHX.out _ B_2.out
  clear hcH hlH
  have KS : Hid (∀ w', Below u2.heap.size u2 w' → Below u2.heap.size u2 w' ∧ (∀ ii, w'.cell? ⟨w.heap.size, ii, none⟩ = (#[.slice (some ⟨xb, xo, none⟩) x.d.exits.length xc, .slice pl x.d.players.length plc, .slice co x.d.coins.length coc, .slice it x.d.items.length itc, .slice bo x.d.boxes.length boc, .int .i64 x.d.room, .int .i64 x.d.player, .int .i64 x.d.box, .slice (some ⟨b, o, none⟩) x.at_.length pac, .slice pk x.coins.length pkc, .slice (some ⟨wb, wo, none⟩) x.wher.length pwc][ii]? : Option Value)) ∧ w'.cell? ⟨b, o + i, none⟩ = some (.int .i64 (r : Int)) ∧ w'.cell? ⟨wb, wo + k * 2, none⟩ = some (.int .i64 0) ∧ w'.cell? ⟨wb, wo + k * 2 + 1, none⟩ = some (.int .i64 (r : Int))) := Lib.hid (fun w' hb => ⟨hb, fun ii => (hb.cell (p := ⟨w.heap.size, ii, none⟩) H_2.out.2.1).trans (H_2.out.2.2 ii), cell_call d0 hb, cell_call d1 hb, cell_call d2 hb⟩)
  have D0 := Lib.hid (bdrew1 (Below.refl u2.heap.size u2))
  refine wp_region_noPanic ?_
  refine wp_region_held_drew (S := (fun w' => Below u2.heap.size u2 w' ∧ (∀ ii, w'.cell? ⟨w.heap.size, ii, none⟩ = (#[.slice (some ⟨xb, xo, none⟩) x.d.exits.length xc, .slice pl x.d.players.length plc, .slice co x.d.coins.length coc, .slice it x.d.items.length itc, .slice bo x.d.boxes.length boc, .int .i64 x.d.room, .int .i64 x.d.player, .int .i64 x.d.box, .slice (some ⟨b, o, none⟩) x.at_.length pac, .slice pk x.coins.length pkc, .slice (some ⟨wb, wo, none⟩) x.wher.length pwc][ii]? : Option Value)) ∧ w'.cell? ⟨b, o + i, none⟩ = some (.int .i64 (r : Int)) ∧ w'.cell? ⟨wb, wo + k * 2, none⟩ = some (.int .i64 0) ∧ w'.cell? ⟨wb, wo + k * 2 + 1, none⟩ = some (.int .i64 (r : Int)))) (by kernel_rfl) (by (first | (with_reducible exact KS.out _ D0.out))) (fun hHeld => ?_)
  clear d0 d1 d2
  iterate 10
    (first | refine tkW 0 (v := ?_) ?_ ?_ | refine tkW 1 (v := ?_) ?_ ?_ | refine tkW 2 (v := ?_) ?_ ?_ | refine tkW 3 (v := ?_) ?_ ?_ | refine tkW 4 (v := ?_) ?_ ?_ | refine tkW 5 (v := ?_) ?_ ?_ | refine tkW 6 (v := ?_) ?_ ?_ | refine tkW 7 (v := ?_) ?_ ?_ | refine tkW 8 (v := ?_) ?_ ?_ | refine tkW 9 (v := ?_) ?_ ?_)
    rotate_left
    · (intro ww hSw; (try dsimp only at hSw); go_simp; (try with_reducible rfl))
    try simp only [Act.put, List.setIfInBounds_toArray, List.set_cons_zero, List.set_cons_succ]
  iterate 2
    (first | refine tkW 10 (v := ?_) ?_ ?_ | refine tkW 11 (v := ?_) ?_ ?_)
    rotate_left
    · (intro ww hSw; (try dsimp only at hSw); go_simp; (try with_reducible rfl))
    try simp only [Act.put, List.setIfInBounds_toArray, List.set_cons_zero, List.set_cons_succ]
  refine wpAnyH_done (by kernel_rfl) ?_ _
  refine NoPanic.normal ?_
  clear hHeld KS
  have B_3 := Lib.hid (bl B_2.out D0.out)
  have H_3 := Lib.hid (H_2.out.call D0.out)
  clear B_2 H_2 D0
  generalize u2.drew = V902 at *
  have hcH := H_3.out.2.2
  have hlH := H_3.out.2.1
  go_wp2_with fail
  clear hrun
  clear hcH hlH
  refine (copied_own3 x ⟨⟨some ⟨xb, xo, none⟩, xc, pl, plc, co, coc, it, itc, bo, boc⟩, some ⟨b, o, none⟩, pac, pk, pkc, some ⟨wb, wo, none⟩, pwc⟩ _ (HWA.out.below B_3.out (Nat.le_refl _)) (right_fewW9 FT.out.right)).mono ?_
  rintro e9 wq1 ⟨⟨d1, pa1, pac1, pk1, pkc1, pw1, pwc1⟩, rfl, -, b3, hn⟩
  obtain ⟨g1, hg, hb1, hb2, ⟨e0, e1⟩, hfz, hput⟩ := hn.putPlace (k := k) HKL.out
  simp only at hg
  subst hg
  have HN := Lib.hid (hput ⟨1, (i : Int)⟩)
  have sz1 := b3.size
  have BS := Lib.hid (show Below V902.heap.size V902 ((wq1.setCell ⟨g1, k * 2, none⟩ (.int .i64 1)).setCell ⟨g1, k * 2 + 1, none⟩ (.int .i64 (i : Int))) from ((b3.setCell (p := ⟨g1, k * 2, none⟩) (by show V902.heap.size ≤ g1; omega) (.int .i64 1)).setCell (p := ⟨g1, k * 2 + 1, none⟩) (by show V902.heap.size ≤ g1; omega) (.int .i64 (i : Int))))
  have A4 := Lib.hid (show WorldAt ((wq1.setCell ⟨g1, k * 2, none⟩ (.int .i64 1)).setCell ⟨g1, k * 2 + 1, none⟩ (.int .i64 (i : Int))) ⟨d1, pa1, pac1, pk1, pkc1, some ⟨g1, 0, none⟩, pwc1⟩ y from by rw [← HY.out]; exact HN.out.new.world (HWA.out.below B_3.out (Nat.le_refl _)).d BS.out)
  have z0 : ((wq1.setCell ⟨g1, k * 2, none⟩ (.int .i64 1)).setCell ⟨g1, k * 2 + 1, none⟩ (.int .i64 (i : Int))).heap.size = wq1.heap.size := by simp [World.setCell]
  have ne1 : wq1.heap.size ≠ g1 := by omega
  have ne2 : g1 ≠ wq1.heap.size := by omega
  clear hn b3 hput HN
  go_wp2_with fail
  clear e0 e1 hfz ne1 ne2
  have BO := Lib.hid (Holds.newb (w := w) (A := #[.slice d1.ex x.d.exits.length d1.exc, .slice d1.pl x.d.players.length d1.plc, .slice d1.co x.d.coins.length d1.coc, .slice d1.it x.d.items.length d1.itc, .slice d1.bo x.d.boxes.length d1.boc, .int .i64 x.d.room, .int .i64 x.d.player, .int .i64 x.d.box, .slice pa1 x.at_.length pac1, .slice pk1 x.coins.length pkc1, .slice (some ⟨g1, 0, none⟩) x.wher.length pwc1]) (t := 29) (n := wq1.heap.size) (bl B_3.out BS.out) z0)
  have A5 := Lib.hid (A4.out.call ((Below.refl _ _).alloc (Nat.le_refl _) (.cells #[.slice d1.ex x.d.exits.length d1.exc, .slice d1.pl x.d.players.length d1.plc, .slice d1.co x.d.coins.length d1.coc, .slice d1.it x.d.items.length d1.itc, .slice d1.bo x.d.boxes.length d1.boc, .int .i64 x.d.room, .int .i64 x.d.player, .int .i64 x.d.box, .slice pa1 x.at_.length pac1, .slice pk1 x.coins.length pkc1, .slice (some ⟨g1, 0, none⟩) x.wher.length pwc1] 29)))
  have BS2 := Lib.hid (BS.out.alloc BS.out.size (.cells #[.slice d1.ex x.d.exits.length d1.exc, .slice d1.pl x.d.players.length d1.plc, .slice d1.co x.d.coins.length d1.coc, .slice d1.it x.d.items.length d1.itc, .slice d1.bo x.d.boxes.length d1.boc, .int .i64 x.d.room, .int .i64 x.d.player, .int .i64 x.d.box, .slice pa1 x.at_.length pac1, .slice pk1 x.coins.length pkc1, .slice (some ⟨g1, 0, none⟩) x.wher.length pwc1] 29))
  clear A4 BS z0 hb1 hb2
  generalize ((wq1.setCell ⟨g1, k * 2, none⟩ (.int .i64 1)).setCell ⟨g1, k * 2 + 1, none⟩ (.int .i64 (i : Int))).alloc (.cells #[.slice d1.ex x.d.exits.length d1.exc, .slice d1.pl x.d.players.length d1.plc, .slice d1.co x.d.coins.length d1.coc, .slice d1.it x.d.items.length d1.itc, .slice d1.bo x.d.boxes.length d1.boc, .int .i64 x.d.room, .int .i64 x.d.player, .int .i64 x.d.box, .slice pa1 x.at_.length pac1, .slice pk1 x.coins.length pkc1, .slice (some ⟨g1, 0, none⟩) x.wher.length pwc1] 29) = VN1 at *
  have B_4 := Lib.hid (bl B_3.out BS2.out)
  have H_4 := Lib.hid (H_3.out.call BS2.out)
  have X_4 := BO
  have YA_4 := A5
  clear BO A5 BS2 sz1 B_3 H_3
  have hcH := H_4.out.2.2
  have hlH := H_4.out.2.1
  have hcX := X_4.out.2.2
  have hlX := X_4.out.2.1
  refine (rright_as SY.out ⟨d1, pa1, pac1, pk1, pkc1, some ⟨g1, 0, none⟩, pwc1⟩ _ YA_4.out).mono ?_
  rintro e u4 ⟨rfl, b4⟩
  rw [RY.out]
  clear hcH hlH hcX hlX
  have B_5 := Lib.hid (bl B_4.out b4)
  have H_5 := Lib.hid (H_4.out.call b4)
  have X_5 := Lib.hid (X_4.out.call b4)
  have YA_5 := Lib.hid (YA_4.out.call b4)
  clear b4 B_4 H_4 X_4 YA_4
  have hcH := H_5.out.2.2
  have hlH := H_5.out.2.1
  have hcX := X_5.out.2.2
  have hlX := X_5.out.2.1
  go_wp2_with fail
  have FI := field_items
  refine (slook_any x ⟨⟨some ⟨xb, xo, none⟩, xc, pl, plc, co, coc, it, itc, bo, boc⟩, some ⟨b, o, none⟩, pac, pk, pkc, some ⟨wb, wo, none⟩, pwc⟩ i _ FT.out.right (HWA.out.below B_5.out (Nat.le_refl _)) HIL.out HR1.out).mono ?_
  rintro e u5 ⟨pa5, ia5, pc5, ic5, rfl, -, b5⟩
  rw [HA.out]
  clear hcH hlH hcX hlX
  have B_6 := Lib.hid (bl B_5.out b5)
  have H_6 := Lib.hid (H_5.out.call b5)
  have X_6 := Lib.hid (X_5.out.call b5)
  have YA_6 := Lib.hid (YA_5.out.call b5)
  clear b5 B_5 H_5 X_5 YA_5
  have hcH := H_6.out.2.2
  have hlH := H_6.out.2.1
  have hcX := X_6.out.2.2
  have hlX := X_6.out.2.1
  go_wp2_with fail
  refine (slook_as SY.out ⟨d1, pa1, pac1, pk1, pkc1, some ⟨g1, 0, none⟩, pwc1⟩ i _ RY.out YA_6.out (by rw [SY.out.at_]; exact HIL.out) HR2.out).mono ?_
  rintro e u6 ⟨pa6, ia6, pc6, ic6, rfl, -, b6⟩
  rw [HB.out]
  clear hcH hlH hcX hlX
  have B_7 := Lib.hid (bl B_6.out b6)
  have H_7 := Lib.hid (H_6.out.call b6)
  have X_7 := Lib.hid (X_6.out.call b6)
  have YA_7 := Lib.hid (YA_6.out.call b6)
  clear b6 B_6 H_6 X_6 YA_6
  have hcH := H_7.out.2.2
  have hlH := H_7.out.2.1
  have hcX := X_7.out.2.2
  have hlX := X_7.out.2.1
  go_wp2_with fail
  refine (sown_any x ⟨⟨some ⟨xb, xo, none⟩, xc, pl, plc, co, coc, it, itc, bo, boc⟩, some ⟨b, o, none⟩, pac, pk, pkc, some ⟨wb, wo, none⟩, pwc⟩ i _ FT.out.right (HWA.out.below B_7.out (Nat.le_refl _)) HIL.out HR3.out).mono ?_
  rintro e u7 ⟨pa7, ia7, pc7, ic7, rfl, -, b7⟩
  rw [HC.out]
  clear hcH hlH hcX hlX
  have B_8 := Lib.hid (bl B_7.out b7)
  have H_8 := Lib.hid (H_7.out.call b7)
  have X_8 := Lib.hid (X_7.out.call b7)
  have YA_8 := Lib.hid (YA_7.out.call b7)
  clear b7 B_7 H_7 X_7 YA_7
  have hcH := H_8.out.2.2
  have hlH := H_8.out.2.1
  have hcX := X_8.out.2.2
  have hlX := X_8.out.2.1
  go_wp2_with fail
  refine (sown_as SY.out ⟨d1, pa1, pac1, pk1, pkc1, some ⟨g1, 0, none⟩, pwc1⟩ i _ RY.out YA_8.out (by rw [SY.out.at_]; exact HIL.out) HR4.out).mono ?_
  rintro e u8 ⟨pa8, ia8, pc8, ic8, rfl, -, b8⟩
  rw [HD.out]
  clear hcH hlH hcX hlX
  have B_9 := Lib.hid (bl B_8.out b8)
  have H_9 := Lib.hid (H_8.out.call b8)
  have X_9 := Lib.hid (X_8.out.call b8)
  have YA_9 := Lib.hid (YA_8.out.call b8)
  clear b8 B_8 H_8 X_8 YA_8
  have hcH := H_9.out.2.2
  have hlH := H_9.out.2.1
  have hcX := X_9.out.2.2
  have hlX := X_9.out.2.1
  go_wp2_with fail
  clear hs1 hs2 hs3 FI
  clear hcH hlH hcX hlX
  clear X_9 YA_9
  obtain ⟨d0, -, -, d3⟩ := HHX.out _ B_9.out
  have KS : Hid (∀ w', Below u8.heap.size u8 w' → Below u8.heap.size u8 w' ∧ (∀ ii, w'.cell? ⟨w.heap.size, ii, none⟩ = (#[.slice (some ⟨xb, xo, none⟩) x.d.exits.length xc, .slice pl x.d.players.length plc, .slice co x.d.coins.length coc, .slice it x.d.items.length itc, .slice bo x.d.boxes.length boc, .int .i64 x.d.room, .int .i64 x.d.player, .int .i64 x.d.box, .slice (some ⟨b, o, none⟩) x.at_.length pac, .slice pk x.coins.length pkc, .slice (some ⟨wb, wo, none⟩) x.wher.length pwc][ii]? : Option Value)) ∧ w'.cell? ⟨b, o + i, none⟩ = some (.int .i64 (r : Int)) ∧ w'.cell? ⟨xb, xo + r * 4 + dd, none⟩ = some (.int .i64 (tn : Int))) := Lib.hid (fun w' hb => ⟨hb, fun ii => (hb.cell (p := ⟨w.heap.size, ii, none⟩) H_9.out.2.1).trans (H_9.out.2.2 ii), cell_call d0 hb, cell_call d3 hb⟩)
  have D0 := Lib.hid (bdrew1 (Below.refl u8.heap.size u8))
  refine wp_region_noPanic ?_
  refine wp_region_held_drew (S := (fun w' => Below u8.heap.size u8 w' ∧ (∀ ii, w'.cell? ⟨w.heap.size, ii, none⟩ = (#[.slice (some ⟨xb, xo, none⟩) x.d.exits.length xc, .slice pl x.d.players.length plc, .slice co x.d.coins.length coc, .slice it x.d.items.length itc, .slice bo x.d.boxes.length boc, .int .i64 x.d.room, .int .i64 x.d.player, .int .i64 x.d.box, .slice (some ⟨b, o, none⟩) x.at_.length pac, .slice pk x.coins.length pkc, .slice (some ⟨wb, wo, none⟩) x.wher.length pwc][ii]? : Option Value)) ∧ w'.cell? ⟨b, o + i, none⟩ = some (.int .i64 (r : Int)) ∧ w'.cell? ⟨xb, xo + r * 4 + dd, none⟩ = some (.int .i64 (tn : Int)))) (by kernel_rfl) (by (first | (with_reducible exact KS.out _ D0.out))) (fun hHeld => ?_)
  clear d0 d3
  iterate 10
    (first | refine tkW 0 (v := ?_) ?_ ?_ | refine tkW 1 (v := ?_) ?_ ?_ | refine tkW 2 (v := ?_) ?_ ?_ | refine tkW 3 (v := ?_) ?_ ?_ | refine tkW 4 (v := ?_) ?_ ?_ | refine tkW 5 (v := ?_) ?_ ?_ | refine tkW 6 (v := ?_) ?_ ?_ | refine tkW 7 (v := ?_) ?_ ?_ | refine tkW 8 (v := ?_) ?_ ?_ | refine tkW 9 (v := ?_) ?_ ?_)
    rotate_left
    · (intro ww hSw; (try dsimp only at hSw); go_simp; (try with_reducible rfl))
    try simp only [Act.put, List.setIfInBounds_toArray, List.set_cons_zero, List.set_cons_succ]
  iterate 4
    (first | refine tkW 10 (v := ?_) ?_ ?_ | refine tkW 11 (v := ?_) ?_ ?_ | refine tkW 12 (v := ?_) ?_ ?_ | refine tkW 13 (v := ?_) ?_ ?_)
    rotate_left
    · (intro ww hSw; (try dsimp only at hSw); go_simp; (try with_reducible rfl))
    try simp only [Act.put, List.setIfInBounds_toArray, List.set_cons_zero, List.set_cons_succ]
  refine wpAnyH_done (by kernel_rfl) ?_ _
  refine NoPanic.normal ?_
  clear hHeld KS
  have B_10 := Lib.hid (bl B_9.out D0.out)
  have H_10 := Lib.hid (H_9.out.call D0.out)
  clear B_9 H_9 D0
  generalize u8.drew = V908 at *
  have hcH := H_10.out.2.2
  have hlH := H_10.out.2.1
  go_wp2_with fail
  clear hcH hlH
  refine (copied_own3 x ⟨⟨some ⟨xb, xo, none⟩, xc, pl, plc, co, coc, it, itc, bo, boc⟩, some ⟨b, o, none⟩, pac, pk, pkc, some ⟨wb, wo, none⟩, pwc⟩ _ (HWA.out.below B_10.out (Nat.le_refl _)) (right_fewW9 FT.out.right)).mono ?_
  rintro e9 wq2 ⟨⟨d2, pa2, pac2, pk2, pkc2, pw2, pwc2⟩, rfl, -, b3, hn⟩
  obtain ⟨g2, hg, hb1, hb2, e0, hfz, hput⟩ := hn.putAt (k := i) HIL.out
  simp only at hg
  subst hg
  have HN := Lib.hid (hput (tn : Int))
  have sz1 := b3.size
  have BS := Lib.hid (show Below V908.heap.size V908 (wq2.setCell ⟨g2, i, none⟩ (.int .i64 (tn : Int))) from (b3.setCell (p := ⟨g2, i, none⟩) (by show V908.heap.size ≤ g2; omega) (.int .i64 (tn : Int))))
  have A4 := Lib.hid (show WorldAt (wq2.setCell ⟨g2, i, none⟩ (.int .i64 (tn : Int))) ⟨d2, some ⟨g2, 0, none⟩, pac2, pk2, pkc2, pw2, pwc2⟩ v from by rw [← HV.out]; exact HN.out.new.world (HWA.out.below B_10.out (Nat.le_refl _)).d BS.out)
  have z0 : (wq2.setCell ⟨g2, i, none⟩ (.int .i64 (tn : Int))).heap.size = wq2.heap.size := by simp [World.setCell]
  have ne1 : wq2.heap.size ≠ g2 := by omega
  have ne2 : g2 ≠ wq2.heap.size := by omega
  clear hn b3 hput HN
  go_wp2_with fail
  clear e0 hfz ne1 ne2
  have BO := Lib.hid (Holds.newb (w := w) (A := #[.slice d2.ex x.d.exits.length d2.exc, .slice d2.pl x.d.players.length d2.plc, .slice d2.co x.d.coins.length d2.coc, .slice d2.it x.d.items.length d2.itc, .slice d2.bo x.d.boxes.length d2.boc, .int .i64 x.d.room, .int .i64 x.d.player, .int .i64 x.d.box, .slice (some ⟨g2, 0, none⟩) x.at_.length pac2, .slice pk2 x.coins.length pkc2, .slice pw2 x.wher.length pwc2]) (t := 29) (n := wq2.heap.size) (bl B_10.out BS.out) z0)
  have A5 := Lib.hid (A4.out.call ((Below.refl _ _).alloc (Nat.le_refl _) (.cells #[.slice d2.ex x.d.exits.length d2.exc, .slice d2.pl x.d.players.length d2.plc, .slice d2.co x.d.coins.length d2.coc, .slice d2.it x.d.items.length d2.itc, .slice d2.bo x.d.boxes.length d2.boc, .int .i64 x.d.room, .int .i64 x.d.player, .int .i64 x.d.box, .slice (some ⟨g2, 0, none⟩) x.at_.length pac2, .slice pk2 x.coins.length pkc2, .slice pw2 x.wher.length pwc2] 29)))
  have BS2 := Lib.hid (BS.out.alloc BS.out.size (.cells #[.slice d2.ex x.d.exits.length d2.exc, .slice d2.pl x.d.players.length d2.plc, .slice d2.co x.d.coins.length d2.coc, .slice d2.it x.d.items.length d2.itc, .slice d2.bo x.d.boxes.length d2.boc, .int .i64 x.d.room, .int .i64 x.d.player, .int .i64 x.d.box, .slice (some ⟨g2, 0, none⟩) x.at_.length pac2, .slice pk2 x.coins.length pkc2, .slice pw2 x.wher.length pwc2] 29))
  clear A4 BS z0 hb1 hb2
  generalize (wq2.setCell ⟨g2, i, none⟩ (.int .i64 (tn : Int))).alloc (.cells #[.slice d2.ex x.d.exits.length d2.exc, .slice d2.pl x.d.players.length d2.plc, .slice d2.co x.d.coins.length d2.coc, .slice d2.it x.d.items.length d2.itc, .slice d2.bo x.d.boxes.length d2.boc, .int .i64 x.d.room, .int .i64 x.d.player, .int .i64 x.d.box, .slice (some ⟨g2, 0, none⟩) x.at_.length pac2, .slice pk2 x.coins.length pkc2, .slice pw2 x.wher.length pwc2] 29) = VN2 at *
  have B_11 := Lib.hid (bl B_10.out BS2.out)
  have H_11 := Lib.hid (H_10.out.call BS2.out)
  have Y_11 := BO
  have VA_11 := A5
  clear BO A5 BS2 sz1 B_10 H_10
  obtain ⟨d0, -, -, -⟩ := HHX.out _ B_11.out
  have KS : Hid (∀ w', Below VN2.heap.size VN2 w' → Below VN2.heap.size VN2 w' ∧ (∀ ii, w'.cell? ⟨w.heap.size, ii, none⟩ = (#[.slice (some ⟨xb, xo, none⟩) x.d.exits.length xc, .slice pl x.d.players.length plc, .slice co x.d.coins.length coc, .slice it x.d.items.length itc, .slice bo x.d.boxes.length boc, .int .i64 x.d.room, .int .i64 x.d.player, .int .i64 x.d.box, .slice (some ⟨b, o, none⟩) x.at_.length pac, .slice pk x.coins.length pkc, .slice (some ⟨wb, wo, none⟩) x.wher.length pwc][ii]? : Option Value)) ∧ (∀ ii, w'.cell? ⟨wq2.heap.size, ii, none⟩ = (#[.slice d2.ex x.d.exits.length d2.exc, .slice d2.pl x.d.players.length d2.plc, .slice d2.co x.d.coins.length d2.coc, .slice d2.it x.d.items.length d2.itc, .slice d2.bo x.d.boxes.length d2.boc, .int .i64 x.d.room, .int .i64 x.d.player, .int .i64 x.d.box, .slice (some ⟨g2, 0, none⟩) x.at_.length pac2, .slice pk2 x.coins.length pkc2, .slice pw2 x.wher.length pwc2][ii]? : Option Value)) ∧ w'.cell? ⟨b, o + i, none⟩ = some (.int .i64 (r : Int))) := Lib.hid (fun w' hb => ⟨hb, fun ii => (hb.cell (p := ⟨w.heap.size, ii, none⟩) H_11.out.2.1).trans (H_11.out.2.2 ii), fun ii => (hb.cell (p := ⟨wq2.heap.size, ii, none⟩) Y_11.out.2.1).trans (Y_11.out.2.2 ii), cell_call d0 hb⟩)
  have D0 := Lib.hid (bdrew1 (Below.refl VN2.heap.size VN2))
  refine wp_region_noPanic ?_
  refine wp_region_held_drew (S := (fun w' => Below VN2.heap.size VN2 w' ∧ (∀ ii, w'.cell? ⟨w.heap.size, ii, none⟩ = (#[.slice (some ⟨xb, xo, none⟩) x.d.exits.length xc, .slice pl x.d.players.length plc, .slice co x.d.coins.length coc, .slice it x.d.items.length itc, .slice bo x.d.boxes.length boc, .int .i64 x.d.room, .int .i64 x.d.player, .int .i64 x.d.box, .slice (some ⟨b, o, none⟩) x.at_.length pac, .slice pk x.coins.length pkc, .slice (some ⟨wb, wo, none⟩) x.wher.length pwc][ii]? : Option Value)) ∧ (∀ ii, w'.cell? ⟨wq2.heap.size, ii, none⟩ = (#[.slice d2.ex x.d.exits.length d2.exc, .slice d2.pl x.d.players.length d2.plc, .slice d2.co x.d.coins.length d2.coc, .slice d2.it x.d.items.length d2.itc, .slice d2.bo x.d.boxes.length d2.boc, .int .i64 x.d.room, .int .i64 x.d.player, .int .i64 x.d.box, .slice (some ⟨g2, 0, none⟩) x.at_.length pac2, .slice pk2 x.coins.length pkc2, .slice pw2 x.wher.length pwc2][ii]? : Option Value)) ∧ w'.cell? ⟨b, o + i, none⟩ = some (.int .i64 (r : Int)))) (by kernel_rfl) (by (first | (with_reducible exact KS.out _ D0.out))) (fun hHeld => ?_)
  clear d0
  iterate 6
    (first | refine tkW 0 (v := ?_) ?_ ?_ | refine tkW 1 (v := ?_) ?_ ?_ | refine tkW 2 (v := ?_) ?_ ?_ | refine tkW 3 (v := ?_) ?_ ?_ | refine tkW 4 (v := ?_) ?_ ?_ | refine tkW 5 (v := ?_) ?_ ?_)
    rotate_left
    · (intro ww hSw; (try dsimp only at hSw); go_simp; (try with_reducible rfl))
    try simp only [Act.put, List.setIfInBounds_toArray, List.set_cons_zero, List.set_cons_succ]
  refine rdy1 6 (fun K hK => ?_)
  go_simp
  refine (spresent_as SV.out ⟨d2, some ⟨g2, 0, none⟩, pac2, pk2, pkc2, pw2, pwc2⟩ _ RV.out (VA_11.out.call D0.out) r HP1.out).mono ?_; rintro e x1 ⟨qa1, qc1, rfl, g9, hb9⟩; have D1 := Lib.hid (below_call D0.out D0.out.size hb9); have PL1 := Lib.hid g9; clear hb9 g9
  try go_wp2_with fail
  refine hK.out _ _ (by (first | (with_reducible exact KS.out _ D1.out))) (fun hHeld => ?_)
  clear hK K
  try simp only [Act.put, List.setIfInBounds_toArray, List.set_cons_zero, List.set_cons_succ]
  iterate 1
    (first | refine tkW 7 (v := ?_) ?_ ?_)
    rotate_left
    · (intro ww hSw; (try dsimp only at hSw); go_simp; (try with_reducible rfl))
    try simp only [Act.put, List.setIfInBounds_toArray, List.set_cons_zero, List.set_cons_succ]
  refine wpAnyH_done (by kernel_rfl) ?_ _
  refine NoPanic.normal ?_
  clear hHeld KS
  have B_12 := Lib.hid (bl B_11.out D1.out)
  have H_12 := Lib.hid (H_11.out.call D1.out)
  have Y_12 := Lib.hid (Y_11.out.call D1.out)
  have VA_12 := Lib.hid (VA_11.out.call D1.out)
  have PL_12 := PL1
  clear B_11 H_11 Y_11 VA_11 D0 D1 PL1
  have hcH := H_12.out.2.2
  have hlH := H_12.out.2.1
  have hcY := Y_12.out.2.2
  have hlY := Y_12.out.2.1
  go_wp2_with fail
  refine (spresent_as SV.out ⟨d2, some ⟨g2, 0, none⟩, pac2, pk2, pkc2, pw2, pwc2⟩ _ RV.out VA_12.out tn HP2.out).mono ?_
  rintro e u10 ⟨qa2, qc2, rfl, g9, b10⟩
  clear hcH hlH hcY hlY
  have B_13 := Lib.hid (bl B_12.out b10)
  have H_13 := Lib.hid (H_12.out.call b10)
  have Y_13 := Lib.hid (Y_12.out.call b10)
  have VA_13 := Lib.hid (VA_12.out.call b10)
  have PL_13 := Lib.hid (PL_12.out.call b10)
  clear b10 B_12 H_12 Y_12 VA_12 PL_12
  have hcH := H_13.out.2.2
  have hlH := H_13.out.2.1
  have hcY := Y_13.out.2.2
  have hlY := Y_13.out.2.1
  have PN_13 := Lib.hid g9
  clear g9
  go_wp2_with fail
  clear hcH hlH hcY hlY
  go_loopw [20, 22] (fun gv nv wr => ∃ n : Nat, n ≤ l1.length ∧ gv = .bool true ∧ nv = .int .i64 n ∧ Below u10.heap.size u10 wr) (fun _ nv _ => l1.length - (intOf nv).toNat)
  case atStart => exact ⟨0, Nat.zero_le _, rfl, rfl, Below.refl _ _⟩
  case round =>
    obtain ⟨n, hn, rfl, rfl, hB⟩ := hrel
    have HBB := Lib.hid hB
    have hcH := (H_13.out.call hB).2.2
    have hlH := (H_13.out.call hB).2.1
    obtain ⟨d0, -, -, -⟩ := HHX.out _ (B_13.out.trans (hB.mono B_13.out.size))
    by_cases hlt : n < l1.length
    · obtain ⟨lb, lo, ha, hlb, hlc⟩ := (RowAt.call PL_13.out.row hB).at_ hlt
      obtain ⟨m, hm, hmi⟩ := HL1.out n hlt
      have e0 : wr.cell? ⟨lb, lo + n, none⟩ = some (.int .i64 (m : Int)) := by have := hlc n hlt 0 (by omega); rw [hm] at this; simpa [inC] using this
      have hwn : IntKind.i64.wrap ((n : Int) + 1) = (n : Int) + 1 := IntWalk.i64_in _ (by omega)
      clear hlc hm hB
      subst ha
      by_cases e : m = i
      · have q1 : ((m : Int) != (i : Int)) = false := by simp [e]
        have q2 : ((tn : Int) == (r : Int)) = true := by simp [hmi e]
        clear e hmi
        go_wp2_with fail
        go_roundw
        case rel => exact ⟨n + 1, by omega, rfl, by go_num, HBB.out⟩
        case measure => simp [intOf]; omega
      · have q1 : ((m : Int) != (i : Int)) = true := by simp; omega
        clear e hmi
        go_wp2_with fail
        go_roundw
        case rel => exact ⟨n + 1, by omega, rfl, by go_num, HBB.out⟩
        case measure => simp [intOf]; omega
    · have hke : n = l1.length := by omega
      subst hke
      clear hB hlt d0
      go_wp2_with fail
      clear hcH hlH
      obtain ⟨wp, hwp⟩ : ∃ q, q = wr := ⟨_, rfl⟩
      subst hwp
      go_loopw [21, 23] (fun tv nv wr => ∃ n : Nat, n ≤ l2.length ∧ tv = .bool (inT l2 n (i : Int)) ∧ nv = .int .i64 n ∧ Below u10.heap.size u10 wr) (fun _ nv _ => l2.length - (intOf nv).toNat)
      case atStart => exact ⟨0, Nat.zero_le _, by rw [inT_zero], rfl, HBB.out⟩
      case round =>
        clear HBB
        obtain ⟨n, hn, rfl, rfl, hB⟩ := hrel
        have HBB := Lib.hid hB
        by_cases hlt : n < l2.length
        · obtain ⟨lb, lo, ha, hlb, hlc⟩ := (RowAt.call PN_13.out.row hB).at_ hlt
          obtain ⟨m, hm⟩ := HL2.out n hlt
          have e0 : wr.cell? ⟨lb, lo + n, none⟩ = some (.int .i64 (m : Int)) := by have := hlc n hlt 0 (by omega); rw [hm] at this; simpa [inC] using this
          have hwn : IntKind.i64.wrap ((n : Int) + 1) = (n : Int) + 1 := IntWalk.i64_in _ (by omega)
          have HS := Lib.hid (inT_step hlt (i : Int))
          rw [hm] at HS
          clear hlc hm hB
          subst ha
          obtain ⟨tb, htb⟩ : ∃ tb, inT l2 n (i : Int) = tb := ⟨_, rfl⟩
          rw [htb] at HS ⊢
          clear htb
          cases tb
          · by_cases e : m = i
            · have q1 : ((m : Int) == (i : Int)) = true := by simp [e]
              have HT := Lib.hid (show inT l2 (n + 1) (i : Int) = true by rw [HS.out]; simp [e])
              clear e HS
              go_wp2_with fail
              go_roundw
              case rel => exact ⟨n + 1, by omega, by rw [HT.out], by go_num, HBB.out⟩
              case measure => simp [intOf]; omega
            · have q1 : ((m : Int) == (i : Int)) = false := by simp; omega
              have HT := Lib.hid (show inT l2 (n + 1) (i : Int) = false by rw [HS.out]; simp; omega)
              clear e HS
              go_wp2_with fail
              go_roundw
              case rel => exact ⟨n + 1, by omega, by rw [HT.out], by go_num, HBB.out⟩
              case measure => simp [intOf]; omega
          · have HT := Lib.hid (show inT l2 (n + 1) (i : Int) = true by rw [HS.out]; rfl)
            clear HS
            go_wp2_with fail
            go_roundw
            case rel => exact ⟨n + 1, by omega, by rw [HT.out], by go_num, HBB.out⟩
            case measure => simp [intOf]; omega
        · have hke : n = l2.length := by omega
          subst hke
          rw [HI2.out]
          have BB := Lib.hid hB
          clear hB hlt HBB
          have B_14 := Lib.hid (bl B_13.out BB.out)
          have H_14 := Lib.hid (H_13.out.call BB.out)
          have Y_14 := Lib.hid (Y_13.out.call BB.out)
          have VA_14 := Lib.hid (VA_13.out.call BB.out)
          have PL_14 := Lib.hid (PL_13.out.call BB.out)
          have PN_14 := Lib.hid (PN_13.out.call BB.out)
          clear BB B_13 H_13 Y_13 VA_13 PL_13 PN_13
          have hcY := Y_14.out.2.2
          have hlY := Y_14.out.2.1
          go_wp2_with fail
          have FR := field_room
          refine (slook_as SV.out ⟨d2, some ⟨g2, 0, none⟩, pac2, pk2, pkc2, pw2, pwc2⟩ i _ RV.out VA_14.out HIV.out HR5.out).mono ?_
          rintro e u11 ⟨pa9, ia9, pc9, ic9, rfl, -, b11⟩
          rw [HRM.out]
          clear hcY hlY
          have B_15 := Lib.hid (bl B_14.out b11)
          have H_15 := Lib.hid (H_14.out.call b11)
          have Y_15 := Lib.hid (Y_14.out.call b11)
          have VA_15 := Lib.hid (VA_14.out.call b11)
          have PL_15 := Lib.hid (PL_14.out.call b11)
          have PN_15 := Lib.hid (PN_14.out.call b11)
          clear b11 B_14 H_14 Y_14 VA_14 PL_14 PN_14
          go_wp2_with fail
          go_ret
          exact ⟨rfl, B_15.out⟩
set_option maxRecDepth 100000 in
set_option maxHeartbeats 4000000 in
theorem sightMoves_shut (x : Wd) (xb xo xc : Nat) (pl co it bo : Option Addr) (plc coc itc boc b o pac : Nat) (pk : Option Addr) (pkc wb wo pwc : Nat) (a i c k d dd : Nat) (haa : a ≤ 255) (hcc : c ≤ 255) (hdd : d ≤ 255) (hi : a % x.at_.length = i) (hk : c % x.wher.length = k) (hd : d % 4 = dd) (w : World) (h : WorldAt w ⟨⟨some ⟨xb, xo, none⟩, xc, pl, plc, co, coc, it, itc, bo, boc⟩, some ⟨b, o, none⟩, pac, pk, pkc, some ⟨wb, wo, none⟩, pwc⟩ x) (hf : fitsB x = true) (hlw : 0 < x.wher.length) (hz : ¬ plOf x.wher k = ⟨0, (roomOf x i : Int)⟩) (ht : toW x (roomOf x i) dd = -1) : Calls Try.prog 6 #[.agg #[.slice (some ⟨xb, xo, none⟩) x.d.exits.length xc, .slice pl x.d.players.length plc, .slice co x.d.coins.length coc, .slice it x.d.items.length itc, .slice bo x.d.boxes.length boc, .int .i64 x.d.room, .int .i64 x.d.player, .int .i64 x.d.box, .slice (some ⟨b, o, none⟩) x.at_.length pac, .slice pk x.coins.length pkc, .slice (some ⟨wb, wo, none⟩) x.wher.length pwc], .int .u8 (a : Int), .int .u8 (c : Int), .int .u8 (d : Int)] w fun e w' => e = .returned (.bool true) ∧ Below w.heap.size w w' := by
  have FT := Lib.hid (fits_fit hf)
  have hlp : 0 < x.at_.length := (right_lens FT.out.right).1
  have hne : ¬ x.at_ = [] := List.length_pos_iff.1 hlp
  have hlen6 := (right_lens FT.out.right).2.1
  have hne0 : ((x.wher.length : Int) == 0) = false := by rw [beq_eq_false_iff_ne]; omega
  have hnw : ¬ x.wher = [] := List.length_pos_iff.1 hlw
  have r1 := run_tmod7 a x.at_.length
  have m1 := run_mod7 a x.at_.length
  rw [hi] at r1 m1
  have hil : i < x.at_.length := by rw [← hi]; exact Nat.mod_lt _ hlp
  have r2 := run_tmod7 c x.wher.length
  have m2 := run_mod7 c x.wher.length
  rw [hk] at r2 m2
  have hkl : k < x.wher.length := by rw [← hk]; exact Nat.mod_lt _ hlw
  have r3 : (d : Int).tmod 4 = (dd : Int) := by rw [← hd]; rfl
  have m3 : (d : Int) % 4 = (dd : Int) := by omega
  have hd4 : dd < 4 := by rw [← hd]; exact Nat.mod_lt _ (by omega)
  have HIL := Lib.hid hil
  have HKL := Lib.hid hkl
  obtain ⟨r, hr⟩ : ∃ r, roomOf x i = r := ⟨_, rfl⟩
  have hrl : r < x.d.exits.length := by rw [← hr]; exact (room_at FT.out.right hil).2
  have HRR := Lib.hid hr
  obtain ⟨b', o', ea, -, hac⟩ := h.at_.at_ hil
  simp only [Option.some.injEq, Addr.mk.injEq, and_true] at ea
  obtain ⟨rfl, rfl⟩ := ea
  have c0 := hac i hil
  rw [(room_at FT.out.right hil).1, hr] at c0
  obtain ⟨wb', wo', ew, -, w0, w1⟩ := PlsAt.cells h.wh hkl
  simp only [Option.some.injEq, Addr.mk.injEq, and_true] at ew
  obtain ⟨rfl, rfl⟩ := ew
  rw [← plOf_get hkl] at w0 w1
  obtain ⟨xb', xo', ex, -, hxc⟩ := h.d.ex.at_ hrl
  simp only [Option.some.injEq, Addr.mk.injEq, and_true] at ex
  obtain ⟨rfl, rfl⟩ := ex
  have x0 := hxc r hrl dd hd4
  rw [exC_at _ hd4, exits_to hrl] at x0
  have hi1 : ¬ (x.at_.length : Int) ≤ (i : Int) := by omega
  have hi2 : (x.at_.length ≤ i) = False := by simp; omega
  have hk1 : ¬ (x.wher.length : Int) ≤ (k : Int) := by omega
  have hk2 : (x.wher.length ≤ k) = False := by simp; omega
  have hr1 : ¬ (x.d.exits.length : Int) ≤ (r : Int) := by omega
  have hr2 : (x.d.exits.length ≤ r) = False := by simp; omega
  have hd1 : ¬ (4 : Int) ≤ (dd : Int) := by omega
  have hd2 : (4 ≤ dd) = False := by simp; omega
  have hd3 : (dd : Int) < 4 := by omega
  rw [hr] at hz
  have hrun := run_pleq (plOf x.wher k).kind (plOf x.wher k).id 0 (r : Int)
  rw [show decide ((⟨(plOf x.wher k).kind, (plOf x.wher k).id⟩ : Pl) = ⟨0, (r : Int)⟩) = false from decide_eq_false hz] at hrun
  generalize (plOf x.wher k).kind = zk at *
  generalize (plOf x.wher k).id = zi at *
  clear hz
  rw [hr] at ht
  rw [ht] at x0
  clear ht
  have HHX := Lib.hid (show ∀ W : World, Below w.heap.size w W → (W.cell? ⟨b, o + i, none⟩ = some (.int .i64 (r : Int)) ∧ W.cell? ⟨wb, wo + k * 2, none⟩ = some (.int .i64 zk) ∧ W.cell? ⟨wb, wo + k * 2 + 1, none⟩ = some (.int .i64 zi) ∧ W.cell? ⟨xb, xo + r * 4 + dd, none⟩ = some (.int .i64 (-1))) from fun W hW => ⟨cell_call c0 hW, cell_call w0 hW, cell_call w1 hW, cell_call x0 hW⟩)
  clear hi hk hd hlp hil hkl hlw hr hac c0 w0 w1 x0 hxc hlen6 hrl
  have H_0 := Lib.hid (Holds.new w #[.slice (some ⟨xb, xo, none⟩) x.d.exits.length xc, .slice pl x.d.players.length plc, .slice co x.d.coins.length coc, .slice it x.d.items.length itc, .slice bo x.d.boxes.length boc, .int .i64 x.d.room, .int .i64 x.d.player, .int .i64 x.d.box, .slice (some ⟨b, o, none⟩) x.at_.length pac, .slice pk x.coins.length pkc, .slice (some ⟨wb, wo, none⟩) x.wher.length pwc] 29)
  have HF := Lib.hid hf
  have HWA := Lib.hid h
  clear hf h
  go_enter Try.func6, Try.ntmps6
  go_wp2_with fail
  generalize w.alloc (.cells #[.slice (some ⟨xb, xo, none⟩) x.d.exits.length xc, .slice pl x.d.players.length plc, .slice co x.d.coins.length coc, .slice it x.d.items.length itc, .slice bo x.d.boxes.length boc, .int .i64 x.d.room, .int .i64 x.d.player, .int .i64 x.d.box, .slice (some ⟨b, o, none⟩) x.at_.length pac, .slice pk x.coins.length pkc, .slice (some ⟨wb, wo, none⟩) x.wher.length pwc] 29) = V0 at *
  have B_0 := Lib.hid H_0.out.1
  refine (awake12_any _).mono ?_
  rintro e u1 ⟨rfl, b1⟩
  have B_1 := Lib.hid (bl B_0.out b1)
  have H_1 := Lib.hid (H_0.out.call b1)
  clear b1 B_0 H_0
  have hcH := H_1.out.2.2
  have hlH := H_1.out.2.1
  go_wp2_with fail
  refine (fits12_any x ⟨⟨some ⟨xb, xo, none⟩, xc, pl, plc, co, coc, it, itc, bo, boc⟩, some ⟨b, o, none⟩, pac, pk, pkc, some ⟨wb, wo, none⟩, pwc⟩ _ (HWA.out.below H_1.out.1 (Nat.le_refl _))).mono ?_
  rintro e u2 ⟨rfl, b2⟩
  rw [HF.out]
  clear hcH hlH
  have B_2 := Lib.hid (bl B_1.out b2)
  have H_2 := Lib.hid (H_1.out.call b2)
  clear b2 B_1 H_1
  have hcH := H_2.out.2.2
  have hlH := H_2.out.2.1
  go_wp2_with fail
  obtain ⟨d0, d1, d2, -⟩ := HHX.out _ B_2.out
  clear hcH hlH
  have KS : Hid (∀ w', Below u2.heap.size u2 w' → Below u2.heap.size u2 w' ∧ (∀ ii, w'.cell? ⟨w.heap.size, ii, none⟩ = (#[.slice (some ⟨xb, xo, none⟩) x.d.exits.length xc, .slice pl x.d.players.length plc, .slice co x.d.coins.length coc, .slice it x.d.items.length itc, .slice bo x.d.boxes.length boc, .int .i64 x.d.room, .int .i64 x.d.player, .int .i64 x.d.box, .slice (some ⟨b, o, none⟩) x.at_.length pac, .slice pk x.coins.length pkc, .slice (some ⟨wb, wo, none⟩) x.wher.length pwc][ii]? : Option Value)) ∧ w'.cell? ⟨b, o + i, none⟩ = some (.int .i64 (r : Int)) ∧ w'.cell? ⟨wb, wo + k * 2, none⟩ = some (.int .i64 zk) ∧ w'.cell? ⟨wb, wo + k * 2 + 1, none⟩ = some (.int .i64 zi)) := Lib.hid (fun w' hb => ⟨hb, fun ii => (hb.cell (p := ⟨w.heap.size, ii, none⟩) H_2.out.2.1).trans (H_2.out.2.2 ii), cell_call d0 hb, cell_call d1 hb, cell_call d2 hb⟩)
  have D0 := Lib.hid (bdrew1 (Below.refl u2.heap.size u2))
  refine wp_region_noPanic ?_
  refine wp_region_held_drew (S := (fun w' => Below u2.heap.size u2 w' ∧ (∀ ii, w'.cell? ⟨w.heap.size, ii, none⟩ = (#[.slice (some ⟨xb, xo, none⟩) x.d.exits.length xc, .slice pl x.d.players.length plc, .slice co x.d.coins.length coc, .slice it x.d.items.length itc, .slice bo x.d.boxes.length boc, .int .i64 x.d.room, .int .i64 x.d.player, .int .i64 x.d.box, .slice (some ⟨b, o, none⟩) x.at_.length pac, .slice pk x.coins.length pkc, .slice (some ⟨wb, wo, none⟩) x.wher.length pwc][ii]? : Option Value)) ∧ w'.cell? ⟨b, o + i, none⟩ = some (.int .i64 (r : Int)) ∧ w'.cell? ⟨wb, wo + k * 2, none⟩ = some (.int .i64 zk) ∧ w'.cell? ⟨wb, wo + k * 2 + 1, none⟩ = some (.int .i64 zi))) (by kernel_rfl) (by (first | (with_reducible exact KS.out _ D0.out))) (fun hHeld => ?_)
  clear d0 d1 d2
  iterate 10
    (first | refine tkW 0 (v := ?_) ?_ ?_ | refine tkW 1 (v := ?_) ?_ ?_ | refine tkW 2 (v := ?_) ?_ ?_ | refine tkW 3 (v := ?_) ?_ ?_ | refine tkW 4 (v := ?_) ?_ ?_ | refine tkW 5 (v := ?_) ?_ ?_ | refine tkW 6 (v := ?_) ?_ ?_ | refine tkW 7 (v := ?_) ?_ ?_ | refine tkW 8 (v := ?_) ?_ ?_ | refine tkW 9 (v := ?_) ?_ ?_)
    rotate_left
    · (intro ww hSw; (try dsimp only at hSw); go_simp; (try with_reducible rfl))
    try simp only [Act.put, List.setIfInBounds_toArray, List.set_cons_zero, List.set_cons_succ]
  iterate 2
    (first | refine tkW 10 (v := ?_) ?_ ?_ | refine tkW 11 (v := ?_) ?_ ?_)
    rotate_left
    · (intro ww hSw; (try dsimp only at hSw); go_simp; (try with_reducible rfl))
    try simp only [Act.put, List.setIfInBounds_toArray, List.set_cons_zero, List.set_cons_succ]
  refine wpAnyH_done (by kernel_rfl) ?_ _
  refine NoPanic.normal ?_
  clear hHeld KS
  have B_3 := Lib.hid (bl B_2.out D0.out)
  have H_3 := Lib.hid (H_2.out.call D0.out)
  clear B_2 H_2 D0
  generalize u2.drew = V902 at *
  have hcH := H_3.out.2.2
  have hlH := H_3.out.2.1
  go_wp2_with fail
  clear hrun
  obtain ⟨d0, -, -, d3⟩ := HHX.out _ B_3.out
  clear hcH hlH
  have KS : Hid (∀ w', Below V902.heap.size V902 w' → Below V902.heap.size V902 w' ∧ (∀ ii, w'.cell? ⟨w.heap.size, ii, none⟩ = (#[.slice (some ⟨xb, xo, none⟩) x.d.exits.length xc, .slice pl x.d.players.length plc, .slice co x.d.coins.length coc, .slice it x.d.items.length itc, .slice bo x.d.boxes.length boc, .int .i64 x.d.room, .int .i64 x.d.player, .int .i64 x.d.box, .slice (some ⟨b, o, none⟩) x.at_.length pac, .slice pk x.coins.length pkc, .slice (some ⟨wb, wo, none⟩) x.wher.length pwc][ii]? : Option Value)) ∧ w'.cell? ⟨b, o + i, none⟩ = some (.int .i64 (r : Int)) ∧ w'.cell? ⟨xb, xo + r * 4 + dd, none⟩ = some (.int .i64 (-1))) := Lib.hid (fun w' hb => ⟨hb, fun ii => (hb.cell (p := ⟨w.heap.size, ii, none⟩) H_3.out.2.1).trans (H_3.out.2.2 ii), cell_call d0 hb, cell_call d3 hb⟩)
  have D0 := Lib.hid (bdrew1 (Below.refl V902.heap.size V902))
  refine wp_region_noPanic ?_
  refine wp_region_held_drew (S := (fun w' => Below V902.heap.size V902 w' ∧ (∀ ii, w'.cell? ⟨w.heap.size, ii, none⟩ = (#[.slice (some ⟨xb, xo, none⟩) x.d.exits.length xc, .slice pl x.d.players.length plc, .slice co x.d.coins.length coc, .slice it x.d.items.length itc, .slice bo x.d.boxes.length boc, .int .i64 x.d.room, .int .i64 x.d.player, .int .i64 x.d.box, .slice (some ⟨b, o, none⟩) x.at_.length pac, .slice pk x.coins.length pkc, .slice (some ⟨wb, wo, none⟩) x.wher.length pwc][ii]? : Option Value)) ∧ w'.cell? ⟨b, o + i, none⟩ = some (.int .i64 (r : Int)) ∧ w'.cell? ⟨xb, xo + r * 4 + dd, none⟩ = some (.int .i64 (-1)))) (by kernel_rfl) (by (first | (with_reducible exact KS.out _ D0.out))) (fun hHeld => ?_)
  clear d0 d3
  iterate 10
    (first | refine tkW 0 (v := ?_) ?_ ?_ | refine tkW 1 (v := ?_) ?_ ?_ | refine tkW 2 (v := ?_) ?_ ?_ | refine tkW 3 (v := ?_) ?_ ?_ | refine tkW 4 (v := ?_) ?_ ?_ | refine tkW 5 (v := ?_) ?_ ?_ | refine tkW 6 (v := ?_) ?_ ?_ | refine tkW 7 (v := ?_) ?_ ?_ | refine tkW 8 (v := ?_) ?_ ?_ | refine tkW 9 (v := ?_) ?_ ?_)
    rotate_left
    · (intro ww hSw; (try dsimp only at hSw); go_simp; (try with_reducible rfl))
    try simp only [Act.put, List.setIfInBounds_toArray, List.set_cons_zero, List.set_cons_succ]
  iterate 4
    (first | refine tkW 10 (v := ?_) ?_ ?_ | refine tkW 11 (v := ?_) ?_ ?_ | refine tkW 12 (v := ?_) ?_ ?_ | refine tkW 13 (v := ?_) ?_ ?_)
    rotate_left
    · (intro ww hSw; (try dsimp only at hSw); go_simp; (try with_reducible rfl))
    try simp only [Act.put, List.setIfInBounds_toArray, List.set_cons_zero, List.set_cons_succ]
  refine wpAnyH_done (by kernel_rfl) ?_ _
  refine NoPanic.normal ?_
  clear hHeld KS
  have B_4 := Lib.hid (bl B_3.out D0.out)
  have H_4 := Lib.hid (H_3.out.call D0.out)
  clear B_3 H_3 D0
  generalize V902.drew = V903 at *
  have hcH := H_4.out.2.2
  have hlH := H_4.out.2.1
  go_wp2_with fail
  go_ret
  exact ⟨rfl, B_4.out⟩
set_option maxRecDepth 100000 in
set_option maxHeartbeats 4000000 in
theorem sightMoves_go (x : Wd) (xb xo xc : Nat) (pl co it bo : Option Addr) (plc coc itc boc b o pac : Nat) (pk : Option Addr) (pkc wb wo pwc : Nat) (a i c k d dd : Nat) (haa : a ≤ 255) (hcc : c ≤ 255) (hdd : d ≤ 255) (hi : a % x.at_.length = i) (hk : c % x.wher.length = k) (hd : d % 4 = dd) (w : World) (h : WorldAt w ⟨⟨some ⟨xb, xo, none⟩, xc, pl, plc, co, coc, it, itc, bo, boc⟩, some ⟨b, o, none⟩, pac, pk, pkc, some ⟨wb, wo, none⟩, pwc⟩ x) (hf : fitsB x = true) (hlw : 0 < x.wher.length) (hz : ¬ plOf x.wher k = ⟨0, (roomOf x i : Int)⟩) (tn : Nat) (ht : toW x (roomOf x i) dd = (tn : Int)) : Calls Try.prog 6 #[.agg #[.slice (some ⟨xb, xo, none⟩) x.d.exits.length xc, .slice pl x.d.players.length plc, .slice co x.d.coins.length coc, .slice it x.d.items.length itc, .slice bo x.d.boxes.length boc, .int .i64 x.d.room, .int .i64 x.d.player, .int .i64 x.d.box, .slice (some ⟨b, o, none⟩) x.at_.length pac, .slice pk x.coins.length pkc, .slice (some ⟨wb, wo, none⟩) x.wher.length pwc], .int .u8 (a : Int), .int .u8 (c : Int), .int .u8 (d : Int)] w fun e w' => e = .returned (.bool true) ∧ Below w.heap.size w w' := by
  have FT := Lib.hid (fits_fit hf)
  have hlp : 0 < x.at_.length := (right_lens FT.out.right).1
  have hne : ¬ x.at_ = [] := List.length_pos_iff.1 hlp
  have hlen6 := (right_lens FT.out.right).2.1
  have hne0 : ((x.wher.length : Int) == 0) = false := by rw [beq_eq_false_iff_ne]; omega
  have hnw : ¬ x.wher = [] := List.length_pos_iff.1 hlw
  have r1 := run_tmod7 a x.at_.length
  have m1 := run_mod7 a x.at_.length
  rw [hi] at r1 m1
  have hil : i < x.at_.length := by rw [← hi]; exact Nat.mod_lt _ hlp
  have r2 := run_tmod7 c x.wher.length
  have m2 := run_mod7 c x.wher.length
  rw [hk] at r2 m2
  have hkl : k < x.wher.length := by rw [← hk]; exact Nat.mod_lt _ hlw
  have r3 : (d : Int).tmod 4 = (dd : Int) := by rw [← hd]; rfl
  have m3 : (d : Int) % 4 = (dd : Int) := by omega
  have hd4 : dd < 4 := by rw [← hd]; exact Nat.mod_lt _ (by omega)
  have HIL := Lib.hid hil
  have HKL := Lib.hid hkl
  obtain ⟨r, hr⟩ : ∃ r, roomOf x i = r := ⟨_, rfl⟩
  have hrl : r < x.d.exits.length := by rw [← hr]; exact (room_at FT.out.right hil).2
  have HRR := Lib.hid hr
  obtain ⟨b', o', ea, -, hac⟩ := h.at_.at_ hil
  simp only [Option.some.injEq, Addr.mk.injEq, and_true] at ea
  obtain ⟨rfl, rfl⟩ := ea
  have c0 := hac i hil
  rw [(room_at FT.out.right hil).1, hr] at c0
  obtain ⟨wb', wo', ew, -, w0, w1⟩ := PlsAt.cells h.wh hkl
  simp only [Option.some.injEq, Addr.mk.injEq, and_true] at ew
  obtain ⟨rfl, rfl⟩ := ew
  rw [← plOf_get hkl] at w0 w1
  obtain ⟨xb', xo', ex, -, hxc⟩ := h.d.ex.at_ hrl
  simp only [Option.some.injEq, Addr.mk.injEq, and_true] at ex
  obtain ⟨rfl, rfl⟩ := ex
  have x0 := hxc r hrl dd hd4
  rw [exC_at _ hd4, exits_to hrl] at x0
  have hi1 : ¬ (x.at_.length : Int) ≤ (i : Int) := by omega
  have hi2 : (x.at_.length ≤ i) = False := by simp; omega
  have hk1 : ¬ (x.wher.length : Int) ≤ (k : Int) := by omega
  have hk2 : (x.wher.length ≤ k) = False := by simp; omega
  have hr1 : ¬ (x.d.exits.length : Int) ≤ (r : Int) := by omega
  have hr2 : (x.d.exits.length ≤ r) = False := by simp; omega
  have hd1 : ¬ (4 : Int) ≤ (dd : Int) := by omega
  have hd2 : (4 ≤ dd) = False := by simp; omega
  have hd3 : (dd : Int) < 4 := by omega
  rw [hr] at hz
  have hrun := run_pleq (plOf x.wher k).kind (plOf x.wher k).id 0 (r : Int)
  rw [show decide ((⟨(plOf x.wher k).kind, (plOf x.wher k).id⟩ : Pl) = ⟨0, (r : Int)⟩) = false from decide_eq_false hz] at hrun
  generalize (plOf x.wher k).kind = zk at *
  generalize (plOf x.wher k).id = zi at *
  clear hz
  rw [hr] at ht
  rw [ht] at x0
  have htn : tn < x.d.exits.length := by have := toW_in FT.out.right hrl hd4; rw [ht] at this; omega
  clear ht
  have hpos : ¬ (tn : Int) < 0 := by omega
  obtain ⟨v, hv⟩ : ∃ v, goW x i (tn : Int) = v := ⟨_, rfl⟩
  have SV := Lib.hid (show Shape x v by rw [← hv]; exact goW_shape _ _ _)
  have RV := Lib.hid (show rightW v = true by rw [← hv]; exact goW_right FT.out.right ⟨by omega, by omega⟩)
  have hvi : roomOf v i = tn := by rw [← hv]; simp [roomOf, goW, List.getD, hil]
  have hvl : v.at_.length = x.at_.length := SV.out.at_
  have HV := Lib.hid hv
  obtain ⟨l1, hl1⟩ : ∃ l, presN v v.at_.length r = l := ⟨_, rfl⟩
  obtain ⟨l2, hl2⟩ : ∃ l, presN v v.at_.length tn = l := ⟨_, rfl⟩
  obtain ⟨R5, hR5⟩ : ∃ R, lookR v i = R := ⟨_, rfl⟩
  have HRM := Lib.hid (show R5.room = (tn : Int) by rw [← hR5]; show (roomOf v i : Int) = _; rw [hvi])
  have HIV := Lib.hid (show i < v.at_.length by omega)
  have HL1 := Lib.hid (show ∀ n (h : n < l1.length), ∃ m : Nat, l1[n] = m ∧ (m = i → tn = r) from by intro n hn; subst hl1; obtain ⟨m, e, _, hm⟩ := pres_get hn; exact ⟨m, e, fun e2 => by subst e2; rw [← hvi, hm]⟩)
  have HL2 := Lib.hid (show ∀ n (h : n < l2.length), ∃ m : Nat, l2[n] = m from by intro n hn; subst hl2; obtain ⟨m, e, _⟩ := pres_get hn; exact ⟨m, e⟩)
  have HI2 := Lib.hid (show inT l2 l2.length (i : Int) = true from inT_all (by rw [← hl2]; exact pres_mem.2 ⟨HIV.out, hvi⟩))
  have hn1 : l1.length ≤ 6 := by rw [← hl1]; exact Nat.le_trans (presN_len _ _ _) (by omega)
  have hn2 : l2.length ≤ 6 := by rw [← hl2]; exact Nat.le_trans (presN_len _ _ _) (by omega)
  have HP1 := Lib.hid hl1
  have HP2 := Lib.hid hl2
  have HR5 := Lib.hid hR5
  clear hv hvi hvl hl1 hl2 hR5 htn
  have HHX := Lib.hid (show ∀ W : World, Below w.heap.size w W → (W.cell? ⟨b, o + i, none⟩ = some (.int .i64 (r : Int)) ∧ W.cell? ⟨wb, wo + k * 2, none⟩ = some (.int .i64 zk) ∧ W.cell? ⟨wb, wo + k * 2 + 1, none⟩ = some (.int .i64 zi) ∧ W.cell? ⟨xb, xo + r * 4 + dd, none⟩ = some (.int .i64 (tn : Int))) from fun W hW => ⟨cell_call c0 hW, cell_call w0 hW, cell_call w1 hW, cell_call x0 hW⟩)
  clear hi hk hd hlp hil hkl hlw hr hac c0 w0 w1 x0 hxc hlen6 hrl
  have H_0 := Lib.hid (Holds.new w #[.slice (some ⟨xb, xo, none⟩) x.d.exits.length xc, .slice pl x.d.players.length plc, .slice co x.d.coins.length coc, .slice it x.d.items.length itc, .slice bo x.d.boxes.length boc, .int .i64 x.d.room, .int .i64 x.d.player, .int .i64 x.d.box, .slice (some ⟨b, o, none⟩) x.at_.length pac, .slice pk x.coins.length pkc, .slice (some ⟨wb, wo, none⟩) x.wher.length pwc] 29)
  have HF := Lib.hid hf
  have HWA := Lib.hid h
  clear hf h
  go_enter Try.func6, Try.ntmps6
  go_wp2_with fail
  generalize w.alloc (.cells #[.slice (some ⟨xb, xo, none⟩) x.d.exits.length xc, .slice pl x.d.players.length plc, .slice co x.d.coins.length coc, .slice it x.d.items.length itc, .slice bo x.d.boxes.length boc, .int .i64 x.d.room, .int .i64 x.d.player, .int .i64 x.d.box, .slice (some ⟨b, o, none⟩) x.at_.length pac, .slice pk x.coins.length pkc, .slice (some ⟨wb, wo, none⟩) x.wher.length pwc] 29) = V0 at *
  have B_0 := Lib.hid H_0.out.1
  refine (awake12_any _).mono ?_
  rintro e u1 ⟨rfl, b1⟩
  have B_1 := Lib.hid (bl B_0.out b1)
  have H_1 := Lib.hid (H_0.out.call b1)
  clear b1 B_0 H_0
  have hcH := H_1.out.2.2
  have hlH := H_1.out.2.1
  go_wp2_with fail
  refine (fits12_any x ⟨⟨some ⟨xb, xo, none⟩, xc, pl, plc, co, coc, it, itc, bo, boc⟩, some ⟨b, o, none⟩, pac, pk, pkc, some ⟨wb, wo, none⟩, pwc⟩ _ (HWA.out.below H_1.out.1 (Nat.le_refl _))).mono ?_
  rintro e u2 ⟨rfl, b2⟩
  rw [HF.out]
  clear hcH hlH
  have B_2 := Lib.hid (bl B_1.out b2)
  have H_2 := Lib.hid (H_1.out.call b2)
  clear b2 B_1 H_1
  have hcH := H_2.out.2.2
  have hlH := H_2.out.2.1
  go_wp2_with fail
  obtain ⟨d0, d1, d2, -⟩ := HHX.out _ B_2.out
  clear hcH hlH
  have KS : Hid (∀ w', Below u2.heap.size u2 w' → Below u2.heap.size u2 w' ∧ (∀ ii, w'.cell? ⟨w.heap.size, ii, none⟩ = (#[.slice (some ⟨xb, xo, none⟩) x.d.exits.length xc, .slice pl x.d.players.length plc, .slice co x.d.coins.length coc, .slice it x.d.items.length itc, .slice bo x.d.boxes.length boc, .int .i64 x.d.room, .int .i64 x.d.player, .int .i64 x.d.box, .slice (some ⟨b, o, none⟩) x.at_.length pac, .slice pk x.coins.length pkc, .slice (some ⟨wb, wo, none⟩) x.wher.length pwc][ii]? : Option Value)) ∧ w'.cell? ⟨b, o + i, none⟩ = some (.int .i64 (r : Int)) ∧ w'.cell? ⟨wb, wo + k * 2, none⟩ = some (.int .i64 zk) ∧ w'.cell? ⟨wb, wo + k * 2 + 1, none⟩ = some (.int .i64 zi)) := Lib.hid (fun w' hb => ⟨hb, fun ii => (hb.cell (p := ⟨w.heap.size, ii, none⟩) H_2.out.2.1).trans (H_2.out.2.2 ii), cell_call d0 hb, cell_call d1 hb, cell_call d2 hb⟩)
  have D0 := Lib.hid (bdrew1 (Below.refl u2.heap.size u2))
  refine wp_region_noPanic ?_
  refine wp_region_held_drew (S := (fun w' => Below u2.heap.size u2 w' ∧ (∀ ii, w'.cell? ⟨w.heap.size, ii, none⟩ = (#[.slice (some ⟨xb, xo, none⟩) x.d.exits.length xc, .slice pl x.d.players.length plc, .slice co x.d.coins.length coc, .slice it x.d.items.length itc, .slice bo x.d.boxes.length boc, .int .i64 x.d.room, .int .i64 x.d.player, .int .i64 x.d.box, .slice (some ⟨b, o, none⟩) x.at_.length pac, .slice pk x.coins.length pkc, .slice (some ⟨wb, wo, none⟩) x.wher.length pwc][ii]? : Option Value)) ∧ w'.cell? ⟨b, o + i, none⟩ = some (.int .i64 (r : Int)) ∧ w'.cell? ⟨wb, wo + k * 2, none⟩ = some (.int .i64 zk) ∧ w'.cell? ⟨wb, wo + k * 2 + 1, none⟩ = some (.int .i64 zi))) (by kernel_rfl) (by (first | (with_reducible exact KS.out _ D0.out))) (fun hHeld => ?_)
  clear d0 d1 d2
  iterate 10
    (first | refine tkW 0 (v := ?_) ?_ ?_ | refine tkW 1 (v := ?_) ?_ ?_ | refine tkW 2 (v := ?_) ?_ ?_ | refine tkW 3 (v := ?_) ?_ ?_ | refine tkW 4 (v := ?_) ?_ ?_ | refine tkW 5 (v := ?_) ?_ ?_ | refine tkW 6 (v := ?_) ?_ ?_ | refine tkW 7 (v := ?_) ?_ ?_ | refine tkW 8 (v := ?_) ?_ ?_ | refine tkW 9 (v := ?_) ?_ ?_)
    rotate_left
    · (intro ww hSw; (try dsimp only at hSw); go_simp; (try with_reducible rfl))
    try simp only [Act.put, List.setIfInBounds_toArray, List.set_cons_zero, List.set_cons_succ]
  iterate 2
    (first | refine tkW 10 (v := ?_) ?_ ?_ | refine tkW 11 (v := ?_) ?_ ?_)
    rotate_left
    · (intro ww hSw; (try dsimp only at hSw); go_simp; (try with_reducible rfl))
    try simp only [Act.put, List.setIfInBounds_toArray, List.set_cons_zero, List.set_cons_succ]
  refine wpAnyH_done (by kernel_rfl) ?_ _
  refine NoPanic.normal ?_
  clear hHeld KS
  have B_3 := Lib.hid (bl B_2.out D0.out)
  have H_3 := Lib.hid (H_2.out.call D0.out)
  clear B_2 H_2 D0
  generalize u2.drew = V902 at *
  have hcH := H_3.out.2.2
  have hlH := H_3.out.2.1
  go_wp2_with fail
  clear hrun
  obtain ⟨d0, -, -, d3⟩ := HHX.out _ B_3.out
  clear hcH hlH
  have KS : Hid (∀ w', Below V902.heap.size V902 w' → Below V902.heap.size V902 w' ∧ (∀ ii, w'.cell? ⟨w.heap.size, ii, none⟩ = (#[.slice (some ⟨xb, xo, none⟩) x.d.exits.length xc, .slice pl x.d.players.length plc, .slice co x.d.coins.length coc, .slice it x.d.items.length itc, .slice bo x.d.boxes.length boc, .int .i64 x.d.room, .int .i64 x.d.player, .int .i64 x.d.box, .slice (some ⟨b, o, none⟩) x.at_.length pac, .slice pk x.coins.length pkc, .slice (some ⟨wb, wo, none⟩) x.wher.length pwc][ii]? : Option Value)) ∧ w'.cell? ⟨b, o + i, none⟩ = some (.int .i64 (r : Int)) ∧ w'.cell? ⟨xb, xo + r * 4 + dd, none⟩ = some (.int .i64 (tn : Int))) := Lib.hid (fun w' hb => ⟨hb, fun ii => (hb.cell (p := ⟨w.heap.size, ii, none⟩) H_3.out.2.1).trans (H_3.out.2.2 ii), cell_call d0 hb, cell_call d3 hb⟩)
  have D0 := Lib.hid (bdrew1 (Below.refl V902.heap.size V902))
  refine wp_region_noPanic ?_
  refine wp_region_held_drew (S := (fun w' => Below V902.heap.size V902 w' ∧ (∀ ii, w'.cell? ⟨w.heap.size, ii, none⟩ = (#[.slice (some ⟨xb, xo, none⟩) x.d.exits.length xc, .slice pl x.d.players.length plc, .slice co x.d.coins.length coc, .slice it x.d.items.length itc, .slice bo x.d.boxes.length boc, .int .i64 x.d.room, .int .i64 x.d.player, .int .i64 x.d.box, .slice (some ⟨b, o, none⟩) x.at_.length pac, .slice pk x.coins.length pkc, .slice (some ⟨wb, wo, none⟩) x.wher.length pwc][ii]? : Option Value)) ∧ w'.cell? ⟨b, o + i, none⟩ = some (.int .i64 (r : Int)) ∧ w'.cell? ⟨xb, xo + r * 4 + dd, none⟩ = some (.int .i64 (tn : Int)))) (by kernel_rfl) (by (first | (with_reducible exact KS.out _ D0.out))) (fun hHeld => ?_)
  clear d0 d3
  iterate 10
    (first | refine tkW 0 (v := ?_) ?_ ?_ | refine tkW 1 (v := ?_) ?_ ?_ | refine tkW 2 (v := ?_) ?_ ?_ | refine tkW 3 (v := ?_) ?_ ?_ | refine tkW 4 (v := ?_) ?_ ?_ | refine tkW 5 (v := ?_) ?_ ?_ | refine tkW 6 (v := ?_) ?_ ?_ | refine tkW 7 (v := ?_) ?_ ?_ | refine tkW 8 (v := ?_) ?_ ?_ | refine tkW 9 (v := ?_) ?_ ?_)
    rotate_left
    · (intro ww hSw; (try dsimp only at hSw); go_simp; (try with_reducible rfl))
    try simp only [Act.put, List.setIfInBounds_toArray, List.set_cons_zero, List.set_cons_succ]
  iterate 4
    (first | refine tkW 10 (v := ?_) ?_ ?_ | refine tkW 11 (v := ?_) ?_ ?_ | refine tkW 12 (v := ?_) ?_ ?_ | refine tkW 13 (v := ?_) ?_ ?_)
    rotate_left
    · (intro ww hSw; (try dsimp only at hSw); go_simp; (try with_reducible rfl))
    try simp only [Act.put, List.setIfInBounds_toArray, List.set_cons_zero, List.set_cons_succ]
  refine wpAnyH_done (by kernel_rfl) ?_ _
  refine NoPanic.normal ?_
  clear hHeld KS
  have B_4 := Lib.hid (bl B_3.out D0.out)
  have H_4 := Lib.hid (H_3.out.call D0.out)
  clear B_3 H_3 D0
  generalize V902.drew = V903 at *
  have hcH := H_4.out.2.2
  have hlH := H_4.out.2.1
  go_wp2_with fail
  clear hcH hlH
  refine (copied_own3 x ⟨⟨some ⟨xb, xo, none⟩, xc, pl, plc, co, coc, it, itc, bo, boc⟩, some ⟨b, o, none⟩, pac, pk, pkc, some ⟨wb, wo, none⟩, pwc⟩ _ (HWA.out.below B_4.out (Nat.le_refl _)) (right_fewW9 FT.out.right)).mono ?_
  rintro e9 wq2 ⟨⟨d2, pa2, pac2, pk2, pkc2, pw2, pwc2⟩, rfl, -, b3, hn⟩
  obtain ⟨g2, hg, hb1, hb2, e0, hfz, hput⟩ := hn.putAt (k := i) HIL.out
  simp only at hg
  subst hg
  have HN := Lib.hid (hput (tn : Int))
  have sz1 := b3.size
  have BS := Lib.hid (show Below V903.heap.size V903 (wq2.setCell ⟨g2, i, none⟩ (.int .i64 (tn : Int))) from (b3.setCell (p := ⟨g2, i, none⟩) (by show V903.heap.size ≤ g2; omega) (.int .i64 (tn : Int))))
  have A4 := Lib.hid (show WorldAt (wq2.setCell ⟨g2, i, none⟩ (.int .i64 (tn : Int))) ⟨d2, some ⟨g2, 0, none⟩, pac2, pk2, pkc2, pw2, pwc2⟩ v from by rw [← HV.out]; exact HN.out.new.world (HWA.out.below B_4.out (Nat.le_refl _)).d BS.out)
  have z0 : (wq2.setCell ⟨g2, i, none⟩ (.int .i64 (tn : Int))).heap.size = wq2.heap.size := by simp [World.setCell]
  have ne1 : wq2.heap.size ≠ g2 := by omega
  have ne2 : g2 ≠ wq2.heap.size := by omega
  clear hn b3 hput HN
  go_wp2_with fail
  clear e0 hfz ne1 ne2
  have BO := Lib.hid (Holds.newb (w := w) (A := #[.slice d2.ex x.d.exits.length d2.exc, .slice d2.pl x.d.players.length d2.plc, .slice d2.co x.d.coins.length d2.coc, .slice d2.it x.d.items.length d2.itc, .slice d2.bo x.d.boxes.length d2.boc, .int .i64 x.d.room, .int .i64 x.d.player, .int .i64 x.d.box, .slice (some ⟨g2, 0, none⟩) x.at_.length pac2, .slice pk2 x.coins.length pkc2, .slice pw2 x.wher.length pwc2]) (t := 29) (n := wq2.heap.size) (bl B_4.out BS.out) z0)
  have A5 := Lib.hid (A4.out.call ((Below.refl _ _).alloc (Nat.le_refl _) (.cells #[.slice d2.ex x.d.exits.length d2.exc, .slice d2.pl x.d.players.length d2.plc, .slice d2.co x.d.coins.length d2.coc, .slice d2.it x.d.items.length d2.itc, .slice d2.bo x.d.boxes.length d2.boc, .int .i64 x.d.room, .int .i64 x.d.player, .int .i64 x.d.box, .slice (some ⟨g2, 0, none⟩) x.at_.length pac2, .slice pk2 x.coins.length pkc2, .slice pw2 x.wher.length pwc2] 29)))
  have BS2 := Lib.hid (BS.out.alloc BS.out.size (.cells #[.slice d2.ex x.d.exits.length d2.exc, .slice d2.pl x.d.players.length d2.plc, .slice d2.co x.d.coins.length d2.coc, .slice d2.it x.d.items.length d2.itc, .slice d2.bo x.d.boxes.length d2.boc, .int .i64 x.d.room, .int .i64 x.d.player, .int .i64 x.d.box, .slice (some ⟨g2, 0, none⟩) x.at_.length pac2, .slice pk2 x.coins.length pkc2, .slice pw2 x.wher.length pwc2] 29))
  clear A4 BS z0 hb1 hb2
  generalize (wq2.setCell ⟨g2, i, none⟩ (.int .i64 (tn : Int))).alloc (.cells #[.slice d2.ex x.d.exits.length d2.exc, .slice d2.pl x.d.players.length d2.plc, .slice d2.co x.d.coins.length d2.coc, .slice d2.it x.d.items.length d2.itc, .slice d2.bo x.d.boxes.length d2.boc, .int .i64 x.d.room, .int .i64 x.d.player, .int .i64 x.d.box, .slice (some ⟨g2, 0, none⟩) x.at_.length pac2, .slice pk2 x.coins.length pkc2, .slice pw2 x.wher.length pwc2] 29) = VN2 at *
  have B_5 := Lib.hid (bl B_4.out BS2.out)
  have H_5 := Lib.hid (H_4.out.call BS2.out)
  have Y_5 := BO
  have VA_5 := A5
  clear BO A5 BS2 sz1 B_4 H_4
  obtain ⟨d0, -, -, -⟩ := HHX.out _ B_5.out
  have KS : Hid (∀ w', Below VN2.heap.size VN2 w' → Below VN2.heap.size VN2 w' ∧ (∀ ii, w'.cell? ⟨w.heap.size, ii, none⟩ = (#[.slice (some ⟨xb, xo, none⟩) x.d.exits.length xc, .slice pl x.d.players.length plc, .slice co x.d.coins.length coc, .slice it x.d.items.length itc, .slice bo x.d.boxes.length boc, .int .i64 x.d.room, .int .i64 x.d.player, .int .i64 x.d.box, .slice (some ⟨b, o, none⟩) x.at_.length pac, .slice pk x.coins.length pkc, .slice (some ⟨wb, wo, none⟩) x.wher.length pwc][ii]? : Option Value)) ∧ (∀ ii, w'.cell? ⟨wq2.heap.size, ii, none⟩ = (#[.slice d2.ex x.d.exits.length d2.exc, .slice d2.pl x.d.players.length d2.plc, .slice d2.co x.d.coins.length d2.coc, .slice d2.it x.d.items.length d2.itc, .slice d2.bo x.d.boxes.length d2.boc, .int .i64 x.d.room, .int .i64 x.d.player, .int .i64 x.d.box, .slice (some ⟨g2, 0, none⟩) x.at_.length pac2, .slice pk2 x.coins.length pkc2, .slice pw2 x.wher.length pwc2][ii]? : Option Value)) ∧ w'.cell? ⟨b, o + i, none⟩ = some (.int .i64 (r : Int))) := Lib.hid (fun w' hb => ⟨hb, fun ii => (hb.cell (p := ⟨w.heap.size, ii, none⟩) H_5.out.2.1).trans (H_5.out.2.2 ii), fun ii => (hb.cell (p := ⟨wq2.heap.size, ii, none⟩) Y_5.out.2.1).trans (Y_5.out.2.2 ii), cell_call d0 hb⟩)
  have D0 := Lib.hid (bdrew1 (Below.refl VN2.heap.size VN2))
  refine wp_region_noPanic ?_
  refine wp_region_held_drew (S := (fun w' => Below VN2.heap.size VN2 w' ∧ (∀ ii, w'.cell? ⟨w.heap.size, ii, none⟩ = (#[.slice (some ⟨xb, xo, none⟩) x.d.exits.length xc, .slice pl x.d.players.length plc, .slice co x.d.coins.length coc, .slice it x.d.items.length itc, .slice bo x.d.boxes.length boc, .int .i64 x.d.room, .int .i64 x.d.player, .int .i64 x.d.box, .slice (some ⟨b, o, none⟩) x.at_.length pac, .slice pk x.coins.length pkc, .slice (some ⟨wb, wo, none⟩) x.wher.length pwc][ii]? : Option Value)) ∧ (∀ ii, w'.cell? ⟨wq2.heap.size, ii, none⟩ = (#[.slice d2.ex x.d.exits.length d2.exc, .slice d2.pl x.d.players.length d2.plc, .slice d2.co x.d.coins.length d2.coc, .slice d2.it x.d.items.length d2.itc, .slice d2.bo x.d.boxes.length d2.boc, .int .i64 x.d.room, .int .i64 x.d.player, .int .i64 x.d.box, .slice (some ⟨g2, 0, none⟩) x.at_.length pac2, .slice pk2 x.coins.length pkc2, .slice pw2 x.wher.length pwc2][ii]? : Option Value)) ∧ w'.cell? ⟨b, o + i, none⟩ = some (.int .i64 (r : Int)))) (by kernel_rfl) (by (first | (with_reducible exact KS.out _ D0.out))) (fun hHeld => ?_)
  clear d0
  iterate 6
    (first | refine tkW 0 (v := ?_) ?_ ?_ | refine tkW 1 (v := ?_) ?_ ?_ | refine tkW 2 (v := ?_) ?_ ?_ | refine tkW 3 (v := ?_) ?_ ?_ | refine tkW 4 (v := ?_) ?_ ?_ | refine tkW 5 (v := ?_) ?_ ?_)
    rotate_left
    · (intro ww hSw; (try dsimp only at hSw); go_simp; (try with_reducible rfl))
    try simp only [Act.put, List.setIfInBounds_toArray, List.set_cons_zero, List.set_cons_succ]
  refine rdy1 6 (fun K hK => ?_)
  go_simp
  refine (spresent_as SV.out ⟨d2, some ⟨g2, 0, none⟩, pac2, pk2, pkc2, pw2, pwc2⟩ _ RV.out (VA_5.out.call D0.out) r HP1.out).mono ?_; rintro e x1 ⟨qa1, qc1, rfl, g9, hb9⟩; have D1 := Lib.hid (below_call D0.out D0.out.size hb9); have PL1 := Lib.hid g9; clear hb9 g9
  try go_wp2_with fail
  refine hK.out _ _ (by (first | (with_reducible exact KS.out _ D1.out))) (fun hHeld => ?_)
  clear hK K
  try simp only [Act.put, List.setIfInBounds_toArray, List.set_cons_zero, List.set_cons_succ]
  iterate 1
    (first | refine tkW 7 (v := ?_) ?_ ?_)
    rotate_left
    · (intro ww hSw; (try dsimp only at hSw); go_simp; (try with_reducible rfl))
    try simp only [Act.put, List.setIfInBounds_toArray, List.set_cons_zero, List.set_cons_succ]
  refine wpAnyH_done (by kernel_rfl) ?_ _
  refine NoPanic.normal ?_
  clear hHeld KS
  have B_6 := Lib.hid (bl B_5.out D1.out)
  have H_6 := Lib.hid (H_5.out.call D1.out)
  have Y_6 := Lib.hid (Y_5.out.call D1.out)
  have VA_6 := Lib.hid (VA_5.out.call D1.out)
  have PL_6 := PL1
  clear B_5 H_5 Y_5 VA_5 D0 D1 PL1
  have hcH := H_6.out.2.2
  have hlH := H_6.out.2.1
  have hcY := Y_6.out.2.2
  have hlY := Y_6.out.2.1
  go_wp2_with fail
  refine (spresent_as SV.out ⟨d2, some ⟨g2, 0, none⟩, pac2, pk2, pkc2, pw2, pwc2⟩ _ RV.out VA_6.out tn HP2.out).mono ?_
  rintro e u5 ⟨qa2, qc2, rfl, g9, b5⟩
  clear hcH hlH hcY hlY
  have B_7 := Lib.hid (bl B_6.out b5)
  have H_7 := Lib.hid (H_6.out.call b5)
  have Y_7 := Lib.hid (Y_6.out.call b5)
  have VA_7 := Lib.hid (VA_6.out.call b5)
  have PL_7 := Lib.hid (PL_6.out.call b5)
  clear b5 B_6 H_6 Y_6 VA_6 PL_6
  have hcH := H_7.out.2.2
  have hlH := H_7.out.2.1
  have hcY := Y_7.out.2.2
  have hlY := Y_7.out.2.1
  have PN_7 := Lib.hid g9
  clear g9
  go_wp2_with fail
  clear hcH hlH hcY hlY
  go_loopw [20, 22] (fun gv nv wr => ∃ n : Nat, n ≤ l1.length ∧ gv = .bool true ∧ nv = .int .i64 n ∧ Below u5.heap.size u5 wr) (fun _ nv _ => l1.length - (intOf nv).toNat)
  case atStart => exact ⟨0, Nat.zero_le _, rfl, rfl, Below.refl _ _⟩
  case round =>
    obtain ⟨n, hn, rfl, rfl, hB⟩ := hrel
    have HBB := Lib.hid hB
    have hcH := (H_7.out.call hB).2.2
    have hlH := (H_7.out.call hB).2.1
    obtain ⟨d0, -, -, -⟩ := HHX.out _ (B_7.out.trans (hB.mono B_7.out.size))
    by_cases hlt : n < l1.length
    · obtain ⟨lb, lo, ha, hlb, hlc⟩ := (RowAt.call PL_7.out.row hB).at_ hlt
      obtain ⟨m, hm, hmi⟩ := HL1.out n hlt
      have e0 : wr.cell? ⟨lb, lo + n, none⟩ = some (.int .i64 (m : Int)) := by have := hlc n hlt 0 (by omega); rw [hm] at this; simpa [inC] using this
      have hwn : IntKind.i64.wrap ((n : Int) + 1) = (n : Int) + 1 := IntWalk.i64_in _ (by omega)
      clear hlc hm hB
      subst ha
      by_cases e : m = i
      · have q1 : ((m : Int) != (i : Int)) = false := by simp [e]
        have q2 : ((tn : Int) == (r : Int)) = true := by simp [hmi e]
        clear e hmi
        go_wp2_with fail
        go_roundw
        case rel => exact ⟨n + 1, by omega, rfl, by go_num, HBB.out⟩
        case measure => simp [intOf]; omega
      · have q1 : ((m : Int) != (i : Int)) = true := by simp; omega
        clear e hmi
        go_wp2_with fail
        go_roundw
        case rel => exact ⟨n + 1, by omega, rfl, by go_num, HBB.out⟩
        case measure => simp [intOf]; omega
    · have hke : n = l1.length := by omega
      subst hke
      clear hB hlt d0
      go_wp2_with fail
      clear hcH hlH
      obtain ⟨wp, hwp⟩ : ∃ q, q = wr := ⟨_, rfl⟩
      subst hwp
      go_loopw [21, 23] (fun tv nv wr => ∃ n : Nat, n ≤ l2.length ∧ tv = .bool (inT l2 n (i : Int)) ∧ nv = .int .i64 n ∧ Below u5.heap.size u5 wr) (fun _ nv _ => l2.length - (intOf nv).toNat)
      case atStart => exact ⟨0, Nat.zero_le _, by rw [inT_zero], rfl, HBB.out⟩
      case round =>
        clear HBB
        obtain ⟨n, hn, rfl, rfl, hB⟩ := hrel
        have HBB := Lib.hid hB
        by_cases hlt : n < l2.length
        · obtain ⟨lb, lo, ha, hlb, hlc⟩ := (RowAt.call PN_7.out.row hB).at_ hlt
          obtain ⟨m, hm⟩ := HL2.out n hlt
          have e0 : wr.cell? ⟨lb, lo + n, none⟩ = some (.int .i64 (m : Int)) := by have := hlc n hlt 0 (by omega); rw [hm] at this; simpa [inC] using this
          have hwn : IntKind.i64.wrap ((n : Int) + 1) = (n : Int) + 1 := IntWalk.i64_in _ (by omega)
          have HS := Lib.hid (inT_step hlt (i : Int))
          rw [hm] at HS
          clear hlc hm hB
          subst ha
          obtain ⟨tb, htb⟩ : ∃ tb, inT l2 n (i : Int) = tb := ⟨_, rfl⟩
          rw [htb] at HS ⊢
          clear htb
          cases tb
          · by_cases e : m = i
            · have q1 : ((m : Int) == (i : Int)) = true := by simp [e]
              have HT := Lib.hid (show inT l2 (n + 1) (i : Int) = true by rw [HS.out]; simp [e])
              clear e HS
              go_wp2_with fail
              go_roundw
              case rel => exact ⟨n + 1, by omega, by rw [HT.out], by go_num, HBB.out⟩
              case measure => simp [intOf]; omega
            · have q1 : ((m : Int) == (i : Int)) = false := by simp; omega
              have HT := Lib.hid (show inT l2 (n + 1) (i : Int) = false by rw [HS.out]; simp; omega)
              clear e HS
              go_wp2_with fail
              go_roundw
              case rel => exact ⟨n + 1, by omega, by rw [HT.out], by go_num, HBB.out⟩
              case measure => simp [intOf]; omega
          · have HT := Lib.hid (show inT l2 (n + 1) (i : Int) = true by rw [HS.out]; rfl)
            clear HS
            go_wp2_with fail
            go_roundw
            case rel => exact ⟨n + 1, by omega, by rw [HT.out], by go_num, HBB.out⟩
            case measure => simp [intOf]; omega
        · have hke : n = l2.length := by omega
          subst hke
          rw [HI2.out]
          have BB := Lib.hid hB
          clear hB hlt HBB
          have B_8 := Lib.hid (bl B_7.out BB.out)
          have H_8 := Lib.hid (H_7.out.call BB.out)
          have Y_8 := Lib.hid (Y_7.out.call BB.out)
          have VA_8 := Lib.hid (VA_7.out.call BB.out)
          have PL_8 := Lib.hid (PL_7.out.call BB.out)
          have PN_8 := Lib.hid (PN_7.out.call BB.out)
          clear BB B_7 H_7 Y_7 VA_7 PL_7 PN_7
          have hcY := Y_8.out.2.2
          have hlY := Y_8.out.2.1
          go_wp2_with fail
          have FR := field_room
          refine (slook_as SV.out ⟨d2, some ⟨g2, 0, none⟩, pac2, pk2, pkc2, pw2, pwc2⟩ i _ RV.out VA_8.out HIV.out HR5.out).mono ?_
          rintro e u6 ⟨pa9, ia9, pc9, ic9, rfl, -, b6⟩
          rw [HRM.out]
          clear hcY hlY
          have B_9 := Lib.hid (bl B_8.out b6)
          have H_9 := Lib.hid (H_8.out.call b6)
          have Y_9 := Lib.hid (Y_8.out.call b6)
          have VA_9 := Lib.hid (VA_8.out.call b6)
          have PL_9 := Lib.hid (PL_8.out.call b6)
          have PN_9 := Lib.hid (PN_8.out.call b6)
          clear b6 B_8 H_8 Y_8 VA_8 PL_8 PN_8
          go_wp2_with fail
          go_ret
          exact ⟨rfl, B_9.out⟩
theorem walk_sightMoves (x : Wd) (p : Wp) (a c d : Int) (w : World) (ha : (Lit.int .u8 a).wf = true) (hc : (Lit.int .u8 c).wf = true) (hd : (Lit.int .u8 d).wf = true) (h : WorldAt w p x) : Calls Try.prog 6 #[.agg #[.slice p.d.ex x.d.exits.length p.d.exc, .slice p.d.pl x.d.players.length p.d.plc, .slice p.d.co x.d.coins.length p.d.coc, .slice p.d.it x.d.items.length p.d.itc, .slice p.d.bo x.d.boxes.length p.d.boc, .int .i64 x.d.room, .int .i64 x.d.player, .int .i64 x.d.box, .slice p.at_ x.at_.length p.atc, .slice p.co x.coins.length p.coc, .slice p.wh x.wher.length p.whc], .int .u8 a, .int .u8 c, .int .u8 d] w fun e w' => e = .returned (.bool true) ∧ Below w.heap.size w w' := by
  cases hf : fitsB x
  · exact sightMoves_no x p a c d w h hf
  by_cases h0 : 0 < x.wher.length
  case neg => exact sightMoves_none x p a c d w h hf (by rw [beq_iff_eq]; omega)
  have h7 := wf_u8 ha
  have h8 := wf_u8 hc
  have h9 := wf_u8 hd
  obtain ⟨m1, rfl⟩ : ∃ m : Nat, a = m := ⟨a.toNat, by omega⟩
  obtain ⟨m2, rfl⟩ : ∃ m : Nat, c = m := ⟨c.toNat, by omega⟩
  obtain ⟨m3, rfl⟩ : ∃ m : Nat, d = m := ⟨d.toNat, by omega⟩
  have hx := (fits_fit hf).right
  have hil : m1 % x.at_.length < x.at_.length := Nat.mod_lt _ (right_lens hx).1
  have hkl : m2 % x.wher.length < x.wher.length := Nat.mod_lt _ h0
  have hrl := (room_at hx hil).2
  have ht := toW_in hx hrl (show m3 % 4 < 4 from Nat.mod_lt _ (by omega))
  obtain ⟨⟨pe, xc, pl, plc, co, coc, it, itc, bo, boc⟩, pa, pac, pk, pkc, pw, pwc⟩ := p
  obtain ⟨b, o, ea, -, -⟩ := h.at_.at_ hil
  obtain ⟨wb, wo, ew, -, -⟩ := h.wh.at_ hkl
  obtain ⟨xb, xo, ee, -, -⟩ := h.d.ex.at_ hrl
  simp only at ea ew ee
  subst ea ew ee
  by_cases hz : plOf x.wher (m2 % x.wher.length) = ⟨0, (roomOf x (m1 % x.at_.length) : Int)⟩
  · cases hry : rightW (putW x (m2 % x.wher.length) ⟨1, ((m1 % x.at_.length : Nat) : Int)⟩)
    · exact sightMoves_lies x xb xo xc pl co it bo plc coc itc boc b o pac pk pkc wb wo pwc m1 _ m2 _ m3 _ (by omega) (by omega) (by omega) rfl rfl rfl w h hf h0 hz hry
    · rcases ht with ht | ht
      · exact sightMoves_got_shut x xb xo xc pl co it bo plc coc itc boc b o pac pk pkc wb wo pwc m1 _ m2 _ m3 _ (by omega) (by omega) (by omega) rfl rfl rfl w h hf h0 hz hry ht
      · exact sightMoves_got_go x xb xo xc pl co it bo plc coc itc boc b o pac pk pkc wb wo pwc m1 _ m2 _ m3 _ (by omega) (by omega) (by omega) rfl rfl rfl w h hf h0 hz hry (toW x (roomOf x (m1 % x.at_.length)) (m3 % 4)).toNat (by omega)
  · rcases ht with ht | ht
    · exact sightMoves_shut x xb xo xc pl co it bo plc coc itc boc b o pac pk pkc wb wo pwc m1 _ m2 _ m3 _ (by omega) (by omega) (by omega) rfl rfl rfl w h hf h0 hz ht
    · exact sightMoves_go x xb xo xc pl co it bo plc coc itc boc b o pac pk pkc wb wo pwc m1 _ m2 _ m3 _ (by omega) (by omega) (by omega) rfl rfl rfl w h hf h0 hz (toW x (roomOf x (m1 % x.at_.length)) (m3 % 4)).toNat (by omega)
set_option maxRecDepth 100000 in
theorem lifted_sightMoves (os : Os) (started : os.Started) (H : Type) (enc : TypeId × Value → H) :
    ReturnsInHanded {} Try.checked os 6 .any (Rows.sightMovesSpec.pre6 enc Try.prog Try.f6 Rows.sightMovesRow.domain false) (Rows.sightMovesSpec.post enc Try.prog Try.f6 false true false false) := by
  refine returnsInHanded_of_change (C := Try.checked) (by kernel_rfl) started (by kernel_rfl) Try.func6
    (ChangeSpec.witness6 (enc := enc) (C := Try.checked) false ⟨#[], #[.agg #[.slice none 0 0, .slice none 0 0, .slice none 0 0, .slice none 0 0, .slice none 0 0, .int .i64 0, .int .i64 0, .int .i64 0, .slice none 0 0, .slice none 0 0, .slice none 0 0], .int .u8 0, .int .u8 0, .int .u8 0], []⟩ 8 (by kernel_rfl) (by kernel_rfl) (by kernel_rfl) (by kernel_rfl)) ?_
  intro W base args ds gs before hval0 hW hcnd _
  have hval : ∀ (j : Nat) t v, Try.f6.params[j]? = some t → args[j]? = some v → Value.okWide Try.prog W .any base t v := hval0
  have hW' := hW
  obtain ⟨p, q, hA0, hV, rfl, hfz, hnd⟩ := hW
  have hA : DataW.TrodAll enc Try.prog W 0 (fun _ => true) true Try.f6.params.toList args.toList ds p := hA0
  rw [Try.params6] at hA hval
  obtain ⟨v0, vs0, d0, ds0, p0, q0, hargs, rfl, rfl, h0, r0⟩ := trodAll_cons hA
  obtain ⟨v1, vs1, d1, ds1, p1, q1, rfl, rfl, rfl, h1, r1⟩ := trodAll_cons r0
  obtain ⟨v2, vs2, d2, ds2, p2, q2, rfl, rfl, rfl, h2, r2⟩ := trodAll_cons r1
  obtain ⟨v3, vs3, d3, ds3, p3, q3, rfl, rfl, rfl, h3, r3⟩ := trodAll_cons r2
  obtain ⟨rfl, rfl, rfl⟩ := trodAll_nil r3
  obtain rfl : args = #[v0, v1, v2, v3] := by cases args; simp_all
  obtain ⟨rfl, rfl⟩ := trodVars_none hV
  obtain ⟨wx0, wp0, rfl, m0⟩ := read_world (hval 0 29 v0 rfl rfl) h0
  obtain ⟨a1, rfl, rfl, rfl, w1⟩ := open_int Try.underlying5 (hval 1 5 v1 rfl rfl) h1
  obtain ⟨a2, rfl, rfl, rfl, w2⟩ := open_int Try.underlying5 (hval 2 5 v2 rfl rfl) h2
  obtain ⟨a3, rfl, rfl, rfl, w3⟩ := open_int Try.underlying5 (hval 3 5 v3 rfl rfl) h3
  clear hA0 hval0
  simp only [List.append_nil] at hW'
  refine (walk_sightMoves wx0 wp0 a1 a2 a3 W w1 w2 w3 m0).mono fun e W' ⟨he, hg⟩ => ?_
  subst he
  exact ⟨_, rfl, law_post (by kernel_rfl) rfl (by rw [Try.params6]; decide +kernel) rfl rfl Try.underlying4 hW' hg⟩

/-- ████ THE STATEMENT ████ -/
theorem proved_sightMoves : Rows.SightMovesSaid :=
  OpenClaim.holds_of_wide 6 Try.f6 rfl rfl rfl rfl rfl rfl rfl ⟨rfl, rfl, rfl, rfl, rfl⟩ rfl rfl rfl rfl rfl (by kernel_rfl) Try.func6 (by kernel_rfl)
    (of_decide_eq_true (by kernel_rfl)) (by unfold Func.isWrapper; first | (rw [if_pos (by decide +kernel)]; kernel_rfl) | (rw [if_neg (by decide +kernel)]; exact ⟨rfl, rfl⟩))
    (fun os started H enc _ => lifted_sightMoves os started H enc)
#print axioms proved_sightMoves
end Go.Proofs.Ytojfichbnnfjpaa
