/- HoldOther: what somebody has nobody else can get or drop; what lies in another room, or in a box, neither; of each item at most one player can drop it. -/
import Derived.Test.YtjlipbcmkibkcaaRows
import Derived.Test.YtjlipbcmkibkcaaKit
import Derived.Test.YtjlipbcmkibkcaaGMem
import Derived.Test.YtjlipbcmkibkcaaCoin
import Derived.Test.YtjlipbcmkibkcaaGWorld
import Derived.Test.YtjlipbcmkibkcaaDescMay
import Derived.Test.YtjlipbcmkibkcaaGDescN
import Derived.Test.YtjlipbcmkibkcaaGRight
import Derived.Test.YtjlipbcmkibkcaaGCopy
import Derived.Test.YtjlipbcmkibkcaaGRefD
import Derived.Test.YtjlipbcmkibkcaaGAs
import Derived.Test.YtjlipbcmkibkcaaGEq
import Derived.Test.YtjlipbcmkibkcaaGNew
import Derived.Test.YtjlipbcmkibkcaaRefRight
import Derived.Test.YtjlipbcmkibkcaaGTreeL
import Derived.Test.YtjlipbcmkibkcaaGHoldA
import Derived.Test.YtjlipbcmkibkcaaHoldD
import Derived.Test.YtjlipbcmkibkcaaHoldE
import Derived.Test.YtjlipbcmkibkcaaHoldAwake
import Derived.Deep.QuietTactic
import Derived.BigQuiet
import Derived.Deep.RegionHeld3
import Derived.WalkKit
import Derived.ProofKit
import Derived.OpenShut
import Derived.IntWalk
namespace Go.Proofs.Ytjlipbcmkibkcaa
open Go.ChangeShapes Go.WideShapes Go.ChangeAt Go.RowKit
set_option linter.unusedVariables false
open Go.RowKit
set_option maxRecDepth 100000 in
theorem holdOther_no (x : Wd) (p : Wp) (a : Int) (w : World) (h : WorldAt w p x) (hf : fitsB x = false) : Calls Try.prog 7 #[.agg #[.slice p.d.ex x.d.exits.length p.d.exc, .slice p.d.pl x.d.players.length p.d.plc, .slice p.d.co x.d.coins.length p.d.coc, .slice p.d.it x.d.items.length p.d.itc, .slice p.d.bo x.d.boxes.length p.d.boc, .int .i64 x.d.room, .int .i64 x.d.player, .int .i64 x.d.box, .slice p.at_ x.at_.length p.atc, .slice p.co x.coins.length p.coc, .slice p.wh x.wher.length p.whc], .int .u8 a] w fun e w' => e = .returned (.bool true) ∧ Below w.heap.size w w' := by
  have H_0 := Lib.hid (Holds.new w #[.slice p.d.ex x.d.exits.length p.d.exc, .slice p.d.pl x.d.players.length p.d.plc, .slice p.d.co x.d.coins.length p.d.coc, .slice p.d.it x.d.items.length p.d.itc, .slice p.d.bo x.d.boxes.length p.d.boc, .int .i64 x.d.room, .int .i64 x.d.player, .int .i64 x.d.box, .slice p.at_ x.at_.length p.atc, .slice p.co x.coins.length p.coc, .slice p.wh x.wher.length p.whc] 29)
  have HF := Lib.hid hf
  have HWA := Lib.hid h
  clear hf h
  go_enter Try.func7, Try.ntmps7
  go_wp2_with fail
  generalize w.alloc (.cells #[.slice p.d.ex x.d.exits.length p.d.exc, .slice p.d.pl x.d.players.length p.d.plc, .slice p.d.co x.d.coins.length p.d.coc, .slice p.d.it x.d.items.length p.d.itc, .slice p.d.bo x.d.boxes.length p.d.boc, .int .i64 x.d.room, .int .i64 x.d.player, .int .i64 x.d.box, .slice p.at_ x.at_.length p.atc, .slice p.co x.coins.length p.coc, .slice p.wh x.wher.length p.whc] 29) = V0 at *
  have B_0 := Lib.hid H_0.out.1
  refine (awake9_any _).mono ?_
  rintro e u1 ⟨rfl, b1⟩
  have B_1 := Lib.hid (bl B_0.out b1)
  have H_1 := Lib.hid (H_0.out.call b1)
  clear b1 B_0 H_0
  have hcH := H_1.out.2.2
  have hlH := H_1.out.2.1
  go_wp2_with fail
  refine (fits9_any x p _ (HWA.out.below H_1.out.1 (Nat.le_refl _))).mono ?_
  rintro e u2 ⟨rfl, b2⟩
  rw [HF.out]
  clear hcH hlH
  have B_2 := Lib.hid (bl B_1.out b2)
  have H_2 := Lib.hid (H_1.out.call b2)
  clear b2 B_1 H_1
  have hcH := H_2.out.2.2
  have hlH := H_2.out.2.1
  go_wp2_with fail
  refine (awake9_any _).mono ?_
  rintro e u3 ⟨rfl, b3⟩
  clear hcH hlH
  have B_3 := Lib.hid (bl B_2.out b3)
  have H_3 := Lib.hid (H_2.out.call b3)
  clear b3 B_2 H_2
  have hcH := H_3.out.2.2
  have hlH := H_3.out.2.1
  go_wp2_with fail
  go_ret
  exact ⟨rfl, B_3.out⟩
set_option maxRecDepth 100000 in
theorem holdOther_none (x : Wd) (p : Wp) (a : Int) (w : World) (h : WorldAt w p x) (hf : fitsB x = true) (h0 : ((x.wher.length : Int) == 0) = true) : Calls Try.prog 7 #[.agg #[.slice p.d.ex x.d.exits.length p.d.exc, .slice p.d.pl x.d.players.length p.d.plc, .slice p.d.co x.d.coins.length p.d.coc, .slice p.d.it x.d.items.length p.d.itc, .slice p.d.bo x.d.boxes.length p.d.boc, .int .i64 x.d.room, .int .i64 x.d.player, .int .i64 x.d.box, .slice p.at_ x.at_.length p.atc, .slice p.co x.coins.length p.coc, .slice p.wh x.wher.length p.whc], .int .u8 a] w fun e w' => e = .returned (.bool true) ∧ Below w.heap.size w w' := by
  have H_0 := Lib.hid (Holds.new w #[.slice p.d.ex x.d.exits.length p.d.exc, .slice p.d.pl x.d.players.length p.d.plc, .slice p.d.co x.d.coins.length p.d.coc, .slice p.d.it x.d.items.length p.d.itc, .slice p.d.bo x.d.boxes.length p.d.boc, .int .i64 x.d.room, .int .i64 x.d.player, .int .i64 x.d.box, .slice p.at_ x.at_.length p.atc, .slice p.co x.coins.length p.coc, .slice p.wh x.wher.length p.whc] 29)
  have HF := Lib.hid hf
  have HWA := Lib.hid h
  clear hf h
  go_enter Try.func7, Try.ntmps7
  go_wp2_with fail
  generalize w.alloc (.cells #[.slice p.d.ex x.d.exits.length p.d.exc, .slice p.d.pl x.d.players.length p.d.plc, .slice p.d.co x.d.coins.length p.d.coc, .slice p.d.it x.d.items.length p.d.itc, .slice p.d.bo x.d.boxes.length p.d.boc, .int .i64 x.d.room, .int .i64 x.d.player, .int .i64 x.d.box, .slice p.at_ x.at_.length p.atc, .slice p.co x.coins.length p.coc, .slice p.wh x.wher.length p.whc] 29) = V0 at *
  have B_0 := Lib.hid H_0.out.1
  refine (awake9_any _).mono ?_
  rintro e u1 ⟨rfl, b1⟩
  have B_1 := Lib.hid (bl B_0.out b1)
  have H_1 := Lib.hid (H_0.out.call b1)
  clear b1 B_0 H_0
  have hcH := H_1.out.2.2
  have hlH := H_1.out.2.1
  go_wp2_with fail
  refine (fits9_any x p _ (HWA.out.below H_1.out.1 (Nat.le_refl _))).mono ?_
  rintro e u2 ⟨rfl, b2⟩
  rw [HF.out]
  clear hcH hlH
  have B_2 := Lib.hid (bl B_1.out b2)
  have H_2 := Lib.hid (H_1.out.call b2)
  clear b2 B_1 H_1
  have hcH := H_2.out.2.2
  have hlH := H_2.out.2.1
  go_wp2_with fail
  refine (awake9_any _).mono ?_
  rintro e u3 ⟨rfl, b3⟩
  clear hcH hlH
  have B_3 := Lib.hid (bl B_2.out b3)
  have H_3 := Lib.hid (H_2.out.call b3)
  clear b3 B_2 H_2
  have hcH := H_3.out.2.2
  have hlH := H_3.out.2.1
  go_wp2_with fail
  go_ret
  exact ⟨rfl, B_3.out⟩
/-- How many of the first players can drop an item that is there. -/
def dnN (z : Pl) (m : Nat) : Nat := if z.kind = 1 ∧ 0 ≤ z.id ∧ z.id < m then 1 else 0
theorem dnN_yes (m : Nat) : dnN ⟨1, (m : Int)⟩ m = 0 ∧ dnN ⟨1, (m : Int)⟩ (m + 1) = 1 := by
  constructor
  · unfold dnN; rw [if_neg (by simp)]
  · unfold dnN; rw [if_pos (by simp; omega)]
theorem dnN_no {z : Pl} {m : Nat} (h : ¬ z = ⟨1, (m : Int)⟩) : dnN z (m + 1) = dnN z m := by
  unfold dnN
  obtain ⟨k, i⟩ := z
  simp only [Pl.mk.injEq] at h ⊢
  by_cases h1 : k = 1
  · by_cases h2 : 0 ≤ i ∧ i < m
    · rw [if_pos (by omega), if_pos (by omega)]
    · rw [if_neg (by omega), if_neg (by omega)]
  · rw [if_neg (by simp [h1]), if_neg (by simp [h1])]
theorem dnN_all {x : Wd} (h : rightW x = true) {k : Nat} (hk : k < x.wher.length) : dnN (plOf x.wher k) x.at_.length = if (plOf x.wher k).kind = 1 then 1 else 0 := by
  have h1 := (right_in h).2.2 _ (plOf_mem hk)
  have h2 : x.at_.length = x.d.players.length := by
    have h3 := h
    simp only [rightW, playersB, Bool.and_eq_true, decide_eq_true_eq] at h3
    exact h3.2.1.1
  unfold dnN
  by_cases e : (plOf x.wher k).kind = 1
  · simp only [placeB, e, inB] at h1
    simp at h1
    rw [if_pos ⟨e, by omega, by omega⟩, if_pos e]
  · rw [if_neg (fun h => e h.1), if_neg e]
set_option maxRecDepth 100000 in
set_option maxHeartbeats 2000000 in
theorem holdOther_go (x : Wd) (pd : Dp) (b o pac : Nat) (pk : Option Addr) (pkc wb wo pwc : Nat) (a k : Nat) (haa : a ≤ 255) (hlp : 0 < x.wher.length) (hi : a % x.wher.length = k) (w : World) (h : WorldAt w ⟨pd, some ⟨b, o, none⟩, pac, pk, pkc, some ⟨wb, wo, none⟩, pwc⟩ x) (hf : fitsB x = true) (c0 : w.cell? ⟨wb, wo + k * 2, none⟩ = some (.int .i64 (plOf x.wher k).kind)) (c1 : w.cell? ⟨wb, wo + k * 2 + 1, none⟩ = some (.int .i64 (plOf x.wher k).id)) : Calls Try.prog 7 #[.agg #[.slice pd.ex x.d.exits.length pd.exc, .slice pd.pl x.d.players.length pd.plc, .slice pd.co x.d.coins.length pd.coc, .slice pd.it x.d.items.length pd.itc, .slice pd.bo x.d.boxes.length pd.boc, .int .i64 x.d.room, .int .i64 x.d.player, .int .i64 x.d.box, .slice (some ⟨b, o, none⟩) x.at_.length pac, .slice pk x.coins.length pkc, .slice (some ⟨wb, wo, none⟩) x.wher.length pwc], .int .u8 (a : Int)] w fun e w' => e = .returned (.bool true) ∧ Below w.heap.size w w' := by
  have r1 := run_tmod7 a x.wher.length
  have m1 := run_mod7 a x.wher.length
  rw [hi] at r1 m1
  have FT := Lib.hid (fits_fit hf)
  have hne : ¬ x.wher = [] := List.length_pos_iff.1 hlp
  have h0 : ((x.wher.length : Int) == 0) = false := by simp; omega
  have hkl : k < x.wher.length := by rw [← hi]; exact Nat.mod_lt _ hlp
  have hlen16 := (right_lens FT.out.right).2.2.2.1
  have hlen6 := (right_lens FT.out.right).2.1
  have hlen := h.wh.len
  have HDN := Lib.hid (dnN_all FT.out.right hkl)
  have C0 := Lib.hid c0
  have C1 := Lib.hid c1
  have HKL := Lib.hid hkl
  clear hi hlp c0 c1
  have H_0 := Lib.hid (Holds.new w #[.slice pd.ex x.d.exits.length pd.exc, .slice pd.pl x.d.players.length pd.plc, .slice pd.co x.d.coins.length pd.coc, .slice pd.it x.d.items.length pd.itc, .slice pd.bo x.d.boxes.length pd.boc, .int .i64 x.d.room, .int .i64 x.d.player, .int .i64 x.d.box, .slice (some ⟨b, o, none⟩) x.at_.length pac, .slice pk x.coins.length pkc, .slice (some ⟨wb, wo, none⟩) x.wher.length pwc] 29)
  have HF := Lib.hid hf
  have HWA := Lib.hid h
  clear hf h
  go_enter Try.func7, Try.ntmps7
  go_wp2_with fail
  generalize w.alloc (.cells #[.slice pd.ex x.d.exits.length pd.exc, .slice pd.pl x.d.players.length pd.plc, .slice pd.co x.d.coins.length pd.coc, .slice pd.it x.d.items.length pd.itc, .slice pd.bo x.d.boxes.length pd.boc, .int .i64 x.d.room, .int .i64 x.d.player, .int .i64 x.d.box, .slice (some ⟨b, o, none⟩) x.at_.length pac, .slice pk x.coins.length pkc, .slice (some ⟨wb, wo, none⟩) x.wher.length pwc] 29) = V0 at *
  have B_0 := Lib.hid H_0.out.1
  refine (awake9_any _).mono ?_
  rintro e u1 ⟨rfl, b1⟩
  have B_1 := Lib.hid (bl B_0.out b1)
  have H_1 := Lib.hid (H_0.out.call b1)
  clear b1 B_0 H_0
  have hcH := H_1.out.2.2
  have hlH := H_1.out.2.1
  go_wp2_with fail
  refine (fits9_any x ⟨pd, some ⟨b, o, none⟩, pac, pk, pkc, some ⟨wb, wo, none⟩, pwc⟩ _ (HWA.out.below H_1.out.1 (Nat.le_refl _))).mono ?_
  rintro e u2 ⟨rfl, b2⟩
  rw [HF.out]
  clear hcH hlH
  have B_2 := Lib.hid (bl B_1.out b2)
  have H_2 := Lib.hid (H_1.out.call b2)
  clear b2 B_1 H_1
  have hcH := H_2.out.2.2
  have hlH := H_2.out.2.1
  go_wp2_with fail
  clear hcH hlH
  go_loopw [6, 7] (fun d v wr => ∃ m : Nat, m ≤ x.at_.length ∧ v = .int .i64 m ∧ d = .int .i64 (dnN (plOf x.wher k) m : Nat) ∧ Holds w w.heap.size #[.slice pd.ex x.d.exits.length pd.exc, .slice pd.pl x.d.players.length pd.plc, .slice pd.co x.d.coins.length pd.coc, .slice pd.it x.d.items.length pd.itc, .slice pd.bo x.d.boxes.length pd.boc, .int .i64 x.d.room, .int .i64 x.d.player, .int .i64 x.d.box, .slice (some ⟨b, o, none⟩) x.at_.length pac, .slice pk x.coins.length pkc, .slice (some ⟨wb, wo, none⟩) x.wher.length pwc] wr) (fun _ v _ => x.at_.length - (intOf v).toNat)
  case atStart => exact ⟨0, Nat.zero_le _, rfl, by rw [show dnN (plOf x.wher k) 0 = 0 by unfold dnN; rw [if_neg (by omega)]]; rfl, H_2.out⟩
  case round =>
    obtain ⟨m, hm, rfl, rfl, hH⟩ := hrel
    have HH := Lib.hid hH
    have hcH := hH.2.2
    have hlH := hH.2.1
    clear hH H_2 B_2
    by_cases hlt : m < x.at_.length
    · have DY := Lib.hid (dnN_yes m)
      have DNO := Lib.hid (dnN_no (z := plOf x.wher k) (m := m))
      have GE := Lib.hid (get_err (x := x) (i := m) HKL.out)
      have DE := Lib.hid (drop_err (x := x) (i := m) HKL.out)
      obtain ⟨b0, o0, ea, hb0, hcm⟩ := HWA.out.at_.at_ hlt
      have c2 := hcm m hlt
      rw [(room_at FT.out.right hlt).1] at c2
      have hb : b = b0 ∧ o = o0 := by simpa using ea
      obtain ⟨hb1, hb2⟩ := hb
      subst hb1 hb2
      have C2 := Lib.hid c2
      clear ea hb0 hcm c2
      obtain ⟨⟨y, e⟩, hR⟩ : ∃ R, getW x m k = R := ⟨_, rfl⟩
      obtain ⟨⟨u, f⟩, hP⟩ : ∃ R, dropW x m k = R := ⟨_, rfl⟩
      rw [hR] at GE
      rw [hP] at DE
      have HR := Lib.hid hR
      have HP := Lib.hid hP
      clear hR hP
      obtain ⟨z, hz⟩ : ∃ z, plOf x.wher k = z := ⟨_, rfl⟩
      rw [hz] at DNO GE DE C0 C1
      rw [hz]
      have HZ := Lib.hid hz
      clear hz
      have HWR := Lib.hid (HWA.out.below HH.out.1 (Nat.le_refl _))
      skip
      by_cases hp1 : z = ⟨1, (m : Int)⟩
      · subst hp1
        have he : (e != 5) = false := by have := GE.out; simp at this; simp [this]
        have hf5 : (f != 5) = true := by have := DE.out; simp at this; simp [this]
        have g1 := run_pleq 1 m 0 (roomOf x m)
        have g2 := run_pleq 1 m 1 m
        simp only [decide_true] at g2
        rw [show decide ((⟨1, (m : Int)⟩ : Pl) = ⟨0, (roomOf x m : Int)⟩) = false by simp] at g1
        have hw2 : IntKind.i64.wrap (((0 : Nat) : Int) + 1) = 1 := IntWalk.i64_in _ (by omega)
        rw [DY.out.1]
        have HDM := Lib.hid DY.out.2
        have hwm : IntKind.i64.wrap ((m : Int) + 1) = (m : Int) + 1 := IntWalk.i64_in _ (by omega)
        clear GE DE DY DNO
        have B_0 := Lib.hid HH.out.1
        have H_0 := Lib.hid HH.out
        clear HH HWR
        go_wp2_with fail
        clear hcH hlH
        have hcH := H_0.out.2.2
        have hlH := H_0.out.2.1
        refine (get_as (Shape.refl x) ⟨pd, some ⟨b, o, none⟩, pac, pk, pkc, some ⟨wb, wo, none⟩, pwc⟩ m k _ FT.out.right (HWA.out.below B_0.out (Nat.le_refl _)) hlt HR.out).mono ?_
        rintro e u1 ⟨q1, rfl, g1, b1⟩
        clear hcH hlH
        have B_1 := Lib.hid (bl B_0.out b1)
        have H_1 := Lib.hid (H_0.out.call b1)
        clear b1 B_0 H_0 g1
        have hcH := H_1.out.2.2
        have hlH := H_1.out.2.1
        go_wp2_with fail
        clear hcH hlH
        have s2 : (u1.alloc (.cells #[.slice q1.d.ex x.d.exits.length q1.d.exc, .slice q1.d.pl x.d.players.length q1.d.plc, .slice q1.d.co x.d.coins.length q1.d.coc, .slice q1.d.it x.d.items.length q1.d.itc, .slice q1.d.bo x.d.boxes.length q1.d.boc, .int .i64 x.d.room, .int .i64 x.d.player, .int .i64 x.d.box, .slice q1.at_ x.at_.length q1.atc, .slice q1.co x.coins.length q1.coc, .slice q1.wh x.wher.length q1.whc] 29)).heap.size = u1.heap.size + 1 := by simp
        have B_2 := Lib.hid (B_1.out.alloc B_1.out.size (.cells #[.slice q1.d.ex x.d.exits.length q1.d.exc, .slice q1.d.pl x.d.players.length q1.d.plc, .slice q1.d.co x.d.coins.length q1.d.coc, .slice q1.d.it x.d.items.length q1.d.itc, .slice q1.d.bo x.d.boxes.length q1.d.boc, .int .i64 x.d.room, .int .i64 x.d.player, .int .i64 x.d.box, .slice q1.at_ x.at_.length q1.atc, .slice q1.co x.coins.length q1.coc, .slice q1.wh x.wher.length q1.whc] 29))
        have H_2 := Lib.hid (H_1.out.alloc (.cells #[.slice q1.d.ex x.d.exits.length q1.d.exc, .slice q1.d.pl x.d.players.length q1.d.plc, .slice q1.d.co x.d.coins.length q1.d.coc, .slice q1.d.it x.d.items.length q1.d.itc, .slice q1.d.bo x.d.boxes.length q1.d.boc, .int .i64 x.d.room, .int .i64 x.d.player, .int .i64 x.d.box, .slice q1.at_ x.at_.length q1.atc, .slice q1.co x.coins.length q1.coc, .slice q1.wh x.wher.length q1.whc] 29))
        have A_2 := Lib.hid (Holds.newb (w := w) (A := #[.slice q1.d.ex x.d.exits.length q1.d.exc, .slice q1.d.pl x.d.players.length q1.d.plc, .slice q1.d.co x.d.coins.length q1.d.coc, .slice q1.d.it x.d.items.length q1.d.itc, .slice q1.d.bo x.d.boxes.length q1.d.boc, .int .i64 x.d.room, .int .i64 x.d.player, .int .i64 x.d.box, .slice q1.at_ x.at_.length q1.atc, .slice q1.co x.coins.length q1.coc, .slice q1.wh x.wher.length q1.whc]) (t := 29) (n := u1.heap.size) B_1.out rfl)
        clear B_1 H_1
        generalize u1.alloc (.cells #[.slice q1.d.ex x.d.exits.length q1.d.exc, .slice q1.d.pl x.d.players.length q1.d.plc, .slice q1.d.co x.d.coins.length q1.d.coc, .slice q1.d.it x.d.items.length q1.d.itc, .slice q1.d.bo x.d.boxes.length q1.d.boc, .int .i64 x.d.room, .int .i64 x.d.player, .int .i64 x.d.box, .slice q1.at_ x.at_.length q1.atc, .slice q1.co x.coins.length q1.coc, .slice q1.wh x.wher.length q1.whc] 29) = V2 at *
        have hcH := H_2.out.2.2
        have hlH := H_2.out.2.1
        have hcA := A_2.out.2.2
        have hlA := A_2.out.2.1
        refine (drop_as (Shape.refl x) ⟨pd, some ⟨b, o, none⟩, pac, pk, pkc, some ⟨wb, wo, none⟩, pwc⟩ m k _ FT.out.right (HWA.out.below B_2.out (Nat.le_refl _)) hlt HP.out).mono ?_
        rintro e u3 ⟨q3, rfl, g3, b3⟩
        clear hcH hlH hcA hlA
        have B_3 := Lib.hid (bl B_2.out b3)
        have H_3 := Lib.hid (H_2.out.call b3)
        have A_3 := Lib.hid (A_2.out.call b3)
        clear b3 B_2 H_2 A_2 g3
        have hcH := H_3.out.2.2
        have hlH := H_3.out.2.1
        have hcA := A_3.out.2.2
        have hlA := A_3.out.2.1
        go_wp2_with fail
        clear hcH hlH hcA hlA
        have s4 : (u3.alloc (.cells #[.slice q3.d.ex x.d.exits.length q3.d.exc, .slice q3.d.pl x.d.players.length q3.d.plc, .slice q3.d.co x.d.coins.length q3.d.coc, .slice q3.d.it x.d.items.length q3.d.itc, .slice q3.d.bo x.d.boxes.length q3.d.boc, .int .i64 x.d.room, .int .i64 x.d.player, .int .i64 x.d.box, .slice q3.at_ x.at_.length q3.atc, .slice q3.co x.coins.length q3.coc, .slice q3.wh x.wher.length q3.whc] 29)).heap.size = u3.heap.size + 1 := by simp
        have B_4 := Lib.hid (B_3.out.alloc B_3.out.size (.cells #[.slice q3.d.ex x.d.exits.length q3.d.exc, .slice q3.d.pl x.d.players.length q3.d.plc, .slice q3.d.co x.d.coins.length q3.d.coc, .slice q3.d.it x.d.items.length q3.d.itc, .slice q3.d.bo x.d.boxes.length q3.d.boc, .int .i64 x.d.room, .int .i64 x.d.player, .int .i64 x.d.box, .slice q3.at_ x.at_.length q3.atc, .slice q3.co x.coins.length q3.coc, .slice q3.wh x.wher.length q3.whc] 29))
        have H_4 := Lib.hid (H_3.out.alloc (.cells #[.slice q3.d.ex x.d.exits.length q3.d.exc, .slice q3.d.pl x.d.players.length q3.d.plc, .slice q3.d.co x.d.coins.length q3.d.coc, .slice q3.d.it x.d.items.length q3.d.itc, .slice q3.d.bo x.d.boxes.length q3.d.boc, .int .i64 x.d.room, .int .i64 x.d.player, .int .i64 x.d.box, .slice q3.at_ x.at_.length q3.atc, .slice q3.co x.coins.length q3.coc, .slice q3.wh x.wher.length q3.whc] 29))
        have A_4 := Lib.hid (A_3.out.alloc (.cells #[.slice q3.d.ex x.d.exits.length q3.d.exc, .slice q3.d.pl x.d.players.length q3.d.plc, .slice q3.d.co x.d.coins.length q3.d.coc, .slice q3.d.it x.d.items.length q3.d.itc, .slice q3.d.bo x.d.boxes.length q3.d.boc, .int .i64 x.d.room, .int .i64 x.d.player, .int .i64 x.d.box, .slice q3.at_ x.at_.length q3.atc, .slice q3.co x.coins.length q3.coc, .slice q3.wh x.wher.length q3.whc] 29))
        have D_4 := Lib.hid (Holds.newb (w := w) (A := #[.slice q3.d.ex x.d.exits.length q3.d.exc, .slice q3.d.pl x.d.players.length q3.d.plc, .slice q3.d.co x.d.coins.length q3.d.coc, .slice q3.d.it x.d.items.length q3.d.itc, .slice q3.d.bo x.d.boxes.length q3.d.boc, .int .i64 x.d.room, .int .i64 x.d.player, .int .i64 x.d.box, .slice q3.at_ x.at_.length q3.atc, .slice q3.co x.coins.length q3.coc, .slice q3.wh x.wher.length q3.whc]) (t := 29) (n := u3.heap.size) B_3.out rfl)
        clear B_3 H_3 A_3
        generalize u3.alloc (.cells #[.slice q3.d.ex x.d.exits.length q3.d.exc, .slice q3.d.pl x.d.players.length q3.d.plc, .slice q3.d.co x.d.coins.length q3.d.coc, .slice q3.d.it x.d.items.length q3.d.itc, .slice q3.d.bo x.d.boxes.length q3.d.boc, .int .i64 x.d.room, .int .i64 x.d.player, .int .i64 x.d.box, .slice q3.at_ x.at_.length q3.atc, .slice q3.co x.coins.length q3.coc, .slice q3.wh x.wher.length q3.whc] 29) = V4 at *
        have hcH := H_4.out.2.2
        have hlH := H_4.out.2.1
        have hcA := A_4.out.2.2
        have hlA := A_4.out.2.1
        have hcD := D_4.out.2.2
        have hlD := D_4.out.2.1
        clear hcH hlH hcA hlA hcD hlD
        generalize ((roomOf x m : Nat) : Int) = rm at *
        have KS : Hid (∀ w', Below V4.heap.size V4 w' → Below V4.heap.size V4 w' ∧ (∀ i, w'.cell? ⟨w.heap.size, i, none⟩ = (#[.slice pd.ex x.d.exits.length pd.exc, .slice pd.pl x.d.players.length pd.plc, .slice pd.co x.d.coins.length pd.coc, .slice pd.it x.d.items.length pd.itc, .slice pd.bo x.d.boxes.length pd.boc, .int .i64 x.d.room, .int .i64 x.d.player, .int .i64 x.d.box, .slice (some ⟨b, o, none⟩) x.at_.length pac, .slice pk x.coins.length pkc, .slice (some ⟨wb, wo, none⟩) x.wher.length pwc][i]? : Option Value)) ∧ w'.cell? ⟨b, o + m, none⟩ = some (.int .i64 rm) ∧ w'.cell? ⟨wb, wo + k * 2, none⟩ = some (.int .i64 1) ∧ w'.cell? ⟨wb, wo + k * 2 + 1, none⟩ = some (.int .i64 (m : Int))) := Lib.hid (fun w' hb => ⟨hb, fun i => (hb.cell (p := ⟨w.heap.size, i, none⟩) H_4.out.2.1).trans (H_4.out.2.2 i), cell_call (cell_call C2.out B_4.out) hb, cell_call (cell_call C0.out B_4.out) hb, cell_call (cell_call C1.out B_4.out) hb⟩)
        refine wp_region_noPanic ?_
        refine wp_region_held_drew (S := (fun w' => Below V4.heap.size V4 w' ∧ (∀ i, w'.cell? ⟨w.heap.size, i, none⟩ = (#[.slice pd.ex x.d.exits.length pd.exc, .slice pd.pl x.d.players.length pd.plc, .slice pd.co x.d.coins.length pd.coc, .slice pd.it x.d.items.length pd.itc, .slice pd.bo x.d.boxes.length pd.boc, .int .i64 x.d.room, .int .i64 x.d.player, .int .i64 x.d.box, .slice (some ⟨b, o, none⟩) x.at_.length pac, .slice pk x.coins.length pkc, .slice (some ⟨wb, wo, none⟩) x.wher.length pwc][i]? : Option Value)) ∧ w'.cell? ⟨b, o + m, none⟩ = some (.int .i64 rm) ∧ w'.cell? ⟨wb, wo + k * 2, none⟩ = some (.int .i64 1) ∧ w'.cell? ⟨wb, wo + k * 2 + 1, none⟩ = some (.int .i64 (m : Int)))) (by kernel_rfl) (by (first | (with_reducible exact KS.out _ (bdrew1 (Below.refl _ _))) | (with_reducible exact KS.out _ (below_call hHeld.1 hHeld.1.size hb9)) | (with_reducible exact hHeld))) (fun hHeld => ?_)
        first
          | (refine wpAnyH_take (i := 0) (v := undef) (by simp only [List.getElem?_toArray, List.getElem?_cons_zero]; rfl) (by kernel_rfl) (by kernel_rfl) (by kernel_rfl) (fun _ _ _ h => h) (Or.inr ⟨by rfl, rfl⟩) (by assumption) ?_; try simp only [Act.put, List.setIfInBounds_toArray, List.set_cons_zero, List.set_cons_succ])
          | (refine wpAnyH_take (i := 0) (v := ?_) (by simp only [List.getElem?_toArray, List.getElem?_cons_zero]; rfl) (by kernel_rfl) (by kernel_rfl) (by kernel_rfl) (fun _ _ _ h => h) (Or.inl ⟨by rfl, ?_⟩) (by assumption) ?_
             rotate_left
             · (intro ww hSw; (try dsimp only at hSw); go_simp; (try with_reducible rfl))
             try simp only [Act.put, List.setIfInBounds_toArray, List.set_cons_zero, List.set_cons_succ])
          | (refine wpAnyH_ready (rs := [0]) (by kernel_rfl) (by simp) (AllReadyH.cons (by simp only [List.getElem?_toArray, List.getElem?_cons_succ, List.getElem?_cons_zero]; rfl) (fun K hK => ?_) AllReadyH.nil)
             go_simp
             first
               | (fail)
             try go_wp2_with fail
             refine hK.out _ _ (by (first | (with_reducible exact KS.out _ (bdrew1 (Below.refl _ _))) | (with_reducible exact KS.out _ (below_call hHeld.1 hHeld.1.size hb9)) | (with_reducible exact hHeld))) (fun hHeld => ?_)
             clear hK K
             try simp only [Act.put, List.setIfInBounds_toArray, List.set_cons_zero, List.set_cons_succ])
        first
          | (refine wpAnyH_take (i := 1) (v := undef) (by simp only [List.getElem?_toArray, List.getElem?_cons_succ, List.getElem?_cons_zero]; rfl) (by kernel_rfl) (by kernel_rfl) (by kernel_rfl) (fun _ _ _ h => h) (Or.inr ⟨by rfl, rfl⟩) (by assumption) ?_; try simp only [Act.put, List.setIfInBounds_toArray, List.set_cons_zero, List.set_cons_succ])
          | (refine wpAnyH_take (i := 1) (v := ?_) (by simp only [List.getElem?_toArray, List.getElem?_cons_succ, List.getElem?_cons_zero]; rfl) (by kernel_rfl) (by kernel_rfl) (by kernel_rfl) (fun _ _ _ h => h) (Or.inl ⟨by rfl, ?_⟩) (by assumption) ?_
             rotate_left
             · (intro ww hSw; (try dsimp only at hSw); go_simp; (try with_reducible rfl))
             try simp only [Act.put, List.setIfInBounds_toArray, List.set_cons_zero, List.set_cons_succ])
          | (refine wpAnyH_ready (rs := [1]) (by kernel_rfl) (by simp) (AllReadyH.cons (by simp only [List.getElem?_toArray, List.getElem?_cons_succ, List.getElem?_cons_zero]; rfl) (fun K hK => ?_) AllReadyH.nil)
             go_simp
             first
               | (fail)
             try go_wp2_with fail
             refine hK.out _ _ (by (first | (with_reducible exact KS.out _ (bdrew1 (Below.refl _ _))) | (with_reducible exact KS.out _ (below_call hHeld.1 hHeld.1.size hb9)) | (with_reducible exact hHeld))) (fun hHeld => ?_)
             clear hK K
             try simp only [Act.put, List.setIfInBounds_toArray, List.set_cons_zero, List.set_cons_succ])
        first
          | (refine wpAnyH_take (i := 2) (v := undef) (by simp only [List.getElem?_toArray, List.getElem?_cons_succ, List.getElem?_cons_zero]; rfl) (by kernel_rfl) (by kernel_rfl) (by kernel_rfl) (fun _ _ _ h => h) (Or.inr ⟨by rfl, rfl⟩) (by assumption) ?_; try simp only [Act.put, List.setIfInBounds_toArray, List.set_cons_zero, List.set_cons_succ])
          | (refine wpAnyH_take (i := 2) (v := ?_) (by simp only [List.getElem?_toArray, List.getElem?_cons_succ, List.getElem?_cons_zero]; rfl) (by kernel_rfl) (by kernel_rfl) (by kernel_rfl) (fun _ _ _ h => h) (Or.inl ⟨by rfl, ?_⟩) (by assumption) ?_
             rotate_left
             · (intro ww hSw; (try dsimp only at hSw); go_simp; (try with_reducible rfl))
             try simp only [Act.put, List.setIfInBounds_toArray, List.set_cons_zero, List.set_cons_succ])
          | (refine wpAnyH_ready (rs := [2]) (by kernel_rfl) (by simp) (AllReadyH.cons (by simp only [List.getElem?_toArray, List.getElem?_cons_succ, List.getElem?_cons_zero]; rfl) (fun K hK => ?_) AllReadyH.nil)
             go_simp
             first
               | (fail)
             try go_wp2_with fail
             refine hK.out _ _ (by (first | (with_reducible exact KS.out _ (bdrew1 (Below.refl _ _))) | (with_reducible exact KS.out _ (below_call hHeld.1 hHeld.1.size hb9)) | (with_reducible exact hHeld))) (fun hHeld => ?_)
             clear hK K
             try simp only [Act.put, List.setIfInBounds_toArray, List.set_cons_zero, List.set_cons_succ])
        first
          | (refine wpAnyH_take (i := 3) (v := undef) (by simp only [List.getElem?_toArray, List.getElem?_cons_succ, List.getElem?_cons_zero]; rfl) (by kernel_rfl) (by kernel_rfl) (by kernel_rfl) (fun _ _ _ h => h) (Or.inr ⟨by rfl, rfl⟩) (by assumption) ?_; try simp only [Act.put, List.setIfInBounds_toArray, List.set_cons_zero, List.set_cons_succ])
          | (refine wpAnyH_take (i := 3) (v := ?_) (by simp only [List.getElem?_toArray, List.getElem?_cons_succ, List.getElem?_cons_zero]; rfl) (by kernel_rfl) (by kernel_rfl) (by kernel_rfl) (fun _ _ _ h => h) (Or.inl ⟨by rfl, ?_⟩) (by assumption) ?_
             rotate_left
             · (intro ww hSw; (try dsimp only at hSw); go_simp; (try with_reducible rfl))
             try simp only [Act.put, List.setIfInBounds_toArray, List.set_cons_zero, List.set_cons_succ])
          | (refine wpAnyH_ready (rs := [3]) (by kernel_rfl) (by simp) (AllReadyH.cons (by simp only [List.getElem?_toArray, List.getElem?_cons_succ, List.getElem?_cons_zero]; rfl) (fun K hK => ?_) AllReadyH.nil)
             go_simp
             first
               | (fail)
             try go_wp2_with fail
             refine hK.out _ _ (by (first | (with_reducible exact KS.out _ (bdrew1 (Below.refl _ _))) | (with_reducible exact KS.out _ (below_call hHeld.1 hHeld.1.size hb9)) | (with_reducible exact hHeld))) (fun hHeld => ?_)
             clear hK K
             try simp only [Act.put, List.setIfInBounds_toArray, List.set_cons_zero, List.set_cons_succ])
        first
          | (refine wpAnyH_take (i := 4) (v := undef) (by simp only [List.getElem?_toArray, List.getElem?_cons_succ, List.getElem?_cons_zero]; rfl) (by kernel_rfl) (by kernel_rfl) (by kernel_rfl) (fun _ _ _ h => h) (Or.inr ⟨by rfl, rfl⟩) (by assumption) ?_; try simp only [Act.put, List.setIfInBounds_toArray, List.set_cons_zero, List.set_cons_succ])
          | (refine wpAnyH_take (i := 4) (v := ?_) (by simp only [List.getElem?_toArray, List.getElem?_cons_succ, List.getElem?_cons_zero]; rfl) (by kernel_rfl) (by kernel_rfl) (by kernel_rfl) (fun _ _ _ h => h) (Or.inl ⟨by rfl, ?_⟩) (by assumption) ?_
             rotate_left
             · (intro ww hSw; (try dsimp only at hSw); go_simp; (try with_reducible rfl))
             try simp only [Act.put, List.setIfInBounds_toArray, List.set_cons_zero, List.set_cons_succ])
          | (refine wpAnyH_ready (rs := [4]) (by kernel_rfl) (by simp) (AllReadyH.cons (by simp only [List.getElem?_toArray, List.getElem?_cons_succ, List.getElem?_cons_zero]; rfl) (fun K hK => ?_) AllReadyH.nil)
             go_simp
             first
               | (fail)
             try go_wp2_with fail
             refine hK.out _ _ (by (first | (with_reducible exact KS.out _ (bdrew1 (Below.refl _ _))) | (with_reducible exact KS.out _ (below_call hHeld.1 hHeld.1.size hb9)) | (with_reducible exact hHeld))) (fun hHeld => ?_)
             clear hK K
             try simp only [Act.put, List.setIfInBounds_toArray, List.set_cons_zero, List.set_cons_succ])
        first
          | (refine wpAnyH_take (i := 5) (v := undef) (by simp only [List.getElem?_toArray, List.getElem?_cons_succ, List.getElem?_cons_zero]; rfl) (by kernel_rfl) (by kernel_rfl) (by kernel_rfl) (fun _ _ _ h => h) (Or.inr ⟨by rfl, rfl⟩) (by assumption) ?_; try simp only [Act.put, List.setIfInBounds_toArray, List.set_cons_zero, List.set_cons_succ])
          | (refine wpAnyH_take (i := 5) (v := ?_) (by simp only [List.getElem?_toArray, List.getElem?_cons_succ, List.getElem?_cons_zero]; rfl) (by kernel_rfl) (by kernel_rfl) (by kernel_rfl) (fun _ _ _ h => h) (Or.inl ⟨by rfl, ?_⟩) (by assumption) ?_
             rotate_left
             · (intro ww hSw; (try dsimp only at hSw); go_simp; (try with_reducible rfl))
             try simp only [Act.put, List.setIfInBounds_toArray, List.set_cons_zero, List.set_cons_succ])
          | (refine wpAnyH_ready (rs := [5]) (by kernel_rfl) (by simp) (AllReadyH.cons (by simp only [List.getElem?_toArray, List.getElem?_cons_succ, List.getElem?_cons_zero]; rfl) (fun K hK => ?_) AllReadyH.nil)
             go_simp
             first
               | (fail)
             try go_wp2_with fail
             refine hK.out _ _ (by (first | (with_reducible exact KS.out _ (bdrew1 (Below.refl _ _))) | (with_reducible exact KS.out _ (below_call hHeld.1 hHeld.1.size hb9)) | (with_reducible exact hHeld))) (fun hHeld => ?_)
             clear hK K
             try simp only [Act.put, List.setIfInBounds_toArray, List.set_cons_zero, List.set_cons_succ])
        first
          | (refine wpAnyH_take (i := 6) (v := undef) (by simp only [List.getElem?_toArray, List.getElem?_cons_succ, List.getElem?_cons_zero]; rfl) (by kernel_rfl) (by kernel_rfl) (by kernel_rfl) (fun _ _ _ h => h) (Or.inr ⟨by rfl, rfl⟩) (by assumption) ?_; try simp only [Act.put, List.setIfInBounds_toArray, List.set_cons_zero, List.set_cons_succ])
          | (refine wpAnyH_take (i := 6) (v := ?_) (by simp only [List.getElem?_toArray, List.getElem?_cons_succ, List.getElem?_cons_zero]; rfl) (by kernel_rfl) (by kernel_rfl) (by kernel_rfl) (fun _ _ _ h => h) (Or.inl ⟨by rfl, ?_⟩) (by assumption) ?_
             rotate_left
             · (intro ww hSw; (try dsimp only at hSw); go_simp; (try with_reducible rfl))
             try simp only [Act.put, List.setIfInBounds_toArray, List.set_cons_zero, List.set_cons_succ])
          | (refine wpAnyH_ready (rs := [6]) (by kernel_rfl) (by simp) (AllReadyH.cons (by simp only [List.getElem?_toArray, List.getElem?_cons_succ, List.getElem?_cons_zero]; rfl) (fun K hK => ?_) AllReadyH.nil)
             go_simp
             first
               | (fail)
             try go_wp2_with fail
             refine hK.out _ _ (by (first | (with_reducible exact KS.out _ (bdrew1 (Below.refl _ _))) | (with_reducible exact KS.out _ (below_call hHeld.1 hHeld.1.size hb9)) | (with_reducible exact hHeld))) (fun hHeld => ?_)
             clear hK K
             try simp only [Act.put, List.setIfInBounds_toArray, List.set_cons_zero, List.set_cons_succ])
        first
          | (refine wpAnyH_take (i := 7) (v := undef) (by simp only [List.getElem?_toArray, List.getElem?_cons_succ, List.getElem?_cons_zero]; rfl) (by kernel_rfl) (by kernel_rfl) (by kernel_rfl) (fun _ _ _ h => h) (Or.inr ⟨by rfl, rfl⟩) (by assumption) ?_; try simp only [Act.put, List.setIfInBounds_toArray, List.set_cons_zero, List.set_cons_succ])
          | (refine wpAnyH_take (i := 7) (v := ?_) (by simp only [List.getElem?_toArray, List.getElem?_cons_succ, List.getElem?_cons_zero]; rfl) (by kernel_rfl) (by kernel_rfl) (by kernel_rfl) (fun _ _ _ h => h) (Or.inl ⟨by rfl, ?_⟩) (by assumption) ?_
             rotate_left
             · (intro ww hSw; (try dsimp only at hSw); go_simp; (try with_reducible rfl))
             try simp only [Act.put, List.setIfInBounds_toArray, List.set_cons_zero, List.set_cons_succ])
          | (refine wpAnyH_ready (rs := [7]) (by kernel_rfl) (by simp) (AllReadyH.cons (by simp only [List.getElem?_toArray, List.getElem?_cons_succ, List.getElem?_cons_zero]; rfl) (fun K hK => ?_) AllReadyH.nil)
             go_simp
             first
               | (fail)
             try go_wp2_with fail
             refine hK.out _ _ (by (first | (with_reducible exact KS.out _ (bdrew1 (Below.refl _ _))) | (with_reducible exact KS.out _ (below_call hHeld.1 hHeld.1.size hb9)) | (with_reducible exact hHeld))) (fun hHeld => ?_)
             clear hK K
             try simp only [Act.put, List.setIfInBounds_toArray, List.set_cons_zero, List.set_cons_succ])
        first
          | (refine wpAnyH_take (i := 8) (v := undef) (by simp only [List.getElem?_toArray, List.getElem?_cons_succ, List.getElem?_cons_zero]; rfl) (by kernel_rfl) (by kernel_rfl) (by kernel_rfl) (fun _ _ _ h => h) (Or.inr ⟨by rfl, rfl⟩) (by assumption) ?_; try simp only [Act.put, List.setIfInBounds_toArray, List.set_cons_zero, List.set_cons_succ])
          | (refine wpAnyH_take (i := 8) (v := ?_) (by simp only [List.getElem?_toArray, List.getElem?_cons_succ, List.getElem?_cons_zero]; rfl) (by kernel_rfl) (by kernel_rfl) (by kernel_rfl) (fun _ _ _ h => h) (Or.inl ⟨by rfl, ?_⟩) (by assumption) ?_
             rotate_left
             · (intro ww hSw; (try dsimp only at hSw); go_simp; (try with_reducible rfl))
             try simp only [Act.put, List.setIfInBounds_toArray, List.set_cons_zero, List.set_cons_succ])
          | (refine wpAnyH_ready (rs := [8]) (by kernel_rfl) (by simp) (AllReadyH.cons (by simp only [List.getElem?_toArray, List.getElem?_cons_succ, List.getElem?_cons_zero]; rfl) (fun K hK => ?_) AllReadyH.nil)
             go_simp
             first
               | (fail)
             try go_wp2_with fail
             refine hK.out _ _ (by (first | (with_reducible exact KS.out _ (bdrew1 (Below.refl _ _))) | (with_reducible exact KS.out _ (below_call hHeld.1 hHeld.1.size hb9)) | (with_reducible exact hHeld))) (fun hHeld => ?_)
             clear hK K
             try simp only [Act.put, List.setIfInBounds_toArray, List.set_cons_zero, List.set_cons_succ])
        first
          | (refine wpAnyH_take (i := 9) (v := undef) (by simp only [List.getElem?_toArray, List.getElem?_cons_succ, List.getElem?_cons_zero]; rfl) (by kernel_rfl) (by kernel_rfl) (by kernel_rfl) (fun _ _ _ h => h) (Or.inr ⟨by rfl, rfl⟩) (by assumption) ?_; try simp only [Act.put, List.setIfInBounds_toArray, List.set_cons_zero, List.set_cons_succ])
          | (refine wpAnyH_take (i := 9) (v := ?_) (by simp only [List.getElem?_toArray, List.getElem?_cons_succ, List.getElem?_cons_zero]; rfl) (by kernel_rfl) (by kernel_rfl) (by kernel_rfl) (fun _ _ _ h => h) (Or.inl ⟨by rfl, ?_⟩) (by assumption) ?_
             rotate_left
             · (intro ww hSw; (try dsimp only at hSw); go_simp; (try with_reducible rfl))
             try simp only [Act.put, List.setIfInBounds_toArray, List.set_cons_zero, List.set_cons_succ])
          | (refine wpAnyH_ready (rs := [9]) (by kernel_rfl) (by simp) (AllReadyH.cons (by simp only [List.getElem?_toArray, List.getElem?_cons_succ, List.getElem?_cons_zero]; rfl) (fun K hK => ?_) AllReadyH.nil)
             go_simp
             first
               | (fail)
             try go_wp2_with fail
             refine hK.out _ _ (by (first | (with_reducible exact KS.out _ (bdrew1 (Below.refl _ _))) | (with_reducible exact KS.out _ (below_call hHeld.1 hHeld.1.size hb9)) | (with_reducible exact hHeld))) (fun hHeld => ?_)
             clear hK K
             try simp only [Act.put, List.setIfInBounds_toArray, List.set_cons_zero, List.set_cons_succ])
        first
          | (refine wpAnyH_take (i := 10) (v := undef) (by simp only [List.getElem?_toArray, List.getElem?_cons_succ, List.getElem?_cons_zero]; rfl) (by kernel_rfl) (by kernel_rfl) (by kernel_rfl) (fun _ _ _ h => h) (Or.inr ⟨by rfl, rfl⟩) (by assumption) ?_; try simp only [Act.put, List.setIfInBounds_toArray, List.set_cons_zero, List.set_cons_succ])
          | (refine wpAnyH_take (i := 10) (v := ?_) (by simp only [List.getElem?_toArray, List.getElem?_cons_succ, List.getElem?_cons_zero]; rfl) (by kernel_rfl) (by kernel_rfl) (by kernel_rfl) (fun _ _ _ h => h) (Or.inl ⟨by rfl, ?_⟩) (by assumption) ?_
             rotate_left
             · (intro ww hSw; (try dsimp only at hSw); go_simp; (try with_reducible rfl))
             try simp only [Act.put, List.setIfInBounds_toArray, List.set_cons_zero, List.set_cons_succ])
          | (refine wpAnyH_ready (rs := [10]) (by kernel_rfl) (by simp) (AllReadyH.cons (by simp only [List.getElem?_toArray, List.getElem?_cons_succ, List.getElem?_cons_zero]; rfl) (fun K hK => ?_) AllReadyH.nil)
             go_simp
             first
               | (fail)
             try go_wp2_with fail
             refine hK.out _ _ (by (first | (with_reducible exact KS.out _ (bdrew1 (Below.refl _ _))) | (with_reducible exact KS.out _ (below_call hHeld.1 hHeld.1.size hb9)) | (with_reducible exact hHeld))) (fun hHeld => ?_)
             clear hK K
             try simp only [Act.put, List.setIfInBounds_toArray, List.set_cons_zero, List.set_cons_succ])
        first
          | (refine wpAnyH_take (i := 11) (v := undef) (by simp only [List.getElem?_toArray, List.getElem?_cons_succ, List.getElem?_cons_zero]; rfl) (by kernel_rfl) (by kernel_rfl) (by kernel_rfl) (fun _ _ _ h => h) (Or.inr ⟨by rfl, rfl⟩) (by assumption) ?_; try simp only [Act.put, List.setIfInBounds_toArray, List.set_cons_zero, List.set_cons_succ])
          | (refine wpAnyH_take (i := 11) (v := ?_) (by simp only [List.getElem?_toArray, List.getElem?_cons_succ, List.getElem?_cons_zero]; rfl) (by kernel_rfl) (by kernel_rfl) (by kernel_rfl) (fun _ _ _ h => h) (Or.inl ⟨by rfl, ?_⟩) (by assumption) ?_
             rotate_left
             · (intro ww hSw; (try dsimp only at hSw); go_simp; (try with_reducible rfl))
             try simp only [Act.put, List.setIfInBounds_toArray, List.set_cons_zero, List.set_cons_succ])
          | (refine wpAnyH_ready (rs := [11]) (by kernel_rfl) (by simp) (AllReadyH.cons (by simp only [List.getElem?_toArray, List.getElem?_cons_succ, List.getElem?_cons_zero]; rfl) (fun K hK => ?_) AllReadyH.nil)
             go_simp
             first
               | (fail)
             try go_wp2_with fail
             refine hK.out _ _ (by (first | (with_reducible exact KS.out _ (bdrew1 (Below.refl _ _))) | (with_reducible exact KS.out _ (below_call hHeld.1 hHeld.1.size hb9)) | (with_reducible exact hHeld))) (fun hHeld => ?_)
             clear hK K
             try simp only [Act.put, List.setIfInBounds_toArray, List.set_cons_zero, List.set_cons_succ])
        first
          | (refine wpAnyH_take (i := 12) (v := undef) (by simp only [List.getElem?_toArray, List.getElem?_cons_succ, List.getElem?_cons_zero]; rfl) (by kernel_rfl) (by kernel_rfl) (by kernel_rfl) (fun _ _ _ h => h) (Or.inr ⟨by rfl, rfl⟩) (by assumption) ?_; try simp only [Act.put, List.setIfInBounds_toArray, List.set_cons_zero, List.set_cons_succ])
          | (refine wpAnyH_take (i := 12) (v := ?_) (by simp only [List.getElem?_toArray, List.getElem?_cons_succ, List.getElem?_cons_zero]; rfl) (by kernel_rfl) (by kernel_rfl) (by kernel_rfl) (fun _ _ _ h => h) (Or.inl ⟨by rfl, ?_⟩) (by assumption) ?_
             rotate_left
             · (intro ww hSw; (try dsimp only at hSw); go_simp; (try with_reducible rfl))
             try simp only [Act.put, List.setIfInBounds_toArray, List.set_cons_zero, List.set_cons_succ])
          | (refine wpAnyH_ready (rs := [12]) (by kernel_rfl) (by simp) (AllReadyH.cons (by simp only [List.getElem?_toArray, List.getElem?_cons_succ, List.getElem?_cons_zero]; rfl) (fun K hK => ?_) AllReadyH.nil)
             go_simp
             first
               | (fail)
             try go_wp2_with fail
             refine hK.out _ _ (by (first | (with_reducible exact KS.out _ (bdrew1 (Below.refl _ _))) | (with_reducible exact KS.out _ (below_call hHeld.1 hHeld.1.size hb9)) | (with_reducible exact hHeld))) (fun hHeld => ?_)
             clear hK K
             try simp only [Act.put, List.setIfInBounds_toArray, List.set_cons_zero, List.set_cons_succ])
        first
          | (refine wpAnyH_take (i := 13) (v := undef) (by simp only [List.getElem?_toArray, List.getElem?_cons_succ, List.getElem?_cons_zero]; rfl) (by kernel_rfl) (by kernel_rfl) (by kernel_rfl) (fun _ _ _ h => h) (Or.inr ⟨by rfl, rfl⟩) (by assumption) ?_; try simp only [Act.put, List.setIfInBounds_toArray, List.set_cons_zero, List.set_cons_succ])
          | (refine wpAnyH_take (i := 13) (v := ?_) (by simp only [List.getElem?_toArray, List.getElem?_cons_succ, List.getElem?_cons_zero]; rfl) (by kernel_rfl) (by kernel_rfl) (by kernel_rfl) (fun _ _ _ h => h) (Or.inl ⟨by rfl, ?_⟩) (by assumption) ?_
             rotate_left
             · (intro ww hSw; (try dsimp only at hSw); go_simp; (try with_reducible rfl))
             try simp only [Act.put, List.setIfInBounds_toArray, List.set_cons_zero, List.set_cons_succ])
          | (refine wpAnyH_ready (rs := [13]) (by kernel_rfl) (by simp) (AllReadyH.cons (by simp only [List.getElem?_toArray, List.getElem?_cons_succ, List.getElem?_cons_zero]; rfl) (fun K hK => ?_) AllReadyH.nil)
             go_simp
             first
               | (fail)
             try go_wp2_with fail
             refine hK.out _ _ (by (first | (with_reducible exact KS.out _ (bdrew1 (Below.refl _ _))) | (with_reducible exact KS.out _ (below_call hHeld.1 hHeld.1.size hb9)) | (with_reducible exact hHeld))) (fun hHeld => ?_)
             clear hK K
             try simp only [Act.put, List.setIfInBounds_toArray, List.set_cons_zero, List.set_cons_succ])
        first
          | (refine wpAnyH_take (i := 14) (v := undef) (by simp only [List.getElem?_toArray, List.getElem?_cons_succ, List.getElem?_cons_zero]; rfl) (by kernel_rfl) (by kernel_rfl) (by kernel_rfl) (fun _ _ _ h => h) (Or.inr ⟨by rfl, rfl⟩) (by assumption) ?_; try simp only [Act.put, List.setIfInBounds_toArray, List.set_cons_zero, List.set_cons_succ])
          | (refine wpAnyH_take (i := 14) (v := ?_) (by simp only [List.getElem?_toArray, List.getElem?_cons_succ, List.getElem?_cons_zero]; rfl) (by kernel_rfl) (by kernel_rfl) (by kernel_rfl) (fun _ _ _ h => h) (Or.inl ⟨by rfl, ?_⟩) (by assumption) ?_
             rotate_left
             · (intro ww hSw; (try dsimp only at hSw); go_simp; (try with_reducible rfl))
             try simp only [Act.put, List.setIfInBounds_toArray, List.set_cons_zero, List.set_cons_succ])
          | (refine wpAnyH_ready (rs := [14]) (by kernel_rfl) (by simp) (AllReadyH.cons (by simp only [List.getElem?_toArray, List.getElem?_cons_succ, List.getElem?_cons_zero]; rfl) (fun K hK => ?_) AllReadyH.nil)
             go_simp
             first
               | (fail)
             try go_wp2_with fail
             refine hK.out _ _ (by (first | (with_reducible exact KS.out _ (bdrew1 (Below.refl _ _))) | (with_reducible exact KS.out _ (below_call hHeld.1 hHeld.1.size hb9)) | (with_reducible exact hHeld))) (fun hHeld => ?_)
             clear hK K
             try simp only [Act.put, List.setIfInBounds_toArray, List.set_cons_zero, List.set_cons_succ])
        first
          | (refine wpAnyH_take (i := 15) (v := undef) (by simp only [List.getElem?_toArray, List.getElem?_cons_succ, List.getElem?_cons_zero]; rfl) (by kernel_rfl) (by kernel_rfl) (by kernel_rfl) (fun _ _ _ h => h) (Or.inr ⟨by rfl, rfl⟩) (by assumption) ?_; try simp only [Act.put, List.setIfInBounds_toArray, List.set_cons_zero, List.set_cons_succ])
          | (refine wpAnyH_take (i := 15) (v := ?_) (by simp only [List.getElem?_toArray, List.getElem?_cons_succ, List.getElem?_cons_zero]; rfl) (by kernel_rfl) (by kernel_rfl) (by kernel_rfl) (fun _ _ _ h => h) (Or.inl ⟨by rfl, ?_⟩) (by assumption) ?_
             rotate_left
             · (intro ww hSw; (try dsimp only at hSw); go_simp; (try with_reducible rfl))
             try simp only [Act.put, List.setIfInBounds_toArray, List.set_cons_zero, List.set_cons_succ])
          | (refine wpAnyH_ready (rs := [15]) (by kernel_rfl) (by simp) (AllReadyH.cons (by simp only [List.getElem?_toArray, List.getElem?_cons_succ, List.getElem?_cons_zero]; rfl) (fun K hK => ?_) AllReadyH.nil)
             go_simp
             first
               | (fail)
             try go_wp2_with fail
             refine hK.out _ _ (by (first | (with_reducible exact KS.out _ (bdrew1 (Below.refl _ _))) | (with_reducible exact KS.out _ (below_call hHeld.1 hHeld.1.size hb9)) | (with_reducible exact hHeld))) (fun hHeld => ?_)
             clear hK K
             try simp only [Act.put, List.setIfInBounds_toArray, List.set_cons_zero, List.set_cons_succ])
        first
          | (refine wpAnyH_take (i := 16) (v := undef) (by simp only [List.getElem?_toArray, List.getElem?_cons_succ, List.getElem?_cons_zero]; rfl) (by kernel_rfl) (by kernel_rfl) (by kernel_rfl) (fun _ _ _ h => h) (Or.inr ⟨by rfl, rfl⟩) (by assumption) ?_; try simp only [Act.put, List.setIfInBounds_toArray, List.set_cons_zero, List.set_cons_succ])
          | (refine wpAnyH_take (i := 16) (v := ?_) (by simp only [List.getElem?_toArray, List.getElem?_cons_succ, List.getElem?_cons_zero]; rfl) (by kernel_rfl) (by kernel_rfl) (by kernel_rfl) (fun _ _ _ h => h) (Or.inl ⟨by rfl, ?_⟩) (by assumption) ?_
             rotate_left
             · (intro ww hSw; (try dsimp only at hSw); go_simp; (try with_reducible rfl))
             try simp only [Act.put, List.setIfInBounds_toArray, List.set_cons_zero, List.set_cons_succ])
          | (refine wpAnyH_ready (rs := [16]) (by kernel_rfl) (by simp) (AllReadyH.cons (by simp only [List.getElem?_toArray, List.getElem?_cons_succ, List.getElem?_cons_zero]; rfl) (fun K hK => ?_) AllReadyH.nil)
             go_simp
             first
               | (fail)
             try go_wp2_with fail
             refine hK.out _ _ (by (first | (with_reducible exact KS.out _ (bdrew1 (Below.refl _ _))) | (with_reducible exact KS.out _ (below_call hHeld.1 hHeld.1.size hb9)) | (with_reducible exact hHeld))) (fun hHeld => ?_)
             clear hK K
             try simp only [Act.put, List.setIfInBounds_toArray, List.set_cons_zero, List.set_cons_succ])
        first
          | (refine wpAnyH_take (i := 17) (v := undef) (by simp only [List.getElem?_toArray, List.getElem?_cons_succ, List.getElem?_cons_zero]; rfl) (by kernel_rfl) (by kernel_rfl) (by kernel_rfl) (fun _ _ _ h => h) (Or.inr ⟨by rfl, rfl⟩) (by assumption) ?_; try simp only [Act.put, List.setIfInBounds_toArray, List.set_cons_zero, List.set_cons_succ])
          | (refine wpAnyH_take (i := 17) (v := ?_) (by simp only [List.getElem?_toArray, List.getElem?_cons_succ, List.getElem?_cons_zero]; rfl) (by kernel_rfl) (by kernel_rfl) (by kernel_rfl) (fun _ _ _ h => h) (Or.inl ⟨by rfl, ?_⟩) (by assumption) ?_
             rotate_left
             · (intro ww hSw; (try dsimp only at hSw); go_simp; (try with_reducible rfl))
             try simp only [Act.put, List.setIfInBounds_toArray, List.set_cons_zero, List.set_cons_succ])
          | (refine wpAnyH_ready (rs := [17]) (by kernel_rfl) (by simp) (AllReadyH.cons (by simp only [List.getElem?_toArray, List.getElem?_cons_succ, List.getElem?_cons_zero]; rfl) (fun K hK => ?_) AllReadyH.nil)
             go_simp
             first
               | (fail)
             try go_wp2_with fail
             refine hK.out _ _ (by (first | (with_reducible exact KS.out _ (bdrew1 (Below.refl _ _))) | (with_reducible exact KS.out _ (below_call hHeld.1 hHeld.1.size hb9)) | (with_reducible exact hHeld))) (fun hHeld => ?_)
             clear hK K
             try simp only [Act.put, List.setIfInBounds_toArray, List.set_cons_zero, List.set_cons_succ])
        first
          | (refine wpAnyH_take (i := 18) (v := undef) (by simp only [List.getElem?_toArray, List.getElem?_cons_succ, List.getElem?_cons_zero]; rfl) (by kernel_rfl) (by kernel_rfl) (by kernel_rfl) (fun _ _ _ h => h) (Or.inr ⟨by rfl, rfl⟩) (by assumption) ?_; try simp only [Act.put, List.setIfInBounds_toArray, List.set_cons_zero, List.set_cons_succ])
          | (refine wpAnyH_take (i := 18) (v := ?_) (by simp only [List.getElem?_toArray, List.getElem?_cons_succ, List.getElem?_cons_zero]; rfl) (by kernel_rfl) (by kernel_rfl) (by kernel_rfl) (fun _ _ _ h => h) (Or.inl ⟨by rfl, ?_⟩) (by assumption) ?_
             rotate_left
             · (intro ww hSw; (try dsimp only at hSw); go_simp; (try with_reducible rfl))
             try simp only [Act.put, List.setIfInBounds_toArray, List.set_cons_zero, List.set_cons_succ])
          | (refine wpAnyH_ready (rs := [18]) (by kernel_rfl) (by simp) (AllReadyH.cons (by simp only [List.getElem?_toArray, List.getElem?_cons_succ, List.getElem?_cons_zero]; rfl) (fun K hK => ?_) AllReadyH.nil)
             go_simp
             first
               | (fail)
             try go_wp2_with fail
             refine hK.out _ _ (by (first | (with_reducible exact KS.out _ (bdrew1 (Below.refl _ _))) | (with_reducible exact KS.out _ (below_call hHeld.1 hHeld.1.size hb9)) | (with_reducible exact hHeld))) (fun hHeld => ?_)
             clear hK K
             try simp only [Act.put, List.setIfInBounds_toArray, List.set_cons_zero, List.set_cons_succ])
        first
          | (refine wpAnyH_take (i := 19) (v := undef) (by simp only [List.getElem?_toArray, List.getElem?_cons_succ, List.getElem?_cons_zero]; rfl) (by kernel_rfl) (by kernel_rfl) (by kernel_rfl) (fun _ _ _ h => h) (Or.inr ⟨by rfl, rfl⟩) (by assumption) ?_; try simp only [Act.put, List.setIfInBounds_toArray, List.set_cons_zero, List.set_cons_succ])
          | (refine wpAnyH_take (i := 19) (v := ?_) (by simp only [List.getElem?_toArray, List.getElem?_cons_succ, List.getElem?_cons_zero]; rfl) (by kernel_rfl) (by kernel_rfl) (by kernel_rfl) (fun _ _ _ h => h) (Or.inl ⟨by rfl, ?_⟩) (by assumption) ?_
             rotate_left
             · (intro ww hSw; (try dsimp only at hSw); go_simp; (try with_reducible rfl))
             try simp only [Act.put, List.setIfInBounds_toArray, List.set_cons_zero, List.set_cons_succ])
          | (refine wpAnyH_ready (rs := [19]) (by kernel_rfl) (by simp) (AllReadyH.cons (by simp only [List.getElem?_toArray, List.getElem?_cons_succ, List.getElem?_cons_zero]; rfl) (fun K hK => ?_) AllReadyH.nil)
             go_simp
             first
               | (fail)
             try go_wp2_with fail
             refine hK.out _ _ (by (first | (with_reducible exact KS.out _ (bdrew1 (Below.refl _ _))) | (with_reducible exact KS.out _ (below_call hHeld.1 hHeld.1.size hb9)) | (with_reducible exact hHeld))) (fun hHeld => ?_)
             clear hK K
             try simp only [Act.put, List.setIfInBounds_toArray, List.set_cons_zero, List.set_cons_succ])
        first
          | (refine wpAnyH_take (i := 20) (v := undef) (by simp only [List.getElem?_toArray, List.getElem?_cons_succ, List.getElem?_cons_zero]; rfl) (by kernel_rfl) (by kernel_rfl) (by kernel_rfl) (fun _ _ _ h => h) (Or.inr ⟨by rfl, rfl⟩) (by assumption) ?_; try simp only [Act.put, List.setIfInBounds_toArray, List.set_cons_zero, List.set_cons_succ])
          | (refine wpAnyH_take (i := 20) (v := ?_) (by simp only [List.getElem?_toArray, List.getElem?_cons_succ, List.getElem?_cons_zero]; rfl) (by kernel_rfl) (by kernel_rfl) (by kernel_rfl) (fun _ _ _ h => h) (Or.inl ⟨by rfl, ?_⟩) (by assumption) ?_
             rotate_left
             · (intro ww hSw; (try dsimp only at hSw); go_simp; (try with_reducible rfl))
             try simp only [Act.put, List.setIfInBounds_toArray, List.set_cons_zero, List.set_cons_succ])
          | (refine wpAnyH_ready (rs := [20]) (by kernel_rfl) (by simp) (AllReadyH.cons (by simp only [List.getElem?_toArray, List.getElem?_cons_succ, List.getElem?_cons_zero]; rfl) (fun K hK => ?_) AllReadyH.nil)
             go_simp
             first
               | (fail)
             try go_wp2_with fail
             refine hK.out _ _ (by (first | (with_reducible exact KS.out _ (bdrew1 (Below.refl _ _))) | (with_reducible exact KS.out _ (below_call hHeld.1 hHeld.1.size hb9)) | (with_reducible exact hHeld))) (fun hHeld => ?_)
             clear hK K
             try simp only [Act.put, List.setIfInBounds_toArray, List.set_cons_zero, List.set_cons_succ])
        first
          | (refine wpAnyH_take (i := 21) (v := undef) (by simp only [List.getElem?_toArray, List.getElem?_cons_succ, List.getElem?_cons_zero]; rfl) (by kernel_rfl) (by kernel_rfl) (by kernel_rfl) (fun _ _ _ h => h) (Or.inr ⟨by rfl, rfl⟩) (by assumption) ?_; try simp only [Act.put, List.setIfInBounds_toArray, List.set_cons_zero, List.set_cons_succ])
          | (refine wpAnyH_take (i := 21) (v := ?_) (by simp only [List.getElem?_toArray, List.getElem?_cons_succ, List.getElem?_cons_zero]; rfl) (by kernel_rfl) (by kernel_rfl) (by kernel_rfl) (fun _ _ _ h => h) (Or.inl ⟨by rfl, ?_⟩) (by assumption) ?_
             rotate_left
             · (intro ww hSw; (try dsimp only at hSw); go_simp; (try with_reducible rfl))
             try simp only [Act.put, List.setIfInBounds_toArray, List.set_cons_zero, List.set_cons_succ])
          | (refine wpAnyH_ready (rs := [21]) (by kernel_rfl) (by simp) (AllReadyH.cons (by simp only [List.getElem?_toArray, List.getElem?_cons_succ, List.getElem?_cons_zero]; rfl) (fun K hK => ?_) AllReadyH.nil)
             go_simp
             first
               | (fail)
             try go_wp2_with fail
             refine hK.out _ _ (by (first | (with_reducible exact KS.out _ (bdrew1 (Below.refl _ _))) | (with_reducible exact KS.out _ (below_call hHeld.1 hHeld.1.size hb9)) | (with_reducible exact hHeld))) (fun hHeld => ?_)
             clear hK K
             try simp only [Act.put, List.setIfInBounds_toArray, List.set_cons_zero, List.set_cons_succ])
        first
          | (refine wpAnyH_take (i := 22) (v := undef) (by simp only [List.getElem?_toArray, List.getElem?_cons_succ, List.getElem?_cons_zero]; rfl) (by kernel_rfl) (by kernel_rfl) (by kernel_rfl) (fun _ _ _ h => h) (Or.inr ⟨by rfl, rfl⟩) (by assumption) ?_; try simp only [Act.put, List.setIfInBounds_toArray, List.set_cons_zero, List.set_cons_succ])
          | (refine wpAnyH_take (i := 22) (v := ?_) (by simp only [List.getElem?_toArray, List.getElem?_cons_succ, List.getElem?_cons_zero]; rfl) (by kernel_rfl) (by kernel_rfl) (by kernel_rfl) (fun _ _ _ h => h) (Or.inl ⟨by rfl, ?_⟩) (by assumption) ?_
             rotate_left
             · (intro ww hSw; (try dsimp only at hSw); go_simp; (try with_reducible rfl))
             try simp only [Act.put, List.setIfInBounds_toArray, List.set_cons_zero, List.set_cons_succ])
          | (refine wpAnyH_ready (rs := [22]) (by kernel_rfl) (by simp) (AllReadyH.cons (by simp only [List.getElem?_toArray, List.getElem?_cons_succ, List.getElem?_cons_zero]; rfl) (fun K hK => ?_) AllReadyH.nil)
             go_simp
             first
               | (fail)
             try go_wp2_with fail
             refine hK.out _ _ (by (first | (with_reducible exact KS.out _ (bdrew1 (Below.refl _ _))) | (with_reducible exact KS.out _ (below_call hHeld.1 hHeld.1.size hb9)) | (with_reducible exact hHeld))) (fun hHeld => ?_)
             clear hK K
             try simp only [Act.put, List.setIfInBounds_toArray, List.set_cons_zero, List.set_cons_succ])
        first
          | (refine wpAnyH_take (i := 23) (v := undef) (by simp only [List.getElem?_toArray, List.getElem?_cons_succ, List.getElem?_cons_zero]; rfl) (by kernel_rfl) (by kernel_rfl) (by kernel_rfl) (fun _ _ _ h => h) (Or.inr ⟨by rfl, rfl⟩) (by assumption) ?_; try simp only [Act.put, List.setIfInBounds_toArray, List.set_cons_zero, List.set_cons_succ])
          | (refine wpAnyH_take (i := 23) (v := ?_) (by simp only [List.getElem?_toArray, List.getElem?_cons_succ, List.getElem?_cons_zero]; rfl) (by kernel_rfl) (by kernel_rfl) (by kernel_rfl) (fun _ _ _ h => h) (Or.inl ⟨by rfl, ?_⟩) (by assumption) ?_
             rotate_left
             · (intro ww hSw; (try dsimp only at hSw); go_simp; (try with_reducible rfl))
             try simp only [Act.put, List.setIfInBounds_toArray, List.set_cons_zero, List.set_cons_succ])
          | (refine wpAnyH_ready (rs := [23]) (by kernel_rfl) (by simp) (AllReadyH.cons (by simp only [List.getElem?_toArray, List.getElem?_cons_succ, List.getElem?_cons_zero]; rfl) (fun K hK => ?_) AllReadyH.nil)
             go_simp
             first
               | (fail)
             try go_wp2_with fail
             refine hK.out _ _ (by (first | (with_reducible exact KS.out _ (bdrew1 (Below.refl _ _))) | (with_reducible exact KS.out _ (below_call hHeld.1 hHeld.1.size hb9)) | (with_reducible exact hHeld))) (fun hHeld => ?_)
             clear hK K
             try simp only [Act.put, List.setIfInBounds_toArray, List.set_cons_zero, List.set_cons_succ])
        first
          | (refine wpAnyH_take (i := 24) (v := undef) (by simp only [List.getElem?_toArray, List.getElem?_cons_succ, List.getElem?_cons_zero]; rfl) (by kernel_rfl) (by kernel_rfl) (by kernel_rfl) (fun _ _ _ h => h) (Or.inr ⟨by rfl, rfl⟩) (by assumption) ?_; try simp only [Act.put, List.setIfInBounds_toArray, List.set_cons_zero, List.set_cons_succ])
          | (refine wpAnyH_take (i := 24) (v := ?_) (by simp only [List.getElem?_toArray, List.getElem?_cons_succ, List.getElem?_cons_zero]; rfl) (by kernel_rfl) (by kernel_rfl) (by kernel_rfl) (fun _ _ _ h => h) (Or.inl ⟨by rfl, ?_⟩) (by assumption) ?_
             rotate_left
             · (intro ww hSw; (try dsimp only at hSw); go_simp; (try with_reducible rfl))
             try simp only [Act.put, List.setIfInBounds_toArray, List.set_cons_zero, List.set_cons_succ])
          | (refine wpAnyH_ready (rs := [24]) (by kernel_rfl) (by simp) (AllReadyH.cons (by simp only [List.getElem?_toArray, List.getElem?_cons_succ, List.getElem?_cons_zero]; rfl) (fun K hK => ?_) AllReadyH.nil)
             go_simp
             first
               | (fail)
             try go_wp2_with fail
             refine hK.out _ _ (by (first | (with_reducible exact KS.out _ (bdrew1 (Below.refl _ _))) | (with_reducible exact KS.out _ (below_call hHeld.1 hHeld.1.size hb9)) | (with_reducible exact hHeld))) (fun hHeld => ?_)
             clear hK K
             try simp only [Act.put, List.setIfInBounds_toArray, List.set_cons_zero, List.set_cons_succ])
        first
          | (refine wpAnyH_take (i := 25) (v := undef) (by simp only [List.getElem?_toArray, List.getElem?_cons_succ, List.getElem?_cons_zero]; rfl) (by kernel_rfl) (by kernel_rfl) (by kernel_rfl) (fun _ _ _ h => h) (Or.inr ⟨by rfl, rfl⟩) (by assumption) ?_; try simp only [Act.put, List.setIfInBounds_toArray, List.set_cons_zero, List.set_cons_succ])
          | (refine wpAnyH_take (i := 25) (v := ?_) (by simp only [List.getElem?_toArray, List.getElem?_cons_succ, List.getElem?_cons_zero]; rfl) (by kernel_rfl) (by kernel_rfl) (by kernel_rfl) (fun _ _ _ h => h) (Or.inl ⟨by rfl, ?_⟩) (by assumption) ?_
             rotate_left
             · (intro ww hSw; (try dsimp only at hSw); go_simp; (try with_reducible rfl))
             try simp only [Act.put, List.setIfInBounds_toArray, List.set_cons_zero, List.set_cons_succ])
          | (refine wpAnyH_ready (rs := [25]) (by kernel_rfl) (by simp) (AllReadyH.cons (by simp only [List.getElem?_toArray, List.getElem?_cons_succ, List.getElem?_cons_zero]; rfl) (fun K hK => ?_) AllReadyH.nil)
             go_simp
             first
               | (fail)
             try go_wp2_with fail
             refine hK.out _ _ (by (first | (with_reducible exact KS.out _ (bdrew1 (Below.refl _ _))) | (with_reducible exact KS.out _ (below_call hHeld.1 hHeld.1.size hb9)) | (with_reducible exact hHeld))) (fun hHeld => ?_)
             clear hK K
             try simp only [Act.put, List.setIfInBounds_toArray, List.set_cons_zero, List.set_cons_succ])
        first
          | (refine wpAnyH_take (i := 26) (v := undef) (by simp only [List.getElem?_toArray, List.getElem?_cons_succ, List.getElem?_cons_zero]; rfl) (by kernel_rfl) (by kernel_rfl) (by kernel_rfl) (fun _ _ _ h => h) (Or.inr ⟨by rfl, rfl⟩) (by assumption) ?_; try simp only [Act.put, List.setIfInBounds_toArray, List.set_cons_zero, List.set_cons_succ])
          | (refine wpAnyH_take (i := 26) (v := ?_) (by simp only [List.getElem?_toArray, List.getElem?_cons_succ, List.getElem?_cons_zero]; rfl) (by kernel_rfl) (by kernel_rfl) (by kernel_rfl) (fun _ _ _ h => h) (Or.inl ⟨by rfl, ?_⟩) (by assumption) ?_
             rotate_left
             · (intro ww hSw; (try dsimp only at hSw); go_simp; (try with_reducible rfl))
             try simp only [Act.put, List.setIfInBounds_toArray, List.set_cons_zero, List.set_cons_succ])
          | (refine wpAnyH_ready (rs := [26]) (by kernel_rfl) (by simp) (AllReadyH.cons (by simp only [List.getElem?_toArray, List.getElem?_cons_succ, List.getElem?_cons_zero]; rfl) (fun K hK => ?_) AllReadyH.nil)
             go_simp
             first
               | (fail)
             try go_wp2_with fail
             refine hK.out _ _ (by (first | (with_reducible exact KS.out _ (bdrew1 (Below.refl _ _))) | (with_reducible exact KS.out _ (below_call hHeld.1 hHeld.1.size hb9)) | (with_reducible exact hHeld))) (fun hHeld => ?_)
             clear hK K
             try simp only [Act.put, List.setIfInBounds_toArray, List.set_cons_zero, List.set_cons_succ])
        first
          | (refine wpAnyH_take (i := 27) (v := undef) (by simp only [List.getElem?_toArray, List.getElem?_cons_succ, List.getElem?_cons_zero]; rfl) (by kernel_rfl) (by kernel_rfl) (by kernel_rfl) (fun _ _ _ h => h) (Or.inr ⟨by rfl, rfl⟩) (by assumption) ?_; try simp only [Act.put, List.setIfInBounds_toArray, List.set_cons_zero, List.set_cons_succ])
          | (refine wpAnyH_take (i := 27) (v := ?_) (by simp only [List.getElem?_toArray, List.getElem?_cons_succ, List.getElem?_cons_zero]; rfl) (by kernel_rfl) (by kernel_rfl) (by kernel_rfl) (fun _ _ _ h => h) (Or.inl ⟨by rfl, ?_⟩) (by assumption) ?_
             rotate_left
             · (intro ww hSw; (try dsimp only at hSw); go_simp; (try with_reducible rfl))
             try simp only [Act.put, List.setIfInBounds_toArray, List.set_cons_zero, List.set_cons_succ])
          | (refine wpAnyH_ready (rs := [27]) (by kernel_rfl) (by simp) (AllReadyH.cons (by simp only [List.getElem?_toArray, List.getElem?_cons_succ, List.getElem?_cons_zero]; rfl) (fun K hK => ?_) AllReadyH.nil)
             go_simp
             first
               | (fail)
             try go_wp2_with fail
             refine hK.out _ _ (by (first | (with_reducible exact KS.out _ (bdrew1 (Below.refl _ _))) | (with_reducible exact KS.out _ (below_call hHeld.1 hHeld.1.size hb9)) | (with_reducible exact hHeld))) (fun hHeld => ?_)
             clear hK K
             try simp only [Act.put, List.setIfInBounds_toArray, List.set_cons_zero, List.set_cons_succ])
        refine wpAnyH_done (by kernel_rfl) ?_ _
        refine NoPanic.normal ?_
        have hB9 := Lib.hid hHeld.1
        clear hHeld
        have B_5 := Lib.hid (below_call B_4.out B_4.out.size hB9.out)
        have H_5 := Lib.hid (H_4.out.call hB9.out)
        have A_5 := Lib.hid (A_4.out.call hB9.out)
        have D_5 := Lib.hid (D_4.out.call hB9.out)
        clear hB9 KS B_4 H_4 A_4 D_4
        go_wp2_with fail
        go_roundw
        case rel => exact ⟨m + 1, by omega, by go_num, by rw [HDM.out]; rfl, H_5.out⟩
        case measure => simp [intOf]; omega
      · by_cases hp2 : z = ⟨0, (roomOf x m : Int)⟩
        · have hf5 : (f != 5) = false := by have := (not_congr DE.out).2 hp1; simp at this; simp [this]
          have HDM := Lib.hid (DNO.out hp1)
          generalize dnN z m = dn at *
          subst hp2
          have he : (e != 5) = true := by have := GE.out; simp at this; simp [this]
          have g1 := run_pleq 0 (roomOf x m) 0 (roomOf x m)
          have g2 := run_pleq 0 (roomOf x m) 1 m
          simp only [decide_true] at g1
          rw [show decide ((⟨0, (roomOf x m : Int)⟩ : Pl) = ⟨1, (m : Int)⟩) = false by simp] at g2
          clear hp1
          have hwm : IntKind.i64.wrap ((m : Int) + 1) = (m : Int) + 1 := IntWalk.i64_in _ (by omega)
          clear GE DE DY DNO
          have B_0 := Lib.hid HH.out.1
          have H_0 := Lib.hid HH.out
          clear HH HWR
          go_wp2_with fail
          clear hcH hlH
          have hcH := H_0.out.2.2
          have hlH := H_0.out.2.1
          refine (get_as (Shape.refl x) ⟨pd, some ⟨b, o, none⟩, pac, pk, pkc, some ⟨wb, wo, none⟩, pwc⟩ m k _ FT.out.right (HWA.out.below B_0.out (Nat.le_refl _)) hlt HR.out).mono ?_
          rintro e u1 ⟨q1, rfl, g1, b1⟩
          clear hcH hlH
          have B_1 := Lib.hid (bl B_0.out b1)
          have H_1 := Lib.hid (H_0.out.call b1)
          clear b1 B_0 H_0 g1
          have hcH := H_1.out.2.2
          have hlH := H_1.out.2.1
          go_wp2_with fail
          clear hcH hlH
          have s2 : (u1.alloc (.cells #[.slice q1.d.ex x.d.exits.length q1.d.exc, .slice q1.d.pl x.d.players.length q1.d.plc, .slice q1.d.co x.d.coins.length q1.d.coc, .slice q1.d.it x.d.items.length q1.d.itc, .slice q1.d.bo x.d.boxes.length q1.d.boc, .int .i64 x.d.room, .int .i64 x.d.player, .int .i64 x.d.box, .slice q1.at_ x.at_.length q1.atc, .slice q1.co x.coins.length q1.coc, .slice q1.wh x.wher.length q1.whc] 29)).heap.size = u1.heap.size + 1 := by simp
          have B_2 := Lib.hid (B_1.out.alloc B_1.out.size (.cells #[.slice q1.d.ex x.d.exits.length q1.d.exc, .slice q1.d.pl x.d.players.length q1.d.plc, .slice q1.d.co x.d.coins.length q1.d.coc, .slice q1.d.it x.d.items.length q1.d.itc, .slice q1.d.bo x.d.boxes.length q1.d.boc, .int .i64 x.d.room, .int .i64 x.d.player, .int .i64 x.d.box, .slice q1.at_ x.at_.length q1.atc, .slice q1.co x.coins.length q1.coc, .slice q1.wh x.wher.length q1.whc] 29))
          have H_2 := Lib.hid (H_1.out.alloc (.cells #[.slice q1.d.ex x.d.exits.length q1.d.exc, .slice q1.d.pl x.d.players.length q1.d.plc, .slice q1.d.co x.d.coins.length q1.d.coc, .slice q1.d.it x.d.items.length q1.d.itc, .slice q1.d.bo x.d.boxes.length q1.d.boc, .int .i64 x.d.room, .int .i64 x.d.player, .int .i64 x.d.box, .slice q1.at_ x.at_.length q1.atc, .slice q1.co x.coins.length q1.coc, .slice q1.wh x.wher.length q1.whc] 29))
          have A_2 := Lib.hid (Holds.newb (w := w) (A := #[.slice q1.d.ex x.d.exits.length q1.d.exc, .slice q1.d.pl x.d.players.length q1.d.plc, .slice q1.d.co x.d.coins.length q1.d.coc, .slice q1.d.it x.d.items.length q1.d.itc, .slice q1.d.bo x.d.boxes.length q1.d.boc, .int .i64 x.d.room, .int .i64 x.d.player, .int .i64 x.d.box, .slice q1.at_ x.at_.length q1.atc, .slice q1.co x.coins.length q1.coc, .slice q1.wh x.wher.length q1.whc]) (t := 29) (n := u1.heap.size) B_1.out rfl)
          clear B_1 H_1
          generalize u1.alloc (.cells #[.slice q1.d.ex x.d.exits.length q1.d.exc, .slice q1.d.pl x.d.players.length q1.d.plc, .slice q1.d.co x.d.coins.length q1.d.coc, .slice q1.d.it x.d.items.length q1.d.itc, .slice q1.d.bo x.d.boxes.length q1.d.boc, .int .i64 x.d.room, .int .i64 x.d.player, .int .i64 x.d.box, .slice q1.at_ x.at_.length q1.atc, .slice q1.co x.coins.length q1.coc, .slice q1.wh x.wher.length q1.whc] 29) = V2 at *
          have hcH := H_2.out.2.2
          have hlH := H_2.out.2.1
          have hcA := A_2.out.2.2
          have hlA := A_2.out.2.1
          refine (drop_as (Shape.refl x) ⟨pd, some ⟨b, o, none⟩, pac, pk, pkc, some ⟨wb, wo, none⟩, pwc⟩ m k _ FT.out.right (HWA.out.below B_2.out (Nat.le_refl _)) hlt HP.out).mono ?_
          rintro e u3 ⟨q3, rfl, g3, b3⟩
          clear hcH hlH hcA hlA
          have B_3 := Lib.hid (bl B_2.out b3)
          have H_3 := Lib.hid (H_2.out.call b3)
          have A_3 := Lib.hid (A_2.out.call b3)
          clear b3 B_2 H_2 A_2 g3
          have hcH := H_3.out.2.2
          have hlH := H_3.out.2.1
          have hcA := A_3.out.2.2
          have hlA := A_3.out.2.1
          go_wp2_with fail
          clear hcH hlH hcA hlA
          have s4 : (u3.alloc (.cells #[.slice q3.d.ex x.d.exits.length q3.d.exc, .slice q3.d.pl x.d.players.length q3.d.plc, .slice q3.d.co x.d.coins.length q3.d.coc, .slice q3.d.it x.d.items.length q3.d.itc, .slice q3.d.bo x.d.boxes.length q3.d.boc, .int .i64 x.d.room, .int .i64 x.d.player, .int .i64 x.d.box, .slice q3.at_ x.at_.length q3.atc, .slice q3.co x.coins.length q3.coc, .slice q3.wh x.wher.length q3.whc] 29)).heap.size = u3.heap.size + 1 := by simp
          have B_4 := Lib.hid (B_3.out.alloc B_3.out.size (.cells #[.slice q3.d.ex x.d.exits.length q3.d.exc, .slice q3.d.pl x.d.players.length q3.d.plc, .slice q3.d.co x.d.coins.length q3.d.coc, .slice q3.d.it x.d.items.length q3.d.itc, .slice q3.d.bo x.d.boxes.length q3.d.boc, .int .i64 x.d.room, .int .i64 x.d.player, .int .i64 x.d.box, .slice q3.at_ x.at_.length q3.atc, .slice q3.co x.coins.length q3.coc, .slice q3.wh x.wher.length q3.whc] 29))
          have H_4 := Lib.hid (H_3.out.alloc (.cells #[.slice q3.d.ex x.d.exits.length q3.d.exc, .slice q3.d.pl x.d.players.length q3.d.plc, .slice q3.d.co x.d.coins.length q3.d.coc, .slice q3.d.it x.d.items.length q3.d.itc, .slice q3.d.bo x.d.boxes.length q3.d.boc, .int .i64 x.d.room, .int .i64 x.d.player, .int .i64 x.d.box, .slice q3.at_ x.at_.length q3.atc, .slice q3.co x.coins.length q3.coc, .slice q3.wh x.wher.length q3.whc] 29))
          have A_4 := Lib.hid (A_3.out.alloc (.cells #[.slice q3.d.ex x.d.exits.length q3.d.exc, .slice q3.d.pl x.d.players.length q3.d.plc, .slice q3.d.co x.d.coins.length q3.d.coc, .slice q3.d.it x.d.items.length q3.d.itc, .slice q3.d.bo x.d.boxes.length q3.d.boc, .int .i64 x.d.room, .int .i64 x.d.player, .int .i64 x.d.box, .slice q3.at_ x.at_.length q3.atc, .slice q3.co x.coins.length q3.coc, .slice q3.wh x.wher.length q3.whc] 29))
          have D_4 := Lib.hid (Holds.newb (w := w) (A := #[.slice q3.d.ex x.d.exits.length q3.d.exc, .slice q3.d.pl x.d.players.length q3.d.plc, .slice q3.d.co x.d.coins.length q3.d.coc, .slice q3.d.it x.d.items.length q3.d.itc, .slice q3.d.bo x.d.boxes.length q3.d.boc, .int .i64 x.d.room, .int .i64 x.d.player, .int .i64 x.d.box, .slice q3.at_ x.at_.length q3.atc, .slice q3.co x.coins.length q3.coc, .slice q3.wh x.wher.length q3.whc]) (t := 29) (n := u3.heap.size) B_3.out rfl)
          clear B_3 H_3 A_3
          generalize u3.alloc (.cells #[.slice q3.d.ex x.d.exits.length q3.d.exc, .slice q3.d.pl x.d.players.length q3.d.plc, .slice q3.d.co x.d.coins.length q3.d.coc, .slice q3.d.it x.d.items.length q3.d.itc, .slice q3.d.bo x.d.boxes.length q3.d.boc, .int .i64 x.d.room, .int .i64 x.d.player, .int .i64 x.d.box, .slice q3.at_ x.at_.length q3.atc, .slice q3.co x.coins.length q3.coc, .slice q3.wh x.wher.length q3.whc] 29) = V4 at *
          have hcH := H_4.out.2.2
          have hlH := H_4.out.2.1
          have hcA := A_4.out.2.2
          have hlA := A_4.out.2.1
          have hcD := D_4.out.2.2
          have hlD := D_4.out.2.1
          clear hcH hlH hcA hlA hcD hlD
          skip
          have KS : Hid (∀ w', Below V4.heap.size V4 w' → Below V4.heap.size V4 w' ∧ (∀ i, w'.cell? ⟨w.heap.size, i, none⟩ = (#[.slice pd.ex x.d.exits.length pd.exc, .slice pd.pl x.d.players.length pd.plc, .slice pd.co x.d.coins.length pd.coc, .slice pd.it x.d.items.length pd.itc, .slice pd.bo x.d.boxes.length pd.boc, .int .i64 x.d.room, .int .i64 x.d.player, .int .i64 x.d.box, .slice (some ⟨b, o, none⟩) x.at_.length pac, .slice pk x.coins.length pkc, .slice (some ⟨wb, wo, none⟩) x.wher.length pwc][i]? : Option Value)) ∧ w'.cell? ⟨b, o + m, none⟩ = some (.int .i64 (roomOf x m : Int)) ∧ w'.cell? ⟨wb, wo + k * 2, none⟩ = some (.int .i64 0) ∧ w'.cell? ⟨wb, wo + k * 2 + 1, none⟩ = some (.int .i64 (roomOf x m : Int))) := Lib.hid (fun w' hb => ⟨hb, fun i => (hb.cell (p := ⟨w.heap.size, i, none⟩) H_4.out.2.1).trans (H_4.out.2.2 i), cell_call (cell_call C2.out B_4.out) hb, cell_call (cell_call C0.out B_4.out) hb, cell_call (cell_call C1.out B_4.out) hb⟩)
          refine wp_region_noPanic ?_
          refine wp_region_held_drew (S := (fun w' => Below V4.heap.size V4 w' ∧ (∀ i, w'.cell? ⟨w.heap.size, i, none⟩ = (#[.slice pd.ex x.d.exits.length pd.exc, .slice pd.pl x.d.players.length pd.plc, .slice pd.co x.d.coins.length pd.coc, .slice pd.it x.d.items.length pd.itc, .slice pd.bo x.d.boxes.length pd.boc, .int .i64 x.d.room, .int .i64 x.d.player, .int .i64 x.d.box, .slice (some ⟨b, o, none⟩) x.at_.length pac, .slice pk x.coins.length pkc, .slice (some ⟨wb, wo, none⟩) x.wher.length pwc][i]? : Option Value)) ∧ w'.cell? ⟨b, o + m, none⟩ = some (.int .i64 (roomOf x m : Int)) ∧ w'.cell? ⟨wb, wo + k * 2, none⟩ = some (.int .i64 0) ∧ w'.cell? ⟨wb, wo + k * 2 + 1, none⟩ = some (.int .i64 (roomOf x m : Int)))) (by kernel_rfl) (by (first | (with_reducible exact KS.out _ (bdrew1 (Below.refl _ _))) | (with_reducible exact KS.out _ (below_call hHeld.1 hHeld.1.size hb9)) | (with_reducible exact hHeld))) (fun hHeld => ?_)
          first
            | (refine wpAnyH_take (i := 0) (v := undef) (by simp only [List.getElem?_toArray, List.getElem?_cons_zero]; rfl) (by kernel_rfl) (by kernel_rfl) (by kernel_rfl) (fun _ _ _ h => h) (Or.inr ⟨by rfl, rfl⟩) (by assumption) ?_; try simp only [Act.put, List.setIfInBounds_toArray, List.set_cons_zero, List.set_cons_succ])
            | (refine wpAnyH_take (i := 0) (v := ?_) (by simp only [List.getElem?_toArray, List.getElem?_cons_zero]; rfl) (by kernel_rfl) (by kernel_rfl) (by kernel_rfl) (fun _ _ _ h => h) (Or.inl ⟨by rfl, ?_⟩) (by assumption) ?_
               rotate_left
               · (intro ww hSw; (try dsimp only at hSw); go_simp; (try with_reducible rfl))
               try simp only [Act.put, List.setIfInBounds_toArray, List.set_cons_zero, List.set_cons_succ])
            | (refine wpAnyH_ready (rs := [0]) (by kernel_rfl) (by simp) (AllReadyH.cons (by simp only [List.getElem?_toArray, List.getElem?_cons_succ, List.getElem?_cons_zero]; rfl) (fun K hK => ?_) AllReadyH.nil)
               go_simp
               first
                 | (fail)
               try go_wp2_with fail
               refine hK.out _ _ (by (first | (with_reducible exact KS.out _ (bdrew1 (Below.refl _ _))) | (with_reducible exact KS.out _ (below_call hHeld.1 hHeld.1.size hb9)) | (with_reducible exact hHeld))) (fun hHeld => ?_)
               clear hK K
               try simp only [Act.put, List.setIfInBounds_toArray, List.set_cons_zero, List.set_cons_succ])
          first
            | (refine wpAnyH_take (i := 1) (v := undef) (by simp only [List.getElem?_toArray, List.getElem?_cons_succ, List.getElem?_cons_zero]; rfl) (by kernel_rfl) (by kernel_rfl) (by kernel_rfl) (fun _ _ _ h => h) (Or.inr ⟨by rfl, rfl⟩) (by assumption) ?_; try simp only [Act.put, List.setIfInBounds_toArray, List.set_cons_zero, List.set_cons_succ])
            | (refine wpAnyH_take (i := 1) (v := ?_) (by simp only [List.getElem?_toArray, List.getElem?_cons_succ, List.getElem?_cons_zero]; rfl) (by kernel_rfl) (by kernel_rfl) (by kernel_rfl) (fun _ _ _ h => h) (Or.inl ⟨by rfl, ?_⟩) (by assumption) ?_
               rotate_left
               · (intro ww hSw; (try dsimp only at hSw); go_simp; (try with_reducible rfl))
               try simp only [Act.put, List.setIfInBounds_toArray, List.set_cons_zero, List.set_cons_succ])
            | (refine wpAnyH_ready (rs := [1]) (by kernel_rfl) (by simp) (AllReadyH.cons (by simp only [List.getElem?_toArray, List.getElem?_cons_succ, List.getElem?_cons_zero]; rfl) (fun K hK => ?_) AllReadyH.nil)
               go_simp
               first
                 | (fail)
               try go_wp2_with fail
               refine hK.out _ _ (by (first | (with_reducible exact KS.out _ (bdrew1 (Below.refl _ _))) | (with_reducible exact KS.out _ (below_call hHeld.1 hHeld.1.size hb9)) | (with_reducible exact hHeld))) (fun hHeld => ?_)
               clear hK K
               try simp only [Act.put, List.setIfInBounds_toArray, List.set_cons_zero, List.set_cons_succ])
          first
            | (refine wpAnyH_take (i := 2) (v := undef) (by simp only [List.getElem?_toArray, List.getElem?_cons_succ, List.getElem?_cons_zero]; rfl) (by kernel_rfl) (by kernel_rfl) (by kernel_rfl) (fun _ _ _ h => h) (Or.inr ⟨by rfl, rfl⟩) (by assumption) ?_; try simp only [Act.put, List.setIfInBounds_toArray, List.set_cons_zero, List.set_cons_succ])
            | (refine wpAnyH_take (i := 2) (v := ?_) (by simp only [List.getElem?_toArray, List.getElem?_cons_succ, List.getElem?_cons_zero]; rfl) (by kernel_rfl) (by kernel_rfl) (by kernel_rfl) (fun _ _ _ h => h) (Or.inl ⟨by rfl, ?_⟩) (by assumption) ?_
               rotate_left
               · (intro ww hSw; (try dsimp only at hSw); go_simp; (try with_reducible rfl))
               try simp only [Act.put, List.setIfInBounds_toArray, List.set_cons_zero, List.set_cons_succ])
            | (refine wpAnyH_ready (rs := [2]) (by kernel_rfl) (by simp) (AllReadyH.cons (by simp only [List.getElem?_toArray, List.getElem?_cons_succ, List.getElem?_cons_zero]; rfl) (fun K hK => ?_) AllReadyH.nil)
               go_simp
               first
                 | (fail)
               try go_wp2_with fail
               refine hK.out _ _ (by (first | (with_reducible exact KS.out _ (bdrew1 (Below.refl _ _))) | (with_reducible exact KS.out _ (below_call hHeld.1 hHeld.1.size hb9)) | (with_reducible exact hHeld))) (fun hHeld => ?_)
               clear hK K
               try simp only [Act.put, List.setIfInBounds_toArray, List.set_cons_zero, List.set_cons_succ])
          first
            | (refine wpAnyH_take (i := 3) (v := undef) (by simp only [List.getElem?_toArray, List.getElem?_cons_succ, List.getElem?_cons_zero]; rfl) (by kernel_rfl) (by kernel_rfl) (by kernel_rfl) (fun _ _ _ h => h) (Or.inr ⟨by rfl, rfl⟩) (by assumption) ?_; try simp only [Act.put, List.setIfInBounds_toArray, List.set_cons_zero, List.set_cons_succ])
            | (refine wpAnyH_take (i := 3) (v := ?_) (by simp only [List.getElem?_toArray, List.getElem?_cons_succ, List.getElem?_cons_zero]; rfl) (by kernel_rfl) (by kernel_rfl) (by kernel_rfl) (fun _ _ _ h => h) (Or.inl ⟨by rfl, ?_⟩) (by assumption) ?_
               rotate_left
               · (intro ww hSw; (try dsimp only at hSw); go_simp; (try with_reducible rfl))
               try simp only [Act.put, List.setIfInBounds_toArray, List.set_cons_zero, List.set_cons_succ])
            | (refine wpAnyH_ready (rs := [3]) (by kernel_rfl) (by simp) (AllReadyH.cons (by simp only [List.getElem?_toArray, List.getElem?_cons_succ, List.getElem?_cons_zero]; rfl) (fun K hK => ?_) AllReadyH.nil)
               go_simp
               first
                 | (fail)
               try go_wp2_with fail
               refine hK.out _ _ (by (first | (with_reducible exact KS.out _ (bdrew1 (Below.refl _ _))) | (with_reducible exact KS.out _ (below_call hHeld.1 hHeld.1.size hb9)) | (with_reducible exact hHeld))) (fun hHeld => ?_)
               clear hK K
               try simp only [Act.put, List.setIfInBounds_toArray, List.set_cons_zero, List.set_cons_succ])
          first
            | (refine wpAnyH_take (i := 4) (v := undef) (by simp only [List.getElem?_toArray, List.getElem?_cons_succ, List.getElem?_cons_zero]; rfl) (by kernel_rfl) (by kernel_rfl) (by kernel_rfl) (fun _ _ _ h => h) (Or.inr ⟨by rfl, rfl⟩) (by assumption) ?_; try simp only [Act.put, List.setIfInBounds_toArray, List.set_cons_zero, List.set_cons_succ])
            | (refine wpAnyH_take (i := 4) (v := ?_) (by simp only [List.getElem?_toArray, List.getElem?_cons_succ, List.getElem?_cons_zero]; rfl) (by kernel_rfl) (by kernel_rfl) (by kernel_rfl) (fun _ _ _ h => h) (Or.inl ⟨by rfl, ?_⟩) (by assumption) ?_
               rotate_left
               · (intro ww hSw; (try dsimp only at hSw); go_simp; (try with_reducible rfl))
               try simp only [Act.put, List.setIfInBounds_toArray, List.set_cons_zero, List.set_cons_succ])
            | (refine wpAnyH_ready (rs := [4]) (by kernel_rfl) (by simp) (AllReadyH.cons (by simp only [List.getElem?_toArray, List.getElem?_cons_succ, List.getElem?_cons_zero]; rfl) (fun K hK => ?_) AllReadyH.nil)
               go_simp
               first
                 | (fail)
               try go_wp2_with fail
               refine hK.out _ _ (by (first | (with_reducible exact KS.out _ (bdrew1 (Below.refl _ _))) | (with_reducible exact KS.out _ (below_call hHeld.1 hHeld.1.size hb9)) | (with_reducible exact hHeld))) (fun hHeld => ?_)
               clear hK K
               try simp only [Act.put, List.setIfInBounds_toArray, List.set_cons_zero, List.set_cons_succ])
          first
            | (refine wpAnyH_take (i := 5) (v := undef) (by simp only [List.getElem?_toArray, List.getElem?_cons_succ, List.getElem?_cons_zero]; rfl) (by kernel_rfl) (by kernel_rfl) (by kernel_rfl) (fun _ _ _ h => h) (Or.inr ⟨by rfl, rfl⟩) (by assumption) ?_; try simp only [Act.put, List.setIfInBounds_toArray, List.set_cons_zero, List.set_cons_succ])
            | (refine wpAnyH_take (i := 5) (v := ?_) (by simp only [List.getElem?_toArray, List.getElem?_cons_succ, List.getElem?_cons_zero]; rfl) (by kernel_rfl) (by kernel_rfl) (by kernel_rfl) (fun _ _ _ h => h) (Or.inl ⟨by rfl, ?_⟩) (by assumption) ?_
               rotate_left
               · (intro ww hSw; (try dsimp only at hSw); go_simp; (try with_reducible rfl))
               try simp only [Act.put, List.setIfInBounds_toArray, List.set_cons_zero, List.set_cons_succ])
            | (refine wpAnyH_ready (rs := [5]) (by kernel_rfl) (by simp) (AllReadyH.cons (by simp only [List.getElem?_toArray, List.getElem?_cons_succ, List.getElem?_cons_zero]; rfl) (fun K hK => ?_) AllReadyH.nil)
               go_simp
               first
                 | (fail)
               try go_wp2_with fail
               refine hK.out _ _ (by (first | (with_reducible exact KS.out _ (bdrew1 (Below.refl _ _))) | (with_reducible exact KS.out _ (below_call hHeld.1 hHeld.1.size hb9)) | (with_reducible exact hHeld))) (fun hHeld => ?_)
               clear hK K
               try simp only [Act.put, List.setIfInBounds_toArray, List.set_cons_zero, List.set_cons_succ])
          first
            | (refine wpAnyH_take (i := 6) (v := undef) (by simp only [List.getElem?_toArray, List.getElem?_cons_succ, List.getElem?_cons_zero]; rfl) (by kernel_rfl) (by kernel_rfl) (by kernel_rfl) (fun _ _ _ h => h) (Or.inr ⟨by rfl, rfl⟩) (by assumption) ?_; try simp only [Act.put, List.setIfInBounds_toArray, List.set_cons_zero, List.set_cons_succ])
            | (refine wpAnyH_take (i := 6) (v := ?_) (by simp only [List.getElem?_toArray, List.getElem?_cons_succ, List.getElem?_cons_zero]; rfl) (by kernel_rfl) (by kernel_rfl) (by kernel_rfl) (fun _ _ _ h => h) (Or.inl ⟨by rfl, ?_⟩) (by assumption) ?_
               rotate_left
               · (intro ww hSw; (try dsimp only at hSw); go_simp; (try with_reducible rfl))
               try simp only [Act.put, List.setIfInBounds_toArray, List.set_cons_zero, List.set_cons_succ])
            | (refine wpAnyH_ready (rs := [6]) (by kernel_rfl) (by simp) (AllReadyH.cons (by simp only [List.getElem?_toArray, List.getElem?_cons_succ, List.getElem?_cons_zero]; rfl) (fun K hK => ?_) AllReadyH.nil)
               go_simp
               first
                 | (fail)
               try go_wp2_with fail
               refine hK.out _ _ (by (first | (with_reducible exact KS.out _ (bdrew1 (Below.refl _ _))) | (with_reducible exact KS.out _ (below_call hHeld.1 hHeld.1.size hb9)) | (with_reducible exact hHeld))) (fun hHeld => ?_)
               clear hK K
               try simp only [Act.put, List.setIfInBounds_toArray, List.set_cons_zero, List.set_cons_succ])
          first
            | (refine wpAnyH_take (i := 7) (v := undef) (by simp only [List.getElem?_toArray, List.getElem?_cons_succ, List.getElem?_cons_zero]; rfl) (by kernel_rfl) (by kernel_rfl) (by kernel_rfl) (fun _ _ _ h => h) (Or.inr ⟨by rfl, rfl⟩) (by assumption) ?_; try simp only [Act.put, List.setIfInBounds_toArray, List.set_cons_zero, List.set_cons_succ])
            | (refine wpAnyH_take (i := 7) (v := ?_) (by simp only [List.getElem?_toArray, List.getElem?_cons_succ, List.getElem?_cons_zero]; rfl) (by kernel_rfl) (by kernel_rfl) (by kernel_rfl) (fun _ _ _ h => h) (Or.inl ⟨by rfl, ?_⟩) (by assumption) ?_
               rotate_left
               · (intro ww hSw; (try dsimp only at hSw); go_simp; (try with_reducible rfl))
               try simp only [Act.put, List.setIfInBounds_toArray, List.set_cons_zero, List.set_cons_succ])
            | (refine wpAnyH_ready (rs := [7]) (by kernel_rfl) (by simp) (AllReadyH.cons (by simp only [List.getElem?_toArray, List.getElem?_cons_succ, List.getElem?_cons_zero]; rfl) (fun K hK => ?_) AllReadyH.nil)
               go_simp
               first
                 | (fail)
               try go_wp2_with fail
               refine hK.out _ _ (by (first | (with_reducible exact KS.out _ (bdrew1 (Below.refl _ _))) | (with_reducible exact KS.out _ (below_call hHeld.1 hHeld.1.size hb9)) | (with_reducible exact hHeld))) (fun hHeld => ?_)
               clear hK K
               try simp only [Act.put, List.setIfInBounds_toArray, List.set_cons_zero, List.set_cons_succ])
          first
            | (refine wpAnyH_take (i := 8) (v := undef) (by simp only [List.getElem?_toArray, List.getElem?_cons_succ, List.getElem?_cons_zero]; rfl) (by kernel_rfl) (by kernel_rfl) (by kernel_rfl) (fun _ _ _ h => h) (Or.inr ⟨by rfl, rfl⟩) (by assumption) ?_; try simp only [Act.put, List.setIfInBounds_toArray, List.set_cons_zero, List.set_cons_succ])
            | (refine wpAnyH_take (i := 8) (v := ?_) (by simp only [List.getElem?_toArray, List.getElem?_cons_succ, List.getElem?_cons_zero]; rfl) (by kernel_rfl) (by kernel_rfl) (by kernel_rfl) (fun _ _ _ h => h) (Or.inl ⟨by rfl, ?_⟩) (by assumption) ?_
               rotate_left
               · (intro ww hSw; (try dsimp only at hSw); go_simp; (try with_reducible rfl))
               try simp only [Act.put, List.setIfInBounds_toArray, List.set_cons_zero, List.set_cons_succ])
            | (refine wpAnyH_ready (rs := [8]) (by kernel_rfl) (by simp) (AllReadyH.cons (by simp only [List.getElem?_toArray, List.getElem?_cons_succ, List.getElem?_cons_zero]; rfl) (fun K hK => ?_) AllReadyH.nil)
               go_simp
               first
                 | (fail)
               try go_wp2_with fail
               refine hK.out _ _ (by (first | (with_reducible exact KS.out _ (bdrew1 (Below.refl _ _))) | (with_reducible exact KS.out _ (below_call hHeld.1 hHeld.1.size hb9)) | (with_reducible exact hHeld))) (fun hHeld => ?_)
               clear hK K
               try simp only [Act.put, List.setIfInBounds_toArray, List.set_cons_zero, List.set_cons_succ])
          first
            | (refine wpAnyH_take (i := 9) (v := undef) (by simp only [List.getElem?_toArray, List.getElem?_cons_succ, List.getElem?_cons_zero]; rfl) (by kernel_rfl) (by kernel_rfl) (by kernel_rfl) (fun _ _ _ h => h) (Or.inr ⟨by rfl, rfl⟩) (by assumption) ?_; try simp only [Act.put, List.setIfInBounds_toArray, List.set_cons_zero, List.set_cons_succ])
            | (refine wpAnyH_take (i := 9) (v := ?_) (by simp only [List.getElem?_toArray, List.getElem?_cons_succ, List.getElem?_cons_zero]; rfl) (by kernel_rfl) (by kernel_rfl) (by kernel_rfl) (fun _ _ _ h => h) (Or.inl ⟨by rfl, ?_⟩) (by assumption) ?_
               rotate_left
               · (intro ww hSw; (try dsimp only at hSw); go_simp; (try with_reducible rfl))
               try simp only [Act.put, List.setIfInBounds_toArray, List.set_cons_zero, List.set_cons_succ])
            | (refine wpAnyH_ready (rs := [9]) (by kernel_rfl) (by simp) (AllReadyH.cons (by simp only [List.getElem?_toArray, List.getElem?_cons_succ, List.getElem?_cons_zero]; rfl) (fun K hK => ?_) AllReadyH.nil)
               go_simp
               first
                 | (fail)
               try go_wp2_with fail
               refine hK.out _ _ (by (first | (with_reducible exact KS.out _ (bdrew1 (Below.refl _ _))) | (with_reducible exact KS.out _ (below_call hHeld.1 hHeld.1.size hb9)) | (with_reducible exact hHeld))) (fun hHeld => ?_)
               clear hK K
               try simp only [Act.put, List.setIfInBounds_toArray, List.set_cons_zero, List.set_cons_succ])
          first
            | (refine wpAnyH_take (i := 10) (v := undef) (by simp only [List.getElem?_toArray, List.getElem?_cons_succ, List.getElem?_cons_zero]; rfl) (by kernel_rfl) (by kernel_rfl) (by kernel_rfl) (fun _ _ _ h => h) (Or.inr ⟨by rfl, rfl⟩) (by assumption) ?_; try simp only [Act.put, List.setIfInBounds_toArray, List.set_cons_zero, List.set_cons_succ])
            | (refine wpAnyH_take (i := 10) (v := ?_) (by simp only [List.getElem?_toArray, List.getElem?_cons_succ, List.getElem?_cons_zero]; rfl) (by kernel_rfl) (by kernel_rfl) (by kernel_rfl) (fun _ _ _ h => h) (Or.inl ⟨by rfl, ?_⟩) (by assumption) ?_
               rotate_left
               · (intro ww hSw; (try dsimp only at hSw); go_simp; (try with_reducible rfl))
               try simp only [Act.put, List.setIfInBounds_toArray, List.set_cons_zero, List.set_cons_succ])
            | (refine wpAnyH_ready (rs := [10]) (by kernel_rfl) (by simp) (AllReadyH.cons (by simp only [List.getElem?_toArray, List.getElem?_cons_succ, List.getElem?_cons_zero]; rfl) (fun K hK => ?_) AllReadyH.nil)
               go_simp
               first
                 | (fail)
               try go_wp2_with fail
               refine hK.out _ _ (by (first | (with_reducible exact KS.out _ (bdrew1 (Below.refl _ _))) | (with_reducible exact KS.out _ (below_call hHeld.1 hHeld.1.size hb9)) | (with_reducible exact hHeld))) (fun hHeld => ?_)
               clear hK K
               try simp only [Act.put, List.setIfInBounds_toArray, List.set_cons_zero, List.set_cons_succ])
          first
            | (refine wpAnyH_take (i := 11) (v := undef) (by simp only [List.getElem?_toArray, List.getElem?_cons_succ, List.getElem?_cons_zero]; rfl) (by kernel_rfl) (by kernel_rfl) (by kernel_rfl) (fun _ _ _ h => h) (Or.inr ⟨by rfl, rfl⟩) (by assumption) ?_; try simp only [Act.put, List.setIfInBounds_toArray, List.set_cons_zero, List.set_cons_succ])
            | (refine wpAnyH_take (i := 11) (v := ?_) (by simp only [List.getElem?_toArray, List.getElem?_cons_succ, List.getElem?_cons_zero]; rfl) (by kernel_rfl) (by kernel_rfl) (by kernel_rfl) (fun _ _ _ h => h) (Or.inl ⟨by rfl, ?_⟩) (by assumption) ?_
               rotate_left
               · (intro ww hSw; (try dsimp only at hSw); go_simp; (try with_reducible rfl))
               try simp only [Act.put, List.setIfInBounds_toArray, List.set_cons_zero, List.set_cons_succ])
            | (refine wpAnyH_ready (rs := [11]) (by kernel_rfl) (by simp) (AllReadyH.cons (by simp only [List.getElem?_toArray, List.getElem?_cons_succ, List.getElem?_cons_zero]; rfl) (fun K hK => ?_) AllReadyH.nil)
               go_simp
               first
                 | (fail)
               try go_wp2_with fail
               refine hK.out _ _ (by (first | (with_reducible exact KS.out _ (bdrew1 (Below.refl _ _))) | (with_reducible exact KS.out _ (below_call hHeld.1 hHeld.1.size hb9)) | (with_reducible exact hHeld))) (fun hHeld => ?_)
               clear hK K
               try simp only [Act.put, List.setIfInBounds_toArray, List.set_cons_zero, List.set_cons_succ])
          first
            | (refine wpAnyH_take (i := 12) (v := undef) (by simp only [List.getElem?_toArray, List.getElem?_cons_succ, List.getElem?_cons_zero]; rfl) (by kernel_rfl) (by kernel_rfl) (by kernel_rfl) (fun _ _ _ h => h) (Or.inr ⟨by rfl, rfl⟩) (by assumption) ?_; try simp only [Act.put, List.setIfInBounds_toArray, List.set_cons_zero, List.set_cons_succ])
            | (refine wpAnyH_take (i := 12) (v := ?_) (by simp only [List.getElem?_toArray, List.getElem?_cons_succ, List.getElem?_cons_zero]; rfl) (by kernel_rfl) (by kernel_rfl) (by kernel_rfl) (fun _ _ _ h => h) (Or.inl ⟨by rfl, ?_⟩) (by assumption) ?_
               rotate_left
               · (intro ww hSw; (try dsimp only at hSw); go_simp; (try with_reducible rfl))
               try simp only [Act.put, List.setIfInBounds_toArray, List.set_cons_zero, List.set_cons_succ])
            | (refine wpAnyH_ready (rs := [12]) (by kernel_rfl) (by simp) (AllReadyH.cons (by simp only [List.getElem?_toArray, List.getElem?_cons_succ, List.getElem?_cons_zero]; rfl) (fun K hK => ?_) AllReadyH.nil)
               go_simp
               first
                 | (fail)
               try go_wp2_with fail
               refine hK.out _ _ (by (first | (with_reducible exact KS.out _ (bdrew1 (Below.refl _ _))) | (with_reducible exact KS.out _ (below_call hHeld.1 hHeld.1.size hb9)) | (with_reducible exact hHeld))) (fun hHeld => ?_)
               clear hK K
               try simp only [Act.put, List.setIfInBounds_toArray, List.set_cons_zero, List.set_cons_succ])
          first
            | (refine wpAnyH_take (i := 13) (v := undef) (by simp only [List.getElem?_toArray, List.getElem?_cons_succ, List.getElem?_cons_zero]; rfl) (by kernel_rfl) (by kernel_rfl) (by kernel_rfl) (fun _ _ _ h => h) (Or.inr ⟨by rfl, rfl⟩) (by assumption) ?_; try simp only [Act.put, List.setIfInBounds_toArray, List.set_cons_zero, List.set_cons_succ])
            | (refine wpAnyH_take (i := 13) (v := ?_) (by simp only [List.getElem?_toArray, List.getElem?_cons_succ, List.getElem?_cons_zero]; rfl) (by kernel_rfl) (by kernel_rfl) (by kernel_rfl) (fun _ _ _ h => h) (Or.inl ⟨by rfl, ?_⟩) (by assumption) ?_
               rotate_left
               · (intro ww hSw; (try dsimp only at hSw); go_simp; (try with_reducible rfl))
               try simp only [Act.put, List.setIfInBounds_toArray, List.set_cons_zero, List.set_cons_succ])
            | (refine wpAnyH_ready (rs := [13]) (by kernel_rfl) (by simp) (AllReadyH.cons (by simp only [List.getElem?_toArray, List.getElem?_cons_succ, List.getElem?_cons_zero]; rfl) (fun K hK => ?_) AllReadyH.nil)
               go_simp
               first
                 | (fail)
               try go_wp2_with fail
               refine hK.out _ _ (by (first | (with_reducible exact KS.out _ (bdrew1 (Below.refl _ _))) | (with_reducible exact KS.out _ (below_call hHeld.1 hHeld.1.size hb9)) | (with_reducible exact hHeld))) (fun hHeld => ?_)
               clear hK K
               try simp only [Act.put, List.setIfInBounds_toArray, List.set_cons_zero, List.set_cons_succ])
          first
            | (refine wpAnyH_take (i := 14) (v := undef) (by simp only [List.getElem?_toArray, List.getElem?_cons_succ, List.getElem?_cons_zero]; rfl) (by kernel_rfl) (by kernel_rfl) (by kernel_rfl) (fun _ _ _ h => h) (Or.inr ⟨by rfl, rfl⟩) (by assumption) ?_; try simp only [Act.put, List.setIfInBounds_toArray, List.set_cons_zero, List.set_cons_succ])
            | (refine wpAnyH_take (i := 14) (v := ?_) (by simp only [List.getElem?_toArray, List.getElem?_cons_succ, List.getElem?_cons_zero]; rfl) (by kernel_rfl) (by kernel_rfl) (by kernel_rfl) (fun _ _ _ h => h) (Or.inl ⟨by rfl, ?_⟩) (by assumption) ?_
               rotate_left
               · (intro ww hSw; (try dsimp only at hSw); go_simp; (try with_reducible rfl))
               try simp only [Act.put, List.setIfInBounds_toArray, List.set_cons_zero, List.set_cons_succ])
            | (refine wpAnyH_ready (rs := [14]) (by kernel_rfl) (by simp) (AllReadyH.cons (by simp only [List.getElem?_toArray, List.getElem?_cons_succ, List.getElem?_cons_zero]; rfl) (fun K hK => ?_) AllReadyH.nil)
               go_simp
               first
                 | (fail)
               try go_wp2_with fail
               refine hK.out _ _ (by (first | (with_reducible exact KS.out _ (bdrew1 (Below.refl _ _))) | (with_reducible exact KS.out _ (below_call hHeld.1 hHeld.1.size hb9)) | (with_reducible exact hHeld))) (fun hHeld => ?_)
               clear hK K
               try simp only [Act.put, List.setIfInBounds_toArray, List.set_cons_zero, List.set_cons_succ])
          first
            | (refine wpAnyH_take (i := 15) (v := undef) (by simp only [List.getElem?_toArray, List.getElem?_cons_succ, List.getElem?_cons_zero]; rfl) (by kernel_rfl) (by kernel_rfl) (by kernel_rfl) (fun _ _ _ h => h) (Or.inr ⟨by rfl, rfl⟩) (by assumption) ?_; try simp only [Act.put, List.setIfInBounds_toArray, List.set_cons_zero, List.set_cons_succ])
            | (refine wpAnyH_take (i := 15) (v := ?_) (by simp only [List.getElem?_toArray, List.getElem?_cons_succ, List.getElem?_cons_zero]; rfl) (by kernel_rfl) (by kernel_rfl) (by kernel_rfl) (fun _ _ _ h => h) (Or.inl ⟨by rfl, ?_⟩) (by assumption) ?_
               rotate_left
               · (intro ww hSw; (try dsimp only at hSw); go_simp; (try with_reducible rfl))
               try simp only [Act.put, List.setIfInBounds_toArray, List.set_cons_zero, List.set_cons_succ])
            | (refine wpAnyH_ready (rs := [15]) (by kernel_rfl) (by simp) (AllReadyH.cons (by simp only [List.getElem?_toArray, List.getElem?_cons_succ, List.getElem?_cons_zero]; rfl) (fun K hK => ?_) AllReadyH.nil)
               go_simp
               first
                 | (fail)
               try go_wp2_with fail
               refine hK.out _ _ (by (first | (with_reducible exact KS.out _ (bdrew1 (Below.refl _ _))) | (with_reducible exact KS.out _ (below_call hHeld.1 hHeld.1.size hb9)) | (with_reducible exact hHeld))) (fun hHeld => ?_)
               clear hK K
               try simp only [Act.put, List.setIfInBounds_toArray, List.set_cons_zero, List.set_cons_succ])
          first
            | (refine wpAnyH_take (i := 16) (v := undef) (by simp only [List.getElem?_toArray, List.getElem?_cons_succ, List.getElem?_cons_zero]; rfl) (by kernel_rfl) (by kernel_rfl) (by kernel_rfl) (fun _ _ _ h => h) (Or.inr ⟨by rfl, rfl⟩) (by assumption) ?_; try simp only [Act.put, List.setIfInBounds_toArray, List.set_cons_zero, List.set_cons_succ])
            | (refine wpAnyH_take (i := 16) (v := ?_) (by simp only [List.getElem?_toArray, List.getElem?_cons_succ, List.getElem?_cons_zero]; rfl) (by kernel_rfl) (by kernel_rfl) (by kernel_rfl) (fun _ _ _ h => h) (Or.inl ⟨by rfl, ?_⟩) (by assumption) ?_
               rotate_left
               · (intro ww hSw; (try dsimp only at hSw); go_simp; (try with_reducible rfl))
               try simp only [Act.put, List.setIfInBounds_toArray, List.set_cons_zero, List.set_cons_succ])
            | (refine wpAnyH_ready (rs := [16]) (by kernel_rfl) (by simp) (AllReadyH.cons (by simp only [List.getElem?_toArray, List.getElem?_cons_succ, List.getElem?_cons_zero]; rfl) (fun K hK => ?_) AllReadyH.nil)
               go_simp
               first
                 | (fail)
               try go_wp2_with fail
               refine hK.out _ _ (by (first | (with_reducible exact KS.out _ (bdrew1 (Below.refl _ _))) | (with_reducible exact KS.out _ (below_call hHeld.1 hHeld.1.size hb9)) | (with_reducible exact hHeld))) (fun hHeld => ?_)
               clear hK K
               try simp only [Act.put, List.setIfInBounds_toArray, List.set_cons_zero, List.set_cons_succ])
          first
            | (refine wpAnyH_take (i := 17) (v := undef) (by simp only [List.getElem?_toArray, List.getElem?_cons_succ, List.getElem?_cons_zero]; rfl) (by kernel_rfl) (by kernel_rfl) (by kernel_rfl) (fun _ _ _ h => h) (Or.inr ⟨by rfl, rfl⟩) (by assumption) ?_; try simp only [Act.put, List.setIfInBounds_toArray, List.set_cons_zero, List.set_cons_succ])
            | (refine wpAnyH_take (i := 17) (v := ?_) (by simp only [List.getElem?_toArray, List.getElem?_cons_succ, List.getElem?_cons_zero]; rfl) (by kernel_rfl) (by kernel_rfl) (by kernel_rfl) (fun _ _ _ h => h) (Or.inl ⟨by rfl, ?_⟩) (by assumption) ?_
               rotate_left
               · (intro ww hSw; (try dsimp only at hSw); go_simp; (try with_reducible rfl))
               try simp only [Act.put, List.setIfInBounds_toArray, List.set_cons_zero, List.set_cons_succ])
            | (refine wpAnyH_ready (rs := [17]) (by kernel_rfl) (by simp) (AllReadyH.cons (by simp only [List.getElem?_toArray, List.getElem?_cons_succ, List.getElem?_cons_zero]; rfl) (fun K hK => ?_) AllReadyH.nil)
               go_simp
               first
                 | (fail)
               try go_wp2_with fail
               refine hK.out _ _ (by (first | (with_reducible exact KS.out _ (bdrew1 (Below.refl _ _))) | (with_reducible exact KS.out _ (below_call hHeld.1 hHeld.1.size hb9)) | (with_reducible exact hHeld))) (fun hHeld => ?_)
               clear hK K
               try simp only [Act.put, List.setIfInBounds_toArray, List.set_cons_zero, List.set_cons_succ])
          first
            | (refine wpAnyH_take (i := 18) (v := undef) (by simp only [List.getElem?_toArray, List.getElem?_cons_succ, List.getElem?_cons_zero]; rfl) (by kernel_rfl) (by kernel_rfl) (by kernel_rfl) (fun _ _ _ h => h) (Or.inr ⟨by rfl, rfl⟩) (by assumption) ?_; try simp only [Act.put, List.setIfInBounds_toArray, List.set_cons_zero, List.set_cons_succ])
            | (refine wpAnyH_take (i := 18) (v := ?_) (by simp only [List.getElem?_toArray, List.getElem?_cons_succ, List.getElem?_cons_zero]; rfl) (by kernel_rfl) (by kernel_rfl) (by kernel_rfl) (fun _ _ _ h => h) (Or.inl ⟨by rfl, ?_⟩) (by assumption) ?_
               rotate_left
               · (intro ww hSw; (try dsimp only at hSw); go_simp; (try with_reducible rfl))
               try simp only [Act.put, List.setIfInBounds_toArray, List.set_cons_zero, List.set_cons_succ])
            | (refine wpAnyH_ready (rs := [18]) (by kernel_rfl) (by simp) (AllReadyH.cons (by simp only [List.getElem?_toArray, List.getElem?_cons_succ, List.getElem?_cons_zero]; rfl) (fun K hK => ?_) AllReadyH.nil)
               go_simp
               first
                 | (fail)
               try go_wp2_with fail
               refine hK.out _ _ (by (first | (with_reducible exact KS.out _ (bdrew1 (Below.refl _ _))) | (with_reducible exact KS.out _ (below_call hHeld.1 hHeld.1.size hb9)) | (with_reducible exact hHeld))) (fun hHeld => ?_)
               clear hK K
               try simp only [Act.put, List.setIfInBounds_toArray, List.set_cons_zero, List.set_cons_succ])
          first
            | (refine wpAnyH_take (i := 19) (v := undef) (by simp only [List.getElem?_toArray, List.getElem?_cons_succ, List.getElem?_cons_zero]; rfl) (by kernel_rfl) (by kernel_rfl) (by kernel_rfl) (fun _ _ _ h => h) (Or.inr ⟨by rfl, rfl⟩) (by assumption) ?_; try simp only [Act.put, List.setIfInBounds_toArray, List.set_cons_zero, List.set_cons_succ])
            | (refine wpAnyH_take (i := 19) (v := ?_) (by simp only [List.getElem?_toArray, List.getElem?_cons_succ, List.getElem?_cons_zero]; rfl) (by kernel_rfl) (by kernel_rfl) (by kernel_rfl) (fun _ _ _ h => h) (Or.inl ⟨by rfl, ?_⟩) (by assumption) ?_
               rotate_left
               · (intro ww hSw; (try dsimp only at hSw); go_simp; (try with_reducible rfl))
               try simp only [Act.put, List.setIfInBounds_toArray, List.set_cons_zero, List.set_cons_succ])
            | (refine wpAnyH_ready (rs := [19]) (by kernel_rfl) (by simp) (AllReadyH.cons (by simp only [List.getElem?_toArray, List.getElem?_cons_succ, List.getElem?_cons_zero]; rfl) (fun K hK => ?_) AllReadyH.nil)
               go_simp
               first
                 | (fail)
               try go_wp2_with fail
               refine hK.out _ _ (by (first | (with_reducible exact KS.out _ (bdrew1 (Below.refl _ _))) | (with_reducible exact KS.out _ (below_call hHeld.1 hHeld.1.size hb9)) | (with_reducible exact hHeld))) (fun hHeld => ?_)
               clear hK K
               try simp only [Act.put, List.setIfInBounds_toArray, List.set_cons_zero, List.set_cons_succ])
          first
            | (refine wpAnyH_take (i := 20) (v := undef) (by simp only [List.getElem?_toArray, List.getElem?_cons_succ, List.getElem?_cons_zero]; rfl) (by kernel_rfl) (by kernel_rfl) (by kernel_rfl) (fun _ _ _ h => h) (Or.inr ⟨by rfl, rfl⟩) (by assumption) ?_; try simp only [Act.put, List.setIfInBounds_toArray, List.set_cons_zero, List.set_cons_succ])
            | (refine wpAnyH_take (i := 20) (v := ?_) (by simp only [List.getElem?_toArray, List.getElem?_cons_succ, List.getElem?_cons_zero]; rfl) (by kernel_rfl) (by kernel_rfl) (by kernel_rfl) (fun _ _ _ h => h) (Or.inl ⟨by rfl, ?_⟩) (by assumption) ?_
               rotate_left
               · (intro ww hSw; (try dsimp only at hSw); go_simp; (try with_reducible rfl))
               try simp only [Act.put, List.setIfInBounds_toArray, List.set_cons_zero, List.set_cons_succ])
            | (refine wpAnyH_ready (rs := [20]) (by kernel_rfl) (by simp) (AllReadyH.cons (by simp only [List.getElem?_toArray, List.getElem?_cons_succ, List.getElem?_cons_zero]; rfl) (fun K hK => ?_) AllReadyH.nil)
               go_simp
               first
                 | (fail)
               try go_wp2_with fail
               refine hK.out _ _ (by (first | (with_reducible exact KS.out _ (bdrew1 (Below.refl _ _))) | (with_reducible exact KS.out _ (below_call hHeld.1 hHeld.1.size hb9)) | (with_reducible exact hHeld))) (fun hHeld => ?_)
               clear hK K
               try simp only [Act.put, List.setIfInBounds_toArray, List.set_cons_zero, List.set_cons_succ])
          first
            | (refine wpAnyH_take (i := 21) (v := undef) (by simp only [List.getElem?_toArray, List.getElem?_cons_succ, List.getElem?_cons_zero]; rfl) (by kernel_rfl) (by kernel_rfl) (by kernel_rfl) (fun _ _ _ h => h) (Or.inr ⟨by rfl, rfl⟩) (by assumption) ?_; try simp only [Act.put, List.setIfInBounds_toArray, List.set_cons_zero, List.set_cons_succ])
            | (refine wpAnyH_take (i := 21) (v := ?_) (by simp only [List.getElem?_toArray, List.getElem?_cons_succ, List.getElem?_cons_zero]; rfl) (by kernel_rfl) (by kernel_rfl) (by kernel_rfl) (fun _ _ _ h => h) (Or.inl ⟨by rfl, ?_⟩) (by assumption) ?_
               rotate_left
               · (intro ww hSw; (try dsimp only at hSw); go_simp; (try with_reducible rfl))
               try simp only [Act.put, List.setIfInBounds_toArray, List.set_cons_zero, List.set_cons_succ])
            | (refine wpAnyH_ready (rs := [21]) (by kernel_rfl) (by simp) (AllReadyH.cons (by simp only [List.getElem?_toArray, List.getElem?_cons_succ, List.getElem?_cons_zero]; rfl) (fun K hK => ?_) AllReadyH.nil)
               go_simp
               first
                 | (fail)
               try go_wp2_with fail
               refine hK.out _ _ (by (first | (with_reducible exact KS.out _ (bdrew1 (Below.refl _ _))) | (with_reducible exact KS.out _ (below_call hHeld.1 hHeld.1.size hb9)) | (with_reducible exact hHeld))) (fun hHeld => ?_)
               clear hK K
               try simp only [Act.put, List.setIfInBounds_toArray, List.set_cons_zero, List.set_cons_succ])
          first
            | (refine wpAnyH_take (i := 22) (v := undef) (by simp only [List.getElem?_toArray, List.getElem?_cons_succ, List.getElem?_cons_zero]; rfl) (by kernel_rfl) (by kernel_rfl) (by kernel_rfl) (fun _ _ _ h => h) (Or.inr ⟨by rfl, rfl⟩) (by assumption) ?_; try simp only [Act.put, List.setIfInBounds_toArray, List.set_cons_zero, List.set_cons_succ])
            | (refine wpAnyH_take (i := 22) (v := ?_) (by simp only [List.getElem?_toArray, List.getElem?_cons_succ, List.getElem?_cons_zero]; rfl) (by kernel_rfl) (by kernel_rfl) (by kernel_rfl) (fun _ _ _ h => h) (Or.inl ⟨by rfl, ?_⟩) (by assumption) ?_
               rotate_left
               · (intro ww hSw; (try dsimp only at hSw); go_simp; (try with_reducible rfl))
               try simp only [Act.put, List.setIfInBounds_toArray, List.set_cons_zero, List.set_cons_succ])
            | (refine wpAnyH_ready (rs := [22]) (by kernel_rfl) (by simp) (AllReadyH.cons (by simp only [List.getElem?_toArray, List.getElem?_cons_succ, List.getElem?_cons_zero]; rfl) (fun K hK => ?_) AllReadyH.nil)
               go_simp
               first
                 | (fail)
               try go_wp2_with fail
               refine hK.out _ _ (by (first | (with_reducible exact KS.out _ (bdrew1 (Below.refl _ _))) | (with_reducible exact KS.out _ (below_call hHeld.1 hHeld.1.size hb9)) | (with_reducible exact hHeld))) (fun hHeld => ?_)
               clear hK K
               try simp only [Act.put, List.setIfInBounds_toArray, List.set_cons_zero, List.set_cons_succ])
          first
            | (refine wpAnyH_take (i := 23) (v := undef) (by simp only [List.getElem?_toArray, List.getElem?_cons_succ, List.getElem?_cons_zero]; rfl) (by kernel_rfl) (by kernel_rfl) (by kernel_rfl) (fun _ _ _ h => h) (Or.inr ⟨by rfl, rfl⟩) (by assumption) ?_; try simp only [Act.put, List.setIfInBounds_toArray, List.set_cons_zero, List.set_cons_succ])
            | (refine wpAnyH_take (i := 23) (v := ?_) (by simp only [List.getElem?_toArray, List.getElem?_cons_succ, List.getElem?_cons_zero]; rfl) (by kernel_rfl) (by kernel_rfl) (by kernel_rfl) (fun _ _ _ h => h) (Or.inl ⟨by rfl, ?_⟩) (by assumption) ?_
               rotate_left
               · (intro ww hSw; (try dsimp only at hSw); go_simp; (try with_reducible rfl))
               try simp only [Act.put, List.setIfInBounds_toArray, List.set_cons_zero, List.set_cons_succ])
            | (refine wpAnyH_ready (rs := [23]) (by kernel_rfl) (by simp) (AllReadyH.cons (by simp only [List.getElem?_toArray, List.getElem?_cons_succ, List.getElem?_cons_zero]; rfl) (fun K hK => ?_) AllReadyH.nil)
               go_simp
               first
                 | (fail)
               try go_wp2_with fail
               refine hK.out _ _ (by (first | (with_reducible exact KS.out _ (bdrew1 (Below.refl _ _))) | (with_reducible exact KS.out _ (below_call hHeld.1 hHeld.1.size hb9)) | (with_reducible exact hHeld))) (fun hHeld => ?_)
               clear hK K
               try simp only [Act.put, List.setIfInBounds_toArray, List.set_cons_zero, List.set_cons_succ])
          first
            | (refine wpAnyH_take (i := 24) (v := undef) (by simp only [List.getElem?_toArray, List.getElem?_cons_succ, List.getElem?_cons_zero]; rfl) (by kernel_rfl) (by kernel_rfl) (by kernel_rfl) (fun _ _ _ h => h) (Or.inr ⟨by rfl, rfl⟩) (by assumption) ?_; try simp only [Act.put, List.setIfInBounds_toArray, List.set_cons_zero, List.set_cons_succ])
            | (refine wpAnyH_take (i := 24) (v := ?_) (by simp only [List.getElem?_toArray, List.getElem?_cons_succ, List.getElem?_cons_zero]; rfl) (by kernel_rfl) (by kernel_rfl) (by kernel_rfl) (fun _ _ _ h => h) (Or.inl ⟨by rfl, ?_⟩) (by assumption) ?_
               rotate_left
               · (intro ww hSw; (try dsimp only at hSw); go_simp; (try with_reducible rfl))
               try simp only [Act.put, List.setIfInBounds_toArray, List.set_cons_zero, List.set_cons_succ])
            | (refine wpAnyH_ready (rs := [24]) (by kernel_rfl) (by simp) (AllReadyH.cons (by simp only [List.getElem?_toArray, List.getElem?_cons_succ, List.getElem?_cons_zero]; rfl) (fun K hK => ?_) AllReadyH.nil)
               go_simp
               first
                 | (fail)
               try go_wp2_with fail
               refine hK.out _ _ (by (first | (with_reducible exact KS.out _ (bdrew1 (Below.refl _ _))) | (with_reducible exact KS.out _ (below_call hHeld.1 hHeld.1.size hb9)) | (with_reducible exact hHeld))) (fun hHeld => ?_)
               clear hK K
               try simp only [Act.put, List.setIfInBounds_toArray, List.set_cons_zero, List.set_cons_succ])
          first
            | (refine wpAnyH_take (i := 25) (v := undef) (by simp only [List.getElem?_toArray, List.getElem?_cons_succ, List.getElem?_cons_zero]; rfl) (by kernel_rfl) (by kernel_rfl) (by kernel_rfl) (fun _ _ _ h => h) (Or.inr ⟨by rfl, rfl⟩) (by assumption) ?_; try simp only [Act.put, List.setIfInBounds_toArray, List.set_cons_zero, List.set_cons_succ])
            | (refine wpAnyH_take (i := 25) (v := ?_) (by simp only [List.getElem?_toArray, List.getElem?_cons_succ, List.getElem?_cons_zero]; rfl) (by kernel_rfl) (by kernel_rfl) (by kernel_rfl) (fun _ _ _ h => h) (Or.inl ⟨by rfl, ?_⟩) (by assumption) ?_
               rotate_left
               · (intro ww hSw; (try dsimp only at hSw); go_simp; (try with_reducible rfl))
               try simp only [Act.put, List.setIfInBounds_toArray, List.set_cons_zero, List.set_cons_succ])
            | (refine wpAnyH_ready (rs := [25]) (by kernel_rfl) (by simp) (AllReadyH.cons (by simp only [List.getElem?_toArray, List.getElem?_cons_succ, List.getElem?_cons_zero]; rfl) (fun K hK => ?_) AllReadyH.nil)
               go_simp
               first
                 | (fail)
               try go_wp2_with fail
               refine hK.out _ _ (by (first | (with_reducible exact KS.out _ (bdrew1 (Below.refl _ _))) | (with_reducible exact KS.out _ (below_call hHeld.1 hHeld.1.size hb9)) | (with_reducible exact hHeld))) (fun hHeld => ?_)
               clear hK K
               try simp only [Act.put, List.setIfInBounds_toArray, List.set_cons_zero, List.set_cons_succ])
          first
            | (refine wpAnyH_take (i := 26) (v := undef) (by simp only [List.getElem?_toArray, List.getElem?_cons_succ, List.getElem?_cons_zero]; rfl) (by kernel_rfl) (by kernel_rfl) (by kernel_rfl) (fun _ _ _ h => h) (Or.inr ⟨by rfl, rfl⟩) (by assumption) ?_; try simp only [Act.put, List.setIfInBounds_toArray, List.set_cons_zero, List.set_cons_succ])
            | (refine wpAnyH_take (i := 26) (v := ?_) (by simp only [List.getElem?_toArray, List.getElem?_cons_succ, List.getElem?_cons_zero]; rfl) (by kernel_rfl) (by kernel_rfl) (by kernel_rfl) (fun _ _ _ h => h) (Or.inl ⟨by rfl, ?_⟩) (by assumption) ?_
               rotate_left
               · (intro ww hSw; (try dsimp only at hSw); go_simp; (try with_reducible rfl))
               try simp only [Act.put, List.setIfInBounds_toArray, List.set_cons_zero, List.set_cons_succ])
            | (refine wpAnyH_ready (rs := [26]) (by kernel_rfl) (by simp) (AllReadyH.cons (by simp only [List.getElem?_toArray, List.getElem?_cons_succ, List.getElem?_cons_zero]; rfl) (fun K hK => ?_) AllReadyH.nil)
               go_simp
               first
                 | (fail)
               try go_wp2_with fail
               refine hK.out _ _ (by (first | (with_reducible exact KS.out _ (bdrew1 (Below.refl _ _))) | (with_reducible exact KS.out _ (below_call hHeld.1 hHeld.1.size hb9)) | (with_reducible exact hHeld))) (fun hHeld => ?_)
               clear hK K
               try simp only [Act.put, List.setIfInBounds_toArray, List.set_cons_zero, List.set_cons_succ])
          first
            | (refine wpAnyH_take (i := 27) (v := undef) (by simp only [List.getElem?_toArray, List.getElem?_cons_succ, List.getElem?_cons_zero]; rfl) (by kernel_rfl) (by kernel_rfl) (by kernel_rfl) (fun _ _ _ h => h) (Or.inr ⟨by rfl, rfl⟩) (by assumption) ?_; try simp only [Act.put, List.setIfInBounds_toArray, List.set_cons_zero, List.set_cons_succ])
            | (refine wpAnyH_take (i := 27) (v := ?_) (by simp only [List.getElem?_toArray, List.getElem?_cons_succ, List.getElem?_cons_zero]; rfl) (by kernel_rfl) (by kernel_rfl) (by kernel_rfl) (fun _ _ _ h => h) (Or.inl ⟨by rfl, ?_⟩) (by assumption) ?_
               rotate_left
               · (intro ww hSw; (try dsimp only at hSw); go_simp; (try with_reducible rfl))
               try simp only [Act.put, List.setIfInBounds_toArray, List.set_cons_zero, List.set_cons_succ])
            | (refine wpAnyH_ready (rs := [27]) (by kernel_rfl) (by simp) (AllReadyH.cons (by simp only [List.getElem?_toArray, List.getElem?_cons_succ, List.getElem?_cons_zero]; rfl) (fun K hK => ?_) AllReadyH.nil)
               go_simp
               first
                 | (fail)
               try go_wp2_with fail
               refine hK.out _ _ (by (first | (with_reducible exact KS.out _ (bdrew1 (Below.refl _ _))) | (with_reducible exact KS.out _ (below_call hHeld.1 hHeld.1.size hb9)) | (with_reducible exact hHeld))) (fun hHeld => ?_)
               clear hK K
               try simp only [Act.put, List.setIfInBounds_toArray, List.set_cons_zero, List.set_cons_succ])
          refine wpAnyH_done (by kernel_rfl) ?_ _
          refine NoPanic.normal ?_
          have hB9 := Lib.hid hHeld.1
          clear hHeld
          have B_5 := Lib.hid (below_call B_4.out B_4.out.size hB9.out)
          have H_5 := Lib.hid (H_4.out.call hB9.out)
          have A_5 := Lib.hid (A_4.out.call hB9.out)
          have D_5 := Lib.hid (D_4.out.call hB9.out)
          clear hB9 KS B_4 H_4 A_4 D_4
          go_wp2_with fail
          go_roundw
          case rel => exact ⟨m + 1, by omega, by go_num, by rw [HDM.out], H_5.out⟩
          case measure => simp [intOf]; omega
        · have hf5 : (f != 5) = false := by have := (not_congr DE.out).2 hp1; simp at this; simp [this]
          have HDM := Lib.hid (DNO.out hp1)
          generalize dnN z m = dn at *
          have he : (e != 5) = false := by have := (not_congr GE.out).2 hp2; simp at this; simp [this]
          obtain ⟨zk, zi⟩ := z
          have g1 := run_pleq zk zi 0 (roomOf x m)
          have g2 := run_pleq zk zi 1 m
          rw [decide_eq_false hp2] at g1
          rw [decide_eq_false hp1] at g2
          clear hp2
          clear hp1
          have hwm : IntKind.i64.wrap ((m : Int) + 1) = (m : Int) + 1 := IntWalk.i64_in _ (by omega)
          clear GE DE DY DNO
          have B_0 := Lib.hid HH.out.1
          have H_0 := Lib.hid HH.out
          clear HH HWR
          go_wp2_with fail
          clear hcH hlH
          have hcH := H_0.out.2.2
          have hlH := H_0.out.2.1
          refine (get_as (Shape.refl x) ⟨pd, some ⟨b, o, none⟩, pac, pk, pkc, some ⟨wb, wo, none⟩, pwc⟩ m k _ FT.out.right (HWA.out.below B_0.out (Nat.le_refl _)) hlt HR.out).mono ?_
          rintro e u1 ⟨q1, rfl, g1, b1⟩
          clear hcH hlH
          have B_1 := Lib.hid (bl B_0.out b1)
          have H_1 := Lib.hid (H_0.out.call b1)
          clear b1 B_0 H_0 g1
          have hcH := H_1.out.2.2
          have hlH := H_1.out.2.1
          go_wp2_with fail
          clear hcH hlH
          have s2 : (u1.alloc (.cells #[.slice q1.d.ex x.d.exits.length q1.d.exc, .slice q1.d.pl x.d.players.length q1.d.plc, .slice q1.d.co x.d.coins.length q1.d.coc, .slice q1.d.it x.d.items.length q1.d.itc, .slice q1.d.bo x.d.boxes.length q1.d.boc, .int .i64 x.d.room, .int .i64 x.d.player, .int .i64 x.d.box, .slice q1.at_ x.at_.length q1.atc, .slice q1.co x.coins.length q1.coc, .slice q1.wh x.wher.length q1.whc] 29)).heap.size = u1.heap.size + 1 := by simp
          have B_2 := Lib.hid (B_1.out.alloc B_1.out.size (.cells #[.slice q1.d.ex x.d.exits.length q1.d.exc, .slice q1.d.pl x.d.players.length q1.d.plc, .slice q1.d.co x.d.coins.length q1.d.coc, .slice q1.d.it x.d.items.length q1.d.itc, .slice q1.d.bo x.d.boxes.length q1.d.boc, .int .i64 x.d.room, .int .i64 x.d.player, .int .i64 x.d.box, .slice q1.at_ x.at_.length q1.atc, .slice q1.co x.coins.length q1.coc, .slice q1.wh x.wher.length q1.whc] 29))
          have H_2 := Lib.hid (H_1.out.alloc (.cells #[.slice q1.d.ex x.d.exits.length q1.d.exc, .slice q1.d.pl x.d.players.length q1.d.plc, .slice q1.d.co x.d.coins.length q1.d.coc, .slice q1.d.it x.d.items.length q1.d.itc, .slice q1.d.bo x.d.boxes.length q1.d.boc, .int .i64 x.d.room, .int .i64 x.d.player, .int .i64 x.d.box, .slice q1.at_ x.at_.length q1.atc, .slice q1.co x.coins.length q1.coc, .slice q1.wh x.wher.length q1.whc] 29))
          have A_2 := Lib.hid (Holds.newb (w := w) (A := #[.slice q1.d.ex x.d.exits.length q1.d.exc, .slice q1.d.pl x.d.players.length q1.d.plc, .slice q1.d.co x.d.coins.length q1.d.coc, .slice q1.d.it x.d.items.length q1.d.itc, .slice q1.d.bo x.d.boxes.length q1.d.boc, .int .i64 x.d.room, .int .i64 x.d.player, .int .i64 x.d.box, .slice q1.at_ x.at_.length q1.atc, .slice q1.co x.coins.length q1.coc, .slice q1.wh x.wher.length q1.whc]) (t := 29) (n := u1.heap.size) B_1.out rfl)
          clear B_1 H_1
          generalize u1.alloc (.cells #[.slice q1.d.ex x.d.exits.length q1.d.exc, .slice q1.d.pl x.d.players.length q1.d.plc, .slice q1.d.co x.d.coins.length q1.d.coc, .slice q1.d.it x.d.items.length q1.d.itc, .slice q1.d.bo x.d.boxes.length q1.d.boc, .int .i64 x.d.room, .int .i64 x.d.player, .int .i64 x.d.box, .slice q1.at_ x.at_.length q1.atc, .slice q1.co x.coins.length q1.coc, .slice q1.wh x.wher.length q1.whc] 29) = V2 at *
          have hcH := H_2.out.2.2
          have hlH := H_2.out.2.1
          have hcA := A_2.out.2.2
          have hlA := A_2.out.2.1
          refine (drop_as (Shape.refl x) ⟨pd, some ⟨b, o, none⟩, pac, pk, pkc, some ⟨wb, wo, none⟩, pwc⟩ m k _ FT.out.right (HWA.out.below B_2.out (Nat.le_refl _)) hlt HP.out).mono ?_
          rintro e u3 ⟨q3, rfl, g3, b3⟩
          clear hcH hlH hcA hlA
          have B_3 := Lib.hid (bl B_2.out b3)
          have H_3 := Lib.hid (H_2.out.call b3)
          have A_3 := Lib.hid (A_2.out.call b3)
          clear b3 B_2 H_2 A_2 g3
          have hcH := H_3.out.2.2
          have hlH := H_3.out.2.1
          have hcA := A_3.out.2.2
          have hlA := A_3.out.2.1
          go_wp2_with fail
          clear hcH hlH hcA hlA
          have s4 : (u3.alloc (.cells #[.slice q3.d.ex x.d.exits.length q3.d.exc, .slice q3.d.pl x.d.players.length q3.d.plc, .slice q3.d.co x.d.coins.length q3.d.coc, .slice q3.d.it x.d.items.length q3.d.itc, .slice q3.d.bo x.d.boxes.length q3.d.boc, .int .i64 x.d.room, .int .i64 x.d.player, .int .i64 x.d.box, .slice q3.at_ x.at_.length q3.atc, .slice q3.co x.coins.length q3.coc, .slice q3.wh x.wher.length q3.whc] 29)).heap.size = u3.heap.size + 1 := by simp
          have B_4 := Lib.hid (B_3.out.alloc B_3.out.size (.cells #[.slice q3.d.ex x.d.exits.length q3.d.exc, .slice q3.d.pl x.d.players.length q3.d.plc, .slice q3.d.co x.d.coins.length q3.d.coc, .slice q3.d.it x.d.items.length q3.d.itc, .slice q3.d.bo x.d.boxes.length q3.d.boc, .int .i64 x.d.room, .int .i64 x.d.player, .int .i64 x.d.box, .slice q3.at_ x.at_.length q3.atc, .slice q3.co x.coins.length q3.coc, .slice q3.wh x.wher.length q3.whc] 29))
          have H_4 := Lib.hid (H_3.out.alloc (.cells #[.slice q3.d.ex x.d.exits.length q3.d.exc, .slice q3.d.pl x.d.players.length q3.d.plc, .slice q3.d.co x.d.coins.length q3.d.coc, .slice q3.d.it x.d.items.length q3.d.itc, .slice q3.d.bo x.d.boxes.length q3.d.boc, .int .i64 x.d.room, .int .i64 x.d.player, .int .i64 x.d.box, .slice q3.at_ x.at_.length q3.atc, .slice q3.co x.coins.length q3.coc, .slice q3.wh x.wher.length q3.whc] 29))
          have A_4 := Lib.hid (A_3.out.alloc (.cells #[.slice q3.d.ex x.d.exits.length q3.d.exc, .slice q3.d.pl x.d.players.length q3.d.plc, .slice q3.d.co x.d.coins.length q3.d.coc, .slice q3.d.it x.d.items.length q3.d.itc, .slice q3.d.bo x.d.boxes.length q3.d.boc, .int .i64 x.d.room, .int .i64 x.d.player, .int .i64 x.d.box, .slice q3.at_ x.at_.length q3.atc, .slice q3.co x.coins.length q3.coc, .slice q3.wh x.wher.length q3.whc] 29))
          have D_4 := Lib.hid (Holds.newb (w := w) (A := #[.slice q3.d.ex x.d.exits.length q3.d.exc, .slice q3.d.pl x.d.players.length q3.d.plc, .slice q3.d.co x.d.coins.length q3.d.coc, .slice q3.d.it x.d.items.length q3.d.itc, .slice q3.d.bo x.d.boxes.length q3.d.boc, .int .i64 x.d.room, .int .i64 x.d.player, .int .i64 x.d.box, .slice q3.at_ x.at_.length q3.atc, .slice q3.co x.coins.length q3.coc, .slice q3.wh x.wher.length q3.whc]) (t := 29) (n := u3.heap.size) B_3.out rfl)
          clear B_3 H_3 A_3
          generalize u3.alloc (.cells #[.slice q3.d.ex x.d.exits.length q3.d.exc, .slice q3.d.pl x.d.players.length q3.d.plc, .slice q3.d.co x.d.coins.length q3.d.coc, .slice q3.d.it x.d.items.length q3.d.itc, .slice q3.d.bo x.d.boxes.length q3.d.boc, .int .i64 x.d.room, .int .i64 x.d.player, .int .i64 x.d.box, .slice q3.at_ x.at_.length q3.atc, .slice q3.co x.coins.length q3.coc, .slice q3.wh x.wher.length q3.whc] 29) = V4 at *
          have hcH := H_4.out.2.2
          have hlH := H_4.out.2.1
          have hcA := A_4.out.2.2
          have hlA := A_4.out.2.1
          have hcD := D_4.out.2.2
          have hlD := D_4.out.2.1
          clear hcH hlH hcA hlA hcD hlD
          generalize ((roomOf x m : Nat) : Int) = rm at *
          have KS : Hid (∀ w', Below V4.heap.size V4 w' → Below V4.heap.size V4 w' ∧ (∀ i, w'.cell? ⟨w.heap.size, i, none⟩ = (#[.slice pd.ex x.d.exits.length pd.exc, .slice pd.pl x.d.players.length pd.plc, .slice pd.co x.d.coins.length pd.coc, .slice pd.it x.d.items.length pd.itc, .slice pd.bo x.d.boxes.length pd.boc, .int .i64 x.d.room, .int .i64 x.d.player, .int .i64 x.d.box, .slice (some ⟨b, o, none⟩) x.at_.length pac, .slice pk x.coins.length pkc, .slice (some ⟨wb, wo, none⟩) x.wher.length pwc][i]? : Option Value)) ∧ w'.cell? ⟨b, o + m, none⟩ = some (.int .i64 rm) ∧ w'.cell? ⟨wb, wo + k * 2, none⟩ = some (.int .i64 zk) ∧ w'.cell? ⟨wb, wo + k * 2 + 1, none⟩ = some (.int .i64 zi)) := Lib.hid (fun w' hb => ⟨hb, fun i => (hb.cell (p := ⟨w.heap.size, i, none⟩) H_4.out.2.1).trans (H_4.out.2.2 i), cell_call (cell_call C2.out B_4.out) hb, cell_call (cell_call C0.out B_4.out) hb, cell_call (cell_call C1.out B_4.out) hb⟩)
          refine wp_region_noPanic ?_
          refine wp_region_held_drew (S := (fun w' => Below V4.heap.size V4 w' ∧ (∀ i, w'.cell? ⟨w.heap.size, i, none⟩ = (#[.slice pd.ex x.d.exits.length pd.exc, .slice pd.pl x.d.players.length pd.plc, .slice pd.co x.d.coins.length pd.coc, .slice pd.it x.d.items.length pd.itc, .slice pd.bo x.d.boxes.length pd.boc, .int .i64 x.d.room, .int .i64 x.d.player, .int .i64 x.d.box, .slice (some ⟨b, o, none⟩) x.at_.length pac, .slice pk x.coins.length pkc, .slice (some ⟨wb, wo, none⟩) x.wher.length pwc][i]? : Option Value)) ∧ w'.cell? ⟨b, o + m, none⟩ = some (.int .i64 rm) ∧ w'.cell? ⟨wb, wo + k * 2, none⟩ = some (.int .i64 zk) ∧ w'.cell? ⟨wb, wo + k * 2 + 1, none⟩ = some (.int .i64 zi))) (by kernel_rfl) (by (first | (with_reducible exact KS.out _ (bdrew1 (Below.refl _ _))) | (with_reducible exact KS.out _ (below_call hHeld.1 hHeld.1.size hb9)) | (with_reducible exact hHeld))) (fun hHeld => ?_)
          first
            | (refine wpAnyH_take (i := 0) (v := undef) (by simp only [List.getElem?_toArray, List.getElem?_cons_zero]; rfl) (by kernel_rfl) (by kernel_rfl) (by kernel_rfl) (fun _ _ _ h => h) (Or.inr ⟨by rfl, rfl⟩) (by assumption) ?_; try simp only [Act.put, List.setIfInBounds_toArray, List.set_cons_zero, List.set_cons_succ])
            | (refine wpAnyH_take (i := 0) (v := ?_) (by simp only [List.getElem?_toArray, List.getElem?_cons_zero]; rfl) (by kernel_rfl) (by kernel_rfl) (by kernel_rfl) (fun _ _ _ h => h) (Or.inl ⟨by rfl, ?_⟩) (by assumption) ?_
               rotate_left
               · (intro ww hSw; (try dsimp only at hSw); go_simp; (try with_reducible rfl))
               try simp only [Act.put, List.setIfInBounds_toArray, List.set_cons_zero, List.set_cons_succ])
            | (refine wpAnyH_ready (rs := [0]) (by kernel_rfl) (by simp) (AllReadyH.cons (by simp only [List.getElem?_toArray, List.getElem?_cons_succ, List.getElem?_cons_zero]; rfl) (fun K hK => ?_) AllReadyH.nil)
               go_simp
               first
                 | (fail)
               try go_wp2_with fail
               refine hK.out _ _ (by (first | (with_reducible exact KS.out _ (bdrew1 (Below.refl _ _))) | (with_reducible exact KS.out _ (below_call hHeld.1 hHeld.1.size hb9)) | (with_reducible exact hHeld))) (fun hHeld => ?_)
               clear hK K
               try simp only [Act.put, List.setIfInBounds_toArray, List.set_cons_zero, List.set_cons_succ])
          first
            | (refine wpAnyH_take (i := 1) (v := undef) (by simp only [List.getElem?_toArray, List.getElem?_cons_succ, List.getElem?_cons_zero]; rfl) (by kernel_rfl) (by kernel_rfl) (by kernel_rfl) (fun _ _ _ h => h) (Or.inr ⟨by rfl, rfl⟩) (by assumption) ?_; try simp only [Act.put, List.setIfInBounds_toArray, List.set_cons_zero, List.set_cons_succ])
            | (refine wpAnyH_take (i := 1) (v := ?_) (by simp only [List.getElem?_toArray, List.getElem?_cons_succ, List.getElem?_cons_zero]; rfl) (by kernel_rfl) (by kernel_rfl) (by kernel_rfl) (fun _ _ _ h => h) (Or.inl ⟨by rfl, ?_⟩) (by assumption) ?_
               rotate_left
               · (intro ww hSw; (try dsimp only at hSw); go_simp; (try with_reducible rfl))
               try simp only [Act.put, List.setIfInBounds_toArray, List.set_cons_zero, List.set_cons_succ])
            | (refine wpAnyH_ready (rs := [1]) (by kernel_rfl) (by simp) (AllReadyH.cons (by simp only [List.getElem?_toArray, List.getElem?_cons_succ, List.getElem?_cons_zero]; rfl) (fun K hK => ?_) AllReadyH.nil)
               go_simp
               first
                 | (fail)
               try go_wp2_with fail
               refine hK.out _ _ (by (first | (with_reducible exact KS.out _ (bdrew1 (Below.refl _ _))) | (with_reducible exact KS.out _ (below_call hHeld.1 hHeld.1.size hb9)) | (with_reducible exact hHeld))) (fun hHeld => ?_)
               clear hK K
               try simp only [Act.put, List.setIfInBounds_toArray, List.set_cons_zero, List.set_cons_succ])
          first
            | (refine wpAnyH_take (i := 2) (v := undef) (by simp only [List.getElem?_toArray, List.getElem?_cons_succ, List.getElem?_cons_zero]; rfl) (by kernel_rfl) (by kernel_rfl) (by kernel_rfl) (fun _ _ _ h => h) (Or.inr ⟨by rfl, rfl⟩) (by assumption) ?_; try simp only [Act.put, List.setIfInBounds_toArray, List.set_cons_zero, List.set_cons_succ])
            | (refine wpAnyH_take (i := 2) (v := ?_) (by simp only [List.getElem?_toArray, List.getElem?_cons_succ, List.getElem?_cons_zero]; rfl) (by kernel_rfl) (by kernel_rfl) (by kernel_rfl) (fun _ _ _ h => h) (Or.inl ⟨by rfl, ?_⟩) (by assumption) ?_
               rotate_left
               · (intro ww hSw; (try dsimp only at hSw); go_simp; (try with_reducible rfl))
               try simp only [Act.put, List.setIfInBounds_toArray, List.set_cons_zero, List.set_cons_succ])
            | (refine wpAnyH_ready (rs := [2]) (by kernel_rfl) (by simp) (AllReadyH.cons (by simp only [List.getElem?_toArray, List.getElem?_cons_succ, List.getElem?_cons_zero]; rfl) (fun K hK => ?_) AllReadyH.nil)
               go_simp
               first
                 | (fail)
               try go_wp2_with fail
               refine hK.out _ _ (by (first | (with_reducible exact KS.out _ (bdrew1 (Below.refl _ _))) | (with_reducible exact KS.out _ (below_call hHeld.1 hHeld.1.size hb9)) | (with_reducible exact hHeld))) (fun hHeld => ?_)
               clear hK K
               try simp only [Act.put, List.setIfInBounds_toArray, List.set_cons_zero, List.set_cons_succ])
          first
            | (refine wpAnyH_take (i := 3) (v := undef) (by simp only [List.getElem?_toArray, List.getElem?_cons_succ, List.getElem?_cons_zero]; rfl) (by kernel_rfl) (by kernel_rfl) (by kernel_rfl) (fun _ _ _ h => h) (Or.inr ⟨by rfl, rfl⟩) (by assumption) ?_; try simp only [Act.put, List.setIfInBounds_toArray, List.set_cons_zero, List.set_cons_succ])
            | (refine wpAnyH_take (i := 3) (v := ?_) (by simp only [List.getElem?_toArray, List.getElem?_cons_succ, List.getElem?_cons_zero]; rfl) (by kernel_rfl) (by kernel_rfl) (by kernel_rfl) (fun _ _ _ h => h) (Or.inl ⟨by rfl, ?_⟩) (by assumption) ?_
               rotate_left
               · (intro ww hSw; (try dsimp only at hSw); go_simp; (try with_reducible rfl))
               try simp only [Act.put, List.setIfInBounds_toArray, List.set_cons_zero, List.set_cons_succ])
            | (refine wpAnyH_ready (rs := [3]) (by kernel_rfl) (by simp) (AllReadyH.cons (by simp only [List.getElem?_toArray, List.getElem?_cons_succ, List.getElem?_cons_zero]; rfl) (fun K hK => ?_) AllReadyH.nil)
               go_simp
               first
                 | (fail)
               try go_wp2_with fail
               refine hK.out _ _ (by (first | (with_reducible exact KS.out _ (bdrew1 (Below.refl _ _))) | (with_reducible exact KS.out _ (below_call hHeld.1 hHeld.1.size hb9)) | (with_reducible exact hHeld))) (fun hHeld => ?_)
               clear hK K
               try simp only [Act.put, List.setIfInBounds_toArray, List.set_cons_zero, List.set_cons_succ])
          first
            | (refine wpAnyH_take (i := 4) (v := undef) (by simp only [List.getElem?_toArray, List.getElem?_cons_succ, List.getElem?_cons_zero]; rfl) (by kernel_rfl) (by kernel_rfl) (by kernel_rfl) (fun _ _ _ h => h) (Or.inr ⟨by rfl, rfl⟩) (by assumption) ?_; try simp only [Act.put, List.setIfInBounds_toArray, List.set_cons_zero, List.set_cons_succ])
            | (refine wpAnyH_take (i := 4) (v := ?_) (by simp only [List.getElem?_toArray, List.getElem?_cons_succ, List.getElem?_cons_zero]; rfl) (by kernel_rfl) (by kernel_rfl) (by kernel_rfl) (fun _ _ _ h => h) (Or.inl ⟨by rfl, ?_⟩) (by assumption) ?_
               rotate_left
               · (intro ww hSw; (try dsimp only at hSw); go_simp; (try with_reducible rfl))
               try simp only [Act.put, List.setIfInBounds_toArray, List.set_cons_zero, List.set_cons_succ])
            | (refine wpAnyH_ready (rs := [4]) (by kernel_rfl) (by simp) (AllReadyH.cons (by simp only [List.getElem?_toArray, List.getElem?_cons_succ, List.getElem?_cons_zero]; rfl) (fun K hK => ?_) AllReadyH.nil)
               go_simp
               first
                 | (fail)
               try go_wp2_with fail
               refine hK.out _ _ (by (first | (with_reducible exact KS.out _ (bdrew1 (Below.refl _ _))) | (with_reducible exact KS.out _ (below_call hHeld.1 hHeld.1.size hb9)) | (with_reducible exact hHeld))) (fun hHeld => ?_)
               clear hK K
               try simp only [Act.put, List.setIfInBounds_toArray, List.set_cons_zero, List.set_cons_succ])
          first
            | (refine wpAnyH_take (i := 5) (v := undef) (by simp only [List.getElem?_toArray, List.getElem?_cons_succ, List.getElem?_cons_zero]; rfl) (by kernel_rfl) (by kernel_rfl) (by kernel_rfl) (fun _ _ _ h => h) (Or.inr ⟨by rfl, rfl⟩) (by assumption) ?_; try simp only [Act.put, List.setIfInBounds_toArray, List.set_cons_zero, List.set_cons_succ])
            | (refine wpAnyH_take (i := 5) (v := ?_) (by simp only [List.getElem?_toArray, List.getElem?_cons_succ, List.getElem?_cons_zero]; rfl) (by kernel_rfl) (by kernel_rfl) (by kernel_rfl) (fun _ _ _ h => h) (Or.inl ⟨by rfl, ?_⟩) (by assumption) ?_
               rotate_left
               · (intro ww hSw; (try dsimp only at hSw); go_simp; (try with_reducible rfl))
               try simp only [Act.put, List.setIfInBounds_toArray, List.set_cons_zero, List.set_cons_succ])
            | (refine wpAnyH_ready (rs := [5]) (by kernel_rfl) (by simp) (AllReadyH.cons (by simp only [List.getElem?_toArray, List.getElem?_cons_succ, List.getElem?_cons_zero]; rfl) (fun K hK => ?_) AllReadyH.nil)
               go_simp
               first
                 | (fail)
               try go_wp2_with fail
               refine hK.out _ _ (by (first | (with_reducible exact KS.out _ (bdrew1 (Below.refl _ _))) | (with_reducible exact KS.out _ (below_call hHeld.1 hHeld.1.size hb9)) | (with_reducible exact hHeld))) (fun hHeld => ?_)
               clear hK K
               try simp only [Act.put, List.setIfInBounds_toArray, List.set_cons_zero, List.set_cons_succ])
          first
            | (refine wpAnyH_take (i := 6) (v := undef) (by simp only [List.getElem?_toArray, List.getElem?_cons_succ, List.getElem?_cons_zero]; rfl) (by kernel_rfl) (by kernel_rfl) (by kernel_rfl) (fun _ _ _ h => h) (Or.inr ⟨by rfl, rfl⟩) (by assumption) ?_; try simp only [Act.put, List.setIfInBounds_toArray, List.set_cons_zero, List.set_cons_succ])
            | (refine wpAnyH_take (i := 6) (v := ?_) (by simp only [List.getElem?_toArray, List.getElem?_cons_succ, List.getElem?_cons_zero]; rfl) (by kernel_rfl) (by kernel_rfl) (by kernel_rfl) (fun _ _ _ h => h) (Or.inl ⟨by rfl, ?_⟩) (by assumption) ?_
               rotate_left
               · (intro ww hSw; (try dsimp only at hSw); go_simp; (try with_reducible rfl))
               try simp only [Act.put, List.setIfInBounds_toArray, List.set_cons_zero, List.set_cons_succ])
            | (refine wpAnyH_ready (rs := [6]) (by kernel_rfl) (by simp) (AllReadyH.cons (by simp only [List.getElem?_toArray, List.getElem?_cons_succ, List.getElem?_cons_zero]; rfl) (fun K hK => ?_) AllReadyH.nil)
               go_simp
               first
                 | (fail)
               try go_wp2_with fail
               refine hK.out _ _ (by (first | (with_reducible exact KS.out _ (bdrew1 (Below.refl _ _))) | (with_reducible exact KS.out _ (below_call hHeld.1 hHeld.1.size hb9)) | (with_reducible exact hHeld))) (fun hHeld => ?_)
               clear hK K
               try simp only [Act.put, List.setIfInBounds_toArray, List.set_cons_zero, List.set_cons_succ])
          first
            | (refine wpAnyH_take (i := 7) (v := undef) (by simp only [List.getElem?_toArray, List.getElem?_cons_succ, List.getElem?_cons_zero]; rfl) (by kernel_rfl) (by kernel_rfl) (by kernel_rfl) (fun _ _ _ h => h) (Or.inr ⟨by rfl, rfl⟩) (by assumption) ?_; try simp only [Act.put, List.setIfInBounds_toArray, List.set_cons_zero, List.set_cons_succ])
            | (refine wpAnyH_take (i := 7) (v := ?_) (by simp only [List.getElem?_toArray, List.getElem?_cons_succ, List.getElem?_cons_zero]; rfl) (by kernel_rfl) (by kernel_rfl) (by kernel_rfl) (fun _ _ _ h => h) (Or.inl ⟨by rfl, ?_⟩) (by assumption) ?_
               rotate_left
               · (intro ww hSw; (try dsimp only at hSw); go_simp; (try with_reducible rfl))
               try simp only [Act.put, List.setIfInBounds_toArray, List.set_cons_zero, List.set_cons_succ])
            | (refine wpAnyH_ready (rs := [7]) (by kernel_rfl) (by simp) (AllReadyH.cons (by simp only [List.getElem?_toArray, List.getElem?_cons_succ, List.getElem?_cons_zero]; rfl) (fun K hK => ?_) AllReadyH.nil)
               go_simp
               first
                 | (fail)
               try go_wp2_with fail
               refine hK.out _ _ (by (first | (with_reducible exact KS.out _ (bdrew1 (Below.refl _ _))) | (with_reducible exact KS.out _ (below_call hHeld.1 hHeld.1.size hb9)) | (with_reducible exact hHeld))) (fun hHeld => ?_)
               clear hK K
               try simp only [Act.put, List.setIfInBounds_toArray, List.set_cons_zero, List.set_cons_succ])
          first
            | (refine wpAnyH_take (i := 8) (v := undef) (by simp only [List.getElem?_toArray, List.getElem?_cons_succ, List.getElem?_cons_zero]; rfl) (by kernel_rfl) (by kernel_rfl) (by kernel_rfl) (fun _ _ _ h => h) (Or.inr ⟨by rfl, rfl⟩) (by assumption) ?_; try simp only [Act.put, List.setIfInBounds_toArray, List.set_cons_zero, List.set_cons_succ])
            | (refine wpAnyH_take (i := 8) (v := ?_) (by simp only [List.getElem?_toArray, List.getElem?_cons_succ, List.getElem?_cons_zero]; rfl) (by kernel_rfl) (by kernel_rfl) (by kernel_rfl) (fun _ _ _ h => h) (Or.inl ⟨by rfl, ?_⟩) (by assumption) ?_
               rotate_left
               · (intro ww hSw; (try dsimp only at hSw); go_simp; (try with_reducible rfl))
               try simp only [Act.put, List.setIfInBounds_toArray, List.set_cons_zero, List.set_cons_succ])
            | (refine wpAnyH_ready (rs := [8]) (by kernel_rfl) (by simp) (AllReadyH.cons (by simp only [List.getElem?_toArray, List.getElem?_cons_succ, List.getElem?_cons_zero]; rfl) (fun K hK => ?_) AllReadyH.nil)
               go_simp
               first
                 | (fail)
               try go_wp2_with fail
               refine hK.out _ _ (by (first | (with_reducible exact KS.out _ (bdrew1 (Below.refl _ _))) | (with_reducible exact KS.out _ (below_call hHeld.1 hHeld.1.size hb9)) | (with_reducible exact hHeld))) (fun hHeld => ?_)
               clear hK K
               try simp only [Act.put, List.setIfInBounds_toArray, List.set_cons_zero, List.set_cons_succ])
          first
            | (refine wpAnyH_take (i := 9) (v := undef) (by simp only [List.getElem?_toArray, List.getElem?_cons_succ, List.getElem?_cons_zero]; rfl) (by kernel_rfl) (by kernel_rfl) (by kernel_rfl) (fun _ _ _ h => h) (Or.inr ⟨by rfl, rfl⟩) (by assumption) ?_; try simp only [Act.put, List.setIfInBounds_toArray, List.set_cons_zero, List.set_cons_succ])
            | (refine wpAnyH_take (i := 9) (v := ?_) (by simp only [List.getElem?_toArray, List.getElem?_cons_succ, List.getElem?_cons_zero]; rfl) (by kernel_rfl) (by kernel_rfl) (by kernel_rfl) (fun _ _ _ h => h) (Or.inl ⟨by rfl, ?_⟩) (by assumption) ?_
               rotate_left
               · (intro ww hSw; (try dsimp only at hSw); go_simp; (try with_reducible rfl))
               try simp only [Act.put, List.setIfInBounds_toArray, List.set_cons_zero, List.set_cons_succ])
            | (refine wpAnyH_ready (rs := [9]) (by kernel_rfl) (by simp) (AllReadyH.cons (by simp only [List.getElem?_toArray, List.getElem?_cons_succ, List.getElem?_cons_zero]; rfl) (fun K hK => ?_) AllReadyH.nil)
               go_simp
               first
                 | (fail)
               try go_wp2_with fail
               refine hK.out _ _ (by (first | (with_reducible exact KS.out _ (bdrew1 (Below.refl _ _))) | (with_reducible exact KS.out _ (below_call hHeld.1 hHeld.1.size hb9)) | (with_reducible exact hHeld))) (fun hHeld => ?_)
               clear hK K
               try simp only [Act.put, List.setIfInBounds_toArray, List.set_cons_zero, List.set_cons_succ])
          first
            | (refine wpAnyH_take (i := 10) (v := undef) (by simp only [List.getElem?_toArray, List.getElem?_cons_succ, List.getElem?_cons_zero]; rfl) (by kernel_rfl) (by kernel_rfl) (by kernel_rfl) (fun _ _ _ h => h) (Or.inr ⟨by rfl, rfl⟩) (by assumption) ?_; try simp only [Act.put, List.setIfInBounds_toArray, List.set_cons_zero, List.set_cons_succ])
            | (refine wpAnyH_take (i := 10) (v := ?_) (by simp only [List.getElem?_toArray, List.getElem?_cons_succ, List.getElem?_cons_zero]; rfl) (by kernel_rfl) (by kernel_rfl) (by kernel_rfl) (fun _ _ _ h => h) (Or.inl ⟨by rfl, ?_⟩) (by assumption) ?_
               rotate_left
               · (intro ww hSw; (try dsimp only at hSw); go_simp; (try with_reducible rfl))
               try simp only [Act.put, List.setIfInBounds_toArray, List.set_cons_zero, List.set_cons_succ])
            | (refine wpAnyH_ready (rs := [10]) (by kernel_rfl) (by simp) (AllReadyH.cons (by simp only [List.getElem?_toArray, List.getElem?_cons_succ, List.getElem?_cons_zero]; rfl) (fun K hK => ?_) AllReadyH.nil)
               go_simp
               first
                 | (fail)
               try go_wp2_with fail
               refine hK.out _ _ (by (first | (with_reducible exact KS.out _ (bdrew1 (Below.refl _ _))) | (with_reducible exact KS.out _ (below_call hHeld.1 hHeld.1.size hb9)) | (with_reducible exact hHeld))) (fun hHeld => ?_)
               clear hK K
               try simp only [Act.put, List.setIfInBounds_toArray, List.set_cons_zero, List.set_cons_succ])
          first
            | (refine wpAnyH_take (i := 11) (v := undef) (by simp only [List.getElem?_toArray, List.getElem?_cons_succ, List.getElem?_cons_zero]; rfl) (by kernel_rfl) (by kernel_rfl) (by kernel_rfl) (fun _ _ _ h => h) (Or.inr ⟨by rfl, rfl⟩) (by assumption) ?_; try simp only [Act.put, List.setIfInBounds_toArray, List.set_cons_zero, List.set_cons_succ])
            | (refine wpAnyH_take (i := 11) (v := ?_) (by simp only [List.getElem?_toArray, List.getElem?_cons_succ, List.getElem?_cons_zero]; rfl) (by kernel_rfl) (by kernel_rfl) (by kernel_rfl) (fun _ _ _ h => h) (Or.inl ⟨by rfl, ?_⟩) (by assumption) ?_
               rotate_left
               · (intro ww hSw; (try dsimp only at hSw); go_simp; (try with_reducible rfl))
               try simp only [Act.put, List.setIfInBounds_toArray, List.set_cons_zero, List.set_cons_succ])
            | (refine wpAnyH_ready (rs := [11]) (by kernel_rfl) (by simp) (AllReadyH.cons (by simp only [List.getElem?_toArray, List.getElem?_cons_succ, List.getElem?_cons_zero]; rfl) (fun K hK => ?_) AllReadyH.nil)
               go_simp
               first
                 | (fail)
               try go_wp2_with fail
               refine hK.out _ _ (by (first | (with_reducible exact KS.out _ (bdrew1 (Below.refl _ _))) | (with_reducible exact KS.out _ (below_call hHeld.1 hHeld.1.size hb9)) | (with_reducible exact hHeld))) (fun hHeld => ?_)
               clear hK K
               try simp only [Act.put, List.setIfInBounds_toArray, List.set_cons_zero, List.set_cons_succ])
          first
            | (refine wpAnyH_take (i := 12) (v := undef) (by simp only [List.getElem?_toArray, List.getElem?_cons_succ, List.getElem?_cons_zero]; rfl) (by kernel_rfl) (by kernel_rfl) (by kernel_rfl) (fun _ _ _ h => h) (Or.inr ⟨by rfl, rfl⟩) (by assumption) ?_; try simp only [Act.put, List.setIfInBounds_toArray, List.set_cons_zero, List.set_cons_succ])
            | (refine wpAnyH_take (i := 12) (v := ?_) (by simp only [List.getElem?_toArray, List.getElem?_cons_succ, List.getElem?_cons_zero]; rfl) (by kernel_rfl) (by kernel_rfl) (by kernel_rfl) (fun _ _ _ h => h) (Or.inl ⟨by rfl, ?_⟩) (by assumption) ?_
               rotate_left
               · (intro ww hSw; (try dsimp only at hSw); go_simp; (try with_reducible rfl))
               try simp only [Act.put, List.setIfInBounds_toArray, List.set_cons_zero, List.set_cons_succ])
            | (refine wpAnyH_ready (rs := [12]) (by kernel_rfl) (by simp) (AllReadyH.cons (by simp only [List.getElem?_toArray, List.getElem?_cons_succ, List.getElem?_cons_zero]; rfl) (fun K hK => ?_) AllReadyH.nil)
               go_simp
               first
                 | (fail)
               try go_wp2_with fail
               refine hK.out _ _ (by (first | (with_reducible exact KS.out _ (bdrew1 (Below.refl _ _))) | (with_reducible exact KS.out _ (below_call hHeld.1 hHeld.1.size hb9)) | (with_reducible exact hHeld))) (fun hHeld => ?_)
               clear hK K
               try simp only [Act.put, List.setIfInBounds_toArray, List.set_cons_zero, List.set_cons_succ])
          first
            | (refine wpAnyH_take (i := 13) (v := undef) (by simp only [List.getElem?_toArray, List.getElem?_cons_succ, List.getElem?_cons_zero]; rfl) (by kernel_rfl) (by kernel_rfl) (by kernel_rfl) (fun _ _ _ h => h) (Or.inr ⟨by rfl, rfl⟩) (by assumption) ?_; try simp only [Act.put, List.setIfInBounds_toArray, List.set_cons_zero, List.set_cons_succ])
            | (refine wpAnyH_take (i := 13) (v := ?_) (by simp only [List.getElem?_toArray, List.getElem?_cons_succ, List.getElem?_cons_zero]; rfl) (by kernel_rfl) (by kernel_rfl) (by kernel_rfl) (fun _ _ _ h => h) (Or.inl ⟨by rfl, ?_⟩) (by assumption) ?_
               rotate_left
               · (intro ww hSw; (try dsimp only at hSw); go_simp; (try with_reducible rfl))
               try simp only [Act.put, List.setIfInBounds_toArray, List.set_cons_zero, List.set_cons_succ])
            | (refine wpAnyH_ready (rs := [13]) (by kernel_rfl) (by simp) (AllReadyH.cons (by simp only [List.getElem?_toArray, List.getElem?_cons_succ, List.getElem?_cons_zero]; rfl) (fun K hK => ?_) AllReadyH.nil)
               go_simp
               first
                 | (fail)
               try go_wp2_with fail
               refine hK.out _ _ (by (first | (with_reducible exact KS.out _ (bdrew1 (Below.refl _ _))) | (with_reducible exact KS.out _ (below_call hHeld.1 hHeld.1.size hb9)) | (with_reducible exact hHeld))) (fun hHeld => ?_)
               clear hK K
               try simp only [Act.put, List.setIfInBounds_toArray, List.set_cons_zero, List.set_cons_succ])
          first
            | (refine wpAnyH_take (i := 14) (v := undef) (by simp only [List.getElem?_toArray, List.getElem?_cons_succ, List.getElem?_cons_zero]; rfl) (by kernel_rfl) (by kernel_rfl) (by kernel_rfl) (fun _ _ _ h => h) (Or.inr ⟨by rfl, rfl⟩) (by assumption) ?_; try simp only [Act.put, List.setIfInBounds_toArray, List.set_cons_zero, List.set_cons_succ])
            | (refine wpAnyH_take (i := 14) (v := ?_) (by simp only [List.getElem?_toArray, List.getElem?_cons_succ, List.getElem?_cons_zero]; rfl) (by kernel_rfl) (by kernel_rfl) (by kernel_rfl) (fun _ _ _ h => h) (Or.inl ⟨by rfl, ?_⟩) (by assumption) ?_
               rotate_left
               · (intro ww hSw; (try dsimp only at hSw); go_simp; (try with_reducible rfl))
               try simp only [Act.put, List.setIfInBounds_toArray, List.set_cons_zero, List.set_cons_succ])
            | (refine wpAnyH_ready (rs := [14]) (by kernel_rfl) (by simp) (AllReadyH.cons (by simp only [List.getElem?_toArray, List.getElem?_cons_succ, List.getElem?_cons_zero]; rfl) (fun K hK => ?_) AllReadyH.nil)
               go_simp
               first
                 | (fail)
               try go_wp2_with fail
               refine hK.out _ _ (by (first | (with_reducible exact KS.out _ (bdrew1 (Below.refl _ _))) | (with_reducible exact KS.out _ (below_call hHeld.1 hHeld.1.size hb9)) | (with_reducible exact hHeld))) (fun hHeld => ?_)
               clear hK K
               try simp only [Act.put, List.setIfInBounds_toArray, List.set_cons_zero, List.set_cons_succ])
          first
            | (refine wpAnyH_take (i := 15) (v := undef) (by simp only [List.getElem?_toArray, List.getElem?_cons_succ, List.getElem?_cons_zero]; rfl) (by kernel_rfl) (by kernel_rfl) (by kernel_rfl) (fun _ _ _ h => h) (Or.inr ⟨by rfl, rfl⟩) (by assumption) ?_; try simp only [Act.put, List.setIfInBounds_toArray, List.set_cons_zero, List.set_cons_succ])
            | (refine wpAnyH_take (i := 15) (v := ?_) (by simp only [List.getElem?_toArray, List.getElem?_cons_succ, List.getElem?_cons_zero]; rfl) (by kernel_rfl) (by kernel_rfl) (by kernel_rfl) (fun _ _ _ h => h) (Or.inl ⟨by rfl, ?_⟩) (by assumption) ?_
               rotate_left
               · (intro ww hSw; (try dsimp only at hSw); go_simp; (try with_reducible rfl))
               try simp only [Act.put, List.setIfInBounds_toArray, List.set_cons_zero, List.set_cons_succ])
            | (refine wpAnyH_ready (rs := [15]) (by kernel_rfl) (by simp) (AllReadyH.cons (by simp only [List.getElem?_toArray, List.getElem?_cons_succ, List.getElem?_cons_zero]; rfl) (fun K hK => ?_) AllReadyH.nil)
               go_simp
               first
                 | (fail)
               try go_wp2_with fail
               refine hK.out _ _ (by (first | (with_reducible exact KS.out _ (bdrew1 (Below.refl _ _))) | (with_reducible exact KS.out _ (below_call hHeld.1 hHeld.1.size hb9)) | (with_reducible exact hHeld))) (fun hHeld => ?_)
               clear hK K
               try simp only [Act.put, List.setIfInBounds_toArray, List.set_cons_zero, List.set_cons_succ])
          first
            | (refine wpAnyH_take (i := 16) (v := undef) (by simp only [List.getElem?_toArray, List.getElem?_cons_succ, List.getElem?_cons_zero]; rfl) (by kernel_rfl) (by kernel_rfl) (by kernel_rfl) (fun _ _ _ h => h) (Or.inr ⟨by rfl, rfl⟩) (by assumption) ?_; try simp only [Act.put, List.setIfInBounds_toArray, List.set_cons_zero, List.set_cons_succ])
            | (refine wpAnyH_take (i := 16) (v := ?_) (by simp only [List.getElem?_toArray, List.getElem?_cons_succ, List.getElem?_cons_zero]; rfl) (by kernel_rfl) (by kernel_rfl) (by kernel_rfl) (fun _ _ _ h => h) (Or.inl ⟨by rfl, ?_⟩) (by assumption) ?_
               rotate_left
               · (intro ww hSw; (try dsimp only at hSw); go_simp; (try with_reducible rfl))
               try simp only [Act.put, List.setIfInBounds_toArray, List.set_cons_zero, List.set_cons_succ])
            | (refine wpAnyH_ready (rs := [16]) (by kernel_rfl) (by simp) (AllReadyH.cons (by simp only [List.getElem?_toArray, List.getElem?_cons_succ, List.getElem?_cons_zero]; rfl) (fun K hK => ?_) AllReadyH.nil)
               go_simp
               first
                 | (fail)
               try go_wp2_with fail
               refine hK.out _ _ (by (first | (with_reducible exact KS.out _ (bdrew1 (Below.refl _ _))) | (with_reducible exact KS.out _ (below_call hHeld.1 hHeld.1.size hb9)) | (with_reducible exact hHeld))) (fun hHeld => ?_)
               clear hK K
               try simp only [Act.put, List.setIfInBounds_toArray, List.set_cons_zero, List.set_cons_succ])
          first
            | (refine wpAnyH_take (i := 17) (v := undef) (by simp only [List.getElem?_toArray, List.getElem?_cons_succ, List.getElem?_cons_zero]; rfl) (by kernel_rfl) (by kernel_rfl) (by kernel_rfl) (fun _ _ _ h => h) (Or.inr ⟨by rfl, rfl⟩) (by assumption) ?_; try simp only [Act.put, List.setIfInBounds_toArray, List.set_cons_zero, List.set_cons_succ])
            | (refine wpAnyH_take (i := 17) (v := ?_) (by simp only [List.getElem?_toArray, List.getElem?_cons_succ, List.getElem?_cons_zero]; rfl) (by kernel_rfl) (by kernel_rfl) (by kernel_rfl) (fun _ _ _ h => h) (Or.inl ⟨by rfl, ?_⟩) (by assumption) ?_
               rotate_left
               · (intro ww hSw; (try dsimp only at hSw); go_simp; (try with_reducible rfl))
               try simp only [Act.put, List.setIfInBounds_toArray, List.set_cons_zero, List.set_cons_succ])
            | (refine wpAnyH_ready (rs := [17]) (by kernel_rfl) (by simp) (AllReadyH.cons (by simp only [List.getElem?_toArray, List.getElem?_cons_succ, List.getElem?_cons_zero]; rfl) (fun K hK => ?_) AllReadyH.nil)
               go_simp
               first
                 | (fail)
               try go_wp2_with fail
               refine hK.out _ _ (by (first | (with_reducible exact KS.out _ (bdrew1 (Below.refl _ _))) | (with_reducible exact KS.out _ (below_call hHeld.1 hHeld.1.size hb9)) | (with_reducible exact hHeld))) (fun hHeld => ?_)
               clear hK K
               try simp only [Act.put, List.setIfInBounds_toArray, List.set_cons_zero, List.set_cons_succ])
          first
            | (refine wpAnyH_take (i := 18) (v := undef) (by simp only [List.getElem?_toArray, List.getElem?_cons_succ, List.getElem?_cons_zero]; rfl) (by kernel_rfl) (by kernel_rfl) (by kernel_rfl) (fun _ _ _ h => h) (Or.inr ⟨by rfl, rfl⟩) (by assumption) ?_; try simp only [Act.put, List.setIfInBounds_toArray, List.set_cons_zero, List.set_cons_succ])
            | (refine wpAnyH_take (i := 18) (v := ?_) (by simp only [List.getElem?_toArray, List.getElem?_cons_succ, List.getElem?_cons_zero]; rfl) (by kernel_rfl) (by kernel_rfl) (by kernel_rfl) (fun _ _ _ h => h) (Or.inl ⟨by rfl, ?_⟩) (by assumption) ?_
               rotate_left
               · (intro ww hSw; (try dsimp only at hSw); go_simp; (try with_reducible rfl))
               try simp only [Act.put, List.setIfInBounds_toArray, List.set_cons_zero, List.set_cons_succ])
            | (refine wpAnyH_ready (rs := [18]) (by kernel_rfl) (by simp) (AllReadyH.cons (by simp only [List.getElem?_toArray, List.getElem?_cons_succ, List.getElem?_cons_zero]; rfl) (fun K hK => ?_) AllReadyH.nil)
               go_simp
               first
                 | (fail)
               try go_wp2_with fail
               refine hK.out _ _ (by (first | (with_reducible exact KS.out _ (bdrew1 (Below.refl _ _))) | (with_reducible exact KS.out _ (below_call hHeld.1 hHeld.1.size hb9)) | (with_reducible exact hHeld))) (fun hHeld => ?_)
               clear hK K
               try simp only [Act.put, List.setIfInBounds_toArray, List.set_cons_zero, List.set_cons_succ])
          first
            | (refine wpAnyH_take (i := 19) (v := undef) (by simp only [List.getElem?_toArray, List.getElem?_cons_succ, List.getElem?_cons_zero]; rfl) (by kernel_rfl) (by kernel_rfl) (by kernel_rfl) (fun _ _ _ h => h) (Or.inr ⟨by rfl, rfl⟩) (by assumption) ?_; try simp only [Act.put, List.setIfInBounds_toArray, List.set_cons_zero, List.set_cons_succ])
            | (refine wpAnyH_take (i := 19) (v := ?_) (by simp only [List.getElem?_toArray, List.getElem?_cons_succ, List.getElem?_cons_zero]; rfl) (by kernel_rfl) (by kernel_rfl) (by kernel_rfl) (fun _ _ _ h => h) (Or.inl ⟨by rfl, ?_⟩) (by assumption) ?_
               rotate_left
               · (intro ww hSw; (try dsimp only at hSw); go_simp; (try with_reducible rfl))
               try simp only [Act.put, List.setIfInBounds_toArray, List.set_cons_zero, List.set_cons_succ])
            | (refine wpAnyH_ready (rs := [19]) (by kernel_rfl) (by simp) (AllReadyH.cons (by simp only [List.getElem?_toArray, List.getElem?_cons_succ, List.getElem?_cons_zero]; rfl) (fun K hK => ?_) AllReadyH.nil)
               go_simp
               first
                 | (fail)
               try go_wp2_with fail
               refine hK.out _ _ (by (first | (with_reducible exact KS.out _ (bdrew1 (Below.refl _ _))) | (with_reducible exact KS.out _ (below_call hHeld.1 hHeld.1.size hb9)) | (with_reducible exact hHeld))) (fun hHeld => ?_)
               clear hK K
               try simp only [Act.put, List.setIfInBounds_toArray, List.set_cons_zero, List.set_cons_succ])
          first
            | (refine wpAnyH_take (i := 20) (v := undef) (by simp only [List.getElem?_toArray, List.getElem?_cons_succ, List.getElem?_cons_zero]; rfl) (by kernel_rfl) (by kernel_rfl) (by kernel_rfl) (fun _ _ _ h => h) (Or.inr ⟨by rfl, rfl⟩) (by assumption) ?_; try simp only [Act.put, List.setIfInBounds_toArray, List.set_cons_zero, List.set_cons_succ])
            | (refine wpAnyH_take (i := 20) (v := ?_) (by simp only [List.getElem?_toArray, List.getElem?_cons_succ, List.getElem?_cons_zero]; rfl) (by kernel_rfl) (by kernel_rfl) (by kernel_rfl) (fun _ _ _ h => h) (Or.inl ⟨by rfl, ?_⟩) (by assumption) ?_
               rotate_left
               · (intro ww hSw; (try dsimp only at hSw); go_simp; (try with_reducible rfl))
               try simp only [Act.put, List.setIfInBounds_toArray, List.set_cons_zero, List.set_cons_succ])
            | (refine wpAnyH_ready (rs := [20]) (by kernel_rfl) (by simp) (AllReadyH.cons (by simp only [List.getElem?_toArray, List.getElem?_cons_succ, List.getElem?_cons_zero]; rfl) (fun K hK => ?_) AllReadyH.nil)
               go_simp
               first
                 | (fail)
               try go_wp2_with fail
               refine hK.out _ _ (by (first | (with_reducible exact KS.out _ (bdrew1 (Below.refl _ _))) | (with_reducible exact KS.out _ (below_call hHeld.1 hHeld.1.size hb9)) | (with_reducible exact hHeld))) (fun hHeld => ?_)
               clear hK K
               try simp only [Act.put, List.setIfInBounds_toArray, List.set_cons_zero, List.set_cons_succ])
          first
            | (refine wpAnyH_take (i := 21) (v := undef) (by simp only [List.getElem?_toArray, List.getElem?_cons_succ, List.getElem?_cons_zero]; rfl) (by kernel_rfl) (by kernel_rfl) (by kernel_rfl) (fun _ _ _ h => h) (Or.inr ⟨by rfl, rfl⟩) (by assumption) ?_; try simp only [Act.put, List.setIfInBounds_toArray, List.set_cons_zero, List.set_cons_succ])
            | (refine wpAnyH_take (i := 21) (v := ?_) (by simp only [List.getElem?_toArray, List.getElem?_cons_succ, List.getElem?_cons_zero]; rfl) (by kernel_rfl) (by kernel_rfl) (by kernel_rfl) (fun _ _ _ h => h) (Or.inl ⟨by rfl, ?_⟩) (by assumption) ?_
               rotate_left
               · (intro ww hSw; (try dsimp only at hSw); go_simp; (try with_reducible rfl))
               try simp only [Act.put, List.setIfInBounds_toArray, List.set_cons_zero, List.set_cons_succ])
            | (refine wpAnyH_ready (rs := [21]) (by kernel_rfl) (by simp) (AllReadyH.cons (by simp only [List.getElem?_toArray, List.getElem?_cons_succ, List.getElem?_cons_zero]; rfl) (fun K hK => ?_) AllReadyH.nil)
               go_simp
               first
                 | (fail)
               try go_wp2_with fail
               refine hK.out _ _ (by (first | (with_reducible exact KS.out _ (bdrew1 (Below.refl _ _))) | (with_reducible exact KS.out _ (below_call hHeld.1 hHeld.1.size hb9)) | (with_reducible exact hHeld))) (fun hHeld => ?_)
               clear hK K
               try simp only [Act.put, List.setIfInBounds_toArray, List.set_cons_zero, List.set_cons_succ])
          first
            | (refine wpAnyH_take (i := 22) (v := undef) (by simp only [List.getElem?_toArray, List.getElem?_cons_succ, List.getElem?_cons_zero]; rfl) (by kernel_rfl) (by kernel_rfl) (by kernel_rfl) (fun _ _ _ h => h) (Or.inr ⟨by rfl, rfl⟩) (by assumption) ?_; try simp only [Act.put, List.setIfInBounds_toArray, List.set_cons_zero, List.set_cons_succ])
            | (refine wpAnyH_take (i := 22) (v := ?_) (by simp only [List.getElem?_toArray, List.getElem?_cons_succ, List.getElem?_cons_zero]; rfl) (by kernel_rfl) (by kernel_rfl) (by kernel_rfl) (fun _ _ _ h => h) (Or.inl ⟨by rfl, ?_⟩) (by assumption) ?_
               rotate_left
               · (intro ww hSw; (try dsimp only at hSw); go_simp; (try with_reducible rfl))
               try simp only [Act.put, List.setIfInBounds_toArray, List.set_cons_zero, List.set_cons_succ])
            | (refine wpAnyH_ready (rs := [22]) (by kernel_rfl) (by simp) (AllReadyH.cons (by simp only [List.getElem?_toArray, List.getElem?_cons_succ, List.getElem?_cons_zero]; rfl) (fun K hK => ?_) AllReadyH.nil)
               go_simp
               first
                 | (fail)
               try go_wp2_with fail
               refine hK.out _ _ (by (first | (with_reducible exact KS.out _ (bdrew1 (Below.refl _ _))) | (with_reducible exact KS.out _ (below_call hHeld.1 hHeld.1.size hb9)) | (with_reducible exact hHeld))) (fun hHeld => ?_)
               clear hK K
               try simp only [Act.put, List.setIfInBounds_toArray, List.set_cons_zero, List.set_cons_succ])
          first
            | (refine wpAnyH_take (i := 23) (v := undef) (by simp only [List.getElem?_toArray, List.getElem?_cons_succ, List.getElem?_cons_zero]; rfl) (by kernel_rfl) (by kernel_rfl) (by kernel_rfl) (fun _ _ _ h => h) (Or.inr ⟨by rfl, rfl⟩) (by assumption) ?_; try simp only [Act.put, List.setIfInBounds_toArray, List.set_cons_zero, List.set_cons_succ])
            | (refine wpAnyH_take (i := 23) (v := ?_) (by simp only [List.getElem?_toArray, List.getElem?_cons_succ, List.getElem?_cons_zero]; rfl) (by kernel_rfl) (by kernel_rfl) (by kernel_rfl) (fun _ _ _ h => h) (Or.inl ⟨by rfl, ?_⟩) (by assumption) ?_
               rotate_left
               · (intro ww hSw; (try dsimp only at hSw); go_simp; (try with_reducible rfl))
               try simp only [Act.put, List.setIfInBounds_toArray, List.set_cons_zero, List.set_cons_succ])
            | (refine wpAnyH_ready (rs := [23]) (by kernel_rfl) (by simp) (AllReadyH.cons (by simp only [List.getElem?_toArray, List.getElem?_cons_succ, List.getElem?_cons_zero]; rfl) (fun K hK => ?_) AllReadyH.nil)
               go_simp
               first
                 | (fail)
               try go_wp2_with fail
               refine hK.out _ _ (by (first | (with_reducible exact KS.out _ (bdrew1 (Below.refl _ _))) | (with_reducible exact KS.out _ (below_call hHeld.1 hHeld.1.size hb9)) | (with_reducible exact hHeld))) (fun hHeld => ?_)
               clear hK K
               try simp only [Act.put, List.setIfInBounds_toArray, List.set_cons_zero, List.set_cons_succ])
          first
            | (refine wpAnyH_take (i := 24) (v := undef) (by simp only [List.getElem?_toArray, List.getElem?_cons_succ, List.getElem?_cons_zero]; rfl) (by kernel_rfl) (by kernel_rfl) (by kernel_rfl) (fun _ _ _ h => h) (Or.inr ⟨by rfl, rfl⟩) (by assumption) ?_; try simp only [Act.put, List.setIfInBounds_toArray, List.set_cons_zero, List.set_cons_succ])
            | (refine wpAnyH_take (i := 24) (v := ?_) (by simp only [List.getElem?_toArray, List.getElem?_cons_succ, List.getElem?_cons_zero]; rfl) (by kernel_rfl) (by kernel_rfl) (by kernel_rfl) (fun _ _ _ h => h) (Or.inl ⟨by rfl, ?_⟩) (by assumption) ?_
               rotate_left
               · (intro ww hSw; (try dsimp only at hSw); go_simp; (try with_reducible rfl))
               try simp only [Act.put, List.setIfInBounds_toArray, List.set_cons_zero, List.set_cons_succ])
            | (refine wpAnyH_ready (rs := [24]) (by kernel_rfl) (by simp) (AllReadyH.cons (by simp only [List.getElem?_toArray, List.getElem?_cons_succ, List.getElem?_cons_zero]; rfl) (fun K hK => ?_) AllReadyH.nil)
               go_simp
               first
                 | (fail)
               try go_wp2_with fail
               refine hK.out _ _ (by (first | (with_reducible exact KS.out _ (bdrew1 (Below.refl _ _))) | (with_reducible exact KS.out _ (below_call hHeld.1 hHeld.1.size hb9)) | (with_reducible exact hHeld))) (fun hHeld => ?_)
               clear hK K
               try simp only [Act.put, List.setIfInBounds_toArray, List.set_cons_zero, List.set_cons_succ])
          first
            | (refine wpAnyH_take (i := 25) (v := undef) (by simp only [List.getElem?_toArray, List.getElem?_cons_succ, List.getElem?_cons_zero]; rfl) (by kernel_rfl) (by kernel_rfl) (by kernel_rfl) (fun _ _ _ h => h) (Or.inr ⟨by rfl, rfl⟩) (by assumption) ?_; try simp only [Act.put, List.setIfInBounds_toArray, List.set_cons_zero, List.set_cons_succ])
            | (refine wpAnyH_take (i := 25) (v := ?_) (by simp only [List.getElem?_toArray, List.getElem?_cons_succ, List.getElem?_cons_zero]; rfl) (by kernel_rfl) (by kernel_rfl) (by kernel_rfl) (fun _ _ _ h => h) (Or.inl ⟨by rfl, ?_⟩) (by assumption) ?_
               rotate_left
               · (intro ww hSw; (try dsimp only at hSw); go_simp; (try with_reducible rfl))
               try simp only [Act.put, List.setIfInBounds_toArray, List.set_cons_zero, List.set_cons_succ])
            | (refine wpAnyH_ready (rs := [25]) (by kernel_rfl) (by simp) (AllReadyH.cons (by simp only [List.getElem?_toArray, List.getElem?_cons_succ, List.getElem?_cons_zero]; rfl) (fun K hK => ?_) AllReadyH.nil)
               go_simp
               first
                 | (fail)
               try go_wp2_with fail
               refine hK.out _ _ (by (first | (with_reducible exact KS.out _ (bdrew1 (Below.refl _ _))) | (with_reducible exact KS.out _ (below_call hHeld.1 hHeld.1.size hb9)) | (with_reducible exact hHeld))) (fun hHeld => ?_)
               clear hK K
               try simp only [Act.put, List.setIfInBounds_toArray, List.set_cons_zero, List.set_cons_succ])
          first
            | (refine wpAnyH_take (i := 26) (v := undef) (by simp only [List.getElem?_toArray, List.getElem?_cons_succ, List.getElem?_cons_zero]; rfl) (by kernel_rfl) (by kernel_rfl) (by kernel_rfl) (fun _ _ _ h => h) (Or.inr ⟨by rfl, rfl⟩) (by assumption) ?_; try simp only [Act.put, List.setIfInBounds_toArray, List.set_cons_zero, List.set_cons_succ])
            | (refine wpAnyH_take (i := 26) (v := ?_) (by simp only [List.getElem?_toArray, List.getElem?_cons_succ, List.getElem?_cons_zero]; rfl) (by kernel_rfl) (by kernel_rfl) (by kernel_rfl) (fun _ _ _ h => h) (Or.inl ⟨by rfl, ?_⟩) (by assumption) ?_
               rotate_left
               · (intro ww hSw; (try dsimp only at hSw); go_simp; (try with_reducible rfl))
               try simp only [Act.put, List.setIfInBounds_toArray, List.set_cons_zero, List.set_cons_succ])
            | (refine wpAnyH_ready (rs := [26]) (by kernel_rfl) (by simp) (AllReadyH.cons (by simp only [List.getElem?_toArray, List.getElem?_cons_succ, List.getElem?_cons_zero]; rfl) (fun K hK => ?_) AllReadyH.nil)
               go_simp
               first
                 | (fail)
               try go_wp2_with fail
               refine hK.out _ _ (by (first | (with_reducible exact KS.out _ (bdrew1 (Below.refl _ _))) | (with_reducible exact KS.out _ (below_call hHeld.1 hHeld.1.size hb9)) | (with_reducible exact hHeld))) (fun hHeld => ?_)
               clear hK K
               try simp only [Act.put, List.setIfInBounds_toArray, List.set_cons_zero, List.set_cons_succ])
          first
            | (refine wpAnyH_take (i := 27) (v := undef) (by simp only [List.getElem?_toArray, List.getElem?_cons_succ, List.getElem?_cons_zero]; rfl) (by kernel_rfl) (by kernel_rfl) (by kernel_rfl) (fun _ _ _ h => h) (Or.inr ⟨by rfl, rfl⟩) (by assumption) ?_; try simp only [Act.put, List.setIfInBounds_toArray, List.set_cons_zero, List.set_cons_succ])
            | (refine wpAnyH_take (i := 27) (v := ?_) (by simp only [List.getElem?_toArray, List.getElem?_cons_succ, List.getElem?_cons_zero]; rfl) (by kernel_rfl) (by kernel_rfl) (by kernel_rfl) (fun _ _ _ h => h) (Or.inl ⟨by rfl, ?_⟩) (by assumption) ?_
               rotate_left
               · (intro ww hSw; (try dsimp only at hSw); go_simp; (try with_reducible rfl))
               try simp only [Act.put, List.setIfInBounds_toArray, List.set_cons_zero, List.set_cons_succ])
            | (refine wpAnyH_ready (rs := [27]) (by kernel_rfl) (by simp) (AllReadyH.cons (by simp only [List.getElem?_toArray, List.getElem?_cons_succ, List.getElem?_cons_zero]; rfl) (fun K hK => ?_) AllReadyH.nil)
               go_simp
               first
                 | (fail)
               try go_wp2_with fail
               refine hK.out _ _ (by (first | (with_reducible exact KS.out _ (bdrew1 (Below.refl _ _))) | (with_reducible exact KS.out _ (below_call hHeld.1 hHeld.1.size hb9)) | (with_reducible exact hHeld))) (fun hHeld => ?_)
               clear hK K
               try simp only [Act.put, List.setIfInBounds_toArray, List.set_cons_zero, List.set_cons_succ])
          refine wpAnyH_done (by kernel_rfl) ?_ _
          refine NoPanic.normal ?_
          have hB9 := Lib.hid hHeld.1
          clear hHeld
          have B_5 := Lib.hid (below_call B_4.out B_4.out.size hB9.out)
          have H_5 := Lib.hid (H_4.out.call hB9.out)
          have A_5 := Lib.hid (A_4.out.call hB9.out)
          have D_5 := Lib.hid (D_4.out.call hB9.out)
          clear hB9 KS B_4 H_4 A_4 D_4
          go_wp2_with fail
          go_roundw
          case rel => exact ⟨m + 1, by omega, by go_num, by rw [HDM.out], H_5.out⟩
          case measure => simp [intOf]; omega
    · have hme : m = x.at_.length := by omega
      subst hme
      have cw0 := cell_call C0.out HH.out.1
      have BB := Lib.hid HH.out.1
      rw [HDN.out]
      generalize plOf x.wher k = z at *
      obtain ⟨zk, zi⟩ := z
      simp only at cw0 ⊢
      clear HH HDN C0 C1
      by_cases hz1 : zk = 1
      · subst hz1
        rw [if_pos rfl]
        go_wp2_with fail
        go_ret
        exact ⟨rfl, BB.out⟩
      · rw [if_neg hz1]
        have hz2 : (zk == 1) = false := by simpa using hz1
        clear hz1
        go_wp2_with fail
        go_ret
        exact ⟨rfl, BB.out⟩
theorem walk_holdOther (x : Wd) (p : Wp) (a : Int) (w : World) (ha : (Lit.int .u8 a).wf = true) (h : WorldAt w p x) : Calls Try.prog 7 #[.agg #[.slice p.d.ex x.d.exits.length p.d.exc, .slice p.d.pl x.d.players.length p.d.plc, .slice p.d.co x.d.coins.length p.d.coc, .slice p.d.it x.d.items.length p.d.itc, .slice p.d.bo x.d.boxes.length p.d.boc, .int .i64 x.d.room, .int .i64 x.d.player, .int .i64 x.d.box, .slice p.at_ x.at_.length p.atc, .slice p.co x.coins.length p.coc, .slice p.wh x.wher.length p.whc], .int .u8 a] w fun e w' => e = .returned (.bool true) ∧ Below w.heap.size w w' := by
  cases hf : fitsB x
  · exact holdOther_no x p a w h hf
  by_cases hn : x.wher = []
  · exact holdOther_none x p a w h hf (by rw [hn]; rfl)
  have h1 := wf_u8 ha
  obtain ⟨m1, rfl⟩ : ∃ m : Nat, a = m := ⟨a.toNat, by omega⟩
  have hx := (fits_fit hf).right
  have hlp : 0 < x.wher.length := List.length_pos_iff.2 hn
  have hkl : m1 % x.wher.length < x.wher.length := Nat.mod_lt _ hlp
  obtain ⟨b, o, ea, -, -⟩ := h.at_.at_ (right_lens hx).1
  obtain ⟨wb, wo, ew, -, c0, c1⟩ := PlsAt.cells h.wh hkl
  rw [← plOf_get hkl] at c0 c1
  obtain ⟨pd, pa, pac, pk, pkc, pw, pwc⟩ := p
  simp only at ea ew
  subst ea ew
  exact holdOther_go x pd b o pac pk pkc wb wo pwc m1 _ (by omega) hlp rfl w h hf c0 c1
set_option maxRecDepth 100000 in
theorem lifted_holdOther (os : Os) (started : os.Started) (H : Type) (enc : TypeId × Value → H) :
    ReturnsInHanded {} Try.checked os 7 .any (Rows.holdOtherSpec.pre6 enc Try.prog Try.f7 Rows.holdOtherRow.domain false) (Rows.holdOtherSpec.post enc Try.prog Try.f7 false true false false) := by
  refine returnsInHanded_of_change (C := Try.checked) (by kernel_rfl) started (by kernel_rfl) Try.func7
    (ChangeSpec.witness6 (enc := enc) (C := Try.checked) false ⟨#[], #[.agg #[.slice none 0 0, .slice none 0 0, .slice none 0 0, .slice none 0 0, .slice none 0 0, .int .i64 0, .int .i64 0, .int .i64 0, .slice none 0 0, .slice none 0 0, .slice none 0 0], .int .u8 0], []⟩ 8 (by kernel_rfl) (by kernel_rfl) (by kernel_rfl) (by kernel_rfl)) ?_
  intro W base args ds gs before hval0 hW hcnd _
  have hval : ∀ (j : Nat) t v, Try.f7.params[j]? = some t → args[j]? = some v → Value.okWide Try.prog W .any base t v := hval0
  have hW' := hW
  obtain ⟨p, q, hA0, hV, rfl, hfz, hnd⟩ := hW
  have hA : DataW.TrodAll enc Try.prog W 0 (fun _ => true) true Try.f7.params.toList args.toList ds p := hA0
  rw [Try.params7] at hA hval
  obtain ⟨v0, vs0, d0, ds0, p0, q0, hargs, rfl, rfl, h0, r0⟩ := trodAll_cons hA
  obtain ⟨v1, vs1, d1, ds1, p1, q1, rfl, rfl, rfl, h1, r1⟩ := trodAll_cons r0
  obtain ⟨rfl, rfl, rfl⟩ := trodAll_nil r1
  obtain rfl : args = #[v0, v1] := by cases args; simp_all
  obtain ⟨rfl, rfl⟩ := trodVars_none hV
  obtain ⟨wx0, wp0, rfl, m0⟩ := read_world (hval 0 29 v0 rfl rfl) h0
  obtain ⟨a1, rfl, rfl, rfl, w1⟩ := open_int Try.underlying5 (hval 1 5 v1 rfl rfl) h1
  clear hA0 hval0
  simp only [List.append_nil] at hW'
  refine (walk_holdOther wx0 wp0 a1 W w1 m0).mono fun e W' ⟨he, hg⟩ => ?_
  subst he
  exact ⟨_, rfl, law_post (by kernel_rfl) rfl (by rw [Try.params7]; decide +kernel) rfl rfl Try.underlying4 hW' hg⟩

/-- ████ THE STATEMENT ████ -/
theorem proved_holdOther : Rows.HoldOtherSaid :=
  OpenClaim.holds_of_wide 7 Try.f7 rfl rfl rfl rfl rfl rfl rfl ⟨rfl, rfl, rfl, rfl, rfl⟩ rfl rfl rfl rfl rfl (by kernel_rfl) Try.func7 (by kernel_rfl)
    (of_decide_eq_true (by kernel_rfl)) (by unfold Func.isWrapper; first | (rw [if_pos (by decide +kernel)]; kernel_rfl) | (rw [if_neg (by decide +kernel)]; exact ⟨rfl, rfl⟩))
    (fun os started H enc _ => lifted_holdOther os started H enc)
#print axioms proved_holdOther
end Go.Proofs.Ytjlipbcmkibkcaa
