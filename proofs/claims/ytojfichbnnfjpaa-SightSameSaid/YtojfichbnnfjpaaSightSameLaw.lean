/- SightSame: those in one room see the same; a box's things are seen with the box. -/
import Derived.Test.YtojfichbnnfjpaaRows
import Derived.Test.YtojfichbnnfjpaaTk
import Derived.Test.YtojfichbnnfjpaaKit
import Derived.Test.YtojfichbnnfjpaaGMem
import Derived.Test.YtojfichbnnfjpaaCoin
import Derived.Test.YtojfichbnnfjpaaGWorld
import Derived.Test.YtojfichbnnfjpaaDescMay
import Derived.Test.YtojfichbnnfjpaaGDescN
import Derived.Test.YtojfichbnnfjpaaGRight
import Derived.Test.YtojfichbnnfjpaaGCopy
import Derived.Test.YtojfichbnnfjpaaGRefD
import Derived.Test.YtojfichbnnfjpaaGAs
import Derived.Test.YtojfichbnnfjpaaRefRight
import Derived.Test.YtojfichbnnfjpaaGTreeL
import Derived.Test.YtojfichbnnfjpaaRepMath
import Derived.Test.YtojfichbnnfjpaaRepSame
import Derived.Test.YtojfichbnnfjpaaSightMath
import Derived.Test.YtojfichbnnfjpaaSightA
import Derived.Test.YtojfichbnnfjpaaSightB
import Derived.Test.YtojfichbnnfjpaaSightOff
import Derived.Test.YtojfichbnnfjpaaSightApp
import Derived.Test.YtojfichbnnfjpaaSightAwake
import Derived.Deep.QuietTactic
import Derived.BigQuiet
import Derived.Deep.RegionHeld3
import Derived.WalkKit
import Derived.ProofKit
import Derived.OpenShut
import Derived.IntWalk
namespace Go.Proofs.Ytojfichbnnfjpaa
open Go.ChangeShapes Go.WideShapes Go.ChangeAt Go.RowKit
set_option linter.unusedVariables false
open Go.RowKit
set_option maxRecDepth 100000 in
theorem sightSame_no (x : Wd) (p : Wp) (a c : Int) (w : World) (h : WorldAt w p x) (hf : fitsB x = false) : Calls Try.prog 7 #[.agg #[.slice p.d.ex x.d.exits.length p.d.exc, .slice p.d.pl x.d.players.length p.d.plc, .slice p.d.co x.d.coins.length p.d.coc, .slice p.d.it x.d.items.length p.d.itc, .slice p.d.bo x.d.boxes.length p.d.boc, .int .i64 x.d.room, .int .i64 x.d.player, .int .i64 x.d.box, .slice p.at_ x.at_.length p.atc, .slice p.co x.coins.length p.coc, .slice p.wh x.wher.length p.whc], .int .u8 a, .int .u8 c] w fun e w' => e = .returned (.bool true) ∧ Below w.heap.size w w' := by
  have H_0 := Lib.hid (Holds.new w #[.slice p.d.ex x.d.exits.length p.d.exc, .slice p.d.pl x.d.players.length p.d.plc, .slice p.d.co x.d.coins.length p.d.coc, .slice p.d.it x.d.items.length p.d.itc, .slice p.d.bo x.d.boxes.length p.d.boc, .int .i64 x.d.room, .int .i64 x.d.player, .int .i64 x.d.box, .slice p.at_ x.at_.length p.atc, .slice p.co x.coins.length p.coc, .slice p.wh x.wher.length p.whc] 29)
  have HF := Lib.hid hf
  have HWA := Lib.hid h
  clear hf h
  go_enter Try.func7, Try.ntmps7
  go_wp2_with fail
  generalize w.alloc (.cells #[.slice p.d.ex x.d.exits.length p.d.exc, .slice p.d.pl x.d.players.length p.d.plc, .slice p.d.co x.d.coins.length p.d.coc, .slice p.d.it x.d.items.length p.d.itc, .slice p.d.bo x.d.boxes.length p.d.boc, .int .i64 x.d.room, .int .i64 x.d.player, .int .i64 x.d.box, .slice p.at_ x.at_.length p.atc, .slice p.co x.coins.length p.coc, .slice p.wh x.wher.length p.whc] 29) = V0 at *
  have B_0 := Lib.hid H_0.out.1
  refine (awake12_any _).mono ?_
  rintro e u1 ⟨rfl, b1⟩
  have B_1 := Lib.hid (bl B_0.out b1)
  have H_1 := Lib.hid (H_0.out.call b1)
  clear b1 B_0 H_0
  have hcH := H_1.out.2.2
  have hlH := H_1.out.2.1
  go_wp2_with fail
  refine (fits12_any x p _ (HWA.out.below H_1.out.1 (Nat.le_refl _))).mono ?_
  rintro e u2 ⟨rfl, b2⟩
  rw [HF.out]
  clear hcH hlH
  have B_2 := Lib.hid (bl B_1.out b2)
  have H_2 := Lib.hid (H_1.out.call b2)
  clear b2 B_1 H_1
  have hcH := H_2.out.2.2
  have hlH := H_2.out.2.1
  go_wp2_with fail
  refine (awake12_any _).mono ?_
  rintro e u3 ⟨rfl, b3⟩
  clear hcH hlH
  have B_3 := Lib.hid (bl B_2.out b3)
  have H_3 := Lib.hid (H_2.out.call b3)
  clear b3 B_2 H_2
  have hcH := H_3.out.2.2
  have hlH := H_3.out.2.1
  go_wp2_with fail
  go_ret
  exact ⟨rfl, B_3.out⟩
theorem look_same (x : Wd) (i k : Nat) : rsameB (lookR x i) (lookR x k) = decide (roomOf x i = roomOf x k) := by
  rw [Bool.eq_iff_iff, rsameB_iff, decide_eq_true_eq]
  constructor
  · intro h
    have h2 : (roomOf x i : Int) = (roomOf x k : Int) := congrArg Rp.room h
    omega
  · intro h
    simp only [lookR, lookN, h]
/-- A box's things are among these, and so is the box. -/
theorem seen_with {x : Wd} (hT : Tr x.wher) {i n : Nat} {L : List Sn} (hL : lookN x i ++ ownN x i = L) (h : n < L.length) (hk : L[n].kind = 2) : inT (L.map Sn.item) (L.map Sn.item).length L[n].id = true := by
  refine inT_all ?_
  have hm : L[n] ∈ lookN x i ++ ownN x i := by rw [hL]; exact List.getElem_mem h
  rw [List.mem_append] at hm
  rcases hm with hm | hm
  · obtain ⟨t, h1, h2⟩ := under_box hT hm hk
    exact List.mem_map.2 ⟨t, by rw [← hL]; exact List.mem_append.2 (.inl h1), h2⟩
  · obtain ⟨t, h1, h2⟩ := under_box hT hm hk
    exact List.mem_map.2 ⟨t, by rw [← hL]; exact List.mem_append.2 (.inr h1), h2⟩
theorem inT_sn {L : List Sn} {m : Nat} (h : m < L.length) (i : Int) : inT (L.map Sn.item) (m + 1) i = (inT (L.map Sn.item) m i || decide (L[m].item = i)) := by
  have := inT_step (l := L.map Sn.item) (n := m) (by simpa using h) i
  simpa using this
set_option maxRecDepth 100000 in
set_option maxHeartbeats 1000000 in
theorem sightSame_yes (x : Wd) (pd : Dp) (b o pac : Nat) (pk pw : Option Addr) (pkc pwc : Nat) (a i c k : Nat) (haa : a ≤ 255) (hcc : c ≤ 255) (hi : a % x.at_.length = i) (hk : c % x.at_.length = k) (w : World) (h : WorldAt w ⟨pd, some ⟨b, o, none⟩, pac, pk, pkc, pw, pwc⟩ x) (hf : fitsB x = true) : Calls Try.prog 7 #[.agg #[.slice pd.ex x.d.exits.length pd.exc, .slice pd.pl x.d.players.length pd.plc, .slice pd.co x.d.coins.length pd.coc, .slice pd.it x.d.items.length pd.itc, .slice pd.bo x.d.boxes.length pd.boc, .int .i64 x.d.room, .int .i64 x.d.player, .int .i64 x.d.box, .slice (some ⟨b, o, none⟩) x.at_.length pac, .slice pk x.coins.length pkc, .slice pw x.wher.length pwc], .int .u8 (a : Int), .int .u8 (c : Int)] w fun e w' => e = .returned (.bool true) ∧ Below w.heap.size w w' := by
  have FT := Lib.hid (fits_fit hf)
  have hlp : 0 < x.at_.length := (right_lens FT.out.right).1
  have hne : ¬ x.at_ = [] := List.length_pos_iff.1 hlp
  have hlen6 := (right_lens FT.out.right).2.1
  have rm1 := run_tmod7 a x.at_.length
  have m1 := run_mod7 a x.at_.length
  rw [hi] at rm1 m1
  have hil : i < x.at_.length := by rw [← hi]; exact Nat.mod_lt _ hlp
  have rm2 := run_tmod7 c x.at_.length
  have m2 := run_mod7 c x.at_.length
  rw [hk] at rm2 m2
  have hkl : k < x.at_.length := by rw [← hk]; exact Nat.mod_lt _ hlp
  have HIL := Lib.hid hil
  have HKL := Lib.hid hkl
  obtain ⟨r1, hr1⟩ : ∃ r, roomOf x i = r := ⟨_, rfl⟩
  obtain ⟨r2, hr2⟩ : ∃ r, roomOf x k = r := ⟨_, rfl⟩
  obtain ⟨b', o', ea, -, hac⟩ := h.at_.at_ hil
  simp only [Option.some.injEq, Addr.mk.injEq, and_true] at ea
  obtain ⟨rfl, rfl⟩ := ea
  have c0 := hac i hil
  have c1 := hac k hkl
  rw [(room_at FT.out.right hil).1, hr1] at c0
  rw [(room_at FT.out.right hkl).1, hr2] at c1
  have hi1 : ¬ (x.at_.length : Int) ≤ (i : Int) := by omega
  have hi2 : (x.at_.length ≤ i) = False := by simp; omega
  have hk1 : ¬ (x.at_.length : Int) ≤ (k : Int) := by omega
  have hk2 : (x.at_.length ≤ k) = False := by simp; omega
  obtain ⟨sb, hsb⟩ : ∃ s, decide (r1 = r2) = s := ⟨_, rfl⟩
  have hq : ((r1 : Int) == (r2 : Int)) = sb := by rw [← hsb, Bool.eq_iff_iff, beq_iff_eq, decide_eq_true_eq]; omega
  have hnn : (sb != sb) = false := by cases sb <;> rfl
  obtain ⟨R1, hR1⟩ : ∃ R, lookR x i = R := ⟨_, rfl⟩
  obtain ⟨R2, hR2⟩ : ∃ R, lookR x k = R := ⟨_, rfl⟩
  obtain ⟨R3, hR3⟩ : ∃ R, haveR x i = R := ⟨_, rfl⟩
  have HRS := Lib.hid (show rsameB R1 R2 = sb by rw [← hR1, ← hR2, look_same, hr1, hr2, hsb])
  obtain ⟨L, hL⟩ : ∃ L, R1.items ++ R3.items = L := ⟨_, rfl⟩
  have HBX := Lib.hid (fun n (h : n < L.length) => seen_with (x := x) (i := i) FT.out.tr (show lookN x i ++ ownN x i = L by rw [← hL, ← hR1, ← hR3]; rfl) h)
  have HA := Lib.hid (show R1.items.length ≤ 16 by rw [← hR1]; exact Nat.le_trans (underN_len _ _ _) FT.out.len)
  have HC := Lib.hid (show R3.items.length ≤ 16 by rw [← hR3]; exact Nat.le_trans (underN_len _ _ _) FT.out.len)
  obtain ⟨N, hN⟩ : ∃ N, L.length = N := ⟨_, rfl⟩
  have hN32 : N ≤ 32 := by rw [← hN, ← hL, List.length_append]; have := HA.out; have := HC.out; omega
  have HN := Lib.hid hN
  have HL := Lib.hid hL
  have HR1 := Lib.hid hR1
  have HR2 := Lib.hid hR2
  have HR3 := Lib.hid hR3
  have HHX := Lib.hid (show ∀ W : World, Below w.heap.size w W → (W.cell? ⟨b, o + i, none⟩ = some (.int .i64 (r1 : Int)) ∧ W.cell? ⟨b, o + k, none⟩ = some (.int .i64 (r2 : Int))) from fun W hW => ⟨cell_call c0 hW, cell_call c1 hW⟩)
  clear hi hk hlp hil hkl hr1 hr2 hac c0 c1 hsb hR1 hR2 hR3 hL hN hlen6
  have H_0 := Lib.hid (Holds.new w #[.slice pd.ex x.d.exits.length pd.exc, .slice pd.pl x.d.players.length pd.plc, .slice pd.co x.d.coins.length pd.coc, .slice pd.it x.d.items.length pd.itc, .slice pd.bo x.d.boxes.length pd.boc, .int .i64 x.d.room, .int .i64 x.d.player, .int .i64 x.d.box, .slice (some ⟨b, o, none⟩) x.at_.length pac, .slice pk x.coins.length pkc, .slice pw x.wher.length pwc] 29)
  have HF := Lib.hid hf
  have HWA := Lib.hid h
  clear hf h
  go_enter Try.func7, Try.ntmps7
  go_wp2_with fail
  generalize w.alloc (.cells #[.slice pd.ex x.d.exits.length pd.exc, .slice pd.pl x.d.players.length pd.plc, .slice pd.co x.d.coins.length pd.coc, .slice pd.it x.d.items.length pd.itc, .slice pd.bo x.d.boxes.length pd.boc, .int .i64 x.d.room, .int .i64 x.d.player, .int .i64 x.d.box, .slice (some ⟨b, o, none⟩) x.at_.length pac, .slice pk x.coins.length pkc, .slice pw x.wher.length pwc] 29) = V0 at *
  have B_0 := Lib.hid H_0.out.1
  refine (awake12_any _).mono ?_
  rintro e u1 ⟨rfl, b1⟩
  have B_1 := Lib.hid (bl B_0.out b1)
  have H_1 := Lib.hid (H_0.out.call b1)
  clear b1 B_0 H_0
  have hcH := H_1.out.2.2
  have hlH := H_1.out.2.1
  go_wp2_with fail
  refine (fits12_any x ⟨pd, some ⟨b, o, none⟩, pac, pk, pkc, pw, pwc⟩ _ (HWA.out.below H_1.out.1 (Nat.le_refl _))).mono ?_
  rintro e u2 ⟨rfl, b2⟩
  rw [HF.out]
  clear hcH hlH
  have B_2 := Lib.hid (bl B_1.out b2)
  have H_2 := Lib.hid (H_1.out.call b2)
  clear b2 B_1 H_1
  have hcH := H_2.out.2.2
  have hlH := H_2.out.2.1
  go_wp2_with fail
  refine (slook_any x ⟨pd, some ⟨b, o, none⟩, pac, pk, pkc, pw, pwc⟩ i _ FT.out.right (HWA.out.below B_2.out (Nat.le_refl _)) HIL.out HR1.out).mono ?_
  rintro e u3 ⟨qa1, ia1, qc1, ic1, rfl, g9, b3⟩
  clear hcH hlH
  have B_3 := Lib.hid (bl B_2.out b3)
  have H_3 := Lib.hid (H_2.out.call b3)
  clear b3 B_2 H_2
  have hcH := H_3.out.2.2
  have hlH := H_3.out.2.1
  have NA_3 := Lib.hid g9
  clear g9
  go_wp2_with fail
  clear hcH hlH
  have s4 : (u3.alloc (.cells #[.int .i64 R1.err, .int .i64 R1.kind, .int .i64 R1.room, .slice qa1 R1.players.length qc1, .slice ia1 R1.items.length ic1, .int .i64 R1.coins] 36)).heap.size = u3.heap.size + 1 := by simp
  have B_4 := Lib.hid (B_3.out.alloc B_3.out.size (.cells #[.int .i64 R1.err, .int .i64 R1.kind, .int .i64 R1.room, .slice qa1 R1.players.length qc1, .slice ia1 R1.items.length ic1, .int .i64 R1.coins] 36))
  have H_4 := Lib.hid (H_3.out.alloc (.cells #[.int .i64 R1.err, .int .i64 R1.kind, .int .i64 R1.room, .slice qa1 R1.players.length qc1, .slice ia1 R1.items.length ic1, .int .i64 R1.coins] 36))
  have NA_4 := Lib.hid (NA_3.out.call ((Below.refl _ _).alloc (Nat.le_refl _) (.cells #[.int .i64 R1.err, .int .i64 R1.kind, .int .i64 R1.room, .slice qa1 R1.players.length qc1, .slice ia1 R1.items.length ic1, .int .i64 R1.coins] 36)))
  have A_4 := Lib.hid (Holds.newb (w := w) (A := #[.int .i64 R1.err, .int .i64 R1.kind, .int .i64 R1.room, .slice qa1 R1.players.length qc1, .slice ia1 R1.items.length ic1, .int .i64 R1.coins]) (t := 36) (n := u3.heap.size) B_3.out rfl)
  clear B_3 H_3 NA_3
  generalize u3.alloc (.cells #[.int .i64 R1.err, .int .i64 R1.kind, .int .i64 R1.room, .slice qa1 R1.players.length qc1, .slice ia1 R1.items.length ic1, .int .i64 R1.coins] 36) = V4 at *
  have hcH := H_4.out.2.2
  have hlH := H_4.out.2.1
  have hcA := A_4.out.2.2
  have hlA := A_4.out.2.1
  refine (slook_any x ⟨pd, some ⟨b, o, none⟩, pac, pk, pkc, pw, pwc⟩ k _ FT.out.right (HWA.out.below B_4.out (Nat.le_refl _)) HKL.out HR2.out).mono ?_
  rintro e u5 ⟨qa2, ia2, qc2, ic2, rfl, g9, b5⟩
  clear hcH hlH hcA hlA
  have B_5 := Lib.hid (bl B_4.out b5)
  have H_5 := Lib.hid (H_4.out.call b5)
  have A_5 := Lib.hid (A_4.out.call b5)
  have NA_5 := Lib.hid (NA_4.out.call b5)
  clear b5 B_4 H_4 A_4 NA_4
  have hcH := H_5.out.2.2
  have hlH := H_5.out.2.1
  have hcA := A_5.out.2.2
  have hlA := A_5.out.2.1
  have NB_5 := Lib.hid g9
  clear g9
  go_wp2_with fail
  clear hcH hlH hcA hlA
  have s6 : (u5.alloc (.cells #[.int .i64 R2.err, .int .i64 R2.kind, .int .i64 R2.room, .slice qa2 R2.players.length qc2, .slice ia2 R2.items.length ic2, .int .i64 R2.coins] 36)).heap.size = u5.heap.size + 1 := by simp
  have B_6 := Lib.hid (B_5.out.alloc B_5.out.size (.cells #[.int .i64 R2.err, .int .i64 R2.kind, .int .i64 R2.room, .slice qa2 R2.players.length qc2, .slice ia2 R2.items.length ic2, .int .i64 R2.coins] 36))
  have H_6 := Lib.hid (H_5.out.alloc (.cells #[.int .i64 R2.err, .int .i64 R2.kind, .int .i64 R2.room, .slice qa2 R2.players.length qc2, .slice ia2 R2.items.length ic2, .int .i64 R2.coins] 36))
  have A_6 := Lib.hid (A_5.out.alloc (.cells #[.int .i64 R2.err, .int .i64 R2.kind, .int .i64 R2.room, .slice qa2 R2.players.length qc2, .slice ia2 R2.items.length ic2, .int .i64 R2.coins] 36))
  have NA_6 := Lib.hid (NA_5.out.call ((Below.refl _ _).alloc (Nat.le_refl _) (.cells #[.int .i64 R2.err, .int .i64 R2.kind, .int .i64 R2.room, .slice qa2 R2.players.length qc2, .slice ia2 R2.items.length ic2, .int .i64 R2.coins] 36)))
  have NB_6 := Lib.hid (NB_5.out.call ((Below.refl _ _).alloc (Nat.le_refl _) (.cells #[.int .i64 R2.err, .int .i64 R2.kind, .int .i64 R2.room, .slice qa2 R2.players.length qc2, .slice ia2 R2.items.length ic2, .int .i64 R2.coins] 36)))
  have B2_6 := Lib.hid (Holds.newb (w := w) (A := #[.int .i64 R2.err, .int .i64 R2.kind, .int .i64 R2.room, .slice qa2 R2.players.length qc2, .slice ia2 R2.items.length ic2, .int .i64 R2.coins]) (t := 36) (n := u5.heap.size) B_5.out rfl)
  clear B_5 H_5 A_5 NA_5 NB_5
  generalize u5.alloc (.cells #[.int .i64 R2.err, .int .i64 R2.kind, .int .i64 R2.room, .slice qa2 R2.players.length qc2, .slice ia2 R2.items.length ic2, .int .i64 R2.coins] 36) = V6 at *
  obtain ⟨d0, d1⟩ := HHX.out _ B_6.out
  have KS : Hid (∀ w', Below V6.heap.size V6 w' → Below V6.heap.size V6 w' ∧ (∀ ii, w'.cell? ⟨w.heap.size, ii, none⟩ = (#[.slice pd.ex x.d.exits.length pd.exc, .slice pd.pl x.d.players.length pd.plc, .slice pd.co x.d.coins.length pd.coc, .slice pd.it x.d.items.length pd.itc, .slice pd.bo x.d.boxes.length pd.boc, .int .i64 x.d.room, .int .i64 x.d.player, .int .i64 x.d.box, .slice (some ⟨b, o, none⟩) x.at_.length pac, .slice pk x.coins.length pkc, .slice pw x.wher.length pwc][ii]? : Option Value)) ∧ (∀ ii, w'.cell? ⟨u3.heap.size, ii, none⟩ = (#[.int .i64 R1.err, .int .i64 R1.kind, .int .i64 R1.room, .slice qa1 R1.players.length qc1, .slice ia1 R1.items.length ic1, .int .i64 R1.coins][ii]? : Option Value)) ∧ (∀ ii, w'.cell? ⟨u5.heap.size, ii, none⟩ = (#[.int .i64 R2.err, .int .i64 R2.kind, .int .i64 R2.room, .slice qa2 R2.players.length qc2, .slice ia2 R2.items.length ic2, .int .i64 R2.coins][ii]? : Option Value)) ∧ w'.cell? ⟨b, o + i, none⟩ = some (.int .i64 (r1 : Int)) ∧ w'.cell? ⟨b, o + k, none⟩ = some (.int .i64 (r2 : Int))) := Lib.hid (fun w' hb => ⟨hb, fun ii => (hb.cell (p := ⟨w.heap.size, ii, none⟩) H_6.out.2.1).trans (H_6.out.2.2 ii), fun ii => (hb.cell (p := ⟨u3.heap.size, ii, none⟩) A_6.out.2.1).trans (A_6.out.2.2 ii), fun ii => (hb.cell (p := ⟨u5.heap.size, ii, none⟩) B2_6.out.2.1).trans (B2_6.out.2.2 ii), cell_call d0 hb, cell_call d1 hb⟩)
  have D0 := Lib.hid (bdrew1 (Below.refl V6.heap.size V6))
  refine wp_region_noPanic ?_
  refine wp_region_held_drew (S := (fun w' => Below V6.heap.size V6 w' ∧ (∀ ii, w'.cell? ⟨w.heap.size, ii, none⟩ = (#[.slice pd.ex x.d.exits.length pd.exc, .slice pd.pl x.d.players.length pd.plc, .slice pd.co x.d.coins.length pd.coc, .slice pd.it x.d.items.length pd.itc, .slice pd.bo x.d.boxes.length pd.boc, .int .i64 x.d.room, .int .i64 x.d.player, .int .i64 x.d.box, .slice (some ⟨b, o, none⟩) x.at_.length pac, .slice pk x.coins.length pkc, .slice pw x.wher.length pwc][ii]? : Option Value)) ∧ (∀ ii, w'.cell? ⟨u3.heap.size, ii, none⟩ = (#[.int .i64 R1.err, .int .i64 R1.kind, .int .i64 R1.room, .slice qa1 R1.players.length qc1, .slice ia1 R1.items.length ic1, .int .i64 R1.coins][ii]? : Option Value)) ∧ (∀ ii, w'.cell? ⟨u5.heap.size, ii, none⟩ = (#[.int .i64 R2.err, .int .i64 R2.kind, .int .i64 R2.room, .slice qa2 R2.players.length qc2, .slice ia2 R2.items.length ic2, .int .i64 R2.coins][ii]? : Option Value)) ∧ w'.cell? ⟨b, o + i, none⟩ = some (.int .i64 (r1 : Int)) ∧ w'.cell? ⟨b, o + k, none⟩ = some (.int .i64 (r2 : Int)))) (by kernel_rfl) (by (first | (with_reducible exact KS.out _ D0.out))) (fun hHeld => ?_)
  clear d0 d1
  iterate 10
    (first | refine tkW 0 (v := ?_) ?_ ?_ | refine tkW 1 (v := ?_) ?_ ?_ | refine tkW 3 (v := ?_) ?_ ?_ | refine tkW 4 (v := ?_) ?_ ?_ | refine tkW 5 (v := ?_) ?_ ?_ | refine tkW 6 (v := ?_) ?_ ?_ | refine tkW 7 (v := ?_) ?_ ?_ | refine tkW 8 (v := ?_) ?_ ?_ | refine tkW 9 (v := ?_) ?_ ?_ | refine tkW 10 (v := ?_) ?_ ?_)
    rotate_left
    · (intro ww hSw; (try dsimp only at hSw); go_simp; (try with_reducible rfl))
    try simp only [Act.put, List.setIfInBounds_toArray, List.set_cons_zero, List.set_cons_succ]
  iterate 3
    (first | refine tkW 11 (v := ?_) ?_ ?_ | refine tkW 12 (v := ?_) ?_ ?_ | refine tkW 13 (v := ?_) ?_ ?_)
    rotate_left
    · (intro ww hSw; (try dsimp only at hSw); go_simp; (try with_reducible rfl))
    try simp only [Act.put, List.setIfInBounds_toArray, List.set_cons_zero, List.set_cons_succ]
  refine rdy1 2 (fun K hK => ?_)
  go_simp
  refine (rrefsame_any R1 R2 _ _ _ _ _ _ _ _ _ (NA_6.out.call D0.out).ints (NA_6.out.call D0.out).sns (NB_6.out.call D0.out).ints (NB_6.out.call D0.out).sns).mono ?_; rintro e x1 ⟨rfl, hb9⟩; have D1 := Lib.hid (below_call D0.out D0.out.size hb9); rw [HRS.out]; clear hb9
  try go_wp2_with fail
  refine hK.out _ _ (by (first | (with_reducible exact KS.out _ D1.out))) (fun hHeld => ?_)
  clear hK K
  try simp only [Act.put, List.setIfInBounds_toArray, List.set_cons_zero, List.set_cons_succ]
  iterate 1
    (first | refine tkW 14 (v := ?_) ?_ ?_)
    rotate_left
    · (intro ww hSw; (try dsimp only at hSw); go_simp; (try with_reducible rfl))
    try simp only [Act.put, List.setIfInBounds_toArray, List.set_cons_zero, List.set_cons_succ]
  refine wpAnyH_done (by kernel_rfl) ?_ _
  refine NoPanic.normal ?_
  clear hHeld KS
  have B_7 := Lib.hid (bl B_6.out D1.out)
  have H_7 := Lib.hid (H_6.out.call D1.out)
  have A_7 := Lib.hid (A_6.out.call D1.out)
  have B2_7 := Lib.hid (B2_6.out.call D1.out)
  have NA_7 := Lib.hid (NA_6.out.call D1.out)
  have NB_7 := Lib.hid (NB_6.out.call D1.out)
  clear B_6 H_6 A_6 B2_6 NA_6 NB_6 D0 D1
  have hcH := H_7.out.2.2
  have hlH := H_7.out.2.1
  have hcA := A_7.out.2.2
  have hlA := A_7.out.2.1
  have hcB2 := B2_7.out.2.2
  have hlB2 := B2_7.out.2.1
  go_wp2_with fail
  refine (sown_any x ⟨pd, some ⟨b, o, none⟩, pac, pk, pkc, pw, pwc⟩ i _ FT.out.right (HWA.out.below B_7.out (Nat.le_refl _)) HIL.out HR3.out).mono ?_
  rintro e u7 ⟨qa3, ia3, qc3, ic3, rfl, g9, b7⟩
  clear hcH hlH hcA hlA hcB2 hlB2
  have B_8 := Lib.hid (bl B_7.out b7)
  have H_8 := Lib.hid (H_7.out.call b7)
  have A_8 := Lib.hid (A_7.out.call b7)
  have B2_8 := Lib.hid (B2_7.out.call b7)
  have NA_8 := Lib.hid (NA_7.out.call b7)
  have NB_8 := Lib.hid (NB_7.out.call b7)
  clear b7 B_7 H_7 A_7 B2_7 NA_7 NB_7
  have hcH := H_8.out.2.2
  have hlH := H_8.out.2.1
  have hcA := A_8.out.2.2
  have hlA := A_8.out.2.1
  have hcB2 := B2_8.out.2.2
  have hlB2 := B2_8.out.2.1
  have NC_8 := Lib.hid g9
  clear g9
  go_wp2_with fail
  clear hcH hlH hcA hlA hcB2 hlB2
  have s9 : (u7.alloc (.cells #[.int .i64 R3.err, .int .i64 R3.kind, .int .i64 R3.room, .slice qa3 R3.players.length qc3, .slice ia3 R3.items.length ic3, .int .i64 R3.coins] 36)).heap.size = u7.heap.size + 1 := by simp
  have B_9 := Lib.hid (B_8.out.alloc B_8.out.size (.cells #[.int .i64 R3.err, .int .i64 R3.kind, .int .i64 R3.room, .slice qa3 R3.players.length qc3, .slice ia3 R3.items.length ic3, .int .i64 R3.coins] 36))
  have H_9 := Lib.hid (H_8.out.alloc (.cells #[.int .i64 R3.err, .int .i64 R3.kind, .int .i64 R3.room, .slice qa3 R3.players.length qc3, .slice ia3 R3.items.length ic3, .int .i64 R3.coins] 36))
  have A_9 := Lib.hid (A_8.out.alloc (.cells #[.int .i64 R3.err, .int .i64 R3.kind, .int .i64 R3.room, .slice qa3 R3.players.length qc3, .slice ia3 R3.items.length ic3, .int .i64 R3.coins] 36))
  have B2_9 := Lib.hid (B2_8.out.alloc (.cells #[.int .i64 R3.err, .int .i64 R3.kind, .int .i64 R3.room, .slice qa3 R3.players.length qc3, .slice ia3 R3.items.length ic3, .int .i64 R3.coins] 36))
  have NA_9 := Lib.hid (NA_8.out.call ((Below.refl _ _).alloc (Nat.le_refl _) (.cells #[.int .i64 R3.err, .int .i64 R3.kind, .int .i64 R3.room, .slice qa3 R3.players.length qc3, .slice ia3 R3.items.length ic3, .int .i64 R3.coins] 36)))
  have NB_9 := Lib.hid (NB_8.out.call ((Below.refl _ _).alloc (Nat.le_refl _) (.cells #[.int .i64 R3.err, .int .i64 R3.kind, .int .i64 R3.room, .slice qa3 R3.players.length qc3, .slice ia3 R3.items.length ic3, .int .i64 R3.coins] 36)))
  have NC_9 := Lib.hid (NC_8.out.call ((Below.refl _ _).alloc (Nat.le_refl _) (.cells #[.int .i64 R3.err, .int .i64 R3.kind, .int .i64 R3.room, .slice qa3 R3.players.length qc3, .slice ia3 R3.items.length ic3, .int .i64 R3.coins] 36)))
  have C_9 := Lib.hid (Holds.newb (w := w) (A := #[.int .i64 R3.err, .int .i64 R3.kind, .int .i64 R3.room, .slice qa3 R3.players.length qc3, .slice ia3 R3.items.length ic3, .int .i64 R3.coins]) (t := 36) (n := u7.heap.size) B_8.out rfl)
  clear B_8 H_8 A_8 B2_8 NA_8 NB_8 NC_8
  generalize u7.alloc (.cells #[.int .i64 R3.err, .int .i64 R3.kind, .int .i64 R3.room, .slice qa3 R3.players.length qc3, .slice ia3 R3.items.length ic3, .int .i64 R3.coins] 36) = V8 at *
  clear s4 s6 s9
  obtain ⟨v1, W1, gA, cA, W2, hr1, hr2, hb1, hb2, hli⟩ := sappend_both (W := V8.drew) (ca := ic1) (cb := ic3) rfl (RowAt.call NA_9.out.it.row (bdrew1 (Below.refl _ _))) (RowAt.call NC_9.out.it.row (bdrew1 (Below.refl _ _))) (by have := HA.out; omega) (by have := HC.out; omega)
  rw [HL.out] at hr2 hli
  rw [HN.out] at hr2
  have HR1 := Lib.hid hr1
  have HR2 := Lib.hid hr2
  have D0 := Lib.hid (bdrew1 (Below.refl V8.heap.size V8))
  have DA := Lib.hid (D0.out.trans ((Below.refl V8.drew.heap.size V8.drew).alloc (Nat.le_refl _) (.cells #[] 45)))
  have D1 := Lib.hid (D0.out.trans hb1)
  have D2 := Lib.hid (D0.out.trans hb2)
  have HLI := Lib.hid hli
  clear hr1 hr2 hb1 hb2 hli
  have KS : Hid (∀ w', Below V8.heap.size V8 w' → Below V8.heap.size V8 w' ∧ (∀ ii, w'.cell? ⟨u3.heap.size, ii, none⟩ = (#[.int .i64 R1.err, .int .i64 R1.kind, .int .i64 R1.room, .slice qa1 R1.players.length qc1, .slice ia1 R1.items.length ic1, .int .i64 R1.coins][ii]? : Option Value)) ∧ (∀ ii, w'.cell? ⟨u7.heap.size, ii, none⟩ = (#[.int .i64 R3.err, .int .i64 R3.kind, .int .i64 R3.room, .slice qa3 R3.players.length qc3, .slice ia3 R3.items.length ic3, .int .i64 R3.coins][ii]? : Option Value))) := Lib.hid (fun w' hb => ⟨hb, fun ii => (hb.cell (p := ⟨u3.heap.size, ii, none⟩) A_9.out.2.1).trans (A_9.out.2.2 ii), fun ii => (hb.cell (p := ⟨u7.heap.size, ii, none⟩) C_9.out.2.1).trans (C_9.out.2.2 ii)⟩)
  refine wp_region_noPanic ?_
  refine wp_region_held_drew (S := (fun w' => Below V8.heap.size V8 w' ∧ (∀ ii, w'.cell? ⟨u3.heap.size, ii, none⟩ = (#[.int .i64 R1.err, .int .i64 R1.kind, .int .i64 R1.room, .slice qa1 R1.players.length qc1, .slice ia1 R1.items.length ic1, .int .i64 R1.coins][ii]? : Option Value)) ∧ (∀ ii, w'.cell? ⟨u7.heap.size, ii, none⟩ = (#[.int .i64 R3.err, .int .i64 R3.kind, .int .i64 R3.room, .slice qa3 R3.players.length qc3, .slice ia3 R3.items.length ic3, .int .i64 R3.coins][ii]? : Option Value)))) (by kernel_rfl) (by (first | (with_reducible exact KS.out _ D0.out))) (fun hHeld => ?_)
  iterate 4
    (first | refine tkW 1 (v := ?_) ?_ ?_ | refine tkW 2 (v := ?_) ?_ ?_ | refine tkW 4 (v := ?_) ?_ ?_ | refine tkW 5 (v := ?_) ?_ ?_)
    rotate_left
    · (intro ww hSw; (try dsimp only at hSw); go_simp; (try with_reducible rfl))
    try simp only [Act.put, List.setIfInBounds_toArray, List.set_cons_zero, List.set_cons_succ]
  refine rdy1 0 (fun K hK => ?_)
  go_simp
  try go_wp2_with fail
  refine hK.out _ _ (by (first | (exact KS.out _ DA.out))) (fun hHeld => ?_)
  clear hK K
  try simp only [Act.put, List.setIfInBounds_toArray, List.set_cons_zero, List.set_cons_succ]
  refine rdy1 3 (fun K hK => ?_)
  refine sstep_append rfl (.tmp 60) (.tmp 62) 34 rfl _ _ v1 W1 rfl rfl HR1.out ?_
  refine hK.out _ _ (by (first | (with_reducible exact KS.out _ D1.out))) (fun hHeld => ?_)
  clear hK K
  try simp only [Act.put, List.setIfInBounds_toArray, List.set_cons_zero, List.set_cons_succ]
  refine rdy1 6 (fun K hK => ?_)
  refine sstep_append rfl (.tmp 63) (.tmp 65) 34 rfl _ _ _ W2 rfl rfl HR2.out ?_
  refine hK.out _ _ (by (first | (with_reducible exact KS.out _ D2.out))) (fun hHeld => ?_)
  clear hK K
  try simp only [Act.put, List.setIfInBounds_toArray, List.set_cons_zero, List.set_cons_succ]
  iterate 1
    (first | refine tkW 7 (v := ?_) ?_ ?_)
    rotate_left
    · (intro ww hSw; (try dsimp only at hSw); go_simp; (try with_reducible rfl))
    try simp only [Act.put, List.setIfInBounds_toArray, List.set_cons_zero, List.set_cons_succ]
  refine wpAnyH_done (by kernel_rfl) ?_ _
  refine NoPanic.normal ?_
  clear hHeld KS HR1 HR2 DA D1 D0
  have B_10 := Lib.hid (bl B_9.out D2.out)
  have H_10 := Lib.hid (H_9.out.call D2.out)
  have A_10 := Lib.hid (A_9.out.call D2.out)
  have B2_10 := Lib.hid (B2_9.out.call D2.out)
  have C_10 := Lib.hid (C_9.out.call D2.out)
  have NA_10 := Lib.hid (NA_9.out.call D2.out)
  have NB_10 := Lib.hid (NB_9.out.call D2.out)
  have NC_10 := Lib.hid (NC_9.out.call D2.out)
  clear D2 B_9 H_9 A_9 B2_9 C_9 NA_9 NB_9 NC_9
  go_wp2_with fail
  go_loopw [13] (fun nv wr => ∃ n : Nat, n ≤ N ∧ nv = .int .i64 n ∧ Below W2.heap.size W2 wr) (fun nv _ => N - (intOf nv).toNat)
  case atStart => exact ⟨0, Nat.zero_le _, rfl, Below.refl _ _⟩
  case round =>
    obtain ⟨n, hn, rfl, hB⟩ := hrel
    have HBB := Lib.hid hB
    by_cases hlt : n < N
    · have hln : n < L.length := by rw [HN.out]; exact hlt
      obtain ⟨gb, go, ha, hgb, hlc⟩ := (RowAt.call HLI.out hB).at_ hln
      have e1 : wr.cell? ⟨gb, go + n * 3 + 1, none⟩ = some (.int .i64 L[n].kind) := by have := hlc n hln 1 (by omega); simpa [seC] using this
      have hwn : IntKind.i64.wrap ((n : Int) + 1) = (n : Int) + 1 := IntWalk.i64_in _ (by omega)
      obtain ⟨kd, hkd⟩ : ∃ kd, L[n].kind = kd := ⟨_, rfl⟩
      rw [hkd] at e1
      subst ha
      by_cases hk2 : kd = 2
      case neg =>
        have q1 : (kd != 2) = true := by simpa using hk2
        clear hk2 hkd hlc hB
        go_wp2_with fail
        go_roundw
        case rel => exact ⟨n + 1, by omega, by go_num, HBB.out⟩
        case measure => simp [intOf]; omega
      have HFD := Lib.hid (HBX.out n hln (hkd.trans hk2))
      rw [hk2] at e1
      clear hk2 hkd
      obtain ⟨id, hid⟩ : ∃ id, L[n].id = id := ⟨_, rfl⟩
      have E2 := Lib.hid (show wr.cell? ⟨gb, go + n * 3 + 2, none⟩ = some (.int .i64 id) from by have := hlc n hln 2 (by omega); rw [← hid]; simpa [seC] using this)
      rw [hid] at HFD
      clear hid hlc hB
      go_wp2_with fail
      clear e1
      obtain ⟨wp, hwp⟩ : ∃ q, q = wr := ⟨_, rfl⟩
      subst hwp
      go_loopw [14, 15] (fun fv mv wr => ∃ m : Nat, m ≤ N ∧ fv = .bool (inT (L.map Sn.item) m id) ∧ mv = .int .i64 m ∧ Below wp.heap.size wp wr) (fun _ mv _ => N - (intOf mv).toNat)
      case atStart => exact ⟨0, Nat.zero_le _, by rw [inT_zero], rfl, Below.refl _ _⟩
      case round =>
        obtain ⟨m, hm, rfl, rfl, hB⟩ := hrel
        have HB2 := Lib.hid hB
        by_cases hlm : m < N
        · have hmn : m < L.length := by rw [HN.out]; exact hlm
          obtain ⟨gb', go', ha, -, hlc⟩ := (RowAt.call HLI.out (HBB.out.trans (hB.mono HBB.out.size))).at_ hmn
          simp only [Option.some.injEq, Addr.mk.injEq, and_true] at ha
          obtain ⟨rfl, rfl⟩ := ha
          have e0 : wr.cell? ⟨gb, go + m * 3, none⟩ = some (.int .i64 L[m].item) := by have := hlc m hmn 0 (by omega); simpa [seC] using this
          have e2 := cell_call E2.out hB
          have hwm : IntKind.i64.wrap ((m : Int) + 1) = (m : Int) + 1 := IntWalk.i64_in _ (by omega)
          have HS := Lib.hid (inT_sn hmn id)
          obtain ⟨it, hit⟩ : ∃ it, L[m].item = it := ⟨_, rfl⟩
          rw [hit] at e0 HS
          clear hit hlc hB
          obtain ⟨tb, htb⟩ : ∃ tb, inT (L.map Sn.item) m id = tb := ⟨_, rfl⟩
          rw [htb] at HS ⊢
          clear htb
          have qn1 : ¬ (N : Int) ≤ (n : Int) := by omega
          have qn2 : (N ≤ n) = False := by simp; omega
          have qm1 : ¬ (N : Int) ≤ (m : Int) := by omega
          have qm2 : (N ≤ m) = False := by simp; omega
          cases tb
          · by_cases e : it = id
            · have q1 : (it == id) = true := by simp [e]
              have HT := Lib.hid (show inT (L.map Sn.item) (m + 1) id = true by rw [HS.out]; simp [e])
              clear e HS
              go_wp2_with fail
              refine wp_region_noPanic ?_
              refine wp_region_held_drew (S := (fun w' => w'.cell? ⟨gb, go + m * 3, none⟩ = some (.int .i64 it) ∧ w'.cell? ⟨gb, go + n * 3 + 2, none⟩ = some (.int .i64 id))) (by kernel_rfl) (by (first | (exact ⟨e0, e2⟩))) (fun hHeld => ?_)
              iterate 10
                (first | refine tkW 0 (v := ?_) ?_ ?_ | refine tkW 1 (v := ?_) ?_ ?_ | refine tkW 2 (v := ?_) ?_ ?_ | refine tkW 3 (v := ?_) ?_ ?_ | refine tkW 4 (v := ?_) ?_ ?_ | refine tkW 5 (v := ?_) ?_ ?_ | refine tkW 6 (v := ?_) ?_ ?_ | refine tkW 7 (v := ?_) ?_ ?_ | refine tkW 8 (v := ?_) ?_ ?_ | refine tkW 9 (v := ?_) ?_ ?_)
                rotate_left
                · (intro ww hSw; (try dsimp only at hSw); go_simp; (try with_reducible rfl))
                try simp only [Act.put, List.setIfInBounds_toArray, List.set_cons_zero, List.set_cons_succ]
              iterate 6
                (first | refine tkW 10 (v := ?_) ?_ ?_ | refine tkW 11 (v := ?_) ?_ ?_ | refine tkW 12 (v := ?_) ?_ ?_ | refine tkW 13 (v := ?_) ?_ ?_ | refine tkW 14 (v := ?_) ?_ ?_ | refine tkW 15 (v := ?_) ?_ ?_)
                rotate_left
                · (intro ww hSw; (try dsimp only at hSw); go_simp; (try with_reducible rfl))
                try simp only [Act.put, List.setIfInBounds_toArray, List.set_cons_zero, List.set_cons_succ]
              refine wpAnyH_done (by kernel_rfl) ?_ _
              refine NoPanic.normal ?_
              clear hHeld e0 e2
              have HB9 := Lib.hid (bdrew1 HB2.out)
              generalize wr.drew = WR at *
              go_wp2_with fail
              go_roundw
              case rel => exact ⟨m + 1, by omega, by rw [HT.out], by go_num, HB9.out⟩
              case measure => simp [intOf]; omega
            · have q1 : (it == id) = false := by simpa using e
              have HT := Lib.hid (show inT (L.map Sn.item) (m + 1) id = false by rw [HS.out]; simpa using e)
              clear e HS
              go_wp2_with fail
              refine wp_region_noPanic ?_
              refine wp_region_held_drew (S := (fun w' => w'.cell? ⟨gb, go + m * 3, none⟩ = some (.int .i64 it) ∧ w'.cell? ⟨gb, go + n * 3 + 2, none⟩ = some (.int .i64 id))) (by kernel_rfl) (by (first | (exact ⟨e0, e2⟩))) (fun hHeld => ?_)
              iterate 10
                (first | refine tkW 0 (v := ?_) ?_ ?_ | refine tkW 1 (v := ?_) ?_ ?_ | refine tkW 2 (v := ?_) ?_ ?_ | refine tkW 3 (v := ?_) ?_ ?_ | refine tkW 4 (v := ?_) ?_ ?_ | refine tkW 5 (v := ?_) ?_ ?_ | refine tkW 6 (v := ?_) ?_ ?_ | refine tkW 7 (v := ?_) ?_ ?_ | refine tkW 8 (v := ?_) ?_ ?_ | refine tkW 9 (v := ?_) ?_ ?_)
                rotate_left
                · (intro ww hSw; (try dsimp only at hSw); go_simp; (try with_reducible rfl))
                try simp only [Act.put, List.setIfInBounds_toArray, List.set_cons_zero, List.set_cons_succ]
              iterate 6
                (first | refine tkW 10 (v := ?_) ?_ ?_ | refine tkW 11 (v := ?_) ?_ ?_ | refine tkW 12 (v := ?_) ?_ ?_ | refine tkW 13 (v := ?_) ?_ ?_ | refine tkW 14 (v := ?_) ?_ ?_ | refine tkW 15 (v := ?_) ?_ ?_)
                rotate_left
                · (intro ww hSw; (try dsimp only at hSw); go_simp; (try with_reducible rfl))
                try simp only [Act.put, List.setIfInBounds_toArray, List.set_cons_zero, List.set_cons_succ]
              refine wpAnyH_done (by kernel_rfl) ?_ _
              refine NoPanic.normal ?_
              clear hHeld e0 e2
              have HB9 := Lib.hid (bdrew1 HB2.out)
              generalize wr.drew = WR at *
              go_wp2_with fail
              go_roundw
              case rel => exact ⟨m + 1, by omega, by rw [HT.out], by go_num, HB9.out⟩
              case measure => simp [intOf]; omega
          · have HT := Lib.hid (show inT (L.map Sn.item) (m + 1) id = true by rw [HS.out]; rfl)
            clear HS
            go_wp2_with fail
            refine wp_region_noPanic ?_
            refine wp_region_held_drew (S := (fun w' => w'.cell? ⟨gb, go + m * 3, none⟩ = some (.int .i64 it) ∧ w'.cell? ⟨gb, go + n * 3 + 2, none⟩ = some (.int .i64 id))) (by kernel_rfl) (by (first | (exact ⟨e0, e2⟩))) (fun hHeld => ?_)
            iterate 2
              (first | refine tkW 0 (v := ?_) ?_ ?_ | refine tkW 1 (v := ?_) ?_ ?_)
              rotate_left
              · (intro ww hSw; (try dsimp only at hSw); go_simp; (try with_reducible rfl))
              try simp only [Act.put, List.setIfInBounds_toArray, List.set_cons_zero, List.set_cons_succ]
            iterate 10
              (first | refine tkN 2 ?_ | refine tkN 3 ?_ | refine tkN 4 ?_ | refine tkN 5 ?_ | refine tkN 6 ?_ | refine tkN 7 ?_ | refine tkN 8 ?_ | refine tkN 9 ?_ | refine tkN 10 ?_ | refine tkN 11 ?_)
              try simp only [Act.put, List.setIfInBounds_toArray, List.set_cons_zero, List.set_cons_succ]
            iterate 2
              (first | refine tkN 12 ?_ | refine tkN 13 ?_)
              try simp only [Act.put, List.setIfInBounds_toArray, List.set_cons_zero, List.set_cons_succ]
            iterate 2
              (first | refine tkW 14 (v := ?_) ?_ ?_ | refine tkW 15 (v := ?_) ?_ ?_)
              rotate_left
              · (intro ww hSw; (try dsimp only at hSw); go_simp; (try with_reducible rfl))
              try simp only [Act.put, List.setIfInBounds_toArray, List.set_cons_zero, List.set_cons_succ]
            refine wpAnyH_done (by kernel_rfl) ?_ _
            refine NoPanic.normal ?_
            clear hHeld e0 e2
            have HB9 := Lib.hid (bdrew1 HB2.out)
            generalize wr.drew = WR at *
            go_wp2_with fail
            go_roundw
            case rel => exact ⟨m + 1, by omega, by rw [HT.out], by go_num, HB9.out⟩
            case measure => simp [intOf]; omega
        · have hme : N = m := by omega
          have HT := Lib.hid (show inT (L.map Sn.item) m id = true by have := HFD.out; rw [List.length_map, HN.out] at this; rwa [hme] at this)
          rw [HT.out]
          have HB9 := Lib.hid (HBB.out.trans (hB.mono HBB.out.size))
          clear hB
          have hml : ¬ (m : Int) < (N : Int) := by omega
          clear hme
          go_wp2_with fail
          go_roundw
          case rel => exact ⟨n + 1, by omega, by go_num, HB9.out⟩
          case measure => simp [intOf]; omega
    · have hne : n = N := by omega
      have BB := Lib.hid hB
      have hnl : ¬ (n : Int) < (N : Int) := by omega
      clear hB hne
      go_wp2_with fail
      go_ret
      exact ⟨rfl, B_10.out.trans (BB.out.mono B_10.out.size)⟩
theorem walk_sightSame (x : Wd) (p : Wp) (a c : Int) (w : World) (ha : (Lit.int .u8 a).wf = true) (hc : (Lit.int .u8 c).wf = true) (h : WorldAt w p x) : Calls Try.prog 7 #[.agg #[.slice p.d.ex x.d.exits.length p.d.exc, .slice p.d.pl x.d.players.length p.d.plc, .slice p.d.co x.d.coins.length p.d.coc, .slice p.d.it x.d.items.length p.d.itc, .slice p.d.bo x.d.boxes.length p.d.boc, .int .i64 x.d.room, .int .i64 x.d.player, .int .i64 x.d.box, .slice p.at_ x.at_.length p.atc, .slice p.co x.coins.length p.coc, .slice p.wh x.wher.length p.whc], .int .u8 a, .int .u8 c] w fun e w' => e = .returned (.bool true) ∧ Below w.heap.size w w' := by
  cases hf : fitsB x
  · exact sightSame_no x p a c w h hf
  have h9 := wf_u8 ha
  have h8 := wf_u8 hc
  obtain ⟨m1, rfl⟩ : ∃ m : Nat, a = m := ⟨a.toNat, by omega⟩
  obtain ⟨m2, rfl⟩ : ∃ m : Nat, c = m := ⟨c.toNat, by omega⟩
  have hil : m1 % x.at_.length < x.at_.length := Nat.mod_lt _ (right_lens (fits_fit hf).right).1
  obtain ⟨pd, pa, pac, pk, pkc, pw, pwc⟩ := p
  obtain ⟨b, o, ea, -, -⟩ := h.at_.at_ hil
  simp only at ea
  subst ea
  exact sightSame_yes x pd b o pac pk pw pkc pwc m1 _ m2 _ (by omega) (by omega) rfl rfl w h hf
set_option maxRecDepth 100000 in
theorem lifted_sightSame (os : Os) (started : os.Started) (H : Type) (enc : TypeId × Value → H) :
    ReturnsInHanded {} Try.checked os 7 .any (Rows.sightSameSpec.pre6 enc Try.prog Try.f7 Rows.sightSameRow.domain false) (Rows.sightSameSpec.post enc Try.prog Try.f7 false true false false) := by
  refine returnsInHanded_of_change (C := Try.checked) (by kernel_rfl) started (by kernel_rfl) Try.func7
    (ChangeSpec.witness6 (enc := enc) (C := Try.checked) false ⟨#[], #[.agg #[.slice none 0 0, .slice none 0 0, .slice none 0 0, .slice none 0 0, .slice none 0 0, .int .i64 0, .int .i64 0, .int .i64 0, .slice none 0 0, .slice none 0 0, .slice none 0 0], .int .u8 0, .int .u8 0], []⟩ 8 (by kernel_rfl) (by kernel_rfl) (by kernel_rfl) (by kernel_rfl)) ?_
  intro W base args ds gs before hval0 hW hcnd _
  have hval : ∀ (j : Nat) t v, Try.f7.params[j]? = some t → args[j]? = some v → Value.okWide Try.prog W .any base t v := hval0
  have hW' := hW
  obtain ⟨p, q, hA0, hV, rfl, hfz, hnd⟩ := hW
  have hA : DataW.TrodAll enc Try.prog W 0 (fun _ => true) true Try.f7.params.toList args.toList ds p := hA0
  rw [Try.params7] at hA hval
  obtain ⟨v0, vs0, d0, ds0, p0, q0, hargs, rfl, rfl, h0, r0⟩ := trodAll_cons hA
  obtain ⟨v1, vs1, d1, ds1, p1, q1, rfl, rfl, rfl, h1, r1⟩ := trodAll_cons r0
  obtain ⟨v2, vs2, d2, ds2, p2, q2, rfl, rfl, rfl, h2, r2⟩ := trodAll_cons r1
  obtain ⟨rfl, rfl, rfl⟩ := trodAll_nil r2
  obtain rfl : args = #[v0, v1, v2] := by cases args; simp_all
  obtain ⟨rfl, rfl⟩ := trodVars_none hV
  obtain ⟨wx0, wp0, rfl, m0⟩ := read_world (hval 0 29 v0 rfl rfl) h0
  obtain ⟨a1, rfl, rfl, rfl, w1⟩ := open_int Try.underlying5 (hval 1 5 v1 rfl rfl) h1
  obtain ⟨a2, rfl, rfl, rfl, w2⟩ := open_int Try.underlying5 (hval 2 5 v2 rfl rfl) h2
  clear hA0 hval0
  simp only [List.append_nil] at hW'
  refine (walk_sightSame wx0 wp0 a1 a2 W w1 w2 m0).mono fun e W' ⟨he, hg⟩ => ?_
  subst he
  exact ⟨_, rfl, law_post (by kernel_rfl) rfl (by rw [Try.params7]; decide +kernel) rfl rfl Try.underlying4 hW' hg⟩

/-- ████ THE STATEMENT ████ -/
theorem proved_sightSame : Rows.SightSameSaid :=
  OpenClaim.holds_of_wide 7 Try.f7 rfl rfl rfl rfl rfl rfl rfl ⟨rfl, rfl, rfl, rfl, rfl⟩ rfl rfl rfl rfl rfl (by kernel_rfl) Try.func7 (by kernel_rfl)
    (of_decide_eq_true (by kernel_rfl)) (by unfold Func.isWrapper; first | (rw [if_pos (by decide +kernel)]; kernel_rfl) | (rw [if_neg (by decide +kernel)]; exact ⟨rfl, rfl⟩))
    (fun os started H enc _ => lifted_sightSame os started H enc)
#print axioms proved_sightSame
end Go.Proofs.Ytojfichbnnfjpaa
