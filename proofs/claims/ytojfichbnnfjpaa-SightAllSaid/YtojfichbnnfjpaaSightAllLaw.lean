/- SightAll: each player is present in one room, each item seen in one room, or had by one player, or neither. -/
import Derived.Test.YtojfichbnnfjpaaRows
import Derived.Test.YtojfichbnnfjpaaTk
import Derived.Test.YtojfichbnnfjpaaKit
import Derived.Test.YtojfichbnnfjpaaGMem
import Derived.Test.YtojfichbnnfjpaaCoin
import Derived.Test.YtojfichbnnfjpaaGWorld
import Derived.Test.YtojfichbnnfjpaaDescMay
import Derived.Test.YtojfichbnnfjpaaGDescN
import Derived.Test.YtojfichbnnfjpaaGRight
import Derived.Test.YtojfichbnnfjpaaGCopy
import Derived.Test.YtojfichbnnfjpaaGRefD
import Derived.Test.YtojfichbnnfjpaaGAs
import Derived.Test.YtojfichbnnfjpaaRefRight
import Derived.Test.YtojfichbnnfjpaaGTreeL
import Derived.Test.YtojfichbnnfjpaaRepMath
import Derived.Test.YtojfichbnnfjpaaRepSame
import Derived.Test.YtojfichbnnfjpaaSightMath
import Derived.Test.YtojfichbnnfjpaaSightA
import Derived.Test.YtojfichbnnfjpaaSightB
import Derived.Test.YtojfichbnnfjpaaSightOff
import Derived.Test.YtojfichbnnfjpaaSightAllMath
import Derived.Test.YtojfichbnnfjpaaTreeCount
import Derived.Test.YtojfichbnnfjpaaRepRefMay
import Derived.Test.YtojfichbnnfjpaaSightAwake
import Derived.Deep.DeepCutAuto
import Derived.Deep.QuietTactic
import Derived.BigQuiet
import Derived.Deep.RegionHeld3
import Derived.WalkKit
import Derived.ProofKit
import Derived.OpenShut
import Derived.IntWalk
namespace Go.Proofs.Ytojfichbnnfjpaa
open Go.ChangeShapes Go.WideShapes Go.ChangeAt Go.RowKit
set_option linter.unusedVariables false
open Go.RowKit
set_option maxRecDepth 100000 in
theorem sightAll_no (x : Wd) (p : Wp)  (w : World) (h : WorldAt w p x) (hf : fitsB x = false) : Calls Try.prog 4 #[.agg #[.slice p.d.ex x.d.exits.length p.d.exc, .slice p.d.pl x.d.players.length p.d.plc, .slice p.d.co x.d.coins.length p.d.coc, .slice p.d.it x.d.items.length p.d.itc, .slice p.d.bo x.d.boxes.length p.d.boc, .int .i64 x.d.room, .int .i64 x.d.player, .int .i64 x.d.box, .slice p.at_ x.at_.length p.atc, .slice p.co x.coins.length p.coc, .slice p.wh x.wher.length p.whc]] w fun e w' => e = .returned (.bool true) ∧ Below w.heap.size w w' := by
  have H_0 := Lib.hid (Holds.new w #[.slice p.d.ex x.d.exits.length p.d.exc, .slice p.d.pl x.d.players.length p.d.plc, .slice p.d.co x.d.coins.length p.d.coc, .slice p.d.it x.d.items.length p.d.itc, .slice p.d.bo x.d.boxes.length p.d.boc, .int .i64 x.d.room, .int .i64 x.d.player, .int .i64 x.d.box, .slice p.at_ x.at_.length p.atc, .slice p.co x.coins.length p.coc, .slice p.wh x.wher.length p.whc] 29)
  have HF := Lib.hid hf
  have HWA := Lib.hid h
  clear hf h
  go_enter Try.func4, Try.ntmps4
  go_wp2_with fail
  generalize w.alloc (.cells #[.slice p.d.ex x.d.exits.length p.d.exc, .slice p.d.pl x.d.players.length p.d.plc, .slice p.d.co x.d.coins.length p.d.coc, .slice p.d.it x.d.items.length p.d.itc, .slice p.d.bo x.d.boxes.length p.d.boc, .int .i64 x.d.room, .int .i64 x.d.player, .int .i64 x.d.box, .slice p.at_ x.at_.length p.atc, .slice p.co x.coins.length p.coc, .slice p.wh x.wher.length p.whc] 29) = V0 at *
  have B_0 := Lib.hid H_0.out.1
  refine (awake12_any _).mono ?_
  rintro e u1 ⟨rfl, b1⟩
  have B_1 := Lib.hid (bl B_0.out b1)
  have H_1 := Lib.hid (H_0.out.call b1)
  clear b1 B_0 H_0
  have hcH := H_1.out.2.2
  have hlH := H_1.out.2.1
  go_wp2_with fail
  refine (fits12_any x p _ (HWA.out.below H_1.out.1 (Nat.le_refl _))).mono ?_
  rintro e u2 ⟨rfl, b2⟩
  rw [HF.out]
  clear hcH hlH
  have B_2 := Lib.hid (bl B_1.out b2)
  have H_2 := Lib.hid (H_1.out.call b2)
  clear b2 B_1 H_1
  have hcH := H_2.out.2.2
  have hlH := H_2.out.2.1
  go_wp2_with fail
  refine (awake12_any _).mono ?_
  rintro e u3 ⟨rfl, b3⟩
  clear hcH hlH
  have B_3 := Lib.hid (bl B_2.out b3)
  have H_3 := Lib.hid (H_2.out.call b3)
  clear b3 B_2 H_2
  have hcH := H_3.out.2.2
  have hlH := H_3.out.2.1
  go_wp2_with fail
  go_ret
  exact ⟨rfl, B_3.out⟩
/-- What lies in one cell. -/
def CellIs (W : World) (p : Addr) (v : Value) : Prop := W.cell? p = some v
theorem CellIs.call {W W' : World} {p : Addr} {v : Value} (h : CellIs W p v) (hb : Below W.heap.size W W') : CellIs W' p v := cell_call h hb
theorem thereN_le (x : Wd) (m n : Nat) : thereN x m n ≤ m := by
  have := List.length_filter_le (fun i => decide (roomOf x i < n)) (List.range m)
  simpa [thereN] using this
/-- The items of an answer, one by one. -/
theorem items_at {x : Wd} {p : Pl} {L : List Sn} (h : underN x.wher x.wher.length p = L) {j : Nat} (hj : j < L.length) : ∃ m : Nat, ∃ hu : j < (uI x.wher p).length, (uI x.wher p)[j] = m ∧ m < x.wher.length ∧ L[j].item = (m : Int) := by
  subst h
  have hu : j < (uI x.wher p).length := by rw [← uI_len]; exact hj
  refine ⟨_, hu, rfl, (uI_get hu).1, ?_⟩
  simp only [under_uI, List.getElem_map, seenOf]
set_option maxRecDepth 100000 in
set_option maxHeartbeats 1000000 in
theorem sightAll_yes (x : Wd) (pd : Dp) (b o pac kb ko pkc : Nat) (pw : Option Addr) (pwc : Nat) (w : World) (h : WorldAt w ⟨pd, some ⟨b, o, none⟩, pac, some ⟨kb, ko, none⟩, pkc, pw, pwc⟩ x) (hf : fitsB x = true) : Calls Try.prog 4 #[.agg #[.slice pd.ex x.d.exits.length pd.exc, .slice pd.pl x.d.players.length pd.plc, .slice pd.co x.d.coins.length pd.coc, .slice pd.it x.d.items.length pd.itc, .slice pd.bo x.d.boxes.length pd.boc, .int .i64 x.d.room, .int .i64 x.d.player, .int .i64 x.d.box, .slice (some ⟨b, o, none⟩) x.at_.length pac, .slice (some ⟨kb, ko, none⟩) x.coins.length pkc, .slice pw x.wher.length pwc]] w fun e w' => e = .returned (.bool true) ∧ Below w.heap.size w w' := by
  have FT := Lib.hid (fits_fit hf)
  have hlp : 0 < x.at_.length := (right_lens FT.out.right).1
  have hne : ¬ x.at_ = [] := List.length_pos_iff.1 hlp
  have hlen6 := (right_lens FT.out.right).2.1
  have RT := Lib.hid (rooted FT.out)
  have hl16 := FT.out.len
  have hex8 := (few_all FT.out.right).1
  have mk := make_ints x.wher.length (by omega)
  have HAT := Lib.hid (show ∀ m, m < x.at_.length → ∀ W : World, Below w.heap.size w W → CellIs W ⟨b, o + m, none⟩ (.int .i64 (roomOf x m : Int)) from by
      intro m hm W hW
      obtain ⟨b', o', ea, -, hac⟩ := h.at_.at_ hm
      simp only [Option.some.injEq, Addr.mk.injEq, and_true] at ea
      obtain ⟨rfl, rfl⟩ := ea
      have c0 := hac m hm
      rw [(room_at FT.out.right hm).1] at c0
      exact cell_call c0 hW)
  have HCO := Lib.hid (show ∀ m, m < x.at_.length → ∀ W : World, Below w.heap.size w W → CellIs W ⟨kb, ko + m, none⟩ (.int .i64 (purseOf x m)) from by
      intro m hm W hW
      obtain ⟨hk, ek⟩ := purse_at FT.out.right hm
      obtain ⟨b', o', ea, -, hac⟩ := h.co.at_ hk
      simp only [Option.some.injEq, Addr.mk.injEq, and_true] at ea
      obtain ⟨rfl, rfl⟩ := ea
      have c0 := hac m hk
      rw [ek] at c0
      exact cell_call c0 hW)
  have HCL := Lib.hid (show x.coins.length = x.at_.length from (right_lens FT.out.right).2.2.1)
  clear hlp
  have H_0 := Lib.hid (Holds.new w #[.slice pd.ex x.d.exits.length pd.exc, .slice pd.pl x.d.players.length pd.plc, .slice pd.co x.d.coins.length pd.coc, .slice pd.it x.d.items.length pd.itc, .slice pd.bo x.d.boxes.length pd.boc, .int .i64 x.d.room, .int .i64 x.d.player, .int .i64 x.d.box, .slice (some ⟨b, o, none⟩) x.at_.length pac, .slice (some ⟨kb, ko, none⟩) x.coins.length pkc, .slice pw x.wher.length pwc] 29)
  have HF := Lib.hid hf
  have HWA := Lib.hid h
  clear hf h
  go_enter Try.func4, Try.ntmps4
  go_wp2_with fail
  generalize w.alloc (.cells #[.slice pd.ex x.d.exits.length pd.exc, .slice pd.pl x.d.players.length pd.plc, .slice pd.co x.d.coins.length pd.coc, .slice pd.it x.d.items.length pd.itc, .slice pd.bo x.d.boxes.length pd.boc, .int .i64 x.d.room, .int .i64 x.d.player, .int .i64 x.d.box, .slice (some ⟨b, o, none⟩) x.at_.length pac, .slice (some ⟨kb, ko, none⟩) x.coins.length pkc, .slice pw x.wher.length pwc] 29) = V0 at *
  have B_0 := Lib.hid H_0.out.1
  refine (awake12_any _).mono ?_
  rintro e u1 ⟨rfl, b1⟩
  have B_1 := Lib.hid (bl B_0.out b1)
  have H_1 := Lib.hid (H_0.out.call b1)
  clear b1 B_0 H_0
  have hcH := H_1.out.2.2
  have hlH := H_1.out.2.1
  go_wp2_with fail
  refine (fits12_any x ⟨pd, some ⟨b, o, none⟩, pac, some ⟨kb, ko, none⟩, pkc, pw, pwc⟩ _ (HWA.out.below H_1.out.1 (Nat.le_refl _))).mono ?_
  rintro e u2 ⟨rfl, b2⟩
  rw [HF.out]
  clear hcH hlH
  have B_2 := Lib.hid (bl B_1.out b2)
  have H_2 := Lib.hid (H_1.out.call b2)
  clear b2 B_1 H_1
  have hcH := H_2.out.2.2
  have hlH := H_2.out.2.1
  go_wp2_with fail
  clear hcH hlH
  clear mk
  have H_3 := Lib.hid (H_2.out.alloc (.cells (zc x.wher.length) 3))
  have T_3 := Lib.hid (show Blk (u2.alloc (.cells (zc x.wher.length) 3)) u2.heap.size 3 (tS x.wher (sS x) 0 0 0) by rw [← tS_start (sS x) RT.out]; exact Blk.new _ _ _)
  have hgw := B_2.out.size
  have hgn : w.heap.size ≠ u2.heap.size := by have := H_2.out.2.1; omega
  clear H_2 B_2
  generalize (u2.alloc (.cells (zc x.wher.length) 3)) = VA at *
  generalize u2.heap.size = tb at *
  go_loopw [4, 5] (fun tv nv wr => ∃ n : Nat, n ≤ x.d.exits.length ∧ tv = .int .i64 ((thereN x x.at_.length n : Nat) : Int) ∧ nv = .int .i64 n ∧ Holds w w.heap.size #[.slice pd.ex x.d.exits.length pd.exc, .slice pd.pl x.d.players.length pd.plc, .slice pd.co x.d.coins.length pd.coc, .slice pd.it x.d.items.length pd.itc, .slice pd.bo x.d.boxes.length pd.boc, .int .i64 x.d.room, .int .i64 x.d.player, .int .i64 x.d.box, .slice (some ⟨b, o, none⟩) x.at_.length pac, .slice (some ⟨kb, ko, none⟩) x.coins.length pkc, .slice pw x.wher.length pwc] wr ∧ Blk wr tb 3 (tS x.wher (sS x) 0 n 0)) (fun _ nv _ => x.d.exits.length - (intOf nv).toNat)
  case atStart => exact ⟨0, Nat.zero_le _, by rw [thereN_zero]; rfl, rfl, H_3.out, T_3.out⟩
  case round =>
    obtain ⟨n, hn, rfl, rfl, h1, h2⟩ := hrel
    clear H_3 T_3
    have H_4 := Lib.hid h1
    have T_4 := Lib.hid h2
    have B_4 := Lib.hid h1.1
    clear h1 h2
    obtain ⟨wn, hwn⟩ : ∃ q, q = wr := ⟨_, rfl⟩
    subst hwn
    by_cases hln : n < x.d.exits.length
    · have hwn1 : IntKind.i64.wrap ((n : Int) + 1) = (n : Int) + 1 := IntWalk.i64_in _ (by omega)
      have gtn := T_4.out.lt
      have hcH := H_4.out.2.2
      have hlH := H_4.out.2.1
      go_wp2_with fail
      refine (spresent_any x ⟨pd, some ⟨b, o, none⟩, pac, some ⟨kb, ko, none⟩, pkc, pw, pwc⟩ n _ FT.out.right (HWA.out.below B_4.out (Nat.le_refl _)).at_).mono ?_
      rintro e u3 ⟨la, lc, rfl, ol, b3⟩
      clear hcH hlH
      have B_5 := Lib.hid (bl B_4.out b3)
      have H_5 := Lib.hid (H_4.out.call b3)
      have T_5 := Lib.hid (T_4.out.call b3)
      clear b3 B_4 H_4 T_4
      obtain ⟨l, hl⟩ : ∃ l, presN x x.at_.length n = l := ⟨_, rfl⟩
      rw [hl] at ol ⊢
      have OL_5 := Lib.hid ol
      clear ol
      have hl6 : l.length ≤ 6 := by rw [← hl]; exact Nat.le_trans (presN_len _ _ _) hlen6
      have hwt : IntKind.i64.wrap (((thereN x x.at_.length n : Nat) : Int) + (l.length : Int)) = ((thereN x x.at_.length (n + 1) : Nat) : Int) := by rw [thereN_more, hl, IntWalk.i64_in _ (by have := thereN_le x x.at_.length n; omega)]; omega
      have HGT := Lib.hid (fun (k : Nat) (h : k < l.length) => (show ∃ m : Nat, l[k] = m ∧ m < x.at_.length ∧ roomOf x m = n from by subst hl; exact pres_get h))
      have HTE := Lib.hid (show tK x n l.length = tS x.wher (sS x) 0 (n + 1) 0 by rw [← hl]; exact tK_end x n)
      have HLP := Lib.hid hl
      clear hl
      have hcH := H_5.out.2.2
      have hlH := H_5.out.2.1
      go_wp2_with fail
      clear hwt
      clear hcH hlH
      go_loopw [7] (fun kv wr => ∃ k : Nat, k ≤ l.length ∧ kv = .int .i64 k ∧ Holds w w.heap.size #[.slice pd.ex x.d.exits.length pd.exc, .slice pd.pl x.d.players.length pd.plc, .slice pd.co x.d.coins.length pd.coc, .slice pd.it x.d.items.length pd.itc, .slice pd.bo x.d.boxes.length pd.boc, .int .i64 x.d.room, .int .i64 x.d.player, .int .i64 x.d.box, .slice (some ⟨b, o, none⟩) x.at_.length pac, .slice (some ⟨kb, ko, none⟩) x.coins.length pkc, .slice pw x.wher.length pwc] wr ∧ Blk wr tb 3 (tK x n k) ∧ OwnR 1 3 inC wn.heap.size wr la l) (fun kv _ => l.length - (intOf kv).toNat)
      case atStart => exact ⟨0, Nat.zero_le _, rfl, H_5.out, T_5.out, OL_5.out⟩
      case round =>
        obtain ⟨k, hk, rfl, h1, h2, h3⟩ := hrel
        clear H_5 T_5 OL_5 B_5
        have H_6 := Lib.hid h1
        have T_6 := Lib.hid h2
        have OL_6 := Lib.hid h3
        have B_6 := Lib.hid h1.1
        clear h1 h2 h3
        obtain ⟨wk, hwk⟩ : ∃ q, q = wr := ⟨_, rfl⟩
        subst hwk
        by_cases hlk : k < l.length
        · obtain ⟨m, hm, hml, hmr⟩ := HGT.out k hlk
          obtain ⟨m0, hm0, hml0, hmr0⟩ := HGT.out 0 (by omega)
          obtain ⟨lb, lo, hla, -, hlc⟩ := OL_6.out.row.at_ hlk
          have EK_6 := Lib.hid (show CellIs wk ⟨lb, lo + k, none⟩ (.int .i64 (m : Int)) from by have := hlc k hlk 0 (by omega); rw [hm] at this; simpa [inC, CellIs] using this)
          have EZ_6 := Lib.hid (show CellIs wk ⟨lb, lo, none⟩ (.int .i64 (m0 : Int)) from by have := hlc 0 (by omega) 0 (by omega); rw [hm0] at this; simpa [inC, CellIs] using this)
          have EA_6 := Lib.hid (show CellIs wk ⟨b, o + m, none⟩ (.int .i64 (n : Int)) from by rw [← hmr]; exact HAT.out m hml wk B_6.out)
          obtain ⟨R, hR⟩ : ∃ R, lookR x m = R := ⟨_, rfl⟩
          have HR := Lib.hid hR
          have HR0 := Lib.hid (show lookR x m0 = R by rw [← hR]; exact look_room (hmr0.trans hmr.symm))
          have HML := Lib.hid hml
          have HML0 := Lib.hid hml0
          have HMY := Lib.hid (show rmayB R = true by rw [← hR]; exact may_look FT.out.right hml)
          have HPD := Lib.hid (show decide (R.players = l) = true by rw [← hR, ← HLP.out, ← hmr]; exact decide_eq_true rfl)
          have HRI := Lib.hid (show underN x.wher x.wher.length ⟨((0 : Nat) : Int), (n : Int)⟩ = R.items by rw [← hR, ← hmr]; rfl)
          have hrm : (R.room != (n : Int)) = false := by rw [← hR, ← hmr]; simp [lookR]
          have hm1 : ¬ (m : Int) < 0 := by omega
          have hm2 : ¬ (x.at_.length : Int) ≤ (m : Int) := by omega
          have hm3 : (x.at_.length ≤ m) = False := by simp; omega
          have hk1 : ¬ (l.length : Int) ≤ (k : Int) := by omega
          have hk2 : (l.length ≤ k) = False := by simp; omega
          have hz1 : ¬ (l.length : Int) ≤ 0 := by omega
          have hz2 : (l.length ≤ 0) = False := eq_false (by omega)
          have hz3 : 0 < l.length := by omega
          have hwk1 : IntKind.i64.wrap ((k : Int) + 1) = (k : Int) + 1 := IntWalk.i64_in _ (by omega)
          have gtk := T_6.out.lt
          clear hm hm0 hml hml0 hmr hmr0 hlc hR hlk
          subst hla
          have hcH := H_6.out.2.2
          have hlH := H_6.out.2.1
          go_wp2_with fail
          clear hcH hlH
          have KS : Hid (∀ w', Below wk.heap.size wk w' → Below wk.heap.size wk w' ∧ (∀ ii, w'.cell? ⟨w.heap.size, ii, none⟩ = (#[.slice pd.ex x.d.exits.length pd.exc, .slice pd.pl x.d.players.length pd.plc, .slice pd.co x.d.coins.length pd.coc, .slice pd.it x.d.items.length pd.itc, .slice pd.bo x.d.boxes.length pd.boc, .int .i64 x.d.room, .int .i64 x.d.player, .int .i64 x.d.box, .slice (some ⟨b, o, none⟩) x.at_.length pac, .slice (some ⟨kb, ko, none⟩) x.coins.length pkc, .slice pw x.wher.length pwc][ii]? : Option Value)) ∧ w'.cell? ⟨lb, lo + k, none⟩ = some (.int .i64 (m : Int)) ∧ w'.cell? ⟨b, o + m, none⟩ = some (.int .i64 (n : Int))) := Lib.hid (fun w' hb => ⟨hb, fun ii => (hb.cell (p := ⟨w.heap.size, ii, none⟩) H_6.out.2.1).trans (H_6.out.2.2 ii), cell_call EK_6.out hb, cell_call EA_6.out hb⟩)
          have D0 := Lib.hid (bdrew1 (Below.refl wk.heap.size wk))
          refine wp_region_noPanic ?_
          refine wp_region_held_drew (S := (fun w' => Below wk.heap.size wk w' ∧ (∀ ii, w'.cell? ⟨w.heap.size, ii, none⟩ = (#[.slice pd.ex x.d.exits.length pd.exc, .slice pd.pl x.d.players.length pd.plc, .slice pd.co x.d.coins.length pd.coc, .slice pd.it x.d.items.length pd.itc, .slice pd.bo x.d.boxes.length pd.boc, .int .i64 x.d.room, .int .i64 x.d.player, .int .i64 x.d.box, .slice (some ⟨b, o, none⟩) x.at_.length pac, .slice (some ⟨kb, ko, none⟩) x.coins.length pkc, .slice pw x.wher.length pwc][ii]? : Option Value)) ∧ w'.cell? ⟨lb, lo + k, none⟩ = some (.int .i64 (m : Int)) ∧ w'.cell? ⟨b, o + m, none⟩ = some (.int .i64 (n : Int)))) (by kernel_rfl) (by (first | (with_reducible exact KS.out _ D0.out))) (fun hHeld => ?_)
          iterate 10
            (first | refine tkW 0 (v := ?_) ?_ ?_ | refine tkW 1 (v := ?_) ?_ ?_ | refine tkW 2 (v := ?_) ?_ ?_ | refine tkW 3 (v := ?_) ?_ ?_ | refine tkW 4 (v := ?_) ?_ ?_ | refine tkW 5 (v := ?_) ?_ ?_ | refine tkW 6 (v := ?_) ?_ ?_ | refine tkW 7 (v := ?_) ?_ ?_ | refine tkW 8 (v := ?_) ?_ ?_ | refine tkW 9 (v := ?_) ?_ ?_)
            rotate_left
            · (intro ww hSw; (try dsimp only at hSw); go_simp; (try with_reducible rfl))
            try simp only [Act.put, List.setIfInBounds_toArray, List.set_cons_zero, List.set_cons_succ]
          iterate 10
            (first | refine tkW 10 (v := ?_) ?_ ?_ | refine tkW 11 (v := ?_) ?_ ?_ | refine tkW 12 (v := ?_) ?_ ?_ | refine tkW 13 (v := ?_) ?_ ?_ | refine tkW 14 (v := ?_) ?_ ?_ | refine tkW 15 (v := ?_) ?_ ?_ | refine tkW 16 (v := ?_) ?_ ?_ | refine tkW 17 (v := ?_) ?_ ?_ | refine tkW 18 (v := ?_) ?_ ?_ | refine tkW 19 (v := ?_) ?_ ?_)
            rotate_left
            · (intro ww hSw; (try dsimp only at hSw); go_simp; (try with_reducible rfl))
            try simp only [Act.put, List.setIfInBounds_toArray, List.set_cons_zero, List.set_cons_succ]
          iterate 7
            (first | refine tkW 20 (v := ?_) ?_ ?_ | refine tkW 21 (v := ?_) ?_ ?_ | refine tkW 22 (v := ?_) ?_ ?_ | refine tkW 23 (v := ?_) ?_ ?_ | refine tkW 24 (v := ?_) ?_ ?_ | refine tkW 25 (v := ?_) ?_ ?_ | refine tkW 26 (v := ?_) ?_ ?_)
            rotate_left
            · (intro ww hSw; (try dsimp only at hSw); go_simp; (try with_reducible rfl))
            try simp only [Act.put, List.setIfInBounds_toArray, List.set_cons_zero, List.set_cons_succ]
          refine wpAnyH_done (by kernel_rfl) ?_ _
          refine NoPanic.normal ?_
          clear hHeld KS
          have B_7 := Lib.hid (bl B_6.out D0.out)
          have H_7 := Lib.hid (H_6.out.call D0.out)
          have T_7 := Lib.hid (T_6.out.call D0.out)
          have OL_7 := Lib.hid (OL_6.out.call D0.out)
          have EK_7 := Lib.hid (EK_6.out.call D0.out)
          have EZ_7 := Lib.hid (EZ_6.out.call D0.out)
          have EA_7 := Lib.hid (EA_6.out.call D0.out)
          clear B_6 H_6 T_6 OL_6 EK_6 EZ_6 EA_6 D0
          generalize wk.drew = V903 at *
          have hcH := H_7.out.2.2
          have hlH := H_7.out.2.1
          go_wp2_with fail
          have GTX := Lib.hid T_7.out.lt
          clear hcH hlH
          have hcH := H_7.out.2.2
          have hlH := H_7.out.2.1
          go_upto_region 15 with fail
          clear hcH hlH
          go_cut [8] (fun sp wx => ∃ rb qa ia qc ic, sp = .pointer (some ⟨rb, 0, none⟩) ∧ V903.heap.size ≤ rb ∧ Blk wx rb 36 #[.int .i64 R.err, .int .i64 R.kind, .int .i64 R.room, .slice qa R.players.length qc, .slice ia R.items.length ic, .int .i64 R.coins] ∧ NewR V903.heap.size wx qa ia R ∧ Below V903.heap.size V903 wx)
          case first =>
            have KS : Hid (∀ w', Below V903.heap.size V903 w' → Below V903.heap.size V903 w' ∧ (∀ ii, w'.cell? ⟨w.heap.size, ii, none⟩ = (#[.slice pd.ex x.d.exits.length pd.exc, .slice pd.pl x.d.players.length pd.plc, .slice pd.co x.d.coins.length pd.coc, .slice pd.it x.d.items.length pd.itc, .slice pd.bo x.d.boxes.length pd.boc, .int .i64 x.d.room, .int .i64 x.d.player, .int .i64 x.d.box, .slice (some ⟨b, o, none⟩) x.at_.length pac, .slice (some ⟨kb, ko, none⟩) x.coins.length pkc, .slice pw x.wher.length pwc][ii]? : Option Value)) ∧ w'.cell? ⟨lb, lo + k, none⟩ = some (.int .i64 (m : Int))) := Lib.hid (fun w' hb => ⟨hb, fun ii => (hb.cell (p := ⟨w.heap.size, ii, none⟩) H_7.out.2.1).trans (H_7.out.2.2 ii), cell_call EK_7.out hb⟩)
            refine wp_region_noPanic ?_
            refine wp_region_held_drew (S := (fun w' => Below V903.heap.size V903 w' ∧ (∀ ii, w'.cell? ⟨w.heap.size, ii, none⟩ = (#[.slice pd.ex x.d.exits.length pd.exc, .slice pd.pl x.d.players.length pd.plc, .slice pd.co x.d.coins.length pd.coc, .slice pd.it x.d.items.length pd.itc, .slice pd.bo x.d.boxes.length pd.boc, .int .i64 x.d.room, .int .i64 x.d.player, .int .i64 x.d.box, .slice (some ⟨b, o, none⟩) x.at_.length pac, .slice (some ⟨kb, ko, none⟩) x.coins.length pkc, .slice pw x.wher.length pwc][ii]? : Option Value)) ∧ w'.cell? ⟨lb, lo + k, none⟩ = some (.int .i64 (m : Int)))) (by kernel_rfl) (by (first | (with_reducible exact KS.out _ (bdrew1 (Below.refl _ _))))) (fun hHeld => ?_)
            iterate 5
              (first | refine tkW 0 (v := ?_) ?_ ?_ | refine tkW 1 (v := ?_) ?_ ?_ | refine tkW 2 (v := ?_) ?_ ?_ | refine tkW 3 (v := ?_) ?_ ?_ | refine tkW 4 (v := ?_) ?_ ?_)
              rotate_left
              · (intro ww hSw; (try dsimp only at hSw); go_simp; (try with_reducible rfl))
              try simp only [Act.put, List.setIfInBounds_toArray, List.set_cons_zero, List.set_cons_succ]
            refine wpAnyH_ready (rs := [5, 6]) (by kernel_rfl) (by simp) (AllReadyH.cons (by simp only [List.getElem?_toArray, List.getElem?_cons_succ, List.getElem?_cons_zero]; rfl) (fun K hK => ?_) (AllReadyH.cons (by simp only [List.getElem?_toArray, List.getElem?_cons_succ, List.getElem?_cons_zero]; rfl) (fun K hK => ?_) AllReadyH.nil))
            · skip
              go_simp
              with_reducible refine (slook_any x ⟨pd, some ⟨b, o, none⟩, pac, some ⟨kb, ko, none⟩, pkc, pw, pwc⟩ m _ FT.out.right (HWA.out.below (B_7.out.trans (hHeld.1.mono B_7.out.size)) (Nat.le_refl _)) HML.out HR.out).mono ?_; rintro e9 w9 ⟨qa9, ia9, qc9, ic9, rfl, tk, hb9⟩; have HB9 := Lib.hid (below_call hHeld.1 hHeld.1.size hb9); have TK := Lib.hid tk; have HS := Lib.hid hHeld.1.size; clear tk hb9
              try go_wp2_with fail
              refine hK.out _ _ (by (first | (with_reducible exact KS.out _ HB9.out))) (fun hHeld => ?_)
              clear hK K
              try simp only [Act.put, List.setIfInBounds_toArray, List.set_cons_zero, List.set_cons_succ]
              refine rdy1 6 (fun K hK => ?_)
              go_simp
              try go_wp2_with fail
              refine hK.out _ _ (by (first | (with_reducible exact KS.out _ (Below.alloc HB9.out HB9.out.size _)))) (fun hHeld => ?_)
              clear hK K
              try simp only [Act.put, List.setIfInBounds_toArray, List.set_cons_zero, List.set_cons_succ]
              refine rdy1 7 (fun K hK => ?_)
              go_simp
              try go_wp2_with fail
              refine hK.out _ _ (by (first | (with_reducible exact KS.out _ (Below.alloc HB9.out HB9.out.size _)))) (fun hHeld => ?_)
              clear hK K
              try simp only [Act.put, List.setIfInBounds_toArray, List.set_cons_zero, List.set_cons_succ]
              refine wpAnyH_done (by kernel_rfl) ?_ _
              refine NoPanic.normal ?_
              clear hHeld
              go_wp2_with fail
              go_meet
              exact ⟨w9.heap.size, qa9, ia9, qc9, ic9, rfl, HB9.out.size, Blk.new w9 36 #[.int .i64 R.err, .int .i64 R.kind, .int .i64 R.room, .slice qa9 R.players.length qc9, .slice ia9 R.items.length ic9, .int .i64 R.coins], (TK.out.less HS.out).call ((Below.refl _ _).alloc (Nat.le_refl _) (.cells #[.int .i64 R.err, .int .i64 R.kind, .int .i64 R.room, .slice qa9 R.players.length qc9, .slice ia9 R.items.length ic9, .int .i64 R.coins] 36)), Below.alloc HB9.out HB9.out.size (.cells #[.int .i64 R.err, .int .i64 R.kind, .int .i64 R.room, .slice qa9 R.players.length qc9, .slice ia9 R.items.length ic9, .int .i64 R.coins] 36)⟩
            · skip
              go_simp
              try go_wp2_with fail
              refine hK.out _ _ (by (first | (with_reducible exact KS.out _ (bdrew1 (Below.alloc (Below.refl _ _) (Nat.le_refl _) _))))) (fun hHeld => ?_)
              clear hK K
              try simp only [Act.put, List.setIfInBounds_toArray, List.set_cons_zero, List.set_cons_succ]
              refine rdy1 5 (fun K hK => ?_)
              go_simp
              with_reducible refine (slook_any x ⟨pd, some ⟨b, o, none⟩, pac, some ⟨kb, ko, none⟩, pkc, pw, pwc⟩ m _ FT.out.right (HWA.out.below (B_7.out.trans (hHeld.1.mono B_7.out.size)) (Nat.le_refl _)) HML.out HR.out).mono ?_; rintro e9 w9 ⟨qa9, ia9, qc9, ic9, rfl, tk, hb9⟩; have HB9 := Lib.hid (below_call hHeld.1 hHeld.1.size hb9); have TK := Lib.hid tk; have HS := Lib.hid hHeld.1.size; have BG0 := Lib.hid (show Blk w9 V903.heap.size 36 #[.int .i64 0, .int .i64 0, .int .i64 0, .slice none 0 0, .slice none 0 0, .int .i64 0] from (Blk.new V903 36 #[.int .i64 0, .int .i64 0, .int .i64 0, .slice none 0 0, .slice none 0 0, .int .i64 0]).drew.call hb9); have NB := Lib.hid (show V903.heap.size + 1 ≤ (V903.alloc (.cells #[.int .i64 0, .int .i64 0, .int .i64 0, .slice none 0 0, .slice none 0 0, .int .i64 0] 36)).drew.heap.size from by simp [World.drew]); have cg := BG0.out.cell; have lg := BG0.out.lt; have zg := BG0.out.frozen; clear tk hb9
              try go_wp2_with fail
              refine hK.out _ _ (by (first | (with_reducible exact KS.out _ HB9.out))) (fun hHeld => ?_)
              clear hK K
              try simp only [Act.put, List.setIfInBounds_toArray, List.set_cons_zero, List.set_cons_succ]
              refine rdy1 7 (fun K hK => ?_)
              go_simp
              try go_wp2_with fail
              refine hK.out _ _ (by (first | ((with_reducible refine KS.out _ ?_); (iterate 6 with_reducible refine Below.setCell ?_ (by exact Nat.le_refl _) _); with_reducible exact HB9.out))) (fun hHeld => ?_)
              clear hK K
              try simp only [Act.put, List.setIfInBounds_toArray, List.set_cons_zero, List.set_cons_succ]
              refine wpAnyH_done (by kernel_rfl) ?_ _
              refine NoPanic.normal ?_
              clear hHeld cg lg zg
              go_wp2_with fail
              go_meet
              exact ⟨V903.heap.size, qa9, ia9, qc9, ic9, rfl, Nat.le_refl _, blk_six BG0.out (.int .i64 R.err) (.int .i64 R.kind) (.int .i64 R.room) (.slice qa9 R.players.length qc9) (.slice ia9 R.items.length ic9) (.int .i64 R.coins), (by (refine NewR.less (n := V903.heap.size + 1) ?_ (by omega)); (iterate 6 refine NewR.set (q := V903.heap.size) ?_ (by omega) _ _); exact TK.out.less NB.out), (by (iterate 6 refine Below.setCell ?_ (by exact Nat.le_refl _) _); exact HB9.out)⟩
          case rest =>
            obtain ⟨rb1, qa1, ia1, qc1, ic1, rfl, hrb, hBK, hNR, hBW⟩ := hcut
            generalize wc = z1 at *
            have B_8 := Lib.hid (bl B_7.out hBW)
            have H_8 := Lib.hid (H_7.out.call hBW)
            have T_8 := Lib.hid (T_7.out.call hBW)
            have OL_8 := Lib.hid (OL_7.out.call hBW)
            have EK_8 := Lib.hid (EK_7.out.call hBW)
            have EZ_8 := Lib.hid (EZ_7.out.call hBW)
            have EA_8 := Lib.hid (EA_7.out.call hBW)
            have K1 := Lib.hid hBK
            have BX := Lib.hid hBW
            have NX_8 := Lib.hid hNR
            have Hrb1 := Lib.hid hrb
            have X_8 := Lib.hid (hBK.holds B_8.out)
            clear hrb hBK hNR hBW B_7 H_7 T_7 OL_7 EK_7 EZ_7 EA_7
            have hcH := H_8.out.2.2
            have hlH := H_8.out.2.1
            have hcX := X_8.out.2.2
            have hlX := X_8.out.2.1
            have RB := Lib.hid (show tb < V903.heap.size ∧ V903.heap.size ≤ rb1 from ⟨GTX.out, Hrb1.out⟩)
            go_wp2_with fail
            clear hcH hlH hcX hlX
            have KS : Hid (∀ w', Below z1.heap.size z1 w' → Below z1.heap.size z1 w' ∧ (∀ ii, w'.cell? ⟨w.heap.size, ii, none⟩ = (#[.slice pd.ex x.d.exits.length pd.exc, .slice pd.pl x.d.players.length pd.plc, .slice pd.co x.d.coins.length pd.coc, .slice pd.it x.d.items.length pd.itc, .slice pd.bo x.d.boxes.length pd.boc, .int .i64 x.d.room, .int .i64 x.d.player, .int .i64 x.d.box, .slice (some ⟨b, o, none⟩) x.at_.length pac, .slice (some ⟨kb, ko, none⟩) x.coins.length pkc, .slice pw x.wher.length pwc][ii]? : Option Value)) ∧ (∀ ii, w'.cell? ⟨rb1, ii, none⟩ = (#[.int .i64 R.err, .int .i64 R.kind, .int .i64 R.room, .slice qa1 R.players.length qc1, .slice ia1 R.items.length ic1, .int .i64 R.coins][ii]? : Option Value)) ∧ w'.cell? ⟨lb, lo, none⟩ = some (.int .i64 (m0 : Int))) := Lib.hid (fun w' hb => ⟨hb, fun ii => (hb.cell (p := ⟨w.heap.size, ii, none⟩) H_8.out.2.1).trans (H_8.out.2.2 ii), fun ii => (hb.cell (p := ⟨rb1, ii, none⟩) X_8.out.2.1).trans (X_8.out.2.2 ii), cell_call EZ_8.out hb⟩)
            have D0 := Lib.hid (bdrew1 (Below.refl z1.heap.size z1))
            refine wp_region_noPanic ?_
            refine wp_region_held_drew (S := (fun w' => Below z1.heap.size z1 w' ∧ (∀ ii, w'.cell? ⟨w.heap.size, ii, none⟩ = (#[.slice pd.ex x.d.exits.length pd.exc, .slice pd.pl x.d.players.length pd.plc, .slice pd.co x.d.coins.length pd.coc, .slice pd.it x.d.items.length pd.itc, .slice pd.bo x.d.boxes.length pd.boc, .int .i64 x.d.room, .int .i64 x.d.player, .int .i64 x.d.box, .slice (some ⟨b, o, none⟩) x.at_.length pac, .slice (some ⟨kb, ko, none⟩) x.coins.length pkc, .slice pw x.wher.length pwc][ii]? : Option Value)) ∧ (∀ ii, w'.cell? ⟨rb1, ii, none⟩ = (#[.int .i64 R.err, .int .i64 R.kind, .int .i64 R.room, .slice qa1 R.players.length qc1, .slice ia1 R.items.length ic1, .int .i64 R.coins][ii]? : Option Value)) ∧ w'.cell? ⟨lb, lo, none⟩ = some (.int .i64 (m0 : Int)))) (by kernel_rfl) (by (first | (with_reducible exact KS.out _ D0.out))) (fun hHeld => ?_)
            iterate 1
              (first | refine tkW 0 (v := ?_) ?_ ?_)
              rotate_left
              · (intro ww hSw; (try dsimp only at hSw); go_simp; (try with_reducible rfl))
              try simp only [Act.put, List.setIfInBounds_toArray, List.set_cons_zero, List.set_cons_succ]
            refine rdy1 1 (fun K hK => ?_)
            go_simp
            refine (rrefmay_any R qa1 ia1 qc1 ic1 _ (NX_8.out.call D0.out).ints (NX_8.out.call D0.out).sns).mono ?_; rintro e x1 ⟨rfl, hb9⟩; have D1 := Lib.hid (below_call D0.out D0.out.size hb9); rw [HMY.out]; clear hb9
            try go_wp2_with fail
            refine hK.out _ _ (by (first | (with_reducible exact KS.out _ D1.out))) (fun hHeld => ?_)
            clear hK K
            try simp only [Act.put, List.setIfInBounds_toArray, List.set_cons_zero, List.set_cons_succ]
            iterate 7
              (first | refine tkW 2 (v := ?_) ?_ ?_ | refine tkW 3 (v := ?_) ?_ ?_ | refine tkW 4 (v := ?_) ?_ ?_ | refine tkW 5 (v := ?_) ?_ ?_ | refine tkW 6 (v := ?_) ?_ ?_ | refine tkW 7 (v := ?_) ?_ ?_ | refine tkW 8 (v := ?_) ?_ ?_)
              rotate_left
              · (intro ww hSw; (try dsimp only at hSw); go_simp; (try with_reducible rfl))
              try simp only [Act.put, List.setIfInBounds_toArray, List.set_cons_zero, List.set_cons_succ]
            refine rdy1 9 (fun K hK => ?_)
            go_simp
            refine (slook_any x ⟨pd, some ⟨b, o, none⟩, pac, some ⟨kb, ko, none⟩, pkc, pw, pwc⟩ m0 _ FT.out.right (HWA.out.below (B_8.out.trans (D1.out.mono B_8.out.size)) (Nat.le_refl _)) HML0.out HR0.out).mono ?_; rintro e x2 ⟨qa2, ia2, qc2, ic2, rfl, g2, hb9⟩; have D2 := Lib.hid (below_call D1.out D1.out.size hb9); have NL2 := Lib.hid g2; clear hb9 g2
            try go_wp2_with fail
            refine hK.out _ _ (by (first | (with_reducible exact KS.out _ D2.out))) (fun hHeld => ?_)
            clear hK K
            try simp only [Act.put, List.setIfInBounds_toArray, List.set_cons_zero, List.set_cons_succ]
            refine rdy1 10 (fun K hK => ?_)
            go_simp
            refine (rrefsame_any R R _ _ _ _ _ _ _ _ _ (NX_8.out.call D2.out).ints (NX_8.out.call D2.out).sns NL2.out.ints NL2.out.sns).mono ?_; rintro e x3 ⟨rfl, hb9⟩; have D3 := Lib.hid (below_call D2.out D2.out.size hb9); have NL3 := Lib.hid (NL2.out.call hb9); rw [rsameB_refl]; clear hb9 NL2
            try go_wp2_with fail
            refine hK.out _ _ (by (first | (with_reducible exact KS.out _ D3.out))) (fun hHeld => ?_)
            clear hK K
            try simp only [Act.put, List.setIfInBounds_toArray, List.set_cons_zero, List.set_cons_succ]
            iterate 10
              (first | refine tkW 11 (v := ?_) ?_ ?_ | refine tkW 12 (v := ?_) ?_ ?_ | refine tkW 13 (v := ?_) ?_ ?_ | refine tkW 14 (v := ?_) ?_ ?_ | refine tkW 15 (v := ?_) ?_ ?_ | refine tkW 16 (v := ?_) ?_ ?_ | refine tkW 17 (v := ?_) ?_ ?_ | refine tkW 18 (v := ?_) ?_ ?_ | refine tkW 19 (v := ?_) ?_ ?_ | refine tkW 20 (v := ?_) ?_ ?_)
              rotate_left
              · (intro ww hSw; (try dsimp only at hSw); go_simp; (try with_reducible rfl))
              try simp only [Act.put, List.setIfInBounds_toArray, List.set_cons_zero, List.set_cons_succ]
            iterate 2
              (first | refine tkW 21 (v := ?_) ?_ ?_ | refine tkW 22 (v := ?_) ?_ ?_)
              rotate_left
              · (intro ww hSw; (try dsimp only at hSw); go_simp; (try with_reducible rfl))
              try simp only [Act.put, List.setIfInBounds_toArray, List.set_cons_zero, List.set_cons_succ]
            refine rdy1 23 (fun K hK => ?_)
            go_simp
            refine (ints_any _ _ _ _ R.players l _ (NX_8.out.call D3.out).ints (ints_row.2 (OL_8.out.call D3.out).row)).mono ?_; rintro e x4 ⟨rfl, hb9⟩; have D4 := Lib.hid (below_call D3.out D3.out.size hb9); have NL4 := Lib.hid (NL3.out.call hb9); rw [HPD.out]; clear hb9 NL3
            try go_wp2_with fail
            refine hK.out _ _ (by (first | (with_reducible exact KS.out _ D4.out))) (fun hHeld => ?_)
            clear hK K
            try simp only [Act.put, List.setIfInBounds_toArray, List.set_cons_zero, List.set_cons_succ]
            iterate 2
              (first | refine tkW 24 (v := ?_) ?_ ?_ | refine tkW 25 (v := ?_) ?_ ?_)
              rotate_left
              · (intro ww hSw; (try dsimp only at hSw); go_simp; (try with_reducible rfl))
              try simp only [Act.put, List.setIfInBounds_toArray, List.set_cons_zero, List.set_cons_succ]
            refine wpAnyH_done (by kernel_rfl) ?_ _
            refine NoPanic.normal ?_
            clear hHeld KS
            have B_9 := Lib.hid (bl B_8.out D4.out)
            have H_9 := Lib.hid (H_8.out.call D4.out)
            have X_9 := Lib.hid (X_8.out.call D4.out)
            have T_9 := Lib.hid (T_8.out.call D4.out)
            have OL_9 := Lib.hid (OL_8.out.call D4.out)
            have EK_9 := Lib.hid (EK_8.out.call D4.out)
            have EZ_9 := Lib.hid (EZ_8.out.call D4.out)
            have EA_9 := Lib.hid (EA_8.out.call D4.out)
            have NX_9 := Lib.hid (NX_8.out.call D4.out)
            clear B_8 H_8 X_8 T_8 OL_8 EK_8 EZ_8 EA_8 NX_8 D0 D1 D2 D3 D4 NL4
            have hcH := H_9.out.2.2
            have hlH := H_9.out.2.1
            have hcX := X_9.out.2.2
            have hlX := X_9.out.2.1
            go_wp2_with fail
            clear hcH hlH hcX hlX
            clear EK_9 EZ_9 EA_9
            have hLLb : R.items.length ≤ 16 := by rw [← HRI.out]; exact Nat.le_trans (underN_len _ _ _) hl16
            by_cases hk0 : k = 0
            · have hkz : ((k : Int) == 0) = true := by simp [hk0]
              have T0 := Lib.hid (show Blk x4 tb 3 (tS x.wher (sS x) 0 n 0) by have := T_9.out; rwa [hk0] at this)
              have HSS := Lib.hid (show sS x ⟨((0 : Nat) : Int), (n : Int)⟩ = true from sS_room (by rw [HLP.out]; exact hz3))
              have HTF := Lib.hid (show tS x.wher (sS x) 0 n R.items.length = tK x n (k + 1) by rw [hk0, ← tK_first, ← uI_len, HRI.out])
              clear hk0
              go_loopw [9] (fun v wr => ∃ j : Nat, j ≤ R.items.length ∧ v = .int .i64 j ∧ Holds w w.heap.size #[.slice pd.ex x.d.exits.length pd.exc, .slice pd.pl x.d.players.length pd.plc, .slice pd.co x.d.coins.length pd.coc, .slice pd.it x.d.items.length pd.itc, .slice pd.bo x.d.boxes.length pd.boc, .int .i64 x.d.room, .int .i64 x.d.player, .int .i64 x.d.box, .slice (some ⟨b, o, none⟩) x.at_.length pac, .slice (some ⟨kb, ko, none⟩) x.coins.length pkc, .slice pw x.wher.length pwc] wr ∧ Blk wr tb 3 (tS x.wher (sS x) 0 n j) ∧ OwnR 1 3 inC wn.heap.size wr (some ⟨lb, lo, none⟩) l ∧ Holds w rb1 #[.int .i64 R.err, .int .i64 R.kind, .int .i64 R.room, .slice qa1 R.players.length qc1, .slice ia1 R.items.length ic1, .int .i64 R.coins] wr ∧ NewR V903.heap.size wr qa1 ia1 R) (fun v _ => R.items.length - (intOf v).toNat)
              case atStart => exact ⟨0, Nat.zero_le _, rfl, H_9.out, T0.out, OL_9.out, X_9.out, NX_9.out⟩
              case round =>
                obtain ⟨j, hj, rfl, h1, h2, h3, h4, h5⟩ := hrel
                clear H_9 T_9 OL_9 X_9 NX_9 B_9 T0
                have H_10 := Lib.hid h1
                have T_10 := Lib.hid h2
                have OL_10 := Lib.hid h3
                have X_10 := Lib.hid h4
                have NX_10 := Lib.hid h5
                have B_10 := Lib.hid h1.1
                clear h1 h2 h3 h4 h5
                have hcX := X_10.out.2.2
                have hlX := X_10.out.2.1
                by_cases hlj : j < R.items.length
                · have hjl : j < R.items.length := hlj
                  obtain ⟨mj, hju, hmu, hmw, hmi⟩ := items_at HRI.out hjl
                  obtain ⟨gb, go, hga, hgb, hgc⟩ := NX_10.out.it.row.at_ hjl
                  have e0 : wr.cell? ⟨gb, go + j * 3, none⟩ = some (.int .i64 (mj : Int)) := by have := hgc j hjl 0 (by omega); simpa [seC, hmi] using this
                  have ng : gb ≠ tb := by have h7 := NX_10.out.it; rcases h7.2 with ⟨h0, _⟩ | ⟨b9, cs, h8, h9, _⟩; · rw [h0] at hjl; simp at hjl
                                          · rw [hga] at h8; simp only [Option.some.injEq, Addr.mk.injEq, and_true] at h8; have := RB.out; omega
                  have ng2 : tb ≠ gb := fun h => ng h.symm
                  have hwj : IntKind.i64.wrap ((j : Int) + 1) = (j : Int) + 1 := IntWalk.i64_in _ (by omega)
                  have TZ := tS_not (S := sS x) (k := 0) (n := n) hju
                  rw [hmu] at TZ
                  have TS := Lib.hid (tS_step (S := sS x) (k := 0) (n := n) HSS.out hju)
                  rw [hmu] at TS
                  have tc : wr.cell? ⟨tb, mj, none⟩ = some (.int .i64 0) := (T_10.out.cell mj).trans TZ
                  have tf := T_10.out.frozen mj
                  have tl := T_10.out.lt
                  have hmt : mj < (tS x.wher (sS x) 0 n j).size := by simp [tS]; exact hmw
                  have nlt : ¬ (mj : Int) < 0 := by omega
                  have nge : ¬ (x.wher.length : Int) ≤ (mj : Int) := by omega
                  have nge2 : (x.wher.length ≤ mj) = False := by simp; omega
                  have njl : ¬ (R.items.length : Int) ≤ (j : Int) := by omega
                  have njl2 : (R.items.length ≤ j) = False := by simp; omega
                  have rbt : rb1 ≠ tb := by have := RB.out; omega
                  have rbt2 : tb ≠ rb1 := fun h => rbt h.symm
                  clear TZ hju hmu hmi hgc hjl
                  subst hga
                  go_wp2_with fail
                  go_roundw
                  case rel => exact ⟨j + 1, by omega, by go_num, H_10.out.far (b := tb) hgw hgn mj (.int .i64 1), by rw [← TS.out]; exact T_10.out.set_ mj (.int .i64 1), OL_10.out.set (q := tb) gtn mj (.int .i64 1), X_10.out.far (b := tb) hgw rbt mj (.int .i64 1), NX_10.out.set (q := tb) RB.out.1 mj (.int .i64 1)⟩
                  case measure => simp [intOf]; omega
                · have hje : j = R.items.length := by omega
                  have T1 := Lib.hid (show Blk wr tb 3 (tK x n (k + 1)) by rw [← HTF.out]; have := T_10.out; rwa [hje] at this)
                  have njl : ¬ (j : Int) < (R.items.length : Int) := by omega
                  clear hje
                  go_wp2_with fail
                  go_roundw
                  case rel => exact ⟨k + 1, by omega, by go_num, H_10.out, T1.out, OL_10.out⟩
                  case measure => simp [intOf]; omega
            · have hkz : ((k : Int) == 0) = false := by simpa using hk0
              have HTF := Lib.hid (tK_more x (n := n) hk0)
              clear hk0
              go_loopw [9] (fun v wr => v = .int .i64 0 ∧ Below x4.heap.size x4 wr) (fun _ _ => 0)
              case atStart => exact ⟨rfl, Below.refl _ _⟩
              case round =>
                obtain ⟨rfl, hB⟩ := hrel
                have HBB := Lib.hid hB
                have hcX := (X_9.out.call hB).2.2
                have hlX := (X_9.out.call hB).2.1
                clear hB
                by_cases hlz : (0 : Int) < (R.items.length : Int)
                · have hlz2 : 0 < R.items.length := by omega
                  go_wp2_with fail
                  go_roundw
                  case rel => exact ⟨k + 1, by omega, by go_num, H_9.out.call HBB.out, by rw [← HTF.out]; exact T_9.out.call HBB.out, OL_9.out.call HBB.out⟩
                  case measure => simp [intOf]; omega
                · have hlz2 : R.items.length = 0 := by omega
                  go_wp2_with fail
                  go_roundw
                  case rel => exact ⟨k + 1, by omega, by go_num, H_9.out.call HBB.out, by rw [← HTF.out]; exact T_9.out.call HBB.out, OL_9.out.call HBB.out⟩
                  case measure => simp [intOf]; omega
        · have hke : k = l.length := by omega
          have T1 := Lib.hid (show Blk wk tb 3 (tS x.wher (sS x) 0 (n + 1) 0) by rw [← HTE.out]; have := T_6.out; rwa [hke] at this)
          have nkl : ¬ (k : Int) < (l.length : Int) := by omega
          clear hke
          go_wp2_with fail
          go_roundw
          case rel => exact ⟨n + 1, by omega, rfl, by go_num, H_6.out, T1.out⟩
          case measure => simp [intOf]; omega
    · have hne : n = x.d.exits.length := by omega
      subst hne
      rw [there_all FT.out.right _ (Nat.le_refl _)]
      have H_104 := H_4
      have B_104 := B_4
      have T_104 := Lib.hid (show Blk wn tb 3 (tS x.wher (sS x) 1 0 0) by rw [← tS_next (sS x) RT.out]; exact T_4.out)
      clear H_4 B_4 T_4
      have hcH := H_104.out.2.2
      have hlH := H_104.out.2.1
      go_wp2_with fail
      clear hcH hlH
      go_loopw [10] (fun v wr => ∃ i : Nat, i ≤ x.at_.length ∧ v = .int .i64 i ∧ Holds w w.heap.size #[.slice pd.ex x.d.exits.length pd.exc, .slice pd.pl x.d.players.length pd.plc, .slice pd.co x.d.coins.length pd.coc, .slice pd.it x.d.items.length pd.itc, .slice pd.bo x.d.boxes.length pd.boc, .int .i64 x.d.room, .int .i64 x.d.player, .int .i64 x.d.box, .slice (some ⟨b, o, none⟩) x.at_.length pac, .slice (some ⟨kb, ko, none⟩) x.coins.length pkc, .slice pw x.wher.length pwc] wr ∧ Blk wr tb 3 (tS x.wher (sS x) 1 i 0)) (fun v _ => x.at_.length - (intOf v).toNat)
      case atStart => exact ⟨0, Nat.zero_le _, rfl, H_104.out, T_104.out⟩
      case round =>
        obtain ⟨i, hi, rfl, h1, h2⟩ := hrel
        clear H_104 T_104 B_104
        have H_105 := Lib.hid h1
        have T_105 := Lib.hid h2
        have B_105 := Lib.hid h1.1
        clear h1 h2
        obtain ⟨wi, hwi⟩ : ∃ q, q = wr := ⟨_, rfl⟩
        subst hwi
        by_cases hli : i < x.at_.length
        · obtain ⟨R, hR⟩ : ∃ R, haveR x i = R := ⟨_, rfl⟩
          have HR := Lib.hid hR
          have HLI := Lib.hid hli
          have HMY := Lib.hid (show rmayB R = true by rw [← hR]; exact may_have FT.out.right hli)
          have HRI := Lib.hid (show underN x.wher x.wher.length ⟨((1 : Nat) : Int), (i : Int)⟩ = R.items by rw [← hR]; rfl)
          have EC_105 := Lib.hid (show CellIs wi ⟨kb, ko + i, none⟩ (.int .i64 R.coins) from by rw [← hR]; exact HCO.out i hli wi B_105.out)
          have hcl := HCL.out
          have hi1 : ¬ (x.coins.length : Int) ≤ (i : Int) := by omega
          have hi2 : (x.coins.length ≤ i) = False := by simp; omega
          have hwi1 : IntKind.i64.wrap ((i : Int) + 1) = (i : Int) + 1 := IntWalk.i64_in _ (by omega)
          clear hcl hR
          have gti := T_105.out.lt
          have hcH := H_105.out.2.2
          have hlH := H_105.out.2.1
          go_wp2_with fail
          refine (sown_any x ⟨pd, some ⟨b, o, none⟩, pac, some ⟨kb, ko, none⟩, pkc, pw, pwc⟩ i _ FT.out.right (HWA.out.below B_105.out (Nat.le_refl _)) HLI.out HR.out).mono ?_
          rintro e u5 ⟨qa3, ia3, qc3, ic3, rfl, g3, b5⟩
          clear hcH hlH
          have B_106 := Lib.hid (bl B_105.out b5)
          have H_106 := Lib.hid (H_105.out.call b5)
          have T_106 := Lib.hid (T_105.out.call b5)
          have EC_106 := Lib.hid (EC_105.out.call b5)
          have SZ0 := (b5).size
          clear b5 B_105 H_105 T_105 EC_105
          have hcH := H_106.out.2.2
          have hlH := H_106.out.2.1
          have NZ_106 := Lib.hid g3
          clear g3
          have SZ := Lib.hid (show wi.heap.size ≤ u5.heap.size from SZ0)
          go_wp2_with fail
          clear hcH hlH
          have s107 : (u5.alloc (.cells #[.int .i64 R.err, .int .i64 R.kind, .int .i64 R.room, .slice qa3 R.players.length qc3, .slice ia3 R.items.length ic3, .int .i64 R.coins] 36)).heap.size = u5.heap.size + 1 := by simp
          have B_107 := Lib.hid (B_106.out.alloc B_106.out.size (.cells #[.int .i64 R.err, .int .i64 R.kind, .int .i64 R.room, .slice qa3 R.players.length qc3, .slice ia3 R.items.length ic3, .int .i64 R.coins] 36))
          have H_107 := Lib.hid (H_106.out.alloc (.cells #[.int .i64 R.err, .int .i64 R.kind, .int .i64 R.room, .slice qa3 R.players.length qc3, .slice ia3 R.items.length ic3, .int .i64 R.coins] 36))
          have T_107 := Lib.hid (T_106.out.call ((Below.refl _ _).alloc (Nat.le_refl _) (.cells #[.int .i64 R.err, .int .i64 R.kind, .int .i64 R.room, .slice qa3 R.players.length qc3, .slice ia3 R.items.length ic3, .int .i64 R.coins] 36)))
          have EC_107 := Lib.hid (EC_106.out.call ((Below.refl _ _).alloc (Nat.le_refl _) (.cells #[.int .i64 R.err, .int .i64 R.kind, .int .i64 R.room, .slice qa3 R.players.length qc3, .slice ia3 R.items.length ic3, .int .i64 R.coins] 36)))
          have NZ_107 := Lib.hid (NZ_106.out.call ((Below.refl _ _).alloc (Nat.le_refl _) (.cells #[.int .i64 R.err, .int .i64 R.kind, .int .i64 R.room, .slice qa3 R.players.length qc3, .slice ia3 R.items.length ic3, .int .i64 R.coins] 36)))
          have Z_107 := Lib.hid (Holds.newb (w := w) (A := #[.int .i64 R.err, .int .i64 R.kind, .int .i64 R.room, .slice qa3 R.players.length qc3, .slice ia3 R.items.length ic3, .int .i64 R.coins]) (t := 36) (n := u5.heap.size) B_106.out rfl)
          clear B_106 H_106 T_106 EC_106 NZ_106
          generalize u5.alloc (.cells #[.int .i64 R.err, .int .i64 R.kind, .int .i64 R.room, .slice qa3 R.players.length qc3, .slice ia3 R.items.length ic3, .int .i64 R.coins] 36) = V6 at *
          clear s107
          have KS : Hid (∀ w', Below V6.heap.size V6 w' → Below V6.heap.size V6 w' ∧ (∀ ii, w'.cell? ⟨w.heap.size, ii, none⟩ = (#[.slice pd.ex x.d.exits.length pd.exc, .slice pd.pl x.d.players.length pd.plc, .slice pd.co x.d.coins.length pd.coc, .slice pd.it x.d.items.length pd.itc, .slice pd.bo x.d.boxes.length pd.boc, .int .i64 x.d.room, .int .i64 x.d.player, .int .i64 x.d.box, .slice (some ⟨b, o, none⟩) x.at_.length pac, .slice (some ⟨kb, ko, none⟩) x.coins.length pkc, .slice pw x.wher.length pwc][ii]? : Option Value)) ∧ (∀ ii, w'.cell? ⟨u5.heap.size, ii, none⟩ = (#[.int .i64 R.err, .int .i64 R.kind, .int .i64 R.room, .slice qa3 R.players.length qc3, .slice ia3 R.items.length ic3, .int .i64 R.coins][ii]? : Option Value)) ∧ w'.cell? ⟨kb, ko + i, none⟩ = some (.int .i64 R.coins)) := Lib.hid (fun w' hb => ⟨hb, fun ii => (hb.cell (p := ⟨w.heap.size, ii, none⟩) H_107.out.2.1).trans (H_107.out.2.2 ii), fun ii => (hb.cell (p := ⟨u5.heap.size, ii, none⟩) Z_107.out.2.1).trans (Z_107.out.2.2 ii), cell_call EC_107.out hb⟩)
          have D0 := Lib.hid (bdrew1 (Below.refl V6.heap.size V6))
          refine wp_region_noPanic ?_
          refine wp_region_held_drew (S := (fun w' => Below V6.heap.size V6 w' ∧ (∀ ii, w'.cell? ⟨w.heap.size, ii, none⟩ = (#[.slice pd.ex x.d.exits.length pd.exc, .slice pd.pl x.d.players.length pd.plc, .slice pd.co x.d.coins.length pd.coc, .slice pd.it x.d.items.length pd.itc, .slice pd.bo x.d.boxes.length pd.boc, .int .i64 x.d.room, .int .i64 x.d.player, .int .i64 x.d.box, .slice (some ⟨b, o, none⟩) x.at_.length pac, .slice (some ⟨kb, ko, none⟩) x.coins.length pkc, .slice pw x.wher.length pwc][ii]? : Option Value)) ∧ (∀ ii, w'.cell? ⟨u5.heap.size, ii, none⟩ = (#[.int .i64 R.err, .int .i64 R.kind, .int .i64 R.room, .slice qa3 R.players.length qc3, .slice ia3 R.items.length ic3, .int .i64 R.coins][ii]? : Option Value)) ∧ w'.cell? ⟨kb, ko + i, none⟩ = some (.int .i64 R.coins))) (by kernel_rfl) (by (first | (with_reducible exact KS.out _ D0.out))) (fun hHeld => ?_)
          iterate 1
            (first | refine tkW 0 (v := ?_) ?_ ?_)
            rotate_left
            · (intro ww hSw; (try dsimp only at hSw); go_simp; (try with_reducible rfl))
            try simp only [Act.put, List.setIfInBounds_toArray, List.set_cons_zero, List.set_cons_succ]
          refine rdy1 1 (fun K hK => ?_)
          go_simp
          refine (rrefmay_any R qa3 ia3 qc3 ic3 _ (NZ_107.out.call D0.out).ints (NZ_107.out.call D0.out).sns).mono ?_; rintro e x1 ⟨rfl, hb9⟩; have D1 := Lib.hid (below_call D0.out D0.out.size hb9); rw [HMY.out]; clear hb9
          try go_wp2_with fail
          refine hK.out _ _ (by (first | (with_reducible exact KS.out _ D1.out))) (fun hHeld => ?_)
          clear hK K
          try simp only [Act.put, List.setIfInBounds_toArray, List.set_cons_zero, List.set_cons_succ]
          iterate 10
            (first | refine tkW 2 (v := ?_) ?_ ?_ | refine tkW 3 (v := ?_) ?_ ?_ | refine tkW 4 (v := ?_) ?_ ?_ | refine tkW 5 (v := ?_) ?_ ?_ | refine tkW 6 (v := ?_) ?_ ?_ | refine tkW 7 (v := ?_) ?_ ?_ | refine tkW 8 (v := ?_) ?_ ?_ | refine tkW 9 (v := ?_) ?_ ?_ | refine tkW 10 (v := ?_) ?_ ?_ | refine tkW 11 (v := ?_) ?_ ?_)
            rotate_left
            · (intro ww hSw; (try dsimp only at hSw); go_simp; (try with_reducible rfl))
            try simp only [Act.put, List.setIfInBounds_toArray, List.set_cons_zero, List.set_cons_succ]
          iterate 1
            (first | refine tkW 12 (v := ?_) ?_ ?_)
            rotate_left
            · (intro ww hSw; (try dsimp only at hSw); go_simp; (try with_reducible rfl))
            try simp only [Act.put, List.setIfInBounds_toArray, List.set_cons_zero, List.set_cons_succ]
          refine wpAnyH_done (by kernel_rfl) ?_ _
          refine NoPanic.normal ?_
          clear hHeld KS
          have B_108 := Lib.hid (bl B_107.out D1.out)
          have H_108 := Lib.hid (H_107.out.call D1.out)
          have Z_108 := Lib.hid (Z_107.out.call D1.out)
          have T_108 := Lib.hid (T_107.out.call D1.out)
          have EC_108 := Lib.hid (EC_107.out.call D1.out)
          have NZ_108 := Lib.hid (NZ_107.out.call D1.out)
          clear B_107 H_107 Z_107 T_107 EC_107 NZ_107 D0 D1
          have hcH := H_108.out.2.2
          have hlH := H_108.out.2.1
          have hcZ := Z_108.out.2.2
          have hlZ := Z_108.out.2.1
          go_wp2_with fail
          clear hcH hlH hcZ hlZ
          clear EC_108
          have RB := Lib.hid (show tb < wi.heap.size ∧ wi.heap.size ≤ u5.heap.size from ⟨gti, SZ.out⟩)
          have hLLb : R.items.length ≤ 16 := by rw [← HRI.out]; exact Nat.le_trans (underN_len _ _ _) hl16
          have T0 := T_108
          have HSS := Lib.hid (sS_player x i)
          have HTF := Lib.hid (show tS x.wher (sS x) 1 i R.items.length = tS x.wher (sS x) 1 (i + 1) 0 by rw [← tS_end, ← uI_len, HRI.out])
          go_loopw [12] (fun v wr => ∃ j : Nat, j ≤ R.items.length ∧ v = .int .i64 j ∧ Holds w w.heap.size #[.slice pd.ex x.d.exits.length pd.exc, .slice pd.pl x.d.players.length pd.plc, .slice pd.co x.d.coins.length pd.coc, .slice pd.it x.d.items.length pd.itc, .slice pd.bo x.d.boxes.length pd.boc, .int .i64 x.d.room, .int .i64 x.d.player, .int .i64 x.d.box, .slice (some ⟨b, o, none⟩) x.at_.length pac, .slice (some ⟨kb, ko, none⟩) x.coins.length pkc, .slice pw x.wher.length pwc] wr ∧ Blk wr tb 3 (tS x.wher (sS x) 1 i j) ∧ Holds w u5.heap.size #[.int .i64 R.err, .int .i64 R.kind, .int .i64 R.room, .slice qa3 R.players.length qc3, .slice ia3 R.items.length ic3, .int .i64 R.coins] wr ∧ NewR wi.heap.size wr qa3 ia3 R) (fun v _ => R.items.length - (intOf v).toNat)
          case atStart => exact ⟨0, Nat.zero_le _, rfl, H_108.out, T0.out, Z_108.out, NZ_108.out⟩
          case round =>
            obtain ⟨j, hj, rfl, h1, h2, h3, h4⟩ := hrel
            clear H_108 T_108 Z_108 NZ_108 B_108 T0
            have H_109 := Lib.hid h1
            have T_109 := Lib.hid h2
            have Z_109 := Lib.hid h3
            have NZ_109 := Lib.hid h4
            have B_109 := Lib.hid h1.1
            clear h1 h2 h3 h4
            have hcX := Z_109.out.2.2
            have hlX := Z_109.out.2.1
            by_cases hlj : j < R.items.length
            · have hjl : j < R.items.length := hlj
              obtain ⟨mj, hju, hmu, hmw, hmi⟩ := items_at HRI.out hjl
              obtain ⟨gb, go, hga, hgb, hgc⟩ := NZ_109.out.it.row.at_ hjl
              have e0 : wr.cell? ⟨gb, go + j * 3, none⟩ = some (.int .i64 (mj : Int)) := by have := hgc j hjl 0 (by omega); simpa [seC, hmi] using this
              have ng : gb ≠ tb := by have h7 := NZ_109.out.it; rcases h7.2 with ⟨h0, _⟩ | ⟨b9, cs, h8, h9, _⟩; · rw [h0] at hjl; simp at hjl
                                      · rw [hga] at h8; simp only [Option.some.injEq, Addr.mk.injEq, and_true] at h8; have := RB.out; omega
              have ng2 : tb ≠ gb := fun h => ng h.symm
              have hwj : IntKind.i64.wrap ((j : Int) + 1) = (j : Int) + 1 := IntWalk.i64_in _ (by omega)
              have TZ := tS_not (S := sS x) (k := 1) (n := i) hju
              rw [hmu] at TZ
              have TS := Lib.hid (tS_step (S := sS x) (k := 1) (n := i) HSS.out hju)
              rw [hmu] at TS
              have tc : wr.cell? ⟨tb, mj, none⟩ = some (.int .i64 0) := (T_109.out.cell mj).trans TZ
              have tf := T_109.out.frozen mj
              have tl := T_109.out.lt
              have hmt : mj < (tS x.wher (sS x) 1 i j).size := by simp [tS]; exact hmw
              have nlt : ¬ (mj : Int) < 0 := by omega
              have nge : ¬ (x.wher.length : Int) ≤ (mj : Int) := by omega
              have nge2 : (x.wher.length ≤ mj) = False := by simp; omega
              have njl : ¬ (R.items.length : Int) ≤ (j : Int) := by omega
              have njl2 : (R.items.length ≤ j) = False := by simp; omega
              have rbt : u5.heap.size ≠ tb := by have := RB.out; omega
              have rbt2 : tb ≠ u5.heap.size := fun h => rbt h.symm
              clear TZ hju hmu hmi hgc hjl
              subst hga
              go_wp2_with fail
              go_roundw
              case rel => exact ⟨j + 1, by omega, by go_num, H_109.out.far (b := tb) hgw hgn mj (.int .i64 1), by rw [← TS.out]; exact T_109.out.set_ mj (.int .i64 1), Z_109.out.far (b := tb) hgw rbt mj (.int .i64 1), NZ_109.out.set (q := tb) RB.out.1 mj (.int .i64 1)⟩
              case measure => simp [intOf]; omega
            · have hje : j = R.items.length := by omega
              have T1 := Lib.hid (show Blk wr tb 3 (tS x.wher (sS x) 1 (i + 1) 0) by rw [← HTF.out]; have := T_109.out; rwa [hje] at this)
              have njl : ¬ (j : Int) < (R.items.length : Int) := by omega
              clear hje
              go_wp2_with fail
              go_roundw
              case rel => exact ⟨i + 1, by omega, by go_num, H_109.out, T1.out⟩
              case measure => simp [intOf]; omega
        · have hie : i = x.at_.length := by omega
          have nil : ¬ (i : Int) < (x.at_.length : Int) := by omega
          have hcH := H_105.out.2.2
          have hlH := H_105.out.2.1
          clear hie
          go_wp2_with fail
          clear hcH hlH
          go_loopw [13] (fun v wr => ∃ j : Nat, j ≤ x.wher.length ∧ v = .int .i64 j ∧ Below wi.heap.size wi wr) (fun v _ => x.wher.length - (intOf v).toNat)
          case atStart => exact ⟨0, Nat.zero_le _, rfl, Below.refl _ _⟩
          case round =>
            obtain ⟨j, hj, rfl, hB⟩ := hrel
            have HBB := Lib.hid hB
            by_cases hlj : j < x.wher.length
            · obtain ⟨v, hv, hv1⟩ := tS_one (ps := x.wher) (S := sS x) (k := 1) (n := i) (j := 0) hlj
              have tc : wr.cell? ⟨tb, j, none⟩ = some (.int .i64 (v : Int)) := ((T_105.out.call hB).cell j).trans hv
              have tl := (T_105.out.call hB).lt
              have hv2 : ¬ (1 : Int) < (v : Int) := by omega
              have hwj : IntKind.i64.wrap ((j : Int) + 1) = (j : Int) + 1 := IntWalk.i64_in _ (by omega)
              have njl : ¬ (x.wher.length : Int) ≤ (j : Int) := by omega
              have njl2 : (x.wher.length ≤ j) = False := by simp; omega
              clear hv hB
              go_wp2_with fail
              go_roundw
              case rel => exact ⟨j + 1, by omega, by go_num, HBB.out⟩
              case measure => simp [intOf]; omega
            · have njl : ¬ (j : Int) < (x.wher.length : Int) := by omega
              have hcH := (H_105.out.call hB).2.2
              have hlH := (H_105.out.call hB).2.1
              clear hB
              go_wp2_with fail
              go_ret
              exact ⟨rfl, B_105.out.trans (HBB.out.mono B_105.out.size)⟩
theorem walk_sightAll (x : Wd) (p : Wp) (w : World) (h : WorldAt w p x) : Calls Try.prog 4 #[.agg #[.slice p.d.ex x.d.exits.length p.d.exc, .slice p.d.pl x.d.players.length p.d.plc, .slice p.d.co x.d.coins.length p.d.coc, .slice p.d.it x.d.items.length p.d.itc, .slice p.d.bo x.d.boxes.length p.d.boc, .int .i64 x.d.room, .int .i64 x.d.player, .int .i64 x.d.box, .slice p.at_ x.at_.length p.atc, .slice p.co x.coins.length p.coc, .slice p.wh x.wher.length p.whc]] w fun e w' => e = .returned (.bool true) ∧ Below w.heap.size w w' := by
  cases hf : fitsB x
  · exact sightAll_no x p w h hf
  have hx := (fits_fit hf).right
  have hl := right_lens hx
  obtain ⟨pd, pa, pac, pk, pkc, pw, pwc⟩ := p
  obtain ⟨b, o, ea, -, -⟩ := h.at_.at_ hl.1
  obtain ⟨kb, ko, ek, -, -⟩ := h.co.at_ (show 0 < x.coins.length by omega)
  simp only at ea ek
  subst ea ek
  exact sightAll_yes x pd b o pac kb ko pkc pw pwc w h hf
set_option maxRecDepth 100000 in
theorem lifted_sightAll (os : Os) (started : os.Started) (H : Type) (enc : TypeId × Value → H) :
    ReturnsInHanded {} Try.checked os 4 .any (Rows.sightAllSpec.pre6 enc Try.prog Try.f4 Rows.sightAllRow.domain false) (Rows.sightAllSpec.post enc Try.prog Try.f4 false true false false) := by
  refine returnsInHanded_of_change (C := Try.checked) (by kernel_rfl) started (by kernel_rfl) Try.func4
    (ChangeSpec.witness6 (enc := enc) (C := Try.checked) false ⟨#[], #[.agg #[.slice none 0 0, .slice none 0 0, .slice none 0 0, .slice none 0 0, .slice none 0 0, .int .i64 0, .int .i64 0, .int .i64 0, .slice none 0 0, .slice none 0 0, .slice none 0 0]], []⟩ 8 (by kernel_rfl) (by kernel_rfl) (by kernel_rfl) (by kernel_rfl)) ?_
  intro W base args ds gs before hval0 hW hcnd _
  have hval : ∀ (j : Nat) t v, Try.f4.params[j]? = some t → args[j]? = some v → Value.okWide Try.prog W .any base t v := hval0
  have hW' := hW
  obtain ⟨p, q, hA0, hV, rfl, hfz, hnd⟩ := hW
  have hA : DataW.TrodAll enc Try.prog W 0 (fun _ => true) true Try.f4.params.toList args.toList ds p := hA0
  rw [Try.params4] at hA hval
  obtain ⟨v0, vs0, d0, ds0, p0, q0, hargs, rfl, rfl, h0, r0⟩ := trodAll_cons hA
  obtain ⟨rfl, rfl, rfl⟩ := trodAll_nil r0
  obtain rfl : args = #[v0] := by cases args; simp_all
  obtain ⟨rfl, rfl⟩ := trodVars_none hV
  obtain ⟨wx0, wp0, rfl, m0⟩ := read_world (hval 0 29 v0 rfl rfl) h0
  clear hA0 hval0
  simp only [List.append_nil] at hW'
  refine (walk_sightAll wx0 wp0 W m0).mono fun e W' ⟨he, hg⟩ => ?_
  subst he
  exact ⟨_, rfl, law_post (by kernel_rfl) rfl (by rw [Try.params4]; decide +kernel) rfl rfl Try.underlying4 hW' hg⟩

/-- ████ THE STATEMENT ████ -/
theorem proved_sightAll : Rows.SightAllSaid :=
  OpenClaim.holds_of_wide 4 Try.f4 rfl rfl rfl rfl rfl rfl rfl ⟨rfl, rfl, rfl, rfl, rfl⟩ rfl rfl rfl rfl rfl (by kernel_rfl) Try.func4 (by kernel_rfl)
    (of_decide_eq_true (by kernel_rfl)) (by unfold Func.isWrapper; first | (rw [if_pos (by decide +kernel)]; kernel_rfl) | (rw [if_neg (by decide +kernel)]; exact ⟨rfl, rfl⟩))
    (fun os started H enc _ => lifted_sightAll os started H enc)
#print axioms proved_sightAll
end Go.Proofs.Ytojfichbnnfjpaa
