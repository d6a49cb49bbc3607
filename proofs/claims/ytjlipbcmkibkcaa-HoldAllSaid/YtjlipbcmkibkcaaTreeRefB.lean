/- The document's own: Height, In, Under, Is. -/
import Derived.Test.YtjlipbcmkibkcaaRows
import Derived.Test.YtjlipbcmkibkcaaKit
import Derived.Test.YtjlipbcmkibkcaaGMem
import Derived.Test.YtjlipbcmkibkcaaCoin
import Derived.Test.YtjlipbcmkibkcaaGWorld
import Derived.Test.YtjlipbcmkibkcaaGDescN
import Derived.Test.YtjlipbcmkibkcaaGCopy
import Derived.Test.YtjlipbcmkibkcaaGAs
import Derived.Test.YtjlipbcmkibkcaaGTreeL
import Derived.Test.YtjlipbcmkibkcaaGRefD
import Derived.Test.YtjlipbcmkibkcaaTreeRefA
import Derived.Deep.QuietTactic
import Derived.BigQuiet
import Derived.Deep.RegionHeld3
import Derived.WalkKit
import Derived.ProofKit
import Derived.OpenShut
import Derived.IntWalk
namespace Go.Proofs.Ytjlipbcmkibkcaa
open Go.ChangeShapes Go.WideShapes Go.ChangeAt Go.RowKit
set_option linter.unusedVariables false
open Go.RowKit
set_option maxRecDepth 100000 in
set_option maxHeartbeats 1000000 in
theorem refins_go (x : Wd) (d : Dp) (a kk pw : Option Addr) (ac kc wc : Nat) (yk yi : Int) (w : World) (h : PlsAt w pw x.wher) (hl16 : x.wher.length ≤ 40) : Calls Try.prog 23 #[.agg #[.slice d.ex x.d.exits.length d.exc, .slice d.pl x.d.players.length d.plc, .slice d.co x.d.coins.length d.coc, .slice d.it x.d.items.length d.itc, .slice d.bo x.d.boxes.length d.boc, .int .i64 x.d.room, .int .i64 x.d.player, .int .i64 x.d.box, .slice a x.at_.length ac, .slice kk x.coins.length kc, .slice pw x.wher.length wc], .agg #[.int .i64 yk, .int .i64 yi]] w fun e w' => ∃ q cap, e = .returned (.slice q (inN x.wher x.wher.length ⟨yk, yi⟩).length cap) ∧ OwnR 1 3 inC w.heap.size w' q (inN x.wher x.wher.length ⟨yk, yi⟩) ∧ Below w.heap.size w w' := by
  have H := Lib.hid h
  clear h
  have HP := Lib.hid (Holds.pair w #[.slice d.ex x.d.exits.length d.exc, .slice d.pl x.d.players.length d.plc, .slice d.co x.d.coins.length d.coc, .slice d.it x.d.items.length d.itc, .slice d.bo x.d.boxes.length d.boc, .int .i64 x.d.room, .int .i64 x.d.player, .int .i64 x.d.box, .slice a x.at_.length ac, .slice kk x.coins.length kc, .slice pw x.wher.length wc] #[.int .i64 yk, .int .i64 yi] 29 40)
  go_enter Try.func23, Try.ntmps23
  go_wp2_with fail
  go_loopw [5, 6] (fun v i wr => ∃ k : Nat, k ≤ x.wher.length ∧ i = .int .i64 k ∧ GrowR 1 3 inC (w.heap.size + 2) wr v (inN x.wher k ⟨yk, yi⟩) ∧ Holds w w.heap.size #[.slice d.ex x.d.exits.length d.exc, .slice d.pl x.d.players.length d.plc, .slice d.co x.d.coins.length d.coc, .slice d.it x.d.items.length d.itc, .slice d.bo x.d.boxes.length d.boc, .int .i64 x.d.room, .int .i64 x.d.player, .int .i64 x.d.box, .slice a x.at_.length ac, .slice kk x.coins.length kc, .slice pw x.wher.length wc] wr ∧ Holds w (w.heap.size + 1) #[.int .i64 yk, .int .i64 yi] wr) (fun _ i _ => x.wher.length - (intOf i).toNat)
  case atStart => exact ⟨0, Nat.zero_le _, rfl, GrowR.nil _, HP.out.1, HP.out.2⟩
  case round =>
    obtain ⟨k, hk, rfl, hR, h1, h2⟩ := hrel
    have hc1 := h1.2.2
    have hc2 := h2.2.2
    have hl2 := h2.2.1
    have HR := Lib.hid hR
    by_cases hlt : k < x.wher.length
    · obtain ⟨b, o, hbo, hb, c0, c1⟩ := PlsAt.cells (RowAt.below H.out h1.1 (Nat.le_refl _)) hlt
      have HY := Lib.hid (inN_yes (ps := x.wher) (n := k) (p := ⟨yk, yi⟩))
      have HN := Lib.hid (inN_no (ps := x.wher) (n := k) (p := ⟨yk, yi⟩))
      have HG := Lib.hid (plOf_get hlt)
      have H1 := Lib.hid h1
      have H2 := Lib.hid h2
      have HIL := Lib.hid (inN_len x.wher k ⟨yk, yi⟩)
      subst hbo
      clear H h1 h2 hR
      generalize x.wher[k] = z at *
      obtain ⟨zk, zi⟩ := z
      simp only at c0 c1
      have hrun := run_pleq zk zi yk yi
      have hw : IntKind.i64.wrap ((k : Int) + 1) = (k : Int) + 1 := IntWalk.i64_in _ (by omega)
      by_cases he : (⟨zk, zi⟩ : Pl) = ⟨yk, yi⟩
      · have HX := Lib.hid (HY.out (HG.out.trans he))
        simp only [he, decide_true] at hrun
        clear he HY HN HG
        go_wp2_with fail
        go_quiet (fail)
        obtain ⟨v3, W3, hr3, hg3, hb3⟩ := (HR.out.call (bdrew (Below.refl _ _) nq)).one Try.underlying23 int_info rfl (by decide) (by decide) inC_len inC_one (k : Int) (by have := HIL.out; omega) (by simp; omega)
        have HRN := Lib.hid (show (Builtin.append_ #[23, 23] 23 #[_, .slice (some ⟨wr.heap.size, 0, none⟩) 1 1]).run Try.prog ((wr.drewN nq).alloc (.cells #[.int .i64 k] 3)) = .ok v3 W3 by simpa [inC] using hr3)
        have HG3 := Lib.hid hg3
        have HB3 := Lib.hid hb3
        clear hr3 hg3 hb3
        go_wp2_with (at_builtin; refine append_step1 rfl (.tmp 21) (.tmp 23) 23 rfl _ _ v3 W3 rfl rfl HRN.out ?_)
        go_roundw
        case rel => exact ⟨k + 1, by omega, by go_num, by rw [HX.out]; exact HG3.out, (HR.out.call (bdrew (Below.refl _ _) nq)).holds (H1.out.drewN nq) HB3.out (by omega) (by omega), (HR.out.call (bdrew (Below.refl _ _) nq)).holds (H2.out.drewN nq) HB3.out (by omega) (by omega)⟩
        case measure => simp [intOf]; omega
      · have HX := Lib.hid (HN.out (by rw [HG.out]; exact he))
        simp only [he, decide_false] at hrun
        clear he HY HN HG
        go_wp2_with fail
        go_quiet (fail)
        go_wp2_with fail
        go_roundw
        case rel => exact ⟨k + 1, by omega, by go_num, by rw [HX.out]; exact HR.out, H1.out.drewN _, H2.out.drewN _⟩
        case measure => simp [intOf]; omega
    · have hke : k = x.wher.length := by omega
      subst hke
      have H1 := Lib.hid h1
      obtain ⟨q, cap, rfl, hO⟩ := hR.own inC_len
      have HO := Lib.hid (hO.less (m := w.heap.size) (by omega))
      clear H h1 h2 hR hO HR
      go_wp2_with fail
      go_ret
      exact ⟨_, _, rfl, HO.out, H1.out.1⟩
theorem refins_any (x : Wd) (p : Wp) (y : Pl) (w : World) (h : PlsAt w p.wh x.wher) (hl16 : x.wher.length ≤ 40) : Calls Try.prog 23 #[.agg #[.slice p.d.ex x.d.exits.length p.d.exc, .slice p.d.pl x.d.players.length p.d.plc, .slice p.d.co x.d.coins.length p.d.coc, .slice p.d.it x.d.items.length p.d.itc, .slice p.d.bo x.d.boxes.length p.d.boc, .int .i64 x.d.room, .int .i64 x.d.player, .int .i64 x.d.box, .slice p.at_ x.at_.length p.atc, .slice p.co x.coins.length p.coc, .slice p.wh x.wher.length p.whc], .agg #[.int .i64 y.kind, .int .i64 y.id]] w fun e w' => ∃ q cap, e = .returned (.slice q (inN x.wher x.wher.length y).length cap) ∧ OwnR 1 3 inC w.heap.size w' q (inN x.wher x.wher.length y) ∧ Below w.heap.size w w' :=
  refins_go x p.d p.at_ p.co p.wh p.atc p.coc p.whc y.kind y.id w h hl16
end Go.Proofs.Ytjlipbcmkibkcaa
