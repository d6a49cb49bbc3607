import Derived.Test.YtameelaiigljjaaRows
import Derived.Test.YtameelaiigljjaaKit
import Derived.Test.YtameelaiigljjaaJMem
import Derived.Test.YtameelaiigljjaaCoin
import Derived.Test.YtameelaiigljjaaJWorld
import Derived.Test.YtameelaiigljjaaJDesc
import Derived.Test.YtameelaiigljjaaJTreeList
import Derived.Test.YtameelaiigljjaaJRefA
import Derived.Deep.QuietTactic
import Derived.BigQuiet
import Derived.WalkKit
import Derived.ProofKit
import Derived.OpenShut
import Derived.IntWalk
/- tree.In, and the document's own: the items whose place is this. -/
namespace Go.Proofs.Ytameelaiigljjaa
open Go.ChangeShapes Go.WideShapes Go.ChangeAt Go.RowKit
set_option linter.unusedVariables false
open Go.RowKit
set_option maxRecDepth 100000 in
set_option maxHeartbeats 1000000 in
theorem tin_any (x : Wd) (p : Wp) (y : Pl) (w : World) (h : PlsAt w p.wh x.wher) (hl16 : x.wher.length ≤ 40) : Calls Try.prog 12 #[.agg #[.slice p.d.ex x.d.exits.length p.d.exc, .slice p.d.pl x.d.players.length p.d.plc, .slice p.d.co x.d.coins.length p.d.coc, .slice p.d.it x.d.items.length p.d.itc, .slice p.d.bo x.d.boxes.length p.d.boc, .int .i64 x.d.room, .int .i64 x.d.player, .int .i64 x.d.box, .slice p.at_ x.at_.length p.atc, .slice p.co x.coins.length p.coc, .slice p.wh x.wher.length p.whc], .agg #[.int .i64 y.kind, .int .i64 y.id]] w fun e w' => ∃ a cap, e = .returned (.slice a (inN x.wher x.wher.length y).length cap) ∧ OwnR 1 3 inC w.heap.size w' a (inN x.wher x.wher.length y) ∧ Below w.heap.size w w' := by
  have H := Lib.hid h
  clear h
  obtain ⟨yk, yi⟩ := y
  have HP := Lib.hid (Holds.pair w #[.slice p.d.ex x.d.exits.length p.d.exc, .slice p.d.pl x.d.players.length p.d.plc, .slice p.d.co x.d.coins.length p.d.coc, .slice p.d.it x.d.items.length p.d.itc, .slice p.d.bo x.d.boxes.length p.d.boc, .int .i64 x.d.room, .int .i64 x.d.player, .int .i64 x.d.box, .slice p.at_ x.at_.length p.atc, .slice p.co x.coins.length p.coc, .slice p.wh x.wher.length p.whc] #[.int .i64 yk, .int .i64 yi] 29 31)
  generalize p.wh = pw at *
  go_enter Try.func12, Try.ntmps12
  go_wp2_with fail
  go_loopw [5, 11] (fun v i wr => ∃ k : Nat, k ≤ x.wher.length ∧ i = .int .i64 k ∧ GrowR 1 3 inC (w.heap.size + 2) wr v (inN x.wher k ⟨yk, yi⟩) ∧ Holds w w.heap.size #[.slice p.d.ex x.d.exits.length p.d.exc, .slice p.d.pl x.d.players.length p.d.plc, .slice p.d.co x.d.coins.length p.d.coc, .slice p.d.it x.d.items.length p.d.itc, .slice p.d.bo x.d.boxes.length p.d.boc, .int .i64 x.d.room, .int .i64 x.d.player, .int .i64 x.d.box, .slice p.at_ x.at_.length p.atc, .slice p.co x.coins.length p.coc, .slice pw x.wher.length p.whc] wr ∧ Holds w (w.heap.size + 1) #[.int .i64 yk, .int .i64 yi] wr) (fun _ i _ => x.wher.length - (intOf i).toNat)
  case atStart => exact ⟨0, Nat.zero_le _, rfl, GrowR.nil _, HP.out.1, HP.out.2⟩
  case round =>
    obtain ⟨k, hk, rfl, hR, h1, h2⟩ := hrel
    have hc1 := h1.2.2
    have hc2 := h2.2.2
    have hl2 := h2.2.1
    have HR := Lib.hid hR
    by_cases hlt : k < x.wher.length
    · obtain ⟨b, o, hbo, hb, c0, c1⟩ := PlsAt.cells (RowAt.below H.out h1.1 (Nat.le_refl _)) hlt
      have HY := Lib.hid (inN_yes (ps := x.wher) (n := k) (p := ⟨yk, yi⟩))
      have HN := Lib.hid (inN_no (ps := x.wher) (n := k) (p := ⟨yk, yi⟩))
      have HG := Lib.hid (plOf_get hlt)
      have H1 := Lib.hid h1
      have H2 := Lib.hid h2
      have HIL := Lib.hid (inN_len x.wher k ⟨yk, yi⟩)
      clear H h1 h2 hR
      subst hbo
      generalize x.wher[k] = z at *
      obtain ⟨zk, zi⟩ := z
      simp only at c0 c1
      have hrun := run_pleq zk zi yk yi
      have hw : IntKind.i64.wrap ((k : Int) + 1) = (k : Int) + 1 := IntWalk.i64_in _ (by omega)
      by_cases he : (⟨zk, zi⟩ : Pl) = ⟨yk, yi⟩
      · have HX := Lib.hid (HY.out (HG.out.trans he))
        simp only [he, decide_true] at hrun
        clear he HY HN HG
        have R1 := Lib.hid (HR.out.call ((Below.refl _ _).alloc (Nat.le_refl _) (.cells #[.int .i64 zk, .int .i64 zi] 31)))
        obtain ⟨v3, W3, hr3, hg3, hb3⟩ := R1.out.one Try.underlying23 int_info rfl (by decide) (by decide) inC_len inC_one (k : Int) (by have := HIL.out; omega) (by simp; omega)
        have HRN := Lib.hid (show (Builtin.append_ #[23, 23] 23 #[_, .slice (some ⟨wr.heap.size + 1, 0, none⟩) 1 1]).run Try.prog ((wr.alloc (.cells #[.int .i64 zk, .int .i64 zi] 31)).alloc (.cells #[.int .i64 k] 3)) = .ok v3 W3 by simpa [inC] using hr3)
        have HG3 := Lib.hid hg3
        have HB3 := Lib.hid hb3
        have K1 := Lib.hid (H1.out.alloc (.cells #[.int .i64 zk, .int .i64 zi] 31))
        have K2 := Lib.hid (H2.out.alloc (.cells #[.int .i64 zk, .int .i64 zi] 31))
        clear hr3 hg3 hb3 HR
        go_wp2_with (at_builtin; refine append_step1 rfl (.tmp 19) (.tmp 21) 23 rfl _ _ v3 W3 rfl rfl HRN.out ?_)
        go_roundw
        case rel => exact ⟨k + 1, by omega, by go_num, by rw [HX.out]; exact HG3.out, R1.out.holds K1.out HB3.out (by omega) (by omega), R1.out.holds K2.out HB3.out (by omega) (by omega)⟩
        case measure => simp [intOf]; omega
      · have HX := Lib.hid (HN.out (by rw [HG.out]; exact he))
        simp only [he, decide_false] at hrun
        clear he HY HN HG
        go_wp2_with fail
        go_roundw
        case rel => exact ⟨k + 1, by omega, by go_num, by rw [HX.out]; exact HR.out.call ((Below.refl _ _).alloc (Nat.le_refl _) _), H1.out.alloc _, H2.out.alloc _⟩
        case measure => simp [intOf]; omega
    · have hke : k = x.wher.length := by omega
      subst hke
      have H1 := Lib.hid h1
      obtain ⟨a, cap, rfl, hO⟩ := hR.own inC_len
      have HO := Lib.hid (hO.less (m := w.heap.size) (by omega))
      clear H h1 h2 hR hO HR
      go_wp2_with fail
      go_ret
      exact ⟨_, _, rfl, HO.out, H1.out.1⟩
end Go.Proofs.Ytameelaiigljjaa
