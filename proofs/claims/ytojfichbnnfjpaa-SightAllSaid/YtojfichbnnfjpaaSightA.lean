/- sight.Present, and the document's own: who is in a room; is there such a player. -/
import Derived.Test.YtojfichbnnfjpaaRows
import Derived.Test.YtojfichbnnfjpaaKit
import Derived.Test.YtojfichbnnfjpaaGMem
import Derived.Test.YtojfichbnnfjpaaCoin
import Derived.Test.YtojfichbnnfjpaaGWorld
import Derived.Test.YtojfichbnnfjpaaDescMay
import Derived.Test.YtojfichbnnfjpaaGRight
import Derived.Test.YtojfichbnnfjpaaGDescN
import Derived.Test.YtojfichbnnfjpaaGCopy
import Derived.Test.YtojfichbnnfjpaaGAs
import Derived.Test.YtojfichbnnfjpaaGTreeL
import Derived.Test.YtojfichbnnfjpaaGRefD
import Derived.Test.YtojfichbnnfjpaaSightMath
import Derived.Deep.QuietTactic
import Derived.BigQuiet
import Derived.WalkKit
import Derived.ProofKit
import Derived.OpenShut
import Derived.IntWalk
namespace Go.Proofs.Ytojfichbnnfjpaa
open Go.ChangeShapes Go.WideShapes Go.ChangeAt Go.RowKit
set_option linter.unusedVariables false
open Go.RowKit
set_option maxRecDepth 100000 in
set_option maxHeartbeats 1000000 in
theorem spresent_any (x : Wd) (p : Wp) (r : Nat) (w : World) (hx : rightW x = true) (h : IntsAt w p.at_ x.at_) : Calls Try.prog 16 #[.agg #[.slice p.d.ex x.d.exits.length p.d.exc, .slice p.d.pl x.d.players.length p.d.plc, .slice p.d.co x.d.coins.length p.d.coc, .slice p.d.it x.d.items.length p.d.itc, .slice p.d.bo x.d.boxes.length p.d.boc, .int .i64 x.d.room, .int .i64 x.d.player, .int .i64 x.d.box, .slice p.at_ x.at_.length p.atc, .slice p.co x.coins.length p.coc, .slice p.wh x.wher.length p.whc], .int .i64 (r : Int)] w fun e w' => ∃ a cap, e = .returned (.slice a (presN x x.at_.length r).length cap) ∧ OwnR 1 3 inC w.heap.size w' a (presN x x.at_.length r) ∧ Below w.heap.size w w' := by
  have hl6 := (right_lens hx).2.1
  have H := Lib.hid h
  have HX := Lib.hid hx
  clear h hx
  have HP := Lib.hid (Holds.new w #[.slice p.d.ex x.d.exits.length p.d.exc, .slice p.d.pl x.d.players.length p.d.plc, .slice p.d.co x.d.coins.length p.d.coc, .slice p.d.it x.d.items.length p.d.itc, .slice p.d.bo x.d.boxes.length p.d.boc, .int .i64 x.d.room, .int .i64 x.d.player, .int .i64 x.d.box, .slice p.at_ x.at_.length p.atc, .slice p.co x.coins.length p.coc, .slice p.wh x.wher.length p.whc] 29)
  generalize p.at_ = pa at *
  go_enter Try.func16, Try.ntmps16
  go_wp2_with fail
  go_loopw [5, 10] (fun v i wr => ∃ k : Nat, k ≤ x.at_.length ∧ i = .int .i64 k ∧ GrowR 1 3 inC (w.heap.size + 1) wr v (presN x k r) ∧ Holds w w.heap.size #[.slice p.d.ex x.d.exits.length p.d.exc, .slice p.d.pl x.d.players.length p.d.plc, .slice p.d.co x.d.coins.length p.d.coc, .slice p.d.it x.d.items.length p.d.itc, .slice p.d.bo x.d.boxes.length p.d.boc, .int .i64 x.d.room, .int .i64 x.d.player, .int .i64 x.d.box, .slice pa x.at_.length p.atc, .slice p.co x.coins.length p.coc, .slice p.wh x.wher.length p.whc] wr) (fun _ i _ => x.at_.length - (intOf i).toNat)
  case atStart => exact ⟨0, Nat.zero_le _, rfl, GrowR.nil _, HP.out⟩
  case round =>
    obtain ⟨k, hk, rfl, hR, h1⟩ := hrel
    have hc1 := h1.2.2
    have hl1 := h1.2.1
    have HR := Lib.hid hR
    by_cases hlt : k < x.at_.length
    · obtain ⟨b, o, hbo, hb, hcs⟩ := (H.out.below h1.1 (Nat.le_refl _)).at_ hlt
      have c0 := hcs k hlt
      rw [(room_at HX.out hlt).1] at c0
      have H1 := Lib.hid h1
      have HIL := Lib.hid (presN_len x k r)
      have hw : IntKind.i64.wrap ((k : Int) + 1) = (k : Int) + 1 := IntWalk.i64_in _ (by omega)
      clear H h1 hR hcs
      subst hbo
      by_cases he : roomOf x k = r
      · have HX2 := Lib.hid (presN_yes he)
        have hq : ((roomOf x k : Int) == (r : Int)) = true := by simp [he]
        generalize roomOf x k = rk at *
        clear he
        obtain ⟨v3, W3, hr3, hg3, hb3⟩ := HR.out.one Try.underlying23 int_info rfl (by decide) (by decide) inC_len inC_one (k : Int) (by have := HIL.out; omega) (by omega)
        have HRN := Lib.hid (show (Builtin.append_ #[23, 23] 23 #[_, .slice (some ⟨wr.heap.size, 0, none⟩) 1 1]).run Try.prog (wr.alloc (.cells #[.int .i64 k] 3)) = .ok v3 W3 by simpa [inC] using hr3)
        have HG3 := Lib.hid hg3
        have HB3 := Lib.hid hb3
        clear hr3 hg3 hb3
        go_wp2_with (at_builtin; refine append_step1 rfl (.tmp 20) (.tmp 22) 23 rfl _ _ v3 W3 rfl rfl HRN.out ?_)
        go_roundw
        case rel => exact ⟨k + 1, by omega, by go_num, by rw [HX2.out]; exact HG3.out, HR.out.holds H1.out HB3.out (by omega) (by omega)⟩
        case measure => simp [intOf]; omega
      · have HX2 := Lib.hid (presN_no he)
        have hq : ((roomOf x k : Int) == (r : Int)) = false := by simp; omega
        generalize roomOf x k = rk at *
        clear he
        go_wp2_with fail
        go_roundw
        case rel => exact ⟨k + 1, by omega, by go_num, by rw [HX2.out]; exact HR.out, H1.out⟩
        case measure => simp [intOf]; omega
    · have hke : k = x.at_.length := by omega
      subst hke
      have H1 := Lib.hid h1
      obtain ⟨q, cap, rfl, hO⟩ := hR.own inC_len
      have HO := Lib.hid (hO.less (m := w.heap.size) (by omega))
      clear H h1 hR hO HR
      go_wp2_with fail
      go_ret
      exact ⟨_, _, rfl, HO.out, H1.out.1⟩
set_option maxRecDepth 100000 in
set_option maxHeartbeats 1000000 in
theorem rspresent_any (x : Wd) (p : Wp) (r : Nat) (w : World) (hx : rightW x = true) (h : IntsAt w p.at_ x.at_) : Calls Try.prog 17 #[.agg #[.slice p.d.ex x.d.exits.length p.d.exc, .slice p.d.pl x.d.players.length p.d.plc, .slice p.d.co x.d.coins.length p.d.coc, .slice p.d.it x.d.items.length p.d.itc, .slice p.d.bo x.d.boxes.length p.d.boc, .int .i64 x.d.room, .int .i64 x.d.player, .int .i64 x.d.box, .slice p.at_ x.at_.length p.atc, .slice p.co x.coins.length p.coc, .slice p.wh x.wher.length p.whc], .int .i64 (r : Int)] w fun e w' => ∃ a cap, e = .returned (.slice a (presN x x.at_.length r).length cap) ∧ OwnR 1 3 inC w.heap.size w' a (presN x x.at_.length r) ∧ Below w.heap.size w w' := by
  have hl6 := (right_lens hx).2.1
  have H := Lib.hid h
  have HX := Lib.hid hx
  clear h hx
  have HP := Lib.hid (Holds.new w #[.slice p.d.ex x.d.exits.length p.d.exc, .slice p.d.pl x.d.players.length p.d.plc, .slice p.d.co x.d.coins.length p.d.coc, .slice p.d.it x.d.items.length p.d.itc, .slice p.d.bo x.d.boxes.length p.d.boc, .int .i64 x.d.room, .int .i64 x.d.player, .int .i64 x.d.box, .slice p.at_ x.at_.length p.atc, .slice p.co x.coins.length p.coc, .slice p.wh x.wher.length p.whc] 29)
  generalize p.at_ = pa at *
  go_enter Try.func17, Try.ntmps17
  go_wp2_with fail
  go_loopw [5, 6] (fun v i wr => ∃ k : Nat, k ≤ x.at_.length ∧ i = .int .i64 k ∧ GrowR 1 3 inC (w.heap.size + 1) wr v (presN x k r) ∧ Holds w w.heap.size #[.slice p.d.ex x.d.exits.length p.d.exc, .slice p.d.pl x.d.players.length p.d.plc, .slice p.d.co x.d.coins.length p.d.coc, .slice p.d.it x.d.items.length p.d.itc, .slice p.d.bo x.d.boxes.length p.d.boc, .int .i64 x.d.room, .int .i64 x.d.player, .int .i64 x.d.box, .slice pa x.at_.length p.atc, .slice p.co x.coins.length p.coc, .slice p.wh x.wher.length p.whc] wr) (fun _ i _ => x.at_.length - (intOf i).toNat)
  case atStart => exact ⟨0, Nat.zero_le _, rfl, GrowR.nil _, HP.out⟩
  case round =>
    obtain ⟨k, hk, rfl, hR, h1⟩ := hrel
    have hc1 := h1.2.2
    have hl1 := h1.2.1
    have HR := Lib.hid hR
    by_cases hlt : k < x.at_.length
    · obtain ⟨b, o, hbo, hb, hcs⟩ := (H.out.below h1.1 (Nat.le_refl _)).at_ hlt
      have c0 := hcs k hlt
      rw [(room_at HX.out hlt).1] at c0
      have H1 := Lib.hid h1
      have HIL := Lib.hid (presN_len x k r)
      have hw : IntKind.i64.wrap ((k : Int) + 1) = (k : Int) + 1 := IntWalk.i64_in _ (by omega)
      clear H h1 hR hcs
      subst hbo
      by_cases he : roomOf x k = r
      · have HX2 := Lib.hid (presN_yes he)
        have hq : ((roomOf x k : Int) == (r : Int)) = true := by simp [he]
        generalize roomOf x k = rk at *
        clear he
        obtain ⟨v3, W3, hr3, hg3, hb3⟩ := HR.out.one Try.underlying23 int_info rfl (by decide) (by decide) inC_len inC_one (k : Int) (by have := HIL.out; omega) (by omega)
        have HRN := Lib.hid (show (Builtin.append_ #[23, 23] 23 #[_, .slice (some ⟨wr.heap.size, 0, none⟩) 1 1]).run Try.prog (wr.alloc (.cells #[.int .i64 k] 3)) = .ok v3 W3 by simpa [inC] using hr3)
        have HG3 := Lib.hid hg3
        have HB3 := Lib.hid hb3
        clear hr3 hg3 hb3
        go_wp2_with (at_builtin; refine append_step1 rfl (.tmp 21) (.tmp 23) 23 rfl _ _ v3 W3 rfl rfl HRN.out ?_)
        go_roundw
        case rel => exact ⟨k + 1, by omega, by go_num, by rw [HX2.out]; exact HG3.out, HR.out.holds H1.out HB3.out (by omega) (by omega)⟩
        case measure => simp [intOf]; omega
      · have HX2 := Lib.hid (presN_no he)
        have hq : ((roomOf x k : Int) == (r : Int)) = false := by simp; omega
        generalize roomOf x k = rk at *
        clear he
        go_wp2_with fail
        go_roundw
        case rel => exact ⟨k + 1, by omega, by go_num, by rw [HX2.out]; exact HR.out, H1.out⟩
        case measure => simp [intOf]; omega
    · have hke : k = x.at_.length := by omega
      subst hke
      have H1 := Lib.hid h1
      obtain ⟨q, cap, rfl, hO⟩ := hR.own inC_len
      have HO := Lib.hid (hO.less (m := w.heap.size) (by omega))
      clear H h1 hR hO HR
      go_wp2_with fail
      go_ret
      exact ⟨_, _, rfl, HO.out, H1.out.1⟩
set_option maxRecDepth 100000 in
theorem splayer_any (x : Wd) (p : Wp) (i : Nat) (w : World) (hi : i < x.at_.length) (hk : i < x.coins.length) : Calls Try.prog 25 #[.agg #[.slice p.d.ex x.d.exits.length p.d.exc, .slice p.d.pl x.d.players.length p.d.plc, .slice p.d.co x.d.coins.length p.d.coc, .slice p.d.it x.d.items.length p.d.itc, .slice p.d.bo x.d.boxes.length p.d.boc, .int .i64 x.d.room, .int .i64 x.d.player, .int .i64 x.d.box, .slice p.at_ x.at_.length p.atc, .slice p.co x.coins.length p.coc, .slice p.wh x.wher.length p.whc], .int .i64 (i : Int)] w fun e w' => e = .returned (.bool true) ∧ Below w.heap.size w w' := by
  have HP := Lib.hid (Holds.new w #[.slice p.d.ex x.d.exits.length p.d.exc, .slice p.d.pl x.d.players.length p.d.plc, .slice p.d.co x.d.coins.length p.d.coc, .slice p.d.it x.d.items.length p.d.itc, .slice p.d.bo x.d.boxes.length p.d.boc, .int .i64 x.d.room, .int .i64 x.d.player, .int .i64 x.d.box, .slice p.at_ x.at_.length p.atc, .slice p.co x.coins.length p.coc, .slice p.wh x.wher.length p.whc] 29)
  have h0 : (0 : Int) ≤ (i : Int) := by omega
  have h1 : (i : Int) < (x.at_.length : Int) := by omega
  have h2 : (i : Int) < (x.coins.length : Int) := by omega
  clear hi hk
  go_enter Try.func25, Try.ntmps25
  go_wp2_with fail
  go_ret
  exact ⟨rfl, HP.out.1⟩
end Go.Proofs.Ytojfichbnnfjpaa
