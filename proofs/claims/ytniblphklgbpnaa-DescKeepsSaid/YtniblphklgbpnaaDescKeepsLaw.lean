/- DescKeeps: what is handed in stays; what is answered is new memory. -/
import Derived.Test.YtniblphklgbpnaaRows
import Derived.Test.YtniblphklgbpnaaKit
import Derived.Test.YtniblphklgbpnaaSlices
import Derived.Test.YtniblphklgbpnaaStrs
import Derived.Test.YtniblphklgbpnaaCoin
import Derived.Test.YtniblphklgbpnaaBlk
import Derived.Test.YtniblphklgbpnaaHolds
import Derived.Test.YtniblphklgbpnaaWorldMath
import Derived.Test.YtniblphklgbpnaaWorldAt
import Derived.Test.YtniblphklgbpnaaDescNest
import Derived.Test.YtniblphklgbpnaaDescNest2
import Derived.Test.YtniblphklgbpnaaDescMay
import Derived.Test.YtniblphklgbpnaaDescMay2
import Derived.Test.YtniblphklgbpnaaDescRight
import Derived.Test.YtniblphklgbpnaaDescCopy
import Derived.Test.YtniblphklgbpnaaDescCopy2
import Derived.Test.YtniblphklgbpnaaDescNew
import Derived.Test.YtniblphklgbpnaaDescSame
import Derived.Test.YtniblphklgbpnaaRefDescA
import Derived.Test.YtniblphklgbpnaaRefDepth
import Derived.Test.YtniblphklgbpnaaRefMayA
import Derived.Test.YtniblphklgbpnaaRefMay
import Derived.Test.YtniblphklgbpnaaRefRight
import Derived.Test.YtniblphklgbpnaaRefSame
import Derived.Test.YtniblphklgbpnaaRefCopied
import Derived.Test.YtniblphklgbpnaaDescStore
import Derived.Test.YtniblphklgbpnaaDescAs
import Derived.Test.YtniblphklgbpnaaDescCapsMath
import Derived.Test.YtniblphklgbpnaaDescKeepMath
import Derived.Test.YtniblphklgbpnaaDescSix
import Derived.Test.YtniblphklgbpnaaDescAwake
import Derived.Test.YtniblphklgbpnaaWorldArg
import Derived.Deep.QuietTactic
import Derived.BigQuiet
import Derived.Deep.RegionHeld3
import Derived.WalkKit
import Derived.ProofKit
import Derived.OpenShut
import Derived.IntWalk
namespace Go.Proofs.Ytniblphklgbpnaa
open Go.ChangeShapes Go.WideShapes Go.ChangeAt Go.RowKit
set_option linter.unusedVariables false
open Go.RowKit
theorem own_blocks2 {n : Nat} {W : World} {p : Wp} {x : Wd} (h : WorldOwn n W p x) (ha : 0 < x.at_.length) (hc : 0 < x.coins.length) : ∃ b1 b2 b3 c1 c2 c3, p.at_ = some ⟨b1, 0, none⟩ ∧ p.co = some ⟨b2, 0, none⟩ ∧ n ≤ b1 ∧ b1 < b2 ∧ b2 < W.heap.size ∧ n ≤ b3 ∧ b3 < W.heap.size ∧
    Blk W b1 3 c1 ∧ x.at_.length ≤ c1.size ∧ Blk W b2 3 c2 ∧ x.coins.length ≤ c2.size ∧ (x.wher = [] ∨ p.wh = some ⟨b3, 0, none⟩ ∧ Blk W b3 41 c3 ∧ x.wher.length * 2 ≤ c3.size) := by
  obtain ⟨b1, b2, b3, c1, c2, c3, e1, e2, l1, l2, l3, l4, B1, s1, B2, s2, h3⟩ := own_blocks h ha hc
  rcases h3 with ⟨e, _⟩ | ⟨e3, B3, s3⟩
  · exact ⟨b1, b2, b1, c1, c2, c3, e1, e2, l1, l2, B2.lt, l1, B1.lt, B1, s1, B2, s2, .inl e⟩
  · exact ⟨b1, b2, b3, c1, c2, c3, e1, e2, l1, l2, B2.lt, by omega, B3.lt, B1, s1, B2, s2, .inr ⟨e3, B3, s3⟩⟩
theorem refsame_yes (a b : Wd) (h : a = b) (p q : Wp) (w : World) (h1 : WorldAt w p a) (h2 : WorldAt w q b) : Calls Try.prog 16 #[.agg #[.slice p.d.ex a.d.exits.length p.d.exc, .slice p.d.pl a.d.players.length p.d.plc, .slice p.d.co a.d.coins.length p.d.coc, .slice p.d.it a.d.items.length p.d.itc, .slice p.d.bo a.d.boxes.length p.d.boc, .int .i64 a.d.room, .int .i64 a.d.player, .int .i64 a.d.box, .slice p.at_ a.at_.length p.atc, .slice p.co a.coins.length p.coc, .slice p.wh a.wher.length p.whc], .agg #[.slice q.d.ex b.d.exits.length q.d.exc, .slice q.d.pl b.d.players.length q.d.plc, .slice q.d.co b.d.coins.length q.d.coc, .slice q.d.it b.d.items.length q.d.itc, .slice q.d.bo b.d.boxes.length q.d.boc, .int .i64 b.d.room, .int .i64 b.d.player, .int .i64 b.d.box, .slice q.at_ b.at_.length q.atc, .slice q.co b.coins.length q.coc, .slice q.wh b.wher.length q.whc]] w fun e w' => e = .returned (.bool true) ∧ Below w.heap.size w w' := by
  have := refsame_any a b p q w h1 h2
  rwa [decide_eq_true h] at this
set_option maxRecDepth 100000 in
theorem descKeeps_few (x : Wd) (p : Wp) (w : World) (h : WorldAt w p x) (hf : fewB x = false) : Calls Try.prog 5 #[.agg #[.slice p.d.ex x.d.exits.length p.d.exc, .slice p.d.pl x.d.players.length p.d.plc, .slice p.d.co x.d.coins.length p.d.coc, .slice p.d.it x.d.items.length p.d.itc, .slice p.d.bo x.d.boxes.length p.d.boc, .int .i64 x.d.room, .int .i64 x.d.player, .int .i64 x.d.box, .slice p.at_ x.at_.length p.atc, .slice p.co x.coins.length p.coc, .slice p.wh x.wher.length p.whc]] w fun e w' => e = .returned (.bool true) ∧ Below w.heap.size w w' := by
  have HN := Lib.hid (Holds.new w #[.slice p.d.ex x.d.exits.length p.d.exc, .slice p.d.pl x.d.players.length p.d.plc, .slice p.d.co x.d.coins.length p.d.coc, .slice p.d.it x.d.items.length p.d.itc, .slice p.d.bo x.d.boxes.length p.d.boc, .int .i64 x.d.room, .int .i64 x.d.player, .int .i64 x.d.box, .slice p.at_ x.at_.length p.atc, .slice p.co x.coins.length p.coc, .slice p.wh x.wher.length p.whc] 29)
  have HF := Lib.hid hf
  clear hf
  go_enter Try.func5, Try.ntmps5
  go_wp2_with fail
  have t0 : w.heap.size + 1 = (w.alloc (.cells #[.slice p.d.ex x.d.exits.length p.d.exc, .slice p.d.pl x.d.players.length p.d.plc, .slice p.d.co x.d.coins.length p.d.coc, .slice p.d.it x.d.items.length p.d.itc, .slice p.d.bo x.d.boxes.length p.d.boc, .int .i64 x.d.room, .int .i64 x.d.player, .int .i64 x.d.box, .slice p.at_ x.at_.length p.atc, .slice p.co x.coins.length p.coc, .slice p.wh x.wher.length p.whc] 29)).heap.size := by simp
  generalize w.alloc (.cells #[.slice p.d.ex x.d.exits.length p.d.exc, .slice p.d.pl x.d.players.length p.d.plc, .slice p.d.co x.d.coins.length p.d.coc, .slice p.d.it x.d.items.length p.d.itc, .slice p.d.bo x.d.boxes.length p.d.boc, .int .i64 x.d.room, .int .i64 x.d.player, .int .i64 x.d.box, .slice p.at_ x.at_.length p.atc, .slice p.co x.coins.length p.coc, .slice p.wh x.wher.length p.whc] 29) = V0 at *
  refine (awake_any _).mono ?_
  rintro e w1 ⟨rfl, b1⟩
  have H_1 := Lib.hid (HN.out.call b1)
  have s1 := b1.size
  clear b1 HN
  have hc := H_1.out.2.2
  go_wp2_with fail
  clear hc
  refine (few_any x p w1).mono ?_
  rintro e w2 ⟨rfl, b2⟩
  rw [HF.out]
  have H_2 := Lib.hid (H_1.out.call b2)
  have s2 := b2.size
  clear b2 H_1
  have hc := H_2.out.2.2
  go_wp2_with fail
  clear hc
  refine (awake_any _).mono ?_
  rintro e w9 ⟨rfl, b9⟩
  have H_3 := Lib.hid (H_2.out.call b9)
  have s3 := b9.size
  clear b9 H_2
  go_wp2_with fail
  go_ret
  exact ⟨rfl, H_3.out.1⟩
set_option maxRecDepth 100000 in
theorem descKeeps_wrong (x : Wd) (p : Wp) (w : World) (h : WorldAt w p x) (hf : fewB x = true) (hr : rightW x = false) : Calls Try.prog 5 #[.agg #[.slice p.d.ex x.d.exits.length p.d.exc, .slice p.d.pl x.d.players.length p.d.plc, .slice p.d.co x.d.coins.length p.d.coc, .slice p.d.it x.d.items.length p.d.itc, .slice p.d.bo x.d.boxes.length p.d.boc, .int .i64 x.d.room, .int .i64 x.d.player, .int .i64 x.d.box, .slice p.at_ x.at_.length p.atc, .slice p.co x.coins.length p.coc, .slice p.wh x.wher.length p.whc]] w fun e w' => e = .returned (.bool true) ∧ Below w.heap.size w w' := by
  have HN := Lib.hid (Holds.new w #[.slice p.d.ex x.d.exits.length p.d.exc, .slice p.d.pl x.d.players.length p.d.plc, .slice p.d.co x.d.coins.length p.d.coc, .slice p.d.it x.d.items.length p.d.itc, .slice p.d.bo x.d.boxes.length p.d.boc, .int .i64 x.d.room, .int .i64 x.d.player, .int .i64 x.d.box, .slice p.at_ x.at_.length p.atc, .slice p.co x.coins.length p.coc, .slice p.wh x.wher.length p.whc] 29)
  have HF := Lib.hid hf
  have HR := Lib.hid hr
  clear hf hr
  go_enter Try.func5, Try.ntmps5
  go_wp2_with fail
  have t0 : w.heap.size + 1 = (w.alloc (.cells #[.slice p.d.ex x.d.exits.length p.d.exc, .slice p.d.pl x.d.players.length p.d.plc, .slice p.d.co x.d.coins.length p.d.coc, .slice p.d.it x.d.items.length p.d.itc, .slice p.d.bo x.d.boxes.length p.d.boc, .int .i64 x.d.room, .int .i64 x.d.player, .int .i64 x.d.box, .slice p.at_ x.at_.length p.atc, .slice p.co x.coins.length p.coc, .slice p.wh x.wher.length p.whc] 29)).heap.size := by simp
  generalize w.alloc (.cells #[.slice p.d.ex x.d.exits.length p.d.exc, .slice p.d.pl x.d.players.length p.d.plc, .slice p.d.co x.d.coins.length p.d.coc, .slice p.d.it x.d.items.length p.d.itc, .slice p.d.bo x.d.boxes.length p.d.boc, .int .i64 x.d.room, .int .i64 x.d.player, .int .i64 x.d.box, .slice p.at_ x.at_.length p.atc, .slice p.co x.coins.length p.coc, .slice p.wh x.wher.length p.whc] 29) = V0 at *
  refine (awake_any _).mono ?_
  rintro e w1 ⟨rfl, b1⟩
  have H_1 := Lib.hid (HN.out.call b1)
  have s1 := b1.size
  clear b1 HN
  have hc := H_1.out.2.2
  go_wp2_with fail
  clear hc
  refine (few_any x p w1).mono ?_
  rintro e w2 ⟨rfl, b2⟩
  rw [HF.out]
  have H_2 := Lib.hid (H_1.out.call b2)
  have s2 := b2.size
  clear b2 H_1
  have hc := H_2.out.2.2
  go_wp2_with fail
  clear hc
  refine (refright_any x p w2 (h.below H_2.out.1 (Nat.le_refl _))).mono ?_
  rintro e w3 ⟨rfl, b3⟩
  rw [HR.out]
  have H_3 := Lib.hid (H_2.out.call b3)
  have s3 := b3.size
  clear b3 H_2
  have hc := H_3.out.2.2
  go_wp2_with fail
  clear hc
  refine (awake_any _).mono ?_
  rintro e w9 ⟨rfl, b9⟩
  have H_4 := Lib.hid (H_3.out.call b9)
  have s4 := b9.size
  clear b9 H_3
  go_wp2_with fail
  go_ret
  exact ⟨rfl, H_4.out.1⟩
set_option maxRecDepth 100000 in
set_option maxHeartbeats 1500000 in
theorem descKeeps_go (x : Wd) (p : Wp) (w : World) (h : WorldAt w p x) (hf : fewB x = true) (hr : rightW x = true) : Calls Try.prog 5 #[.agg #[.slice p.d.ex x.d.exits.length p.d.exc, .slice p.d.pl x.d.players.length p.d.plc, .slice p.d.co x.d.coins.length p.d.coc, .slice p.d.it x.d.items.length p.d.itc, .slice p.d.bo x.d.boxes.length p.d.boc, .int .i64 x.d.room, .int .i64 x.d.player, .int .i64 x.d.box, .slice p.at_ x.at_.length p.atc, .slice p.co x.coins.length p.coc, .slice p.wh x.wher.length p.whc]] w fun e w' => e = .returned (.bool true) ∧ Below w.heap.size w w' := by
  have HLN := Lib.hid (right_lens hr)
  have FW := Lib.hid (few_few hf)
  have HN := Lib.hid (Holds.new w #[.slice p.d.ex x.d.exits.length p.d.exc, .slice p.d.pl x.d.players.length p.d.plc, .slice p.d.co x.d.coins.length p.d.coc, .slice p.d.it x.d.items.length p.d.itc, .slice p.d.bo x.d.boxes.length p.d.boc, .int .i64 x.d.room, .int .i64 x.d.player, .int .i64 x.d.box, .slice p.at_ x.at_.length p.atc, .slice p.co x.coins.length p.coc, .slice p.wh x.wher.length p.whc] 29)
  have HF := Lib.hid hf
  have HR := Lib.hid hr
  have HWA := Lib.hid h
  clear hf hr h
  go_enter Try.func5, Try.ntmps5
  go_wp2_with fail
  have t0 : w.heap.size + 1 = (w.alloc (.cells #[.slice p.d.ex x.d.exits.length p.d.exc, .slice p.d.pl x.d.players.length p.d.plc, .slice p.d.co x.d.coins.length p.d.coc, .slice p.d.it x.d.items.length p.d.itc, .slice p.d.bo x.d.boxes.length p.d.boc, .int .i64 x.d.room, .int .i64 x.d.player, .int .i64 x.d.box, .slice p.at_ x.at_.length p.atc, .slice p.co x.coins.length p.coc, .slice p.wh x.wher.length p.whc] 29)).heap.size := by simp
  generalize w.alloc (.cells #[.slice p.d.ex x.d.exits.length p.d.exc, .slice p.d.pl x.d.players.length p.d.plc, .slice p.d.co x.d.coins.length p.d.coc, .slice p.d.it x.d.items.length p.d.itc, .slice p.d.bo x.d.boxes.length p.d.boc, .int .i64 x.d.room, .int .i64 x.d.player, .int .i64 x.d.box, .slice p.at_ x.at_.length p.atc, .slice p.co x.coins.length p.coc, .slice p.wh x.wher.length p.whc] 29) = V0 at *
  refine (awake_any _).mono ?_
  rintro e w1 ⟨rfl, b1⟩
  have H_1 := Lib.hid (HN.out.call b1)
  have s1 := b1.size
  clear b1 HN
  have hc := H_1.out.2.2
  go_wp2_with fail
  clear hc
  refine (few_any x p w1).mono ?_
  rintro e w2 ⟨rfl, b2⟩
  rw [HF.out]
  have H_2 := Lib.hid (H_1.out.call b2)
  have s2 := b2.size
  clear b2 H_1
  have hc := H_2.out.2.2
  go_wp2_with fail
  clear hc
  refine (refright_any x p w2 (HWA.out.below H_2.out.1 (Nat.le_refl _))).mono ?_
  rintro e w3 ⟨rfl, b3⟩
  rw [HR.out]
  have H_3 := Lib.hid (H_2.out.call b3)
  have s3 := b3.size
  clear b3 H_2
  have hxa : 0 < x.at_.length := HLN.out.1
  have hxc : 0 < x.coins.length := by rw [HLN.out.2.2.1]; exact HLN.out.1
  have hc := H_3.out.2.2
  go_wp2_with fail
  clear hc
  refine (copied_any x p w3 (HWA.out.below H_3.out.1 (Nat.le_refl _)) FW.out).mono ?_
  rintro e w4 ⟨⟨d4, a4, ac4, k4, kc4, p4, wc4⟩, rfl, own4, b4⟩
  have H_4 := Lib.hid (H_3.out.call b4)
  have s4 := b4.size
  clear b4 H_3
  have OO := Lib.hid own4
  have B0 := Lib.hid (Below.refl w4.heap.size w4)
  clear own4
  have z5 : w4.heap.size = w4.heap.size := rfl
  have HO_5 := Lib.hid (Holds.newb (w := w) (A := #[.slice d4.ex x.d.exits.length d4.exc, .slice d4.pl x.d.players.length d4.plc, .slice d4.co x.d.coins.length d4.coc, .slice d4.it x.d.items.length d4.itc, .slice d4.bo x.d.boxes.length d4.boc, .int .i64 x.d.room, .int .i64 x.d.player, .int .i64 x.d.box, .slice a4 x.at_.length ac4, .slice k4 x.coins.length kc4, .slice p4 x.wher.length wc4]) (t := 29) (n := w4.heap.size) H_4.out.1 (by exact z5))
  have H_5 := Lib.hid ((H_4.out.alloc (.cells #[.slice d4.ex x.d.exits.length d4.exc, .slice d4.pl x.d.players.length d4.plc, .slice d4.co x.d.coins.length d4.coc, .slice d4.it x.d.items.length d4.itc, .slice d4.bo x.d.boxes.length d4.boc, .int .i64 x.d.room, .int .i64 x.d.player, .int .i64 x.d.box, .slice a4 x.at_.length ac4, .slice k4 x.coins.length kc4, .slice p4 x.wher.length wc4] 29)))
  have BO_5 := Lib.hid ((B0.out.alloc (by rw [z5]; omega) (.cells #[.slice d4.ex x.d.exits.length d4.exc, .slice d4.pl x.d.players.length d4.plc, .slice d4.co x.d.coins.length d4.coc, .slice d4.it x.d.items.length d4.itc, .slice d4.bo x.d.boxes.length d4.boc, .int .i64 x.d.room, .int .i64 x.d.player, .int .i64 x.d.box, .slice a4 x.at_.length ac4, .slice k4 x.coins.length kc4, .slice p4 x.wher.length wc4] 29)))
  have t5 : w4.heap.size + 1 = (w4.alloc (.cells #[.slice d4.ex x.d.exits.length d4.exc, .slice d4.pl x.d.players.length d4.plc, .slice d4.co x.d.coins.length d4.coc, .slice d4.it x.d.items.length d4.itc, .slice d4.bo x.d.boxes.length d4.boc, .int .i64 x.d.room, .int .i64 x.d.player, .int .i64 x.d.box, .slice a4 x.at_.length ac4, .slice k4 x.coins.length kc4, .slice p4 x.wher.length wc4] 29)).heap.size := by simp [World.setCell]
  clear H_4 B0
  go_wp2_with fail
  generalize (w4.alloc (.cells #[.slice d4.ex x.d.exits.length d4.exc, .slice d4.pl x.d.players.length d4.plc, .slice d4.co x.d.coins.length d4.coc, .slice d4.it x.d.items.length d4.itc, .slice d4.bo x.d.boxes.length d4.boc, .int .i64 x.d.room, .int .i64 x.d.player, .int .i64 x.d.box, .slice a4 x.at_.length ac4, .slice k4 x.coins.length kc4, .slice p4 x.wher.length wc4] 29)) = V4 at *
  refine (copy_any x ⟨d4, a4, ac4, k4, kc4, p4, wc4⟩ V4 (OO.out.below BO_5.out (Nat.le_refl _)) FW.out).mono ?_
  rintro e w5 ⟨⟨d5, a5, ac5, k5, kc5, p5, wc5⟩, rfl, own5, b5⟩
  have H_6 := Lib.hid (H_5.out.call b5)
  have HO_6 := Lib.hid (HO_5.out.call b5)
  have BO_6 := Lib.hid (below_call BO_5.out (by omega) b5)
  have s6 := b5.size
  clear b5 H_5 HO_5 BO_5
  obtain ⟨a1, a2, a3, ca1, ca2, ca3, e1, e2, la1, la2, la3, la4, la5, A1, za1, A2, za2, A3⟩ := own_blocks2 own5 hxa hxc
  simp only at e1 e2
  subst e1 e2
  have GA1 := Lib.hid A1
  have GA2 := Lib.hid A2
  have GA3 := Lib.hid A3
  have ZA1 := Lib.hid za1
  have ZA2 := Lib.hid za2
  clear own5 A1 A2 A3 za1 za2
  have B0a := Lib.hid (Below.refl w5.heap.size w5)
  have hc := HO_6.out.2.2
  have hlt5 : w4.heap.size < w5.heap.size := by omega
  have z7 : w5.heap.size = w5.heap.size := rfl
  have HA_7 := Lib.hid (Holds.newb (w := w) (A := #[.slice d5.ex x.d.exits.length d5.exc, .slice d5.pl x.d.players.length d5.plc, .slice d5.co x.d.coins.length d5.coc, .slice d5.it x.d.items.length d5.itc, .slice d5.bo x.d.boxes.length d5.boc, .int .i64 x.d.room, .int .i64 x.d.player, .int .i64 x.d.box, .slice (some ⟨a1, 0, none⟩) x.at_.length ac5, .slice (some ⟨a2, 0, none⟩) x.coins.length kc5, .slice p5 x.wher.length wc5]) (t := 29) (n := w5.heap.size) H_6.out.1 (by exact z7))
  have H_7 := Lib.hid ((H_6.out.alloc (.cells #[.slice d5.ex x.d.exits.length d5.exc, .slice d5.pl x.d.players.length d5.plc, .slice d5.co x.d.coins.length d5.coc, .slice d5.it x.d.items.length d5.itc, .slice d5.bo x.d.boxes.length d5.boc, .int .i64 x.d.room, .int .i64 x.d.player, .int .i64 x.d.box, .slice (some ⟨a1, 0, none⟩) x.at_.length ac5, .slice (some ⟨a2, 0, none⟩) x.coins.length kc5, .slice p5 x.wher.length wc5] 29)))
  have HO_7 := Lib.hid ((HO_6.out.alloc (.cells #[.slice d5.ex x.d.exits.length d5.exc, .slice d5.pl x.d.players.length d5.plc, .slice d5.co x.d.coins.length d5.coc, .slice d5.it x.d.items.length d5.itc, .slice d5.bo x.d.boxes.length d5.boc, .int .i64 x.d.room, .int .i64 x.d.player, .int .i64 x.d.box, .slice (some ⟨a1, 0, none⟩) x.at_.length ac5, .slice (some ⟨a2, 0, none⟩) x.coins.length kc5, .slice p5 x.wher.length wc5] 29)))
  have BO_7 := Lib.hid ((BO_6.out.alloc (by rw [z7]; omega) (.cells #[.slice d5.ex x.d.exits.length d5.exc, .slice d5.pl x.d.players.length d5.plc, .slice d5.co x.d.coins.length d5.coc, .slice d5.it x.d.items.length d5.itc, .slice d5.bo x.d.boxes.length d5.boc, .int .i64 x.d.room, .int .i64 x.d.player, .int .i64 x.d.box, .slice (some ⟨a1, 0, none⟩) x.at_.length ac5, .slice (some ⟨a2, 0, none⟩) x.coins.length kc5, .slice p5 x.wher.length wc5] 29)))
  have BA_7 := Lib.hid ((B0a.out.alloc (by rw [z7]; omega) (.cells #[.slice d5.ex x.d.exits.length d5.exc, .slice d5.pl x.d.players.length d5.plc, .slice d5.co x.d.coins.length d5.coc, .slice d5.it x.d.items.length d5.itc, .slice d5.bo x.d.boxes.length d5.boc, .int .i64 x.d.room, .int .i64 x.d.player, .int .i64 x.d.box, .slice (some ⟨a1, 0, none⟩) x.at_.length ac5, .slice (some ⟨a2, 0, none⟩) x.coins.length kc5, .slice p5 x.wher.length wc5] 29)))
  have t7 : w5.heap.size + 1 = (w5.alloc (.cells #[.slice d5.ex x.d.exits.length d5.exc, .slice d5.pl x.d.players.length d5.plc, .slice d5.co x.d.coins.length d5.coc, .slice d5.it x.d.items.length d5.itc, .slice d5.bo x.d.boxes.length d5.boc, .int .i64 x.d.room, .int .i64 x.d.player, .int .i64 x.d.box, .slice (some ⟨a1, 0, none⟩) x.at_.length ac5, .slice (some ⟨a2, 0, none⟩) x.coins.length kc5, .slice p5 x.wher.length wc5] 29)).heap.size := by simp [World.setCell]
  clear H_6 HO_6 BO_6 B0a
  go_wp2_with fail
  clear hc
  generalize (w5.alloc (.cells #[.slice d5.ex x.d.exits.length d5.exc, .slice d5.pl x.d.players.length d5.plc, .slice d5.co x.d.coins.length d5.coc, .slice d5.it x.d.items.length d5.itc, .slice d5.bo x.d.boxes.length d5.boc, .int .i64 x.d.room, .int .i64 x.d.player, .int .i64 x.d.box, .slice (some ⟨a1, 0, none⟩) x.at_.length ac5, .slice (some ⟨a2, 0, none⟩) x.coins.length kc5, .slice p5 x.wher.length wc5] 29)) = V5 at *
  refine (new_yes x.d d4 V5 (OO.out.below BO_7.out (Nat.le_refl _)).d HLN.out.2.2.2.2.2).mono ?_
  rintro e w6 ⟨n, ⟨d6, a6, ac6, k6, kc6, p6, wc6⟩, hn, rfl, own6, b6⟩
  have H_8 := Lib.hid (H_7.out.call b6)
  have HO_8 := Lib.hid (HO_7.out.call b6)
  have HA_8 := Lib.hid (HA_7.out.call b6)
  have BO_8 := Lib.hid (below_call BO_7.out (by omega) b6)
  have BA_8 := Lib.hid (below_call BA_7.out (by omega) b6)
  have s6 := b6.size
  clear b6 H_7 HO_7 HA_7 BO_7 BA_7
  have NA := Lib.hid (show n.at_.length = x.at_.length by rw [hn]; simp only [newW]; exact (right_new_lens HR.out).1)
  have NC := Lib.hid (show n.coins.length = x.at_.length by rw [hn]; simp only [newW]; exact (right_new_lens HR.out).2)
  have NW := Lib.hid (show n.wher.length = x.wher.length by rw [hn]; simp only [newW, floorsL, List.length_map]; exact HLN.out.2.2.2.2.1)
  clear hn
  obtain ⟨n1, n2, n3, cn1, cn2, cn3, f1, f2, ln1, ln2, ln3, ln4, ln5, N1, zn1, N2, zn2, N3⟩ := own_blocks2 own6 (by rw [NA.out]; exact hxa) (by rw [NC.out]; exact hxa)
  simp only at f1 f2
  subst f1 f2
  have GN1 := Lib.hid N1
  have GN2 := Lib.hid N2
  have GN3 := Lib.hid N3
  have ZN1 := Lib.hid zn1
  have ZN2 := Lib.hid zn2
  clear own6 N1 N2 N3 zn1 zn2
  have B0n := Lib.hid (Below.refl w6.heap.size w6)
  have hc := HO_8.out.2.2
  have hlt6 : w4.heap.size < w6.heap.size := by omega
  have z9 : w6.heap.size = w6.heap.size := rfl
  have HN2_9 := Lib.hid (Holds.newb (w := w) (A := #[.slice d6.ex n.d.exits.length d6.exc, .slice d6.pl n.d.players.length d6.plc, .slice d6.co n.d.coins.length d6.coc, .slice d6.it n.d.items.length d6.itc, .slice d6.bo n.d.boxes.length d6.boc, .int .i64 n.d.room, .int .i64 n.d.player, .int .i64 n.d.box, .slice (some ⟨n1, 0, none⟩) n.at_.length ac6, .slice (some ⟨n2, 0, none⟩) n.coins.length kc6, .slice p6 n.wher.length wc6]) (t := 29) (n := w6.heap.size) H_8.out.1 (by exact z9))
  have H_9 := Lib.hid ((H_8.out.alloc (.cells #[.slice d6.ex n.d.exits.length d6.exc, .slice d6.pl n.d.players.length d6.plc, .slice d6.co n.d.coins.length d6.coc, .slice d6.it n.d.items.length d6.itc, .slice d6.bo n.d.boxes.length d6.boc, .int .i64 n.d.room, .int .i64 n.d.player, .int .i64 n.d.box, .slice (some ⟨n1, 0, none⟩) n.at_.length ac6, .slice (some ⟨n2, 0, none⟩) n.coins.length kc6, .slice p6 n.wher.length wc6] 29)))
  have HO_9 := Lib.hid ((HO_8.out.alloc (.cells #[.slice d6.ex n.d.exits.length d6.exc, .slice d6.pl n.d.players.length d6.plc, .slice d6.co n.d.coins.length d6.coc, .slice d6.it n.d.items.length d6.itc, .slice d6.bo n.d.boxes.length d6.boc, .int .i64 n.d.room, .int .i64 n.d.player, .int .i64 n.d.box, .slice (some ⟨n1, 0, none⟩) n.at_.length ac6, .slice (some ⟨n2, 0, none⟩) n.coins.length kc6, .slice p6 n.wher.length wc6] 29)))
  have HA_9 := Lib.hid ((HA_8.out.alloc (.cells #[.slice d6.ex n.d.exits.length d6.exc, .slice d6.pl n.d.players.length d6.plc, .slice d6.co n.d.coins.length d6.coc, .slice d6.it n.d.items.length d6.itc, .slice d6.bo n.d.boxes.length d6.boc, .int .i64 n.d.room, .int .i64 n.d.player, .int .i64 n.d.box, .slice (some ⟨n1, 0, none⟩) n.at_.length ac6, .slice (some ⟨n2, 0, none⟩) n.coins.length kc6, .slice p6 n.wher.length wc6] 29)))
  have BO_9 := Lib.hid ((BO_8.out.alloc (by rw [z9]; omega) (.cells #[.slice d6.ex n.d.exits.length d6.exc, .slice d6.pl n.d.players.length d6.plc, .slice d6.co n.d.coins.length d6.coc, .slice d6.it n.d.items.length d6.itc, .slice d6.bo n.d.boxes.length d6.boc, .int .i64 n.d.room, .int .i64 n.d.player, .int .i64 n.d.box, .slice (some ⟨n1, 0, none⟩) n.at_.length ac6, .slice (some ⟨n2, 0, none⟩) n.coins.length kc6, .slice p6 n.wher.length wc6] 29)))
  have BA_9 := Lib.hid ((BA_8.out.alloc (by rw [z9]; omega) (.cells #[.slice d6.ex n.d.exits.length d6.exc, .slice d6.pl n.d.players.length d6.plc, .slice d6.co n.d.coins.length d6.coc, .slice d6.it n.d.items.length d6.itc, .slice d6.bo n.d.boxes.length d6.boc, .int .i64 n.d.room, .int .i64 n.d.player, .int .i64 n.d.box, .slice (some ⟨n1, 0, none⟩) n.at_.length ac6, .slice (some ⟨n2, 0, none⟩) n.coins.length kc6, .slice p6 n.wher.length wc6] 29)))
  have BN_9 := Lib.hid ((B0n.out.alloc (by rw [z9]; omega) (.cells #[.slice d6.ex n.d.exits.length d6.exc, .slice d6.pl n.d.players.length d6.plc, .slice d6.co n.d.coins.length d6.coc, .slice d6.it n.d.items.length d6.itc, .slice d6.bo n.d.boxes.length d6.boc, .int .i64 n.d.room, .int .i64 n.d.player, .int .i64 n.d.box, .slice (some ⟨n1, 0, none⟩) n.at_.length ac6, .slice (some ⟨n2, 0, none⟩) n.coins.length kc6, .slice p6 n.wher.length wc6] 29)))
  have t9 : w6.heap.size + 1 = (w6.alloc (.cells #[.slice d6.ex n.d.exits.length d6.exc, .slice d6.pl n.d.players.length d6.plc, .slice d6.co n.d.coins.length d6.coc, .slice d6.it n.d.items.length d6.itc, .slice d6.bo n.d.boxes.length d6.boc, .int .i64 n.d.room, .int .i64 n.d.player, .int .i64 n.d.box, .slice (some ⟨n1, 0, none⟩) n.at_.length ac6, .slice (some ⟨n2, 0, none⟩) n.coins.length kc6, .slice p6 n.wher.length wc6] 29)).heap.size := by simp [World.setCell]
  clear H_8 HO_8 HA_8 BO_8 BA_8 B0n
  go_wp2_with fail
  clear hc
  generalize (w6.alloc (.cells #[.slice d6.ex n.d.exits.length d6.exc, .slice d6.pl n.d.players.length d6.plc, .slice d6.co n.d.coins.length d6.coc, .slice d6.it n.d.items.length d6.itc, .slice d6.bo n.d.boxes.length d6.boc, .int .i64 n.d.room, .int .i64 n.d.player, .int .i64 n.d.box, .slice (some ⟨n1, 0, none⟩) n.at_.length ac6, .slice (some ⟨n2, 0, none⟩) n.coins.length kc6, .slice p6 n.wher.length wc6] 29)) = V6 at *
  refine (right_as (Shape.refl x) ⟨d4, a4, ac4, k4, kc4, p4, wc4⟩ V6 (OO.out.below BO_9.out (Nat.le_refl _))).mono ?_
  rintro e w7 ⟨rfl, b7⟩
  have H_10 := Lib.hid (H_9.out.call b7)
  have HO_10 := Lib.hid (HO_9.out.call b7)
  have HA_10 := Lib.hid (HA_9.out.call b7)
  have HN2_10 := Lib.hid (HN2_9.out.call b7)
  have BO_10 := Lib.hid (below_call BO_9.out (by omega) b7)
  have BA_10 := Lib.hid (below_call BA_9.out (by omega) b7)
  have BN_10 := Lib.hid (below_call BN_9.out (by omega) b7)
  have s10 := b7.size
  clear b7 H_9 HO_9 HA_9 HN2_9 BO_9 BA_9 BN_9
  have HM := Lib.hid (show Holds w w6.heap.size #[.slice d6.ex n.d.exits.length d6.exc, .slice d6.pl n.d.players.length d6.plc, .slice d6.co n.d.coins.length d6.coc, .slice d6.it n.d.items.length d6.itc, .slice d6.bo n.d.boxes.length d6.boc, .int .i64 n.d.room, .int .i64 n.d.player, .int .i64 n.d.box, .slice (some ⟨n1, 0, none⟩) x.at_.length ac6, .slice (some ⟨n2, 0, none⟩) x.at_.length kc6, .slice p6 x.wher.length wc6] w7 by have hh := HN2_10.out; rw [NA.out, NC.out, NW.out] at hh; exact hh)
  have hL : ∀ b ∈ ([a1, a2, a3, n1, n2, n3] : List Nat), V4.heap.size ≤ b := by intro b hb; simp only [List.mem_cons, List.not_mem_nil, or_false] at hb; omega
  have hLw : ∀ b ∈ ([a1, a2, a3, n1, n2, n3] : List Nat), w.heap.size ≤ b := fun b hb => by have := hL b hb; omega
  have hLo : ∀ b ∈ ([a1, a2, a3, n1, n2, n3] : List Nat), w4.heap.size ≤ b := fun b hb => by have := hL b hb; omega
  have qH : w.heap.size ∉ ([a1, a2, a3, n1, n2, n3] : List Nat) := by simp only [List.mem_cons, List.not_mem_nil, or_false]; omega
  have qHO : w4.heap.size ∉ ([a1, a2, a3, n1, n2, n3] : List Nat) := by simp only [List.mem_cons, List.not_mem_nil, or_false]; omega
  have qHA : w5.heap.size ∉ ([a1, a2, a3, n1, n2, n3] : List Nat) := by simp only [List.mem_cons, List.not_mem_nil, or_false]; omega
  have qHN : w6.heap.size ∉ ([a1, a2, a3, n1, n2, n3] : List Nat) := by simp only [List.mem_cons, List.not_mem_nil, or_false]; omega
  have KH : Hid (∀ wr, Six [a1, a2, a3, n1, n2, n3] w7 wr → Holds w w.heap.size #[.slice p.d.ex x.d.exits.length p.d.exc, .slice p.d.pl x.d.players.length p.d.plc, .slice p.d.co x.d.coins.length p.d.coc, .slice p.d.it x.d.items.length p.d.itc, .slice p.d.bo x.d.boxes.length p.d.boc, .int .i64 x.d.room, .int .i64 x.d.player, .int .i64 x.d.box, .slice p.at_ x.at_.length p.atc, .slice p.co x.coins.length p.coc, .slice p.wh x.wher.length p.whc] wr ∧ Holds w w4.heap.size #[.slice d4.ex x.d.exits.length d4.exc, .slice d4.pl x.d.players.length d4.plc, .slice d4.co x.d.coins.length d4.coc, .slice d4.it x.d.items.length d4.itc, .slice d4.bo x.d.boxes.length d4.boc, .int .i64 x.d.room, .int .i64 x.d.player, .int .i64 x.d.box, .slice a4 x.at_.length ac4, .slice k4 x.coins.length kc4, .slice p4 x.wher.length wc4] wr ∧ Holds w w5.heap.size #[.slice d5.ex x.d.exits.length d5.exc, .slice d5.pl x.d.players.length d5.plc, .slice d5.co x.d.coins.length d5.coc, .slice d5.it x.d.items.length d5.itc, .slice d5.bo x.d.boxes.length d5.boc, .int .i64 x.d.room, .int .i64 x.d.player, .int .i64 x.d.box, .slice (some ⟨a1, 0, none⟩) x.at_.length ac5, .slice (some ⟨a2, 0, none⟩) x.coins.length kc5, .slice p5 x.wher.length wc5] wr ∧ Holds w w6.heap.size #[.slice d6.ex n.d.exits.length d6.exc, .slice d6.pl n.d.players.length d6.plc, .slice d6.co n.d.coins.length d6.coc, .slice d6.it n.d.items.length d6.itc, .slice d6.bo n.d.boxes.length d6.boc, .int .i64 n.d.room, .int .i64 n.d.player, .int .i64 n.d.box, .slice (some ⟨n1, 0, none⟩) x.at_.length ac6, .slice (some ⟨n2, 0, none⟩) x.at_.length kc6, .slice p6 x.wher.length wc6] wr) := Lib.hid (fun wr s => ⟨s.holds H_10.out qH hLw, s.holds HO_10.out qHO hLw, s.holds HA_10.out qHA hLw, s.holds HM.out qHN hLw⟩)
  have KO : Hid (∀ wr, Six [a1, a2, a3, n1, n2, n3] w7 wr → WorldAt wr ⟨d4, a4, ac4, k4, kc4, p4, wc4⟩ x) := Lib.hid (fun wr s => OO.out.below (s.below BO_10.out hLo) (Nat.le_refl _))
  have G1 := Lib.hid (GA1.out.call BA_10.out)
  have G2 := Lib.hid (GA2.out.call BA_10.out)
  have G4 := Lib.hid (GN1.out.call BN_10.out)
  have G5 := Lib.hid (GN2.out.call BN_10.out)
  have BA7 := Lib.hid BA_10.out
  have BN7 := Lib.hid BN_10.out
  have LCO := Lib.hid HLN.out.2.2.1
  have LAT := Lib.hid HLN.out.2.1
  have LWH := Lib.hid HLN.out.2.2.2.1
  clear hL hLw hLo qH qHO qHA qHN
  have d_a1_w5_heap_size : a1 ≠ w5.heap.size := by omega
  have d_w5_heap_size_a1 : w5.heap.size ≠ a1 := by omega
  have d_a1_w6_heap_size : a1 ≠ w6.heap.size := by omega
  have d_w6_heap_size_a1 : w6.heap.size ≠ a1 := by omega
  have d_a2_w5_heap_size : a2 ≠ w5.heap.size := by omega
  have d_w5_heap_size_a2 : w5.heap.size ≠ a2 := by omega
  have d_a2_w6_heap_size : a2 ≠ w6.heap.size := by omega
  have d_w6_heap_size_a2 : w6.heap.size ≠ a2 := by omega
  have d_a3_w5_heap_size : a3 ≠ w5.heap.size := by omega
  have d_w5_heap_size_a3 : w5.heap.size ≠ a3 := by omega
  have d_a3_w6_heap_size : a3 ≠ w6.heap.size := by omega
  have d_w6_heap_size_a3 : w6.heap.size ≠ a3 := by omega
  have d_n1_w5_heap_size : n1 ≠ w5.heap.size := by omega
  have d_w5_heap_size_n1 : w5.heap.size ≠ n1 := by omega
  have d_n1_w6_heap_size : n1 ≠ w6.heap.size := by omega
  have d_w6_heap_size_n1 : w6.heap.size ≠ n1 := by omega
  have d_n2_w5_heap_size : n2 ≠ w5.heap.size := by omega
  have d_w5_heap_size_n2 : w5.heap.size ≠ n2 := by omega
  have d_n2_w6_heap_size : n2 ≠ w6.heap.size := by omega
  have d_w6_heap_size_n2 : w6.heap.size ≠ n2 := by omega
  have d_n3_w5_heap_size : n3 ≠ w5.heap.size := by omega
  have d_w5_heap_size_n3 : w5.heap.size ≠ n3 := by omega
  have d_n3_w6_heap_size : n3 ≠ w6.heap.size := by omega
  have d_w6_heap_size_n3 : w6.heap.size ≠ n3 := by omega
  have d_a1_n1 : a1 ≠ n1 := by omega
  have d_n1_a1 : n1 ≠ a1 := by omega
  have d_a1_n2 : a1 ≠ n2 := by omega
  have d_n2_a1 : n2 ≠ a1 := by omega
  have d_a1_n3 : a1 ≠ n3 := by omega
  have d_n3_a1 : n3 ≠ a1 := by omega
  have d_a2_n1 : a2 ≠ n1 := by omega
  have d_n1_a2 : n1 ≠ a2 := by omega
  have d_a2_n2 : a2 ≠ n2 := by omega
  have d_n2_a2 : n2 ≠ a2 := by omega
  have d_a2_n3 : a2 ≠ n3 := by omega
  have d_n3_a2 : n3 ≠ a2 := by omega
  have d_a3_n1 : a3 ≠ n1 := by omega
  have d_n1_a3 : n1 ≠ a3 := by omega
  have d_a3_n2 : a3 ≠ n2 := by omega
  have d_n2_a3 : n2 ≠ a3 := by omega
  have d_a3_n3 : a3 ≠ n3 := by omega
  have d_n3_a3 : n3 ≠ a3 := by omega
  have d_a1_a2 : a1 ≠ a2 := by omega
  have d_a2_a1 : a2 ≠ a1 := by omega
  have d_n1_n2 : n1 ≠ n2 := by omega
  have d_n2_n1 : n2 ≠ n1 := by omega
  go_wp2_with fail
  go_loopw [7] (fun i wr => ∃ k : Nat, k ≤ x.wher.length ∧ i = .int .i64 k ∧ Six [a1, a2, a3, n1, n2, n3] w7 wr) (fun i _ => x.wher.length - (intOf i).toNat)
  case atStart => exact ⟨0, Nat.zero_le _, rfl, Six.refl _ _⟩
  case round =>
    obtain ⟨k, hk, rfl, hsix⟩ := hrel
    have SX := Lib.hid hsix
    clear hsix
    have KK := Lib.hid (KH.out wr SX.out)
    have hc := KK.out.2.2.1.2.2
    have hd := KK.out.2.2.2.2.2
    have hlw := LWH.out
    by_cases hlt : k < x.wher.length
    · rcases GA3.out with hz | ⟨e3, A3, za3⟩
      · exfalso; rw [hz] at hlt; simp at hlt
      rcases GN3.out with hz | ⟨f3, N3, zn3⟩
      · exfalso; have hnw := NW.out; rw [hz] at hnw; simp at hnw; omega
      subst e3 f3
      obtain ⟨⟨u1, hu1⟩, hf1, hl1⟩ := SX.out.cell (b := a3) (i := k * 2 + 1) (by simp) (A3.call BA7.out) (by omega)
      obtain ⟨⟨u2, hu2⟩, hf2, hl2⟩ := SX.out.cell (b := n3) (i := k * 2 + 1) (by simp) (N3.call BN7.out) (by have := NW.out; omega)
      clear A3 N3 za3 zn3
      go_wp2_with fail
      go_roundw
      case rel => with_reducible refine ⟨k + 1, by omega, by go_num, Six.set (Six.set SX.out ?_ _ _) ?_ _ _⟩ <;> simp
      case measure => simp [intOf]; omega
    · have hke : k = x.wher.length := by omega
      subst hke
      clear hlt hk
      go_wp2_with fail
      clear hc hd KK
      obtain ⟨wp, hwp⟩ : ∃ q, q = wr := ⟨_, rfl⟩
      subst hwp
      go_loopw [8] (fun i wr => ∃ k : Nat, k ≤ x.at_.length ∧ i = .int .i64 k ∧ Six [a1, a2, a3, n1, n2, n3] w7 wr) (fun i _ => x.at_.length - (intOf i).toNat)
      case atStart => exact ⟨0, Nat.zero_le _, rfl, SX.out⟩
      case round =>
        clear SX
        obtain ⟨k, hk, rfl, hsix⟩ := hrel
        have SX := Lib.hid hsix
        clear hsix
        have KK := Lib.hid (KH.out wr SX.out)
        have hc := KK.out.2.2.1.2.2
        have hd := KK.out.2.2.2.2.2
        have hla := LAT.out
        by_cases hlt : k < x.at_.length
        · have hlc : k < x.coins.length := by rw [LCO.out]; exact hlt
          obtain ⟨⟨u0, hu0⟩, hf0, hl0⟩ := SX.out.cell (b := a1) (i := k) (by simp) G1.out (by have := ZA1.out; omega)
          obtain ⟨⟨u1, hu1⟩, hf1, hl1⟩ := SX.out.cell (b := a2) (i := k) (by simp) G2.out (by have := ZA2.out; omega)
          obtain ⟨⟨u2, hu2⟩, hf2, hl2⟩ := SX.out.cell (b := n1) (i := k) (by simp) G4.out (by have h1 := ZN1.out; have h2 := NA.out; omega)
          obtain ⟨⟨u3, hu3⟩, hf3, hl3⟩ := SX.out.cell (b := n2) (i := k) (by simp) G5.out (by have h1 := ZN2.out; have h2 := NC.out; omega)
          go_wp2_with fail
          go_roundw
          case rel => with_reducible refine ⟨k + 1, by omega, by go_num, Six.set (Six.set (Six.set (Six.set SX.out ?_ _ _) ?_ _ _) ?_ _ _) ?_ _ _⟩ <;> simp
          case measure => simp [intOf]; omega
        · have hke : k = x.at_.length := by omega
          subst hke
          clear hlt hk
          have he := KK.out.1.2.2
          have hg := KK.out.2.1.2.2
          go_wp2_with fail
          refine (refsame_yes x x rfl ⟨d4, a4, ac4, k4, kc4, p4, wc4⟩ p wr (KO.out wr SX.out) (HWA.out.below KK.out.1.1 (Nat.le_refl _))).mono ?_
          rintro e w8 ⟨rfl, b8⟩
          have K8 := Lib.hid (KK.out.1.call b8)
          have O8 := Lib.hid (KK.out.2.1.call b8)
          clear hc hd he hg
          have hg := O8.out.2.2
          go_wp2_with fail
          refine (refmay_any x.d d4 w8 ((KO.out wr SX.out).below (below_call (Below.refl _ _) (Nat.le_refl _) b8) (Nat.le_refl _)).d).mono ?_
          rintro e w9 ⟨rfl, b9⟩
          rw [HLN.out.2.2.2.2.2]
          go_wp2_with fail
          go_ret
          exact ⟨rfl, (K8.out.call b9).1⟩
theorem walk_descKeeps (x : Wd) (p : Wp) (w : World) (h : WorldAt w p x) : Calls Try.prog 5 #[.agg #[.slice p.d.ex x.d.exits.length p.d.exc, .slice p.d.pl x.d.players.length p.d.plc, .slice p.d.co x.d.coins.length p.d.coc, .slice p.d.it x.d.items.length p.d.itc, .slice p.d.bo x.d.boxes.length p.d.boc, .int .i64 x.d.room, .int .i64 x.d.player, .int .i64 x.d.box, .slice p.at_ x.at_.length p.atc, .slice p.co x.coins.length p.coc, .slice p.wh x.wher.length p.whc]] w fun e w' => e = .returned (.bool true) ∧ Below w.heap.size w w' := by
  cases hf : fewB x
  · exact descKeeps_few x p w h hf
  cases hr : rightW x
  · exact descKeeps_wrong x p w h hf hr
  · exact descKeeps_go x p w h hf hr
set_option maxRecDepth 100000 in
theorem lifted_descKeeps (os : Os) (started : os.Started) (H : Type) (enc : TypeId × Value → H) :
    ReturnsInHanded {} Try.checked os 5 .any (Rows.descKeepsSpec.pre6 enc Try.prog Try.f5 Rows.descKeepsRow.domain false) (Rows.descKeepsSpec.post enc Try.prog Try.f5 false true false false) := by
  refine returnsInHanded_of_change (C := Try.checked) (by kernel_rfl) started (by kernel_rfl) Try.func5
    (ChangeSpec.witness6 (enc := enc) (C := Try.checked) false ⟨#[], #[.agg #[.slice none 0 0, .slice none 0 0, .slice none 0 0, .slice none 0 0, .slice none 0 0, .int .i64 0, .int .i64 0, .int .i64 0, .slice none 0 0, .slice none 0 0, .slice none 0 0]], []⟩ 8 (by kernel_rfl) (by kernel_rfl) (by kernel_rfl) (by kernel_rfl)) ?_
  intro W base args ds gs before hval0 hW hcnd _
  have hval : ∀ (j : Nat) t v, Try.f5.params[j]? = some t → args[j]? = some v → Value.okWide Try.prog W .any base t v := hval0
  have hW' := hW
  obtain ⟨p, q, hA0, hV, rfl, hfz, hnd⟩ := hW
  have hA : DataW.TrodAll enc Try.prog W 0 (fun _ => true) true Try.f5.params.toList args.toList ds p := hA0
  rw [Try.params5] at hA hval
  obtain ⟨v0, vs0, d0, ds0, p0, q0, hargs, rfl, rfl, h0, r0⟩ := trodAll_cons hA
  obtain ⟨rfl, rfl, rfl⟩ := trodAll_nil r0
  obtain rfl : args = #[v0] := by cases args; simp_all
  obtain ⟨rfl, rfl⟩ := trodVars_none hV
  obtain ⟨wx0, wp0, rfl, m0⟩ := read_world (hval 0 29 v0 rfl rfl) h0
  clear hA0 hval0
  simp only [List.append_nil] at hW'
  refine (walk_descKeeps wx0 wp0 W m0).mono fun e W' ⟨he, hg⟩ => ?_
  subst he
  exact ⟨_, rfl, law_post (by kernel_rfl) rfl (by rw [Try.params5]; decide +kernel) rfl rfl Try.underlying4 hW' hg⟩

/-- ████ THE STATEMENT ████ -/
theorem proved_descKeeps : Rows.DescKeepsSaid :=
  OpenClaim.holds_of_wide 5 Try.f5 rfl rfl rfl rfl rfl rfl rfl ⟨rfl, rfl, rfl, rfl, rfl⟩ rfl rfl rfl rfl rfl (by kernel_rfl) Try.func5 (by kernel_rfl)
    (of_decide_eq_true (by kernel_rfl)) (by unfold Func.isWrapper; first | (rw [if_pos (by decide +kernel)]; kernel_rfl) | (rw [if_neg (by decide +kernel)]; exact ⟨rfl, rfl⟩))
    (fun os started H enc _ => lifted_descKeeps os started H enc)
#print axioms proved_descKeeps
end Go.Proofs.Ytniblphklgbpnaa
