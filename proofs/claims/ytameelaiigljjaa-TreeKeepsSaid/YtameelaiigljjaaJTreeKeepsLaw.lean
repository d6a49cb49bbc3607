/- TreeKeeps: what is handed in stays; what is answered is new memory. -/
import Derived.Test.YtameelaiigljjaaRows
import Derived.Test.YtameelaiigljjaaKit
import Derived.Test.YtameelaiigljjaaSlices
import Derived.Test.YtameelaiigljjaaJMem
import Derived.Test.YtameelaiigljjaaCoin
import Derived.Test.YtameelaiigljjaaJWorld
import Derived.Test.YtameelaiigljjaaJDesc
import Derived.Test.YtameelaiigljjaaJRefNew
import Derived.Test.YtameelaiigljjaaJSame
import Derived.Test.YtameelaiigljjaaJTreeIs
import Derived.Test.YtameelaiigljjaaJTreeIn
import Derived.Test.YtameelaiigljjaaJTreeUnder
import Derived.Test.YtameelaiigljjaaJTreeRefB
import Derived.Test.YtameelaiigljjaaJTreeAwake
import Derived.Test.YtameelaiigljjaaJTreeArg
import Derived.Test.YtameelaiigljjaaJRefA
import Derived.Test.YtameelaiigljjaaJRefRight
import Derived.Deep.QuietTactic
import Derived.BigQuiet
import Derived.Deep.RegionHeld3
import Derived.WalkKit
import Derived.ProofKit
import Derived.OpenShut
import Derived.IntWalk
namespace Go.Proofs.Ytameelaiigljjaa
open Go.ChangeShapes Go.WideShapes Go.ChangeAt Go.RowKit
set_option linter.unusedVariables false
open Go.RowKit
/-- A row that may be written, from block n on; or none. -/
def RowSt (k : Nat) (e : TypeId) (n : Nat) (W : World) (a : Option Addr) (len : Nat) : Prop := len = 0 ∨ ∃ g cs, a = some ⟨g, 0, none⟩ ∧ n ≤ g ∧ Blk W g e cs ∧ len * k ≤ cs.size
theorem OwnR.st {α : Type} {k : Nat} {e : TypeId} {enc : α → List Value} {n : Nat} {W : World} {a : Option Addr} {xs : List α} (h : OwnR k e enc n W a xs) (he : ∀ x, (enc x).length = k) (hk : 0 < k) : RowSt k e n W a xs.length := by
  rcases h.2 with ⟨rfl, _⟩ | ⟨g, cs, ha, hn, hb, hc⟩
  · exact .inl rfl
  · by_cases h0 : xs.length = 0
    · exact .inl h0
    · refine .inr ⟨g, cs, ha, hn, hb, ?_⟩
      have h1 := hc (xs.length - 1) (by omega) (k - 1) (by omega)
      rw [List.getElem?_eq_getElem (by rw [he]; omega)] at h1
      have h2 := (Array.getElem?_eq_some_iff.1 h1).1
      obtain ⟨m, hm⟩ : ∃ m, xs.length = m + 1 := ⟨xs.length - 1, by omega⟩
      rw [hm] at h2 ⊢
      rw [Nat.add_mul]
      simp only [Nat.add_sub_cancel] at h2
      omega
theorem RowSt.less {k : Nat} {e : TypeId} {n m : Nat} {W : World} {a : Option Addr} {len : Nat} (h : RowSt k e n W a len) (hm : m ≤ n) : RowSt k e m W a len :=
  h.imp id fun ⟨g, cs, ha, hn, h⟩ => ⟨g, cs, ha, by omega, h⟩
set_option maxRecDepth 100000 in
set_option maxHeartbeats 4000000 in
theorem treeKeeps_no (x : Wd) (p : Wp) (yk yi : Int) (w : World) (h : WorldAt w p x) (hf : fitsB x = false) : Calls Try.prog 6 #[.agg #[.slice p.d.ex x.d.exits.length p.d.exc, .slice p.d.pl x.d.players.length p.d.plc, .slice p.d.co x.d.coins.length p.d.coc, .slice p.d.it x.d.items.length p.d.itc, .slice p.d.bo x.d.boxes.length p.d.boc, .int .i64 x.d.room, .int .i64 x.d.player, .int .i64 x.d.box, .slice p.at_ x.at_.length p.atc, .slice p.co x.coins.length p.coc, .slice p.wh x.wher.length p.whc], .agg #[.int .i64 yk, .int .i64 yi]] w fun e w' => e = .returned (.bool true) ∧ Below w.heap.size w w' := by
  have HP := Holds.pair w #[.slice p.d.ex x.d.exits.length p.d.exc, .slice p.d.pl x.d.players.length p.d.plc, .slice p.d.co x.d.coins.length p.d.coc, .slice p.d.it x.d.items.length p.d.itc, .slice p.d.bo x.d.boxes.length p.d.boc, .int .i64 x.d.room, .int .i64 x.d.player, .int .i64 x.d.box, .slice p.at_ x.at_.length p.atc, .slice p.co x.coins.length p.coc, .slice p.wh x.wher.length p.whc] #[.int .i64 yk, .int .i64 yi] 29 31
  have H_0 := Lib.hid HP.1
  have K_0 := Lib.hid HP.2
  clear HP
  have HF := Lib.hid hf
  have HWA := Lib.hid h
  clear hf h
  go_enter Try.func6, Try.ntmps6
  go_wp2_with fail
  generalize ((w.alloc (.cells #[.slice p.d.ex x.d.exits.length p.d.exc, .slice p.d.pl x.d.players.length p.d.plc, .slice p.d.co x.d.coins.length p.d.coc, .slice p.d.it x.d.items.length p.d.itc, .slice p.d.bo x.d.boxes.length p.d.boc, .int .i64 x.d.room, .int .i64 x.d.player, .int .i64 x.d.box, .slice p.at_ x.at_.length p.atc, .slice p.co x.coins.length p.coc, .slice p.wh x.wher.length p.whc] 29)).alloc (.cells #[.int .i64 yk, .int .i64 yi] 31)) = V0 at *
  refine (awake7_any _).mono ?_
  rintro e w1 ⟨rfl, b1⟩
  have H_1 := Lib.hid (H_0.out.call b1)
  have K_1 := Lib.hid (K_0.out.call b1)
  have hcH := H_1.out.2.2
  have hlH := H_1.out.2.1
  have hcK := K_1.out.2.2
  have hlK := K_1.out.2.1
  clear b1 H_0 K_0
  go_wp2_with fail
  refine (fits_any x p _ (HWA.out.below H_1.out.1 (Nat.le_refl _))).mono ?_
  rintro e w2 ⟨rfl, b2⟩
  rw [HF.out]
  have H_2 := Lib.hid (H_1.out.call b2)
  have K_2 := Lib.hid (K_1.out.call b2)
  clear hcH hlH hcK hlK
  have hcH := H_2.out.2.2
  have hlH := H_2.out.2.1
  have hcK := K_2.out.2.2
  have hlK := K_2.out.2.1
  clear b2 H_1 K_1
  go_wp2_with fail
  refine (awake7_any _).mono ?_
  rintro e w3 ⟨rfl, b3⟩
  have H_3 := Lib.hid (H_2.out.call b3)
  have K_3 := Lib.hid (K_2.out.call b3)
  clear hcH hlH hcK hlK
  have hcH := H_3.out.2.2
  have hlH := H_3.out.2.1
  have hcK := K_3.out.2.2
  have hlK := K_3.out.2.1
  clear b3 H_2 K_2
  go_wp2_with fail
  go_ret
  exact ⟨rfl, H_3.out.1⟩
set_option maxRecDepth 100000 in
set_option maxHeartbeats 4000000 in
theorem treeKeeps_not (x : Wd) (p : Wp) (yk yi : Int) (w : World) (h : WorldAt w p x) (hf : fitsB x = true) (his : isPl x ⟨yk, yi⟩ = false) : Calls Try.prog 6 #[.agg #[.slice p.d.ex x.d.exits.length p.d.exc, .slice p.d.pl x.d.players.length p.d.plc, .slice p.d.co x.d.coins.length p.d.coc, .slice p.d.it x.d.items.length p.d.itc, .slice p.d.bo x.d.boxes.length p.d.boc, .int .i64 x.d.room, .int .i64 x.d.player, .int .i64 x.d.box, .slice p.at_ x.at_.length p.atc, .slice p.co x.coins.length p.coc, .slice p.wh x.wher.length p.whc], .agg #[.int .i64 yk, .int .i64 yi]] w fun e w' => e = .returned (.bool true) ∧ Below w.heap.size w w' := by
  have HIS := Lib.hid his
  clear his
  have HP := Holds.pair w #[.slice p.d.ex x.d.exits.length p.d.exc, .slice p.d.pl x.d.players.length p.d.plc, .slice p.d.co x.d.coins.length p.d.coc, .slice p.d.it x.d.items.length p.d.itc, .slice p.d.bo x.d.boxes.length p.d.boc, .int .i64 x.d.room, .int .i64 x.d.player, .int .i64 x.d.box, .slice p.at_ x.at_.length p.atc, .slice p.co x.coins.length p.coc, .slice p.wh x.wher.length p.whc] #[.int .i64 yk, .int .i64 yi] 29 31
  have H_0 := Lib.hid HP.1
  have K_0 := Lib.hid HP.2
  clear HP
  have HF := Lib.hid hf
  have HWA := Lib.hid h
  clear hf h
  go_enter Try.func6, Try.ntmps6
  go_wp2_with fail
  generalize ((w.alloc (.cells #[.slice p.d.ex x.d.exits.length p.d.exc, .slice p.d.pl x.d.players.length p.d.plc, .slice p.d.co x.d.coins.length p.d.coc, .slice p.d.it x.d.items.length p.d.itc, .slice p.d.bo x.d.boxes.length p.d.boc, .int .i64 x.d.room, .int .i64 x.d.player, .int .i64 x.d.box, .slice p.at_ x.at_.length p.atc, .slice p.co x.coins.length p.coc, .slice p.wh x.wher.length p.whc] 29)).alloc (.cells #[.int .i64 yk, .int .i64 yi] 31)) = V0 at *
  refine (awake7_any _).mono ?_
  rintro e w1 ⟨rfl, b1⟩
  have H_1 := Lib.hid (H_0.out.call b1)
  have K_1 := Lib.hid (K_0.out.call b1)
  have hcH := H_1.out.2.2
  have hlH := H_1.out.2.1
  have hcK := K_1.out.2.2
  have hlK := K_1.out.2.1
  clear b1 H_0 K_0
  go_wp2_with fail
  refine (fits_any x p _ (HWA.out.below H_1.out.1 (Nat.le_refl _))).mono ?_
  rintro e w2 ⟨rfl, b2⟩
  rw [HF.out]
  have H_2 := Lib.hid (H_1.out.call b2)
  have K_2 := Lib.hid (K_1.out.call b2)
  clear hcH hlH hcK hlK
  have hcH := H_2.out.2.2
  have hlH := H_2.out.2.1
  have hcK := K_2.out.2.2
  have hlK := K_2.out.2.1
  clear b2 H_1 K_1
  go_wp2_with fail
  refine (is_any x p ⟨yk, yi⟩ _).mono ?_
  rintro e w3 ⟨rfl, b3⟩
  rw [HIS.out]
  have H_3 := Lib.hid (H_2.out.call b3)
  have K_3 := Lib.hid (K_2.out.call b3)
  clear hcH hlH hcK hlK
  have hcH := H_3.out.2.2
  have hlH := H_3.out.2.1
  have hcK := K_3.out.2.2
  have hlK := K_3.out.2.1
  clear b3 H_2 K_2
  go_wp2_with fail
  refine (awake7_any _).mono ?_
  rintro e w4 ⟨rfl, b4⟩
  have H_4 := Lib.hid (H_3.out.call b4)
  have K_4 := Lib.hid (K_3.out.call b4)
  clear hcH hlH hcK hlK
  have hcH := H_4.out.2.2
  have hlH := H_4.out.2.1
  have hcK := K_4.out.2.2
  have hlK := K_4.out.2.1
  clear b4 H_3 K_3
  go_wp2_with fail
  go_ret
  exact ⟨rfl, H_4.out.1⟩
set_option maxRecDepth 100000 in
set_option maxHeartbeats 4000000 in
theorem treeKeeps_box (x : Wd) (p : Wp) (yk yi : Int) (w : World) (h : WorldAt w p x) (hf : fitsB x = true) (his : isPl x ⟨yk, yi⟩ = true) (k2 : (yk == 2) = true) : Calls Try.prog 6 #[.agg #[.slice p.d.ex x.d.exits.length p.d.exc, .slice p.d.pl x.d.players.length p.d.plc, .slice p.d.co x.d.coins.length p.d.coc, .slice p.d.it x.d.items.length p.d.itc, .slice p.d.bo x.d.boxes.length p.d.boc, .int .i64 x.d.room, .int .i64 x.d.player, .int .i64 x.d.box, .slice p.at_ x.at_.length p.atc, .slice p.co x.coins.length p.coc, .slice p.wh x.wher.length p.whc], .agg #[.int .i64 yk, .int .i64 yi]] w fun e w' => e = .returned (.bool true) ∧ Below w.heap.size w w' := by
  have HIS := Lib.hid his
  clear his
  have HP := Holds.pair w #[.slice p.d.ex x.d.exits.length p.d.exc, .slice p.d.pl x.d.players.length p.d.plc, .slice p.d.co x.d.coins.length p.d.coc, .slice p.d.it x.d.items.length p.d.itc, .slice p.d.bo x.d.boxes.length p.d.boc, .int .i64 x.d.room, .int .i64 x.d.player, .int .i64 x.d.box, .slice p.at_ x.at_.length p.atc, .slice p.co x.coins.length p.coc, .slice p.wh x.wher.length p.whc] #[.int .i64 yk, .int .i64 yi] 29 31
  have H_0 := Lib.hid HP.1
  have K_0 := Lib.hid HP.2
  clear HP
  have HF := Lib.hid hf
  have HWA := Lib.hid h
  clear hf h
  go_enter Try.func6, Try.ntmps6
  go_wp2_with fail
  generalize ((w.alloc (.cells #[.slice p.d.ex x.d.exits.length p.d.exc, .slice p.d.pl x.d.players.length p.d.plc, .slice p.d.co x.d.coins.length p.d.coc, .slice p.d.it x.d.items.length p.d.itc, .slice p.d.bo x.d.boxes.length p.d.boc, .int .i64 x.d.room, .int .i64 x.d.player, .int .i64 x.d.box, .slice p.at_ x.at_.length p.atc, .slice p.co x.coins.length p.coc, .slice p.wh x.wher.length p.whc] 29)).alloc (.cells #[.int .i64 yk, .int .i64 yi] 31)) = V0 at *
  refine (awake7_any _).mono ?_
  rintro e w1 ⟨rfl, b1⟩
  have H_1 := Lib.hid (H_0.out.call b1)
  have K_1 := Lib.hid (K_0.out.call b1)
  have hcH := H_1.out.2.2
  have hlH := H_1.out.2.1
  have hcK := K_1.out.2.2
  have hlK := K_1.out.2.1
  clear b1 H_0 K_0
  go_wp2_with fail
  refine (fits_any x p _ (HWA.out.below H_1.out.1 (Nat.le_refl _))).mono ?_
  rintro e w2 ⟨rfl, b2⟩
  rw [HF.out]
  have H_2 := Lib.hid (H_1.out.call b2)
  have K_2 := Lib.hid (K_1.out.call b2)
  clear hcH hlH hcK hlK
  have hcH := H_2.out.2.2
  have hlH := H_2.out.2.1
  have hcK := K_2.out.2.2
  have hlK := K_2.out.2.1
  clear b2 H_1 K_1
  go_wp2_with fail
  refine (is_any x p ⟨yk, yi⟩ _).mono ?_
  rintro e w3 ⟨rfl, b3⟩
  rw [HIS.out]
  have H_3 := Lib.hid (H_2.out.call b3)
  have K_3 := Lib.hid (K_2.out.call b3)
  clear hcH hlH hcK hlK
  have hcH := H_3.out.2.2
  have hlH := H_3.out.2.1
  have hcK := K_3.out.2.2
  have hlK := K_3.out.2.1
  clear b3 H_2 K_2
  go_wp2_with fail
  refine (awake7_any _).mono ?_
  rintro e w4 ⟨rfl, b4⟩
  have H_4 := Lib.hid (H_3.out.call b4)
  have K_4 := Lib.hid (K_3.out.call b4)
  clear hcH hlH hcK hlK
  have hcH := H_4.out.2.2
  have hlH := H_4.out.2.1
  have hcK := K_4.out.2.2
  have hlK := K_4.out.2.1
  clear b4 H_3 K_3
  go_wp2_with fail
  go_ret
  exact ⟨rfl, H_4.out.1⟩
set_option maxRecDepth 100000 in
set_option maxHeartbeats 4000000 in
theorem treeKeeps_go (x : Wd) (p : Wp) (yk yi : Int) (w : World) (h : WorldAt w p x) (hf : fitsB x = true) (his : isPl x ⟨yk, yi⟩ = true) (k2 : (yk == 2) = false) : Calls Try.prog 6 #[.agg #[.slice p.d.ex x.d.exits.length p.d.exc, .slice p.d.pl x.d.players.length p.d.plc, .slice p.d.co x.d.coins.length p.d.coc, .slice p.d.it x.d.items.length p.d.itc, .slice p.d.bo x.d.boxes.length p.d.boc, .int .i64 x.d.room, .int .i64 x.d.player, .int .i64 x.d.box, .slice p.at_ x.at_.length p.atc, .slice p.co x.coins.length p.coc, .slice p.wh x.wher.length p.whc], .agg #[.int .i64 yk, .int .i64 yi]] w fun e w' => e = .returned (.bool true) ∧ Below w.heap.size w w' := by
  have HIS := Lib.hid his
  clear his
  have FT := Lib.hid (fits_fit hf)
  have FEW := Lib.hid (few_few FT.out.few)
  have HP := Holds.pair w #[.slice p.d.ex x.d.exits.length p.d.exc, .slice p.d.pl x.d.players.length p.d.plc, .slice p.d.co x.d.coins.length p.d.coc, .slice p.d.it x.d.items.length p.d.itc, .slice p.d.bo x.d.boxes.length p.d.boc, .int .i64 x.d.room, .int .i64 x.d.player, .int .i64 x.d.box, .slice p.at_ x.at_.length p.atc, .slice p.co x.coins.length p.coc, .slice p.wh x.wher.length p.whc] #[.int .i64 yk, .int .i64 yi] 29 31
  have H_0 := Lib.hid HP.1
  have K_0 := Lib.hid HP.2
  clear HP
  have HF := Lib.hid hf
  have HWA := Lib.hid h
  clear hf h
  go_enter Try.func6, Try.ntmps6
  go_wp2_with fail
  generalize ((w.alloc (.cells #[.slice p.d.ex x.d.exits.length p.d.exc, .slice p.d.pl x.d.players.length p.d.plc, .slice p.d.co x.d.coins.length p.d.coc, .slice p.d.it x.d.items.length p.d.itc, .slice p.d.bo x.d.boxes.length p.d.boc, .int .i64 x.d.room, .int .i64 x.d.player, .int .i64 x.d.box, .slice p.at_ x.at_.length p.atc, .slice p.co x.coins.length p.coc, .slice p.wh x.wher.length p.whc] 29)).alloc (.cells #[.int .i64 yk, .int .i64 yi] 31)) = V0 at *
  refine (awake7_any _).mono ?_
  rintro e w1 ⟨rfl, b1⟩
  have H_1 := Lib.hid (H_0.out.call b1)
  have K_1 := Lib.hid (K_0.out.call b1)
  have hcH := H_1.out.2.2
  have hlH := H_1.out.2.1
  have hcK := K_1.out.2.2
  have hlK := K_1.out.2.1
  clear b1 H_0 K_0
  go_wp2_with fail
  refine (fits_any x p _ (HWA.out.below H_1.out.1 (Nat.le_refl _))).mono ?_
  rintro e w2 ⟨rfl, b2⟩
  rw [HF.out]
  have H_2 := Lib.hid (H_1.out.call b2)
  have K_2 := Lib.hid (K_1.out.call b2)
  clear hcH hlH hcK hlK
  have hcH := H_2.out.2.2
  have hlH := H_2.out.2.1
  have hcK := K_2.out.2.2
  have hlK := K_2.out.2.1
  clear b2 H_1 K_1
  go_wp2_with fail
  refine (is_any x p ⟨yk, yi⟩ _).mono ?_
  rintro e w3 ⟨rfl, b3⟩
  rw [HIS.out]
  have H_3 := Lib.hid (H_2.out.call b3)
  have K_3 := Lib.hid (K_2.out.call b3)
  clear hcH hlH hcK hlK
  have hcH := H_3.out.2.2
  have hlH := H_3.out.2.1
  have hcK := K_3.out.2.2
  have hlK := K_3.out.2.1
  clear b3 H_2 K_2
  go_wp2_with fail
  refine (copied_any x p w3 (HWA.out.below H_3.out.1 (Nat.le_refl _)) FEW.out).mono ?_
  rintro e w4 ⟨q, rfl, ow4, b4⟩
  have H_4 := Lib.hid (H_3.out.call b4)
  have K_4 := Lib.hid (K_3.out.call b4)
  clear hcH hlH hcK hlK
  have H_5 := Lib.hid (H_4.out.alloc (.cells #[.slice q.d.ex x.d.exits.length q.d.exc, .slice q.d.pl x.d.players.length q.d.plc, .slice q.d.co x.d.coins.length q.d.coc, .slice q.d.it x.d.items.length q.d.itc, .slice q.d.bo x.d.boxes.length q.d.boc, .int .i64 x.d.room, .int .i64 x.d.player, .int .i64 x.d.box, .slice q.at_ x.at_.length q.atc, .slice q.co x.coins.length q.coc, .slice q.wh x.wher.length q.whc] 29))
  have K_5 := Lib.hid (K_4.out.alloc (.cells #[.slice q.d.ex x.d.exits.length q.d.exc, .slice q.d.pl x.d.players.length q.d.plc, .slice q.d.co x.d.coins.length q.d.coc, .slice q.d.it x.d.items.length q.d.itc, .slice q.d.bo x.d.boxes.length q.d.boc, .int .i64 x.d.room, .int .i64 x.d.player, .int .i64 x.d.box, .slice q.at_ x.at_.length q.atc, .slice q.co x.coins.length q.coc, .slice q.wh x.wher.length q.whc] 29))
  have X_5 := Lib.hid (Holds.newb (w := w) (A := #[.slice q.d.ex x.d.exits.length q.d.exc, .slice q.d.pl x.d.players.length q.d.plc, .slice q.d.co x.d.coins.length q.d.coc, .slice q.d.it x.d.items.length q.d.itc, .slice q.d.bo x.d.boxes.length q.d.boc, .int .i64 x.d.room, .int .i64 x.d.player, .int .i64 x.d.box, .slice q.at_ x.at_.length q.atc, .slice q.co x.coins.length q.coc, .slice q.wh x.wher.length q.whc]) (t := 29) (n := w4.heap.size) H_4.out.1 rfl)
  have YW := Lib.hid (ow4.below ((Below.refl _ _).alloc (Nat.le_refl _) (.cells #[.slice q.d.ex x.d.exits.length q.d.exc, .slice q.d.pl x.d.players.length q.d.plc, .slice q.d.co x.d.coins.length q.d.coc, .slice q.d.it x.d.items.length q.d.itc, .slice q.d.bo x.d.boxes.length q.d.boc, .int .i64 x.d.room, .int .i64 x.d.player, .int .i64 x.d.box, .slice q.at_ x.at_.length q.atc, .slice q.co x.coins.length q.coc, .slice q.wh x.wher.length q.whc] 29)) (Nat.le_refl _))
  have hcK := K_4.out.2.2
  have hlK := K_4.out.2.1
  clear ow4 b4 H_3 K_3
  go_wp2_with fail
  clear hcK hlK H_4 K_4
  generalize (w4.alloc (.cells #[.slice q.d.ex x.d.exits.length q.d.exc, .slice q.d.pl x.d.players.length q.d.plc, .slice q.d.co x.d.coins.length q.d.coc, .slice q.d.it x.d.items.length q.d.itc, .slice q.d.bo x.d.boxes.length q.d.boc, .int .i64 x.d.room, .int .i64 x.d.player, .int .i64 x.d.box, .slice q.at_ x.at_.length q.atc, .slice q.co x.coins.length q.coc, .slice q.wh x.wher.length q.whc] 29)) = V5 at *
  obtain ⟨L1, hL1⟩ : ∃ n, (underN x.wher x.wher.length ⟨yk, yi⟩).length = n := ⟨_, rfl⟩
  obtain ⟨L2, hL2⟩ : ∃ n, (inN x.wher x.wher.length ⟨yk, yi⟩).length = n := ⟨_, rfl⟩
  have q1 : L1 ≤ 16 := by rw [← hL1]; have := underN_len x.wher x.wher.length ⟨yk, yi⟩; have := FT.out.len; omega
  have q2 : L2 ≤ 16 := by rw [← hL2]; have := inN_len x.wher x.wher.length ⟨yk, yi⟩; have := FT.out.len; omega
  have HL1 := Lib.hid hL1
  have HL2 := Lib.hid hL2
  clear hL1 hL2
  have TU := Lib.hid (tunder_any x q ⟨yk, yi⟩ FT.out.tr V5 YW.out.wh (by have := FT.out.len; omega))
  refine TU.out.mono ?_
  rintro e w6 ⟨a1, c1, rfl, o1, b6⟩
  rw [HL1.out]
  have H_6 := Lib.hid (H_5.out.call b6)
  have K_6 := Lib.hid (K_5.out.call b6)
  have X_6 := Lib.hid (X_5.out.call b6)
  have ST1 := Lib.hid (show RowSt 3 46 V5.heap.size w6 a1 L1 by rw [← HL1.out]; exact o1.st seC_len (by decide))
  have BB := Lib.hid b6
  clear b6 o1 TU
  have KS : Hid (∀ w', Below V5.heap.size V5 w' → Below V5.heap.size V5 w' ∧ (∀ i, w'.cell? ⟨w.heap.size, i, none⟩ = (#[.slice p.d.ex x.d.exits.length p.d.exc, .slice p.d.pl x.d.players.length p.d.plc, .slice p.d.co x.d.coins.length p.d.coc, .slice p.d.it x.d.items.length p.d.itc, .slice p.d.bo x.d.boxes.length p.d.boc, .int .i64 x.d.room, .int .i64 x.d.player, .int .i64 x.d.box, .slice p.at_ x.at_.length p.atc, .slice p.co x.coins.length p.coc, .slice p.wh x.wher.length p.whc][i]? : Option Value)) ∧ (∀ i, w'.cell? ⟨w.heap.size + 1, i, none⟩ = (#[.int .i64 yk, .int .i64 yi][i]? : Option Value)) ∧ (∀ i, w'.cell? ⟨w4.heap.size, i, none⟩ = (#[.slice q.d.ex x.d.exits.length q.d.exc, .slice q.d.pl x.d.players.length q.d.plc, .slice q.d.co x.d.coins.length q.d.coc, .slice q.d.it x.d.items.length q.d.itc, .slice q.d.bo x.d.boxes.length q.d.boc, .int .i64 x.d.room, .int .i64 x.d.player, .int .i64 x.d.box, .slice q.at_ x.at_.length q.atc, .slice q.co x.coins.length q.coc, .slice q.wh x.wher.length q.whc][i]? : Option Value))) := Lib.hid (fun w' hb => ⟨hb, fun i => (hb.cell (p := ⟨w.heap.size, i, none⟩) H_5.out.2.1).trans (H_5.out.2.2 i), fun i => (hb.cell (p := ⟨w.heap.size + 1, i, none⟩) K_5.out.2.1).trans (K_5.out.2.2 i), fun i => (hb.cell (p := ⟨w4.heap.size, i, none⟩) X_5.out.2.1).trans (X_5.out.2.2 i)⟩)
  have LT := Lib.hid (show w.heap.size < V5.heap.size ∧ w.heap.size + 1 < V5.heap.size ∧ w4.heap.size < V5.heap.size from ⟨H_5.out.2.1, K_5.out.2.1, X_5.out.2.1⟩)
  have HB0 := Lib.hid H_5.out.1
  clear H_5 K_5 X_5 H_6 K_6 X_6
  go_wp2_with fail
  go_loopw [7] (fun v wr => ∃ k : Nat, k ≤ L1 ∧ v = .int .i64 k ∧ Below V5.heap.size V5 wr ∧ RowSt 3 46 V5.heap.size wr a1 L1) (fun v _ => L1 - (intOf v).toNat)
  case atStart => exact ⟨0, Nat.zero_le _, rfl, BB.out, ST1.out⟩
  case round =>
    obtain ⟨k, hk, rfl, hB, hR⟩ := hrel
    by_cases hlt : k < L1
    · rcases hR with h0 | ⟨g, cs, rfl, hg, hbk, hsz⟩
      · omega
      have hw : IntKind.i64.wrap ((k : Int) + 1) = (k : Int) + 1 := IntWalk.i64_in _ (by omega)
      obtain ⟨u0, d0⟩ : ∃ u, wr.cell? ⟨g, k * 3, none⟩ = some u := ⟨cs[k * 3]'(by omega), by rw [hbk.cell, Array.getElem?_eq_getElem]⟩
      have f0 := hbk.frozen (k * 3)
      obtain ⟨u1, d1⟩ : ∃ u, wr.cell? ⟨g, k * 3 + 1, none⟩ = some u := ⟨cs[k * 3 + 1]'(by omega), by rw [hbk.cell, Array.getElem?_eq_getElem]⟩
      have f1 := hbk.frozen (k * 3 + 1)
      obtain ⟨u2, d2⟩ : ∃ u, wr.cell? ⟨g, k * 3 + 2, none⟩ = some u := ⟨cs[k * 3 + 2]'(by omega), by rw [hbk.cell, Array.getElem?_eq_getElem]⟩
      have f2 := hbk.frozen (k * 3 + 2)
      have lg := hbk.lt
      have HBK := Lib.hid hbk
      have HBB := Lib.hid hB
      have HSZ := Lib.hid hsz
      have HG := Lib.hid hg
      clear hbk hB hsz
      go_wp2_with fail
      go_roundw
      case rel => exact ⟨k + 1, by omega, by go_num, (((HBB.out.setCell (p := ⟨g, k * 3, none⟩) (by show V5.heap.size ≤ g; exact HG.out) (.int .i64 99)).setCell (p := ⟨g, k * 3 + 1, none⟩) (by show V5.heap.size ≤ g; exact HG.out) (.int .i64 0)).setCell (p := ⟨g, k * 3 + 2, none⟩) (by show V5.heap.size ≤ g; exact HG.out) (.int .i64 0)), .inr ⟨g, _, rfl, HG.out, (((HBK.out.set_ (k * 3) (.int .i64 99)).set_ (k * 3 + 1) (.int .i64 0)).set_ (k * 3 + 2) (.int .i64 0)), by simpa using HSZ.out⟩⟩
      case measure => simp [intOf]; omega
    · have hke : k = L1 := by omega
      subst hke
      have BB1 := Lib.hid hB
      have hS := KS.out wr hB
      have hcH := hS.2.1
      have hcK := hS.2.2.1
      have hcX := hS.2.2.2
      have hs := hB.size
      have lt0 := LT.out
      have hlK : w.heap.size + 1 < wr.heap.size := by omega
      have hlX : w4.heap.size < wr.heap.size := by omega
      clear hB hR hS hs lt0
      go_wp2_with fail
      clear hcH hcK hcX hlK hlX
      refine (tin_any x q ⟨yk, yi⟩ _ (YW.out.wh.below BB1.out (Nat.le_refl _)) (by have := FT.out.len; omega)).mono ?_
      rintro e w7 ⟨a2, c2, rfl, o2, b7⟩
      rw [HL2.out]
      have ST2 := Lib.hid (show RowSt 1 3 V5.heap.size w7 a2 L2 by rw [← HL2.out]; exact (o2.st inC_len (by decide)).less BB1.out.size)
      have BB2 := Lib.hid (below_call BB1.out BB1.out.size b7)
      clear b7 o2
      go_wp2_with fail
      clear BB ST1
      go_loopw [9] (fun v wr => ∃ k : Nat, k ≤ L2 ∧ v = .int .i64 k ∧ Below V5.heap.size V5 wr ∧ RowSt 1 3 V5.heap.size wr a2 L2) (fun v _ => L2 - (intOf v).toNat)
      case atStart => exact ⟨0, Nat.zero_le _, rfl, BB2.out, ST2.out⟩
      case round =>
        obtain ⟨k, hk, rfl, hB, hR⟩ := hrel
        by_cases hlt : k < L2
        · rcases hR with h0 | ⟨g, cs, rfl, hg, hbk, hsz⟩
          · omega
          have hw : IntKind.i64.wrap ((k : Int) + 1) = (k : Int) + 1 := IntWalk.i64_in _ (by omega)
          obtain ⟨u0, d0⟩ : ∃ u, wr.cell? ⟨g, k, none⟩ = some u := ⟨cs[k]'(by omega), by rw [hbk.cell, Array.getElem?_eq_getElem]⟩
          have f0 := hbk.frozen (k)
          have lg := hbk.lt
          have HBK := Lib.hid hbk
          have HBB := Lib.hid hB
          have HSZ := Lib.hid hsz
          have HG := Lib.hid hg
          clear hbk hB hsz
          go_wp2_with fail
          go_roundw
          case rel => exact ⟨k + 1, by omega, by go_num, (HBB.out.setCell (p := ⟨g, k, none⟩) (by show V5.heap.size ≤ g; exact HG.out) (.int .i64 99)), .inr ⟨g, _, rfl, HG.out, (HBK.out.set_ (k) (.int .i64 99)), by simpa using HSZ.out⟩⟩
          case measure => simp [intOf]; omega
        · have hke : k = L2 := by omega
          subst hke
          have BB3 := Lib.hid hB
          have hS := KS.out wr hB
          have hcH := hS.2.1
          have hcK := hS.2.2.1
          have hcX := hS.2.2.2
          have hs := hB.size
          have lt0 := LT.out
          have hlK : w.heap.size + 1 < wr.heap.size := by omega
          have hlX : w4.heap.size < wr.heap.size := by omega
          clear hB hR hS hs lt0
          go_wp2_with fail
          clear hcH hcK hcX hlK hlX
          have KS9 : Hid (∀ w', Below wr.heap.size wr w' → Below wr.heap.size wr w' ∧ (∀ i, w'.cell? ⟨w.heap.size, i, none⟩ = (#[.slice p.d.ex x.d.exits.length p.d.exc, .slice p.d.pl x.d.players.length p.d.plc, .slice p.d.co x.d.coins.length p.d.coc, .slice p.d.it x.d.items.length p.d.itc, .slice p.d.bo x.d.boxes.length p.d.boc, .int .i64 x.d.room, .int .i64 x.d.player, .int .i64 x.d.box, .slice p.at_ x.at_.length p.atc, .slice p.co x.coins.length p.coc, .slice p.wh x.wher.length p.whc][i]? : Option Value)) ∧ (∀ i, w'.cell? ⟨w.heap.size + 1, i, none⟩ = (#[.int .i64 yk, .int .i64 yi][i]? : Option Value)) ∧ (∀ i, w'.cell? ⟨w4.heap.size, i, none⟩ = (#[.slice q.d.ex x.d.exits.length q.d.exc, .slice q.d.pl x.d.players.length q.d.plc, .slice q.d.co x.d.coins.length q.d.coc, .slice q.d.it x.d.items.length q.d.itc, .slice q.d.bo x.d.boxes.length q.d.boc, .int .i64 x.d.room, .int .i64 x.d.player, .int .i64 x.d.box, .slice q.at_ x.at_.length q.atc, .slice q.co x.coins.length q.coc, .slice q.wh x.wher.length q.whc][i]? : Option Value))) := Lib.hid (fun w' hb => ⟨hb, (KS.out w' (below_call BB3.out BB3.out.size hb)).2⟩)
          refine wp_region_noPanic ?_
          refine wp_region_held_drew (S := (fun w' => Below wr.heap.size wr w' ∧ (∀ i, w'.cell? ⟨w.heap.size, i, none⟩ = (#[.slice p.d.ex x.d.exits.length p.d.exc, .slice p.d.pl x.d.players.length p.d.plc, .slice p.d.co x.d.coins.length p.d.coc, .slice p.d.it x.d.items.length p.d.itc, .slice p.d.bo x.d.boxes.length p.d.boc, .int .i64 x.d.room, .int .i64 x.d.player, .int .i64 x.d.box, .slice p.at_ x.at_.length p.atc, .slice p.co x.coins.length p.coc, .slice p.wh x.wher.length p.whc][i]? : Option Value)) ∧ (∀ i, w'.cell? ⟨w.heap.size + 1, i, none⟩ = (#[.int .i64 yk, .int .i64 yi][i]? : Option Value)) ∧ (∀ i, w'.cell? ⟨w4.heap.size, i, none⟩ = (#[.slice q.d.ex x.d.exits.length q.d.exc, .slice q.d.pl x.d.players.length q.d.plc, .slice q.d.co x.d.coins.length q.d.coc, .slice q.d.it x.d.items.length q.d.itc, .slice q.d.bo x.d.boxes.length q.d.boc, .int .i64 x.d.room, .int .i64 x.d.player, .int .i64 x.d.box, .slice q.at_ x.at_.length q.atc, .slice q.co x.coins.length q.coc, .slice q.wh x.wher.length q.whc][i]? : Option Value)))) (by kernel_rfl) (by (first | (with_reducible exact KS9.out _ (bdrew1 (Below.refl _ _))) | (with_reducible exact KS9.out _ (below_call hHeld.1 hHeld.1.size hb9)) | (with_reducible exact hHeld))) (fun hHeld => ?_)
          first
            | (refine wpAnyH_take (i := 0) (v := undef) (by simp only [List.getElem?_toArray, List.getElem?_cons_zero]; rfl) (by kernel_rfl) (by kernel_rfl) (by kernel_rfl) (fun _ _ _ h => h) (Or.inr ⟨by rfl, rfl⟩) (by assumption) ?_; try simp only [Act.put, List.setIfInBounds_toArray, List.set_cons_zero, List.set_cons_succ])
            | (refine wpAnyH_take (i := 0) (v := ?_) (by simp only [List.getElem?_toArray, List.getElem?_cons_zero]; rfl) (by kernel_rfl) (by kernel_rfl) (by kernel_rfl) (fun _ _ _ h => h) (Or.inl ⟨by rfl, ?_⟩) (by assumption) ?_
               rotate_left
               · (intro ww hSw; (try dsimp only at hSw); go_simp; (try with_reducible rfl))
               try simp only [Act.put, List.setIfInBounds_toArray, List.set_cons_zero, List.set_cons_succ])
            | (refine wpAnyH_ready (rs := [0]) (by kernel_rfl) (by simp) (AllReadyH.cons (by simp only [List.getElem?_toArray, List.getElem?_cons_succ, List.getElem?_cons_zero]; rfl) (fun K hK => ?_) AllReadyH.nil)
               go_simp
               first
                 | (fail)
               try go_wp2_with fail
               refine hK.out _ _ (by (first | (with_reducible exact KS9.out _ (bdrew1 (Below.refl _ _))) | (with_reducible exact KS9.out _ (below_call hHeld.1 hHeld.1.size hb9)) | (with_reducible exact hHeld))) (fun hHeld => ?_)
               clear hK K
               try simp only [Act.put, List.setIfInBounds_toArray, List.set_cons_zero, List.set_cons_succ])
          first
            | (refine wpAnyH_take (i := 1) (v := undef) (by simp only [List.getElem?_toArray, List.getElem?_cons_succ, List.getElem?_cons_zero]; rfl) (by kernel_rfl) (by kernel_rfl) (by kernel_rfl) (fun _ _ _ h => h) (Or.inr ⟨by rfl, rfl⟩) (by assumption) ?_; try simp only [Act.put, List.setIfInBounds_toArray, List.set_cons_zero, List.set_cons_succ])
            | (refine wpAnyH_take (i := 1) (v := ?_) (by simp only [List.getElem?_toArray, List.getElem?_cons_succ, List.getElem?_cons_zero]; rfl) (by kernel_rfl) (by kernel_rfl) (by kernel_rfl) (fun _ _ _ h => h) (Or.inl ⟨by rfl, ?_⟩) (by assumption) ?_
               rotate_left
               · (intro ww hSw; (try dsimp only at hSw); go_simp; (try with_reducible rfl))
               try simp only [Act.put, List.setIfInBounds_toArray, List.set_cons_zero, List.set_cons_succ])
            | (refine wpAnyH_ready (rs := [1]) (by kernel_rfl) (by simp) (AllReadyH.cons (by simp only [List.getElem?_toArray, List.getElem?_cons_succ, List.getElem?_cons_zero]; rfl) (fun K hK => ?_) AllReadyH.nil)
               go_simp
               first
                 | (fail)
               try go_wp2_with fail
               refine hK.out _ _ (by (first | (with_reducible exact KS9.out _ (bdrew1 (Below.refl _ _))) | (with_reducible exact KS9.out _ (below_call hHeld.1 hHeld.1.size hb9)) | (with_reducible exact hHeld))) (fun hHeld => ?_)
               clear hK K
               try simp only [Act.put, List.setIfInBounds_toArray, List.set_cons_zero, List.set_cons_succ])
          refine wpAnyH_ready (rs := [2]) (by kernel_rfl) (by simp) (AllReadyH.cons (by simp only [List.getElem?_toArray, List.getElem?_cons_succ, List.getElem?_cons_zero]; rfl) (fun K hK => ?_) AllReadyH.nil)
          go_simp; refine (refsame_any x x q p _ (YW.out.below (below_call BB3.out BB3.out.size hHeld.1) (Nat.le_refl _)) (HWA.out.below (below_call HB0.out HB0.out.size (below_call BB3.out BB3.out.size hHeld.1)) (Nat.le_refl _))).mono ?_; rintro e w9 ⟨rfl, hb9⟩; rw [decide_eq_true (rfl : x = x)]; try go_wp2_with fail
          refine hK.out _ _ (by (first | (with_reducible exact KS9.out _ (bdrew1 (Below.refl _ _))) | (with_reducible exact KS9.out _ (below_call hHeld.1 hHeld.1.size hb9)) | (with_reducible exact hHeld))) (fun hHeld => ?_)
          clear hK K
          try simp only [Act.put, List.setIfInBounds_toArray, List.set_cons_zero, List.set_cons_succ]
          first
            | (refine wpAnyH_take (i := 3) (v := undef) (by simp only [List.getElem?_toArray, List.getElem?_cons_succ, List.getElem?_cons_zero]; rfl) (by kernel_rfl) (by kernel_rfl) (by kernel_rfl) (fun _ _ _ h => h) (Or.inr ⟨by rfl, rfl⟩) (by assumption) ?_; try simp only [Act.put, List.setIfInBounds_toArray, List.set_cons_zero, List.set_cons_succ])
            | (refine wpAnyH_take (i := 3) (v := ?_) (by simp only [List.getElem?_toArray, List.getElem?_cons_succ, List.getElem?_cons_zero]; rfl) (by kernel_rfl) (by kernel_rfl) (by kernel_rfl) (fun _ _ _ h => h) (Or.inl ⟨by rfl, ?_⟩) (by assumption) ?_
               rotate_left
               · (intro ww hSw; (try dsimp only at hSw); go_simp; (try with_reducible rfl))
               try simp only [Act.put, List.setIfInBounds_toArray, List.set_cons_zero, List.set_cons_succ])
            | (refine wpAnyH_ready (rs := [3]) (by kernel_rfl) (by simp) (AllReadyH.cons (by simp only [List.getElem?_toArray, List.getElem?_cons_succ, List.getElem?_cons_zero]; rfl) (fun K hK => ?_) AllReadyH.nil)
               go_simp
               first
                 | (fail)
               try go_wp2_with fail
               refine hK.out _ _ (by (first | (with_reducible exact KS9.out _ (bdrew1 (Below.refl _ _))) | (with_reducible exact KS9.out _ (below_call hHeld.1 hHeld.1.size hb9)) | (with_reducible exact hHeld))) (fun hHeld => ?_)
               clear hK K
               try simp only [Act.put, List.setIfInBounds_toArray, List.set_cons_zero, List.set_cons_succ])
          first
            | (refine wpAnyH_take (i := 4) (v := undef) (by simp only [List.getElem?_toArray, List.getElem?_cons_succ, List.getElem?_cons_zero]; rfl) (by kernel_rfl) (by kernel_rfl) (by kernel_rfl) (fun _ _ _ h => h) (Or.inr ⟨by rfl, rfl⟩) (by assumption) ?_; try simp only [Act.put, List.setIfInBounds_toArray, List.set_cons_zero, List.set_cons_succ])
            | (refine wpAnyH_take (i := 4) (v := ?_) (by simp only [List.getElem?_toArray, List.getElem?_cons_succ, List.getElem?_cons_zero]; rfl) (by kernel_rfl) (by kernel_rfl) (by kernel_rfl) (fun _ _ _ h => h) (Or.inl ⟨by rfl, ?_⟩) (by assumption) ?_
               rotate_left
               · (intro ww hSw; (try dsimp only at hSw); go_simp; (try with_reducible rfl))
               try simp only [Act.put, List.setIfInBounds_toArray, List.set_cons_zero, List.set_cons_succ])
            | (refine wpAnyH_ready (rs := [4]) (by kernel_rfl) (by simp) (AllReadyH.cons (by simp only [List.getElem?_toArray, List.getElem?_cons_succ, List.getElem?_cons_zero]; rfl) (fun K hK => ?_) AllReadyH.nil)
               go_simp
               first
                 | (fail)
               try go_wp2_with fail
               refine hK.out _ _ (by (first | (with_reducible exact KS9.out _ (bdrew1 (Below.refl _ _))) | (with_reducible exact KS9.out _ (below_call hHeld.1 hHeld.1.size hb9)) | (with_reducible exact hHeld))) (fun hHeld => ?_)
               clear hK K
               try simp only [Act.put, List.setIfInBounds_toArray, List.set_cons_zero, List.set_cons_succ])
          first
            | (refine wpAnyH_take (i := 5) (v := undef) (by simp only [List.getElem?_toArray, List.getElem?_cons_succ, List.getElem?_cons_zero]; rfl) (by kernel_rfl) (by kernel_rfl) (by kernel_rfl) (fun _ _ _ h => h) (Or.inr ⟨by rfl, rfl⟩) (by assumption) ?_; try simp only [Act.put, List.setIfInBounds_toArray, List.set_cons_zero, List.set_cons_succ])
            | (refine wpAnyH_take (i := 5) (v := ?_) (by simp only [List.getElem?_toArray, List.getElem?_cons_succ, List.getElem?_cons_zero]; rfl) (by kernel_rfl) (by kernel_rfl) (by kernel_rfl) (fun _ _ _ h => h) (Or.inl ⟨by rfl, ?_⟩) (by assumption) ?_
               rotate_left
               · (intro ww hSw; (try dsimp only at hSw); go_simp; (try with_reducible rfl))
               try simp only [Act.put, List.setIfInBounds_toArray, List.set_cons_zero, List.set_cons_succ])
            | (refine wpAnyH_ready (rs := [5]) (by kernel_rfl) (by simp) (AllReadyH.cons (by simp only [List.getElem?_toArray, List.getElem?_cons_succ, List.getElem?_cons_zero]; rfl) (fun K hK => ?_) AllReadyH.nil)
               go_simp
               first
                 | (fail)
               try go_wp2_with fail
               refine hK.out _ _ (by (first | (with_reducible exact KS9.out _ (bdrew1 (Below.refl _ _))) | (with_reducible exact KS9.out _ (below_call hHeld.1 hHeld.1.size hb9)) | (with_reducible exact hHeld))) (fun hHeld => ?_)
               clear hK K
               try simp only [Act.put, List.setIfInBounds_toArray, List.set_cons_zero, List.set_cons_succ])
          first
            | (refine wpAnyH_take (i := 7) (v := undef) (by simp only [List.getElem?_toArray, List.getElem?_cons_succ, List.getElem?_cons_zero]; rfl) (by kernel_rfl) (by kernel_rfl) (by kernel_rfl) (fun _ _ _ h => h) (Or.inr ⟨by rfl, rfl⟩) (by assumption) ?_; try simp only [Act.put, List.setIfInBounds_toArray, List.set_cons_zero, List.set_cons_succ])
            | (refine wpAnyH_take (i := 7) (v := ?_) (by simp only [List.getElem?_toArray, List.getElem?_cons_succ, List.getElem?_cons_zero]; rfl) (by kernel_rfl) (by kernel_rfl) (by kernel_rfl) (fun _ _ _ h => h) (Or.inl ⟨by rfl, ?_⟩) (by assumption) ?_
               rotate_left
               · (intro ww hSw; (try dsimp only at hSw); go_simp; (try with_reducible rfl))
               try simp only [Act.put, List.setIfInBounds_toArray, List.set_cons_zero, List.set_cons_succ])
            | (refine wpAnyH_ready (rs := [7]) (by kernel_rfl) (by simp) (AllReadyH.cons (by simp only [List.getElem?_toArray, List.getElem?_cons_succ, List.getElem?_cons_zero]; rfl) (fun K hK => ?_) AllReadyH.nil)
               go_simp
               first
                 | (fail)
               try go_wp2_with fail
               refine hK.out _ _ (by (first | (with_reducible exact KS9.out _ (bdrew1 (Below.refl _ _))) | (with_reducible exact KS9.out _ (below_call hHeld.1 hHeld.1.size hb9)) | (with_reducible exact hHeld))) (fun hHeld => ?_)
               clear hK K
               try simp only [Act.put, List.setIfInBounds_toArray, List.set_cons_zero, List.set_cons_succ])
          first
            | (refine wpAnyH_take (i := 8) (v := undef) (by simp only [List.getElem?_toArray, List.getElem?_cons_succ, List.getElem?_cons_zero]; rfl) (by kernel_rfl) (by kernel_rfl) (by kernel_rfl) (fun _ _ _ h => h) (Or.inr ⟨by rfl, rfl⟩) (by assumption) ?_; try simp only [Act.put, List.setIfInBounds_toArray, List.set_cons_zero, List.set_cons_succ])
            | (refine wpAnyH_take (i := 8) (v := ?_) (by simp only [List.getElem?_toArray, List.getElem?_cons_succ, List.getElem?_cons_zero]; rfl) (by kernel_rfl) (by kernel_rfl) (by kernel_rfl) (fun _ _ _ h => h) (Or.inl ⟨by rfl, ?_⟩) (by assumption) ?_
               rotate_left
               · (intro ww hSw; (try dsimp only at hSw); go_simp; (try with_reducible rfl))
               try simp only [Act.put, List.setIfInBounds_toArray, List.set_cons_zero, List.set_cons_succ])
            | (refine wpAnyH_ready (rs := [8]) (by kernel_rfl) (by simp) (AllReadyH.cons (by simp only [List.getElem?_toArray, List.getElem?_cons_succ, List.getElem?_cons_zero]; rfl) (fun K hK => ?_) AllReadyH.nil)
               go_simp
               first
                 | (fail)
               try go_wp2_with fail
               refine hK.out _ _ (by (first | (with_reducible exact KS9.out _ (bdrew1 (Below.refl _ _))) | (with_reducible exact KS9.out _ (below_call hHeld.1 hHeld.1.size hb9)) | (with_reducible exact hHeld))) (fun hHeld => ?_)
               clear hK K
               try simp only [Act.put, List.setIfInBounds_toArray, List.set_cons_zero, List.set_cons_succ])
          refine wpAnyH_ready (rs := [6]) (by kernel_rfl) (by simp) (AllReadyH.cons (by simp only [List.getElem?_toArray, List.getElem?_cons_succ, List.getElem?_cons_zero]; rfl) (fun K hK => ?_) AllReadyH.nil)
          go_simp; refine (tunder_any x q ⟨yk, yi⟩ FT.out.tr _ (YW.out.below (below_call BB3.out BB3.out.size hHeld.1) (Nat.le_refl _)).wh (by have := FT.out.len; omega)).mono ?_; rintro e w9 ⟨a3, c3, rfl, os1, hb9⟩; have os1 := Lib.hid os1; try go_wp2_with fail
          refine hK.out _ _ (by (first | (with_reducible exact KS9.out _ (bdrew1 (Below.refl _ _))) | (with_reducible exact KS9.out _ (below_call hHeld.1 hHeld.1.size hb9)) | (with_reducible exact hHeld))) (fun hHeld => ?_)
          clear hK K
          try simp only [Act.put, List.setIfInBounds_toArray, List.set_cons_zero, List.set_cons_succ]
          refine wpAnyH_ready (rs := [9]) (by kernel_rfl) (by simp) (AllReadyH.cons (by simp only [List.getElem?_toArray, List.getElem?_cons_succ, List.getElem?_cons_zero]; rfl) (fun K hK => ?_) AllReadyH.nil)
          go_simp; refine (refunder_any x p ⟨yk, yi⟩ FT.out.tr _ (HWA.out.below (below_call HB0.out HB0.out.size (below_call BB3.out BB3.out.size hHeld.1)) (Nat.le_refl _)).wh (by have := FT.out.len; omega)).mono ?_; rintro e w9 ⟨a4, c4, rfl, os2, hb9⟩; have os2 := Lib.hid os2; have os3 := Lib.hid (os1.out.row.call hb9); try go_wp2_with fail
          refine hK.out _ _ (by (first | (with_reducible exact KS9.out _ (bdrew1 (Below.refl _ _))) | (with_reducible exact KS9.out _ (below_call hHeld.1 hHeld.1.size hb9)) | (with_reducible exact hHeld))) (fun hHeld => ?_)
          clear hK K
          try simp only [Act.put, List.setIfInBounds_toArray, List.set_cons_zero, List.set_cons_succ]
          refine wpAnyH_ready (rs := [10]) (by kernel_rfl) (by simp) (AllReadyH.cons (by simp only [List.getElem?_toArray, List.getElem?_cons_succ, List.getElem?_cons_zero]; rfl) (fun K hK => ?_) AllReadyH.nil)
          go_simp; refine (refseens_any a3 a4 c3 c4 (underN x.wher x.wher.length ⟨yk, yi⟩) (underN x.wher x.wher.length ⟨yk, yi⟩) _ (sns_row os3.out) (sns_row os2.out.row)).mono ?_; rintro e w9 ⟨rfl, hb9⟩; rw [decide_eq_true (rfl : (underN x.wher x.wher.length ⟨yk, yi⟩) = (underN x.wher x.wher.length ⟨yk, yi⟩))]; try go_wp2_with fail
          refine hK.out _ _ (by (first | (with_reducible exact KS9.out _ (bdrew1 (Below.refl _ _))) | (with_reducible exact KS9.out _ (below_call hHeld.1 hHeld.1.size hb9)) | (with_reducible exact hHeld))) (fun hHeld => ?_)
          clear hK K
          try simp only [Act.put, List.setIfInBounds_toArray, List.set_cons_zero, List.set_cons_succ]
          first
            | (refine wpAnyH_take (i := 11) (v := undef) (by simp only [List.getElem?_toArray, List.getElem?_cons_succ, List.getElem?_cons_zero]; rfl) (by kernel_rfl) (by kernel_rfl) (by kernel_rfl) (fun _ _ _ h => h) (Or.inr ⟨by rfl, rfl⟩) (by assumption) ?_; try simp only [Act.put, List.setIfInBounds_toArray, List.set_cons_zero, List.set_cons_succ])
            | (refine wpAnyH_take (i := 11) (v := ?_) (by simp only [List.getElem?_toArray, List.getElem?_cons_succ, List.getElem?_cons_zero]; rfl) (by kernel_rfl) (by kernel_rfl) (by kernel_rfl) (fun _ _ _ h => h) (Or.inl ⟨by rfl, ?_⟩) (by assumption) ?_
               rotate_left
               · (intro ww hSw; (try dsimp only at hSw); go_simp; (try with_reducible rfl))
               try simp only [Act.put, List.setIfInBounds_toArray, List.set_cons_zero, List.set_cons_succ])
            | (refine wpAnyH_ready (rs := [11]) (by kernel_rfl) (by simp) (AllReadyH.cons (by simp only [List.getElem?_toArray, List.getElem?_cons_succ, List.getElem?_cons_zero]; rfl) (fun K hK => ?_) AllReadyH.nil)
               go_simp
               first
                 | (fail)
               try go_wp2_with fail
               refine hK.out _ _ (by (first | (with_reducible exact KS9.out _ (bdrew1 (Below.refl _ _))) | (with_reducible exact KS9.out _ (below_call hHeld.1 hHeld.1.size hb9)) | (with_reducible exact hHeld))) (fun hHeld => ?_)
               clear hK K
               try simp only [Act.put, List.setIfInBounds_toArray, List.set_cons_zero, List.set_cons_succ])
          first
            | (refine wpAnyH_take (i := 12) (v := undef) (by simp only [List.getElem?_toArray, List.getElem?_cons_succ, List.getElem?_cons_zero]; rfl) (by kernel_rfl) (by kernel_rfl) (by kernel_rfl) (fun _ _ _ h => h) (Or.inr ⟨by rfl, rfl⟩) (by assumption) ?_; try simp only [Act.put, List.setIfInBounds_toArray, List.set_cons_zero, List.set_cons_succ])
            | (refine wpAnyH_take (i := 12) (v := ?_) (by simp only [List.getElem?_toArray, List.getElem?_cons_succ, List.getElem?_cons_zero]; rfl) (by kernel_rfl) (by kernel_rfl) (by kernel_rfl) (fun _ _ _ h => h) (Or.inl ⟨by rfl, ?_⟩) (by assumption) ?_
               rotate_left
               · (intro ww hSw; (try dsimp only at hSw); go_simp; (try with_reducible rfl))
               try simp only [Act.put, List.setIfInBounds_toArray, List.set_cons_zero, List.set_cons_succ])
            | (refine wpAnyH_ready (rs := [12]) (by kernel_rfl) (by simp) (AllReadyH.cons (by simp only [List.getElem?_toArray, List.getElem?_cons_succ, List.getElem?_cons_zero]; rfl) (fun K hK => ?_) AllReadyH.nil)
               go_simp
               first
                 | (fail)
               try go_wp2_with fail
               refine hK.out _ _ (by (first | (with_reducible exact KS9.out _ (bdrew1 (Below.refl _ _))) | (with_reducible exact KS9.out _ (below_call hHeld.1 hHeld.1.size hb9)) | (with_reducible exact hHeld))) (fun hHeld => ?_)
               clear hK K
               try simp only [Act.put, List.setIfInBounds_toArray, List.set_cons_zero, List.set_cons_succ])
          refine wpAnyH_done (by kernel_rfl) ?_ _
          refine NoPanic.normal ?_
          have HE := Lib.hid (below_call BB3.out BB3.out.size hHeld.1)
          clear hHeld
          go_wp2_with fail
          go_ret
          exact ⟨rfl, below_call HB0.out HB0.out.size HE.out⟩
theorem walk_treeKeeps (x : Wd) (p : Wp) (y : Pl) (w : World) (h : WorldAt w p x) : Calls Try.prog 6 #[.agg #[.slice p.d.ex x.d.exits.length p.d.exc, .slice p.d.pl x.d.players.length p.d.plc, .slice p.d.co x.d.coins.length p.d.coc, .slice p.d.it x.d.items.length p.d.itc, .slice p.d.bo x.d.boxes.length p.d.boc, .int .i64 x.d.room, .int .i64 x.d.player, .int .i64 x.d.box, .slice p.at_ x.at_.length p.atc, .slice p.co x.coins.length p.coc, .slice p.wh x.wher.length p.whc], .agg #[.int .i64 y.kind, .int .i64 y.id]] w fun e w' => e = .returned (.bool true) ∧ Below w.heap.size w w' := by
  obtain ⟨yk, yi⟩ := y
  cases hf : fitsB x
  · exact treeKeeps_no x p yk yi w h hf
  cases his : isPl x ⟨yk, yi⟩
  · exact treeKeeps_not x p yk yi w h hf his
  cases k2 : (yk == 2)
  · exact treeKeeps_go x p yk yi w h hf his k2
  · exact treeKeeps_box x p yk yi w h hf his k2
set_option maxRecDepth 100000 in
theorem lifted_treeKeeps (os : Os) (started : os.Started) (H : Type) (enc : TypeId × Value → H) :
    ReturnsInHanded {} Try.checked os 6 .any (Rows.treeKeepsSpec.pre6 enc Try.prog Try.f6 Rows.treeKeepsRow.domain false) (Rows.treeKeepsSpec.post enc Try.prog Try.f6 false true false false) := by
  refine returnsInHanded_of_change (C := Try.checked) (by kernel_rfl) started (by kernel_rfl) Try.func6
    (ChangeSpec.witness6 (enc := enc) (C := Try.checked) false ⟨#[], #[.agg #[.slice none 0 0, .slice none 0 0, .slice none 0 0, .slice none 0 0, .slice none 0 0, .int .i64 0, .int .i64 0, .int .i64 0, .slice none 0 0, .slice none 0 0, .slice none 0 0], .agg #[.int .i64 0, .int .i64 0]], []⟩ 8 (by kernel_rfl) (by kernel_rfl) (by kernel_rfl) (by kernel_rfl)) ?_
  intro W base args ds gs before hval0 hW hcnd _
  have hval : ∀ (j : Nat) t v, Try.f6.params[j]? = some t → args[j]? = some v → Value.okWide Try.prog W .any base t v := hval0
  have hW' := hW
  obtain ⟨p, q, hA0, hV, rfl, hfz, hnd⟩ := hW
  have hA : DataW.TrodAll enc Try.prog W 0 (fun _ => true) true Try.f6.params.toList args.toList ds p := hA0
  rw [Try.params6] at hA hval
  obtain ⟨v0, vs0, d0, ds0, p0, q0, hargs, rfl, rfl, h0, r0⟩ := trodAll_cons hA
  obtain ⟨v1, vs1, d1, ds1, p1, q1, rfl, rfl, rfl, h1, r1⟩ := trodAll_cons r0
  obtain ⟨rfl, rfl, rfl⟩ := trodAll_nil r1
  obtain rfl : args = #[v0, v1] := by cases args; simp_all
  obtain ⟨rfl, rfl⟩ := trodVars_none hV
  obtain ⟨wx0, wp0, rfl, m0⟩ := read_world (hval 0 29 v0 rfl rfl) h0
  obtain ⟨wx1, rfl⟩ := read_place (hval 1 31 v1 rfl rfl) h1
  clear hA0 hval0
  simp only [List.append_nil] at hW'
  refine (walk_treeKeeps wx0 wp0 wx1 W m0).mono fun e W' ⟨he, hg⟩ => ?_
  subst he
  exact ⟨_, rfl, law_post (by kernel_rfl) rfl (by rw [Try.params6]; decide +kernel) rfl rfl Try.underlying4 hW' hg⟩

/-- ████ THE STATEMENT ████ -/
theorem proved_treeKeeps : Rows.TreeKeepsSaid :=
  OpenClaim.holds_of_wide 6 Try.f6 rfl rfl rfl rfl rfl rfl rfl ⟨rfl, rfl, rfl, rfl, rfl⟩ rfl rfl rfl rfl rfl (by kernel_rfl) Try.func6 (by kernel_rfl)
    (of_decide_eq_true (by kernel_rfl)) (by unfold Func.isWrapper; first | (rw [if_pos (by decide +kernel)]; kernel_rfl) | (rw [if_neg (by decide +kernel)]; exact ⟨rfl, rfl⟩))
    (fun os started H enc _ => lifted_treeKeeps os started H enc)
#print axioms proved_treeKeeps
end Go.Proofs.Ytameelaiigljjaa
