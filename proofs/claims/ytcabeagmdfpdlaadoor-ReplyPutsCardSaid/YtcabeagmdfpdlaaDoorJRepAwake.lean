import Derived.Test.YtcabeagmdfpdlaaDoorRows
import Derived.Test.YtcabeagmdfpdlaaDoorKit
import Derived.Test.YtcabeagmdfpdlaaDoorStrs
import Derived.Test.YtcabeagmdfpdlaaDoorJTab
import Derived.Test.YtcabeagmdfpdlaaDoorJBlk
import Derived.Test.YtcabeagmdfpdlaaDoorJMath
import Derived.Test.YtcabeagmdfpdlaaDoorJNum
import Derived.Test.YtcabeagmdfpdlaaDoorJTokJoin
import Derived.Test.YtcabeagmdfpdlaaDoorJCut
import Derived.Test.YtcabeagmdfpdlaaDoorJTokCut
import Derived.Test.YtcabeagmdfpdlaaDoorJGrown
import Derived.Test.YtcabeagmdfpdlaaDoorJCmdA
import Derived.Test.YtcabeagmdfpdlaaDoorJCmdNames1
import Derived.Test.YtcabeagmdfpdlaaDoorJRepMath
import Derived.Test.YtcabeagmdfpdlaaDoorJRepItems
import Derived.Test.YtcabeagmdfpdlaaDoorJRepA
import Derived.Test.YtcabeagmdfpdlaaDoorJRepSame
import Derived.Test.YtcabeagmdfpdlaaDoorJRepWords
import Derived.Test.YtcabeagmdfpdlaaDoorJRepPut
import Derived.Test.YtcabeagmdfpdlaaDoorJRepOwn
import Derived.Test.YtcabeagmdfpdlaaDoorJRepMay
import Derived.Test.YtcabeagmdfpdlaaDoorJRepPut3
import Derived.Test.YtcabeagmdfpdlaaDoorJRepRead1
import Derived.Test.YtcabeagmdfpdlaaDoorJRepGet
import Derived.WalkKit
import Derived.ProofKit
import Derived.OpenShut
import Derived.IntWalk
/- reply: awake: the answers that the document fixes. -/
namespace Go.Proofs.YtcabeagmdfpdlaaDoor
open Go.ChangeShapes Go.WideShapes Go.ChangeAt Go.RowKit
set_option linter.unusedVariables false
open Go.RowKit Go
def lookR : Rp := ⟨0, 9, 1, [0, 2], [⟨5, 0, 1⟩, ⟨6, 2, 5⟩], 0⟩
def lookT : List UInt8 := [108, 111, 111, 107, 32, 49, 32, 112, 108, 97, 121, 101, 114, 115, 32, 48, 32, 50, 32, 105, 116, 101, 109, 115, 32, 53, 32, 105, 110, 32, 49, 32, 54, 32, 98, 111, 120, 32, 53]
theorem look_may : rmayB lookR = true := by decide
theorem dec_one : ∀ n, n < 10 → Lib.decDigits n = [UInt8.ofNat (48 + n)] := fun n hn => by rw [Lib.decDigits, dif_pos hn]
theorem look_text : textR lookR = lookT := by
  have e : rwords lookR = [[108, 111, 111, 107], [49], [112, 108, 97, 121, 101, 114, 115], [48], [50], [105, 116, 101, 109, 115], [53], [105, 110], [49], [54], [98, 111, 120], [53]] := by
    simp [rwords, lookR, itemsW, seenW, nw, dec_one, sPlayers, sItems, placeOf, placeNames, nameOf, kindNames]
  unfold textR; rw [e]; decide
theorem full_text : rputOut ⟨9, 0, 0, [], [], 0⟩ = .tuple #[.string ⟨#[101, 114, 114, 111, 114, 32, 57]⟩, .int .i64 0] := by
  have e : rwords ⟨9, 0, 0, [], [], 0⟩ = [[101, 114, 114, 111, 114], [57]] := by simp [rwords, nw, dec_one, sError]
  have h : rmayB ⟨9, 0, 0, [], [], 0⟩ = true := by decide
  simp only [rputOut, rputS, rputN, h, if_true, textR, e, str]
  rfl
theorem look_put : rputOut lookR = .tuple #[.string ⟨#[108, 111, 111, 107, 32, 49, 32, 112, 108, 97, 121, 101, 114, 115, 32, 48, 32, 50, 32, 105, 116, 101, 109, 115, 32, 53, 32, 105, 110, 32, 49, 32, 54, 32, 98, 111, 120, 32, 53]⟩, .int .i64 0] := by
  simp only [rputOut, rputS, rputN, look_may, if_true, look_text, str, lookT]
theorem get_put : rputOut ⟨0, 3, 1, [], [], 0⟩ = .tuple #[.string ⟨#[]⟩, .int .i64 2] := by
  have h : rmayB ⟨0, 3, 1, [], [], 0⟩ = false := by decide
  simp only [rputOut, rputS, rputN, h, str]; rfl
theorem words_end (l : List UInt8) : words (l ++ [32]) = words l := by
  rw [show [32] = 32 :: ([] : List UInt8) from rfl, words_both, words_nil, List.append_nil]
/-- A text with a gap behind is none's. -/
theorem got_space {r : Rp} (h : rmayB r = true) : GotR (textR r ++ [32]) zeroR 2 := by
  refine .inr ⟨rfl, rfl, fun q hq he => ?_⟩
  have h1 := congrArg words he
  rw [words_end, words_textR (fits_of h), words_textR (fits_of hq)] at h1
  have h2 := congrArg readR h1
  rw [read_rwords (fits_of h), read_rwords (fits_of hq)] at h2
  subst h2
  have := congrArg List.length he
  simp at this
theorem rget_lit {l : List UInt8} {r : Rp} {n : Int} (h : GotR l r n) (w : World) (hl : l.length ≤ 500000) (ht : RTabs w) :
    Calls Tryd.prog 16 #[.string ⟨l.toArray⟩] w fun e w' => ∃ pa pc ia ic, e = .returned (.tuple #[.agg #[.int .i64 r.err, .int .i64 r.kind, .int .i64 r.room, .slice pa r.players.length pc, .slice ia r.items.length ic, .int .i64 r.coins], .int .i64 n]) ∧ IntsAt w' pa r.players ∧ SnsAt w' ia r.items ∧ Below w.heap.size w w' := by
  refine (rget_any ⟨l.toArray⟩ w (by show l.toArray.size ≤ _; simpa using hl) ht).mono ?_
  rintro e w' ⟨q, pa, pc, ia, ic, m, rfl, hg, h1, h2, h3⟩
  obtain ⟨rfl, rfl⟩ := h.same (q := q) (m := m) (by simpa using hg)
  exact ⟨pa, pc, ia, ic, rfl, h1, h2, h3⟩
/-- A block of an answer, with its lists. -/
def HoldR (W : World) (g : Nat) (cs : Array Value) (r : Rp) (pa ia : Option Addr) : Prop := Blk W g 26 cs ∧ IntsAt W pa r.players ∧ SnsAt W ia r.items
theorem HoldR.new {W : World} (cs : Array Value) {r : Rp} {pa ia : Option Addr} (h1 : IntsAt W pa r.players) (h2 : SnsAt W ia r.items) : HoldR (W.alloc (.cells cs 26)) W.heap.size cs r pa ia :=
  ⟨Blk.new _ _ _, h1.below ((Below.refl _ _).alloc (Nat.le_refl _) _) (Nat.le_refl _), h2.below ((Below.refl _ _).alloc (Nat.le_refl _) _) (Nat.le_refl _)⟩
theorem HoldR.newn {W : World} {g : Nat} {cs : Array Value} {r : Rp} {pa ia : Option Addr} (hg : W.heap.size = g) (h1 : IntsAt W pa r.players) (h2 : SnsAt W ia r.items) : HoldR (W.alloc (.cells cs 26)) g cs r pa ia := by
  subst hg; exact HoldR.new cs h1 h2
theorem HoldR.call {W W' : World} {g : Nat} {cs : Array Value} {r : Rp} {pa ia : Option Addr} (h : HoldR W g cs r pa ia) (hb : Below W.heap.size W W') : HoldR W' g cs r pa ia :=
  ⟨h.1.call hb, h.2.1.below hb (Nat.le_refl _), h.2.2.below hb (Nat.le_refl _)⟩
theorem HoldR.alloc {W : World} {g : Nat} {cs : Array Value} {r : Rp} {pa ia : Option Addr} (h : HoldR W g cs r pa ia) (o : Obj) : HoldR (W.alloc o) g cs r pa ia := h.call ((Below.refl _ _).alloc (Nat.le_refl _) _)
theorem seens_two (a b c d e f : Int) (w : World) : SnsAt (w.alloc (.cells #[.int .i64 a, .int .i64 b, .int .i64 c, .int .i64 d, .int .i64 e, .int .i64 f] 46)) (some ⟨w.heap.size, 0, none⟩) [⟨a, b, c⟩, ⟨d, e, f⟩] := by
  refine ⟨by simp [maxLen], .inr ⟨w.heap.size, 0, rfl, by simp, fun i hi => ?_⟩⟩
  rw [World.cell?_alloc_at _ _ _ _ rfl, World.cell?_alloc_at _ _ _ _ rfl, World.cell?_alloc_at _ _ _ _ rfl]
  match i, hi with
  | 0, _ => exact ⟨rfl, rfl, rfl⟩
  | 1, _ => exact ⟨rfl, rfl, rfl⟩
def lookC (w : World) : Array Value := #[.int .i64 0, .int .i64 9, .int .i64 1, .slice (some ⟨w.heap.size, 0, none⟩) 2 2, .slice (some ⟨w.heap.size + 1, 0, none⟩) 2 2, .int .i64 0]
def LookAt (w W : World) : Prop := Below w.heap.size w W ∧ HoldR W (w.heap.size + 2) (lookC w) lookR (some ⟨w.heap.size, 0, none⟩) (some ⟨w.heap.size + 1, 0, none⟩)
theorem LookAt.call {w W W' : World} (h : LookAt w W) (hb : Below W.heap.size W W') : LookAt w W' := ⟨bl h.1 hb, h.2.call hb⟩
theorem LookAt.alloc {w W : World} (h : LookAt w W) (o : Obj) : LookAt w (W.alloc o) := h.call ((Below.refl _ _).alloc (Nat.le_refl _) _)
theorem LookAt.cells {w W : World} (h : LookAt w W) : ∀ i, W.cell? ⟨w.heap.size + 2, i, none⟩ = (#[.int .i64 0, .int .i64 9, .int .i64 1, .slice (some ⟨w.heap.size, 0, none⟩) 2 2, .slice (some ⟨w.heap.size + 1, 0, none⟩) 2 2, .int .i64 0][i]? : Option Value) := h.2.1.cell
theorem LookAt.lt {w W : World} (h : LookAt w W) : w.heap.size + 2 < W.heap.size := h.2.1.lt
theorem LookAt.start (w : World) : LookAt w (((w.alloc (.cells #[.int .i64 0, .int .i64 2] 3)).alloc (.cells #[.int .i64 5, .int .i64 0, .int .i64 1, .int .i64 6, .int .i64 2, .int .i64 5] 46)).alloc (.cells #[.int .i64 0, .int .i64 9, .int .i64 1, .slice (some ⟨w.heap.size, 0, none⟩) 2 2, .slice (some ⟨w.heap.size + 1, 0, none⟩) 2 2, .int .i64 0] 26)) := by
  have b0 : Below w.heap.size w (w.alloc (.cells #[.int .i64 0, .int .i64 2] 3)) := (Below.refl _ _).alloc (Nat.le_refl _) _
  have b1 := b0.alloc b0.size (.cells #[.int .i64 5, .int .i64 0, .int .i64 1, .int .i64 6, .int .i64 2, .int .i64 5] 46)
  have hs := seens_two 5 0 1 6 2 5 (w.alloc (.cells #[.int .i64 0, .int .i64 2] 3))
  rw [show (w.alloc (.cells #[.int .i64 0, .int .i64 2] 3)).heap.size = w.heap.size + 1 by simp] at hs
  exact ⟨b1.alloc b1.size _, HoldR.newn (by simp) ((ints_pair 0 2 w).alloc _) hs⟩
theorem space_got : GotR [108, 111, 111, 107, 32, 49, 32, 112, 108, 97, 121, 101, 114, 115, 32, 48, 32, 50, 32, 105, 116, 101, 109, 115, 32, 53, 32, 105, 110, 32, 49, 32, 54, 32, 98, 111, 120, 32, 53, 32] zeroR 2 := by
  have h := got_space look_may
  rw [look_text] at h
  exact h
theorem rself (r : Rp) : rsameB r r = true := rsameB_refl r
set_option maxRecDepth 100000 in
set_option maxHeartbeats 2000000 in
theorem rawake_any (w : World) (ht : RTabs w) : Calls Tryd.prog 8 #[] w fun e w' => e = .returned (.bool true) ∧ Below w.heap.size w w' := by
  have HT := Lib.hid ht
  clear ht
  have P0 := Lib.hid (LookAt.start w)
  have hA := P0.out.cells
  go_enter Tryd.func8, Tryd.ntmps8
  go_wp2_with fail
  refine (rput_any ⟨0, 9, 1, [0, 2], [⟨5, 0, 1⟩, ⟨6, 2, 5⟩], 0⟩ (some ⟨w.heap.size, 0, none⟩) (some ⟨w.heap.size + 1, 0, none⟩) 2 2 _ P0.out.2.2.1 P0.out.2.2.2 (HT.out.call P0.out.1)).mono ?_
  rintro e w1 ⟨rfl, b1⟩
  rw [show rputOut ⟨0, 9, 1, [0, 2], [⟨5, 0, 1⟩, ⟨6, 2, 5⟩], 0⟩ = _ from look_put]
  have P1 := Lib.hid (P0.out.call b1)
  clear b1 hA P0
  go_wp2_with fail
  refine (rget_lit (.inl ⟨look_may, look_text, rfl⟩) _ (by decide) (HT.out.call P1.out.1)).mono ?_
  rintro e w2 ⟨pa, pc, ia, ic, rfl, i1, i2, b2⟩
  have P2 := Lib.hid ((P1.out.call b2).alloc (.cells #[.int .i64 0, .int .i64 9, .int .i64 1, .slice pa 2 pc, .slice ia 2 ic, .int .i64 0] 26))
  have D2 := Lib.hid (HoldR.new (r := lookR) #[.int .i64 0, .int .i64 9, .int .i64 1, .slice pa 2 pc, .slice ia 2 ic, .int .i64 0] i1 i2)
  clear b2 i1 i2 P1
  unfold lookR
  go_wp2_with fail
  refine (rget_lit space_got _ (by decide) (HT.out.call P2.out.1)).mono ?_
  rintro e w3 ⟨pb, qc, ib, jc, rfl, i1, i2, b3⟩
  have P3 := Lib.hid ((P2.out.call b3).alloc (.cells #[.int .i64 0, .int .i64 0, .int .i64 0, .slice pb 0 qc, .slice ib 0 jc, .int .i64 0] 26))
  have D3 := Lib.hid ((D2.out.call b3).alloc (.cells #[.int .i64 0, .int .i64 0, .int .i64 0, .slice pb 0 qc, .slice ib 0 jc, .int .i64 0] 26))
  clear b3 i1 i2 P2 D2
  unfold zeroR
  go_wp2_with fail
  refine (rput_any ⟨0, 3, 1, [], [], 0⟩ none none 0 0 _ (IntsAt.nil _ _) (SnsAt.nil _ _) (HT.out.call P3.out.1)).mono ?_
  rintro e w4 ⟨rfl, b4⟩
  rw [get_put]
  have P4 := Lib.hid (P3.out.call b4)
  have D4 := Lib.hid (D3.out.call b4)
  clear b4 P3 D3
  go_wp2_with fail
  refine (rput_any ⟨9, 0, 0, [], [], 0⟩ none none 0 0 _ (IntsAt.nil _ _) (SnsAt.nil _ _) (HT.out.call P4.out.1)).mono ?_
  rintro e w5 ⟨rfl, b5⟩
  rw [full_text]
  have P5 := Lib.hid (P4.out.call b5)
  have D5 := Lib.hid (D4.out.call b5)
  clear b5 P4 D4
  have c1 := P5.out.cells
  have c2 := D5.out.1.cell
  go_wp2_with fail
  refine (rsame_any ⟨0, 9, 1, [0, 2], [⟨5, 0, 1⟩, ⟨6, 2, 5⟩], 0⟩ ⟨0, 9, 1, [0, 2], [⟨5, 0, 1⟩, ⟨6, 2, 5⟩], 0⟩ pa ia (some ⟨w.heap.size, 0, none⟩) (some ⟨w.heap.size + 1, 0, none⟩) pc ic 2 2 _ D5.out.2.1 D5.out.2.2 P5.out.2.2.1 P5.out.2.2.2).mono ?_
  rintro e w6 ⟨rfl, b6⟩
  rw [rself]
  have P6 := Lib.hid (P5.out.call b6)
  clear b6 P5 D5 c1 c2
  have c1 := P6.out.cells
  go_wp2_with fail
  refine (rmay_any ⟨0, 9, 1, [0, 2], [⟨5, 0, 1⟩, ⟨6, 2, 5⟩], 0⟩ (some ⟨w.heap.size, 0, none⟩) (some ⟨w.heap.size + 1, 0, none⟩) 2 2 _ P6.out.2.2.1 P6.out.2.2.2).mono ?_
  rintro e w7 ⟨rfl, b7⟩
  rw [show rmayB ⟨0, 9, 1, [0, 2], [⟨5, 0, 1⟩, ⟨6, 2, 5⟩], 0⟩ = true from look_may]
  have P7 := Lib.hid (P6.out.call b7)
  clear b7 P6 c1
  have c1 := P7.out.cells
  go_wp2_with fail
  refine (rmay_any ⟨0, 0, 0, [], [], 0⟩ none none 0 0 _ (IntsAt.nil _ _) (SnsAt.nil _ _)).mono ?_
  rintro e w8 ⟨rfl, b8⟩
  rw [show rmayB ⟨0, 0, 0, [], [], 0⟩ = false by decide]
  have P8 := Lib.hid (P7.out.call b8)
  clear b8 P7 c1
  have c1 := P8.out.cells
  go_wp2_with fail
  refine (rsame_any ⟨0, 9, 1, [0, 2], [⟨5, 0, 1⟩, ⟨6, 2, 5⟩], 0⟩ ⟨0, 0, 0, [], [], 0⟩ (some ⟨w.heap.size, 0, none⟩) (some ⟨w.heap.size + 1, 0, none⟩) none none 2 2 0 0 _ P8.out.2.2.1 P8.out.2.2.2 (IntsAt.nil _ _) (SnsAt.nil _ _)).mono ?_
  rintro e w9 ⟨rfl, b9⟩
  rw [show rsameB ⟨0, 9, 1, [0, 2], [⟨5, 0, 1⟩, ⟨6, 2, 5⟩], 0⟩ ⟨0, 0, 0, [], [], 0⟩ = false by decide]
  have P9 := Lib.hid (P8.out.call b9)
  clear b9 P8 c1
  go_wp2_with fail
  go_ret
  exact ⟨rfl, P9.out.1⟩
end Go.Proofs.YtcabeagmdfpdlaaDoor
