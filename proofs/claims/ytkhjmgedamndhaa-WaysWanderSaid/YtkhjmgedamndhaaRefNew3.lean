/- The document's own New: the walk. -/
import Derived.Test.YtkhjmgedamndhaaRows
import Derived.Test.YtkhjmgedamndhaaKit
import Derived.Test.YtkhjmgedamndhaaStrs
import Derived.Test.YtkhjmgedamndhaaCoin
import Derived.Test.YtkhjmgedamndhaaBlk
import Derived.Test.YtkhjmgedamndhaaHolds
import Derived.Test.YtkhjmgedamndhaaWorldMath
import Derived.Test.YtkhjmgedamndhaaWorldAt
import Derived.Test.YtkhjmgedamndhaaDescFloors
import Derived.Test.YtkhjmgedamndhaaDescFit2
import Derived.Test.YtkhjmgedamndhaaDescMay
import Derived.Test.YtkhjmgedamndhaaDescRight
import Derived.Test.YtkhjmgedamndhaaDescClone
import Derived.Test.YtkhjmgedamndhaaDescCopy
import Derived.Test.YtkhjmgedamndhaaDescCopy2
import Derived.Test.YtkhjmgedamndhaaDescStore
import Derived.Test.YtkhjmgedamndhaaRefNew
import Derived.Test.YtkhjmgedamndhaaRefNew2
import Derived.OwnWalk
import Derived.Maps.AppendAt
import Derived.Laws.OwnMore
import Derived.Deep.QuietTactic
import Derived.BigQuiet
import Derived.Deep.RegionHeld3
import Derived.WalkKit
import Derived.ProofKit
import Derived.OpenShut
import Derived.IntWalk
namespace Go.Proofs.Ytkhjmgedamndhaa
open Go.ChangeShapes Go.WideShapes Go.ChangeAt Go.RowKit
set_option linter.unusedVariables false
open Go.RowKit
/-- A new world: its description's lists are those that were handed in; where its items are lies behind all else. -/
def WhNew (n : Nat) (W : World) (p : Dp) (q : Wp) (x : Wd) : Prop :=
  q.d = p ∧ ∃ m, n ≤ m ∧ OwnR 1 3 inC n W q.at_ x.at_ ∧ (∀ r, q.at_ = some r → r.block < m) ∧ OwnR 1 3 inC n W q.co x.coins ∧ (∀ r, q.co = some r → r.block < m) ∧ OwnR 2 57 plC m W q.wh x.wher
theorem WhNew.world {w W : World} {p : Dp} {q : Wp} {x : Wd} (h : WhNew w.heap.size W p q x) (hd : DescAt w p x.d) (hb : Below w.heap.size w W) : WorldAt W q x := by
  obtain ⟨rfl, m, _, h1, _, h2, _, h3⟩ := h
  exact ⟨hd.below hb (Nat.le_refl _), ints_row.2 h1.row, ints_row.2 h2.row, h3.row⟩
theorem WhNew.call {n : Nat} {W W' : World} {p : Dp} {q : Wp} {x : Wd} (h : WhNew n W p q x) (hb : Below W.heap.size W W') : WhNew n W' p q x := by
  obtain ⟨h0, m, hm, h1, l1, h2, l2, h3⟩ := h
  exact ⟨h0, m, hm, h1.call hb, l1, h2.call hb, l2, h3.call hb⟩
/-- Item k's place is written, whole. -/
theorem WhNew.putPlace {n : Nat} {W : World} {p : Dp} {q : Wp} {x : Wd} (h : WhNew n W p q x) {k : Nat} (hk : k < x.wher.length) : ∃ b, q.wh = some ⟨b, 0, none⟩ ∧ n ≤ b ∧ b < W.heap.size ∧ (W.cell? ⟨b, k * 2, none⟩ = some (.int .i64 x.wher[k].kind) ∧ W.cell? ⟨b, k * 2 + 1, none⟩ = some (.int .i64 x.wher[k].id)) ∧ (∀ r, W.frozen? ⟨b, r, none⟩ = false) ∧
    ∀ y : Pl, WhNew n ((W.setCell ⟨b, k * 2, none⟩ (.int .i64 y.kind)).setCell ⟨b, k * 2 + 1, none⟩ (.int .i64 y.id)) p q ⟨x.d, x.at_, x.coins, x.wher.set k y⟩ := by
  obtain ⟨h0, m, hm, h1, l1, h2, l2, h3⟩ := h
  obtain ⟨b, hb, hn, hl, hc, hf, hput⟩ := h3.put hk (j := 0) (by omega)
  refine ⟨b, hb, by omega, hl, ⟨by simpa [plC] using hc 0 (by omega), by simpa [plC] using hc 1 (by omega)⟩, hf, fun y => ⟨h0, m, hm, (h1.far (fun r hr => by have := l1 r hr; omega) _ _).far (fun r hr => by have := l1 r hr; omega) _ _, l1, (h2.far (fun r hr => by have := l2 r hr; omega) _ _).far (fun r hr => by have := l2 r hr; omega) _ _, l2, ?_⟩⟩
  have h4 := hput (.int .i64 y.kind) ⟨y.kind, x.wher[k].id⟩ rfl (fun r hr => by
    obtain rfl | rfl : r = 0 ∨ r = 1 := by omega
    · rfl
    · rfl)
  obtain ⟨b', hb', _, _, _, _, hput'⟩ := h4.put (i := k) (by simpa using hk) (j := 1) (by omega)
  obtain rfl : b' = b := by simpa using hb'.symm
  have h5 := hput' (.int .i64 y.id) y rfl (fun r hr => by
    obtain rfl | rfl : r = 0 ∨ r = 1 := by omega
    · simp [plC]
    · rfl)
  rw [hb]
  simpa using h5
theorem refnew_fin {d : Ds} {p : Dp} {w W : World} {a1 a2 a3 : Option Addr} {c1 c2 c3 m : Nat} (hd : DescAt w p d) (hb : Below w.heap.size w W) (hm : w.heap.size ≤ m) (h1 : OwnR 1 3 inC w.heap.size W a1 d.players) (l1 : ∀ r, a1 = some r → r.block < m)
    (h2 : OwnR 1 3 inC w.heap.size W a2 d.coins) (l2 : ∀ r, a2 = some r → r.block < m) (h3 : OwnR 2 57 plC m W a3 (floorsL d.items)) :
    ∃ (x : Wd) (q : Wp), x = newW d ∧ Ending.returned (.agg #[.slice p.ex d.exits.length p.exc, .slice p.pl d.players.length p.plc, .slice p.co d.coins.length p.coc, .slice p.it d.items.length p.itc, .slice p.bo d.boxes.length p.boc, .int .i64 d.room, .int .i64 d.player, .int .i64 d.box, .slice a1 d.players.length c1, .slice a2 d.coins.length c2, .slice a3 d.items.length c3]) = .returned (.agg #[.slice q.d.ex x.d.exits.length q.d.exc, .slice q.d.pl x.d.players.length q.d.plc, .slice q.d.co x.d.coins.length q.d.coc, .slice q.d.it x.d.items.length q.d.itc, .slice q.d.bo x.d.boxes.length q.d.boc, .int .i64 x.d.room, .int .i64 x.d.player, .int .i64 x.d.box, .slice q.at_ x.at_.length q.atc, .slice q.co x.coins.length q.coc, .slice q.wh x.wher.length q.whc]) ∧ WorldAt W q x ∧ Below w.heap.size w W ∧ WhNew w.heap.size W p q x := by
  have hn : WhNew w.heap.size W p ⟨p, a1, c1, a2, c2, a3, c3⟩ (newW d) := ⟨rfl, m, hm, h1, l1, h2, l2, h3⟩
  exact ⟨newW d, ⟨p, a1, c1, a2, c2, a3, c3⟩, rfl, by simp [newW, floorsL], hn.world hd hb, hb, hn⟩
set_option maxRecDepth 100000 in
set_option maxHeartbeats 2000000 in
theorem refnew_go (d : Ds) (px pp pc pi pb : Option Addr) (pxc ppc pcc pic pbc : Nat) (w : World) (h : DescAt w ⟨px, pxc, pp, ppc, pc, pcc, pi, pic, pb, pbc⟩ d) (hm : mayD d = true) : Calls Try.prog 18 #[.agg #[.slice px d.exits.length pxc, .slice pp d.players.length ppc, .slice pc d.coins.length pcc, .slice pi d.items.length pic, .slice pb d.boxes.length pbc, .int .i64 d.room, .int .i64 d.player, .int .i64 d.box]] w fun e w' => ∃ (x : Wd) (q : Wp), x = newW d ∧ e = .returned (.agg #[.slice q.d.ex x.d.exits.length q.d.exc, .slice q.d.pl x.d.players.length q.d.plc, .slice q.d.co x.d.coins.length q.d.coc, .slice q.d.it x.d.items.length q.d.itc, .slice q.d.bo x.d.boxes.length q.d.boc, .int .i64 x.d.room, .int .i64 x.d.player, .int .i64 x.d.box, .slice q.at_ x.at_.length q.atc, .slice q.co x.coins.length q.coc, .slice q.wh x.wher.length q.whc]) ∧ WorldAt w' q x ∧ Below w.heap.size w w' ∧ WhNew w.heap.size w' ⟨px, pxc, pp, ppc, pc, pcc, pi, pic, pb, pbc⟩ q x := by
  have hf := may_few hm
  have H := Lib.hid h
  have hi16 : d.items.length ≤ 16 := by omega
  have b0 : Below w.heap.size w (((w.alloc (.cells #[.slice px d.exits.length pxc, .slice pp d.players.length ppc, .slice pc d.coins.length pcc, .slice pi d.items.length pic, .slice pb d.boxes.length pbc, .int .i64 d.room, .int .i64 d.player, .int .i64 d.box] 26)).alloc (.cells #[.slice none 0 0, .slice none 0 0, .slice none 0 0, .slice none 0 0, .slice none 0 0, .int .i64 0, .int .i64 0, .int .i64 0, .slice none 0 0, .slice none 0 0, .slice none 0 0] 29)).alloc (.cells #[.slice px d.exits.length pxc, .slice pp d.players.length ppc, .slice pc d.coins.length pcc, .slice pi d.items.length pic, .slice pb d.boxes.length pbc, .int .i64 d.room, .int .i64 d.player, .int .i64 d.box, .slice none 0 0, .slice none 0 0, .slice none 0 0] 29)) := (((Below.refl _ _).alloc (Nat.le_refl _) _).alloc (by simp) _).alloc (by simp; omega) _
  have k0 : Blk (((w.alloc (.cells #[.slice px d.exits.length pxc, .slice pp d.players.length ppc, .slice pc d.coins.length pcc, .slice pi d.items.length pic, .slice pb d.boxes.length pbc, .int .i64 d.room, .int .i64 d.player, .int .i64 d.box] 26)).alloc (.cells #[.slice none 0 0, .slice none 0 0, .slice none 0 0, .slice none 0 0, .slice none 0 0, .int .i64 0, .int .i64 0, .int .i64 0, .slice none 0 0, .slice none 0 0, .slice none 0 0] 29)).alloc (.cells #[.slice px d.exits.length pxc, .slice pp d.players.length ppc, .slice pc d.coins.length pcc, .slice pi d.items.length pic, .slice pb d.boxes.length pbc, .int .i64 d.room, .int .i64 d.player, .int .i64 d.box, .slice none 0 0, .slice none 0 0, .slice none 0 0] 29)) w.heap.size 26 #[.slice px d.exits.length pxc, .slice pp d.players.length ppc, .slice pc d.coins.length pcc, .slice pi d.items.length pic, .slice pb d.boxes.length pbc, .int .i64 d.room, .int .i64 d.player, .int .i64 d.box] := ((Blk.new w _ _).alloc _).alloc _
  have z0 : Blk (((w.alloc (.cells #[.slice px d.exits.length pxc, .slice pp d.players.length ppc, .slice pc d.coins.length pcc, .slice pi d.items.length pic, .slice pb d.boxes.length pbc, .int .i64 d.room, .int .i64 d.player, .int .i64 d.box] 26)).alloc (.cells #[.slice none 0 0, .slice none 0 0, .slice none 0 0, .slice none 0 0, .slice none 0 0, .int .i64 0, .int .i64 0, .int .i64 0, .slice none 0 0, .slice none 0 0, .slice none 0 0] 29)).alloc (.cells #[.slice px d.exits.length pxc, .slice pp d.players.length ppc, .slice pc d.coins.length pcc, .slice pi d.items.length pic, .slice pb d.boxes.length pbc, .int .i64 d.room, .int .i64 d.player, .int .i64 d.box, .slice none 0 0, .slice none 0 0, .slice none 0 0] 29)) (w.heap.size + 1) 29 #[.slice none 0 0, .slice none 0 0, .slice none 0 0, .slice none 0 0, .slice none 0 0, .int .i64 0, .int .i64 0, .int .i64 0, .slice none 0 0, .slice none 0 0, .slice none 0 0] := (Blk.newn (w.alloc _) _ _ (n := w.heap.size + 1) (by simp)).alloc _
  have r0 : Blk (((w.alloc (.cells #[.slice px d.exits.length pxc, .slice pp d.players.length ppc, .slice pc d.coins.length pcc, .slice pi d.items.length pic, .slice pb d.boxes.length pbc, .int .i64 d.room, .int .i64 d.player, .int .i64 d.box] 26)).alloc (.cells #[.slice none 0 0, .slice none 0 0, .slice none 0 0, .slice none 0 0, .slice none 0 0, .int .i64 0, .int .i64 0, .int .i64 0, .slice none 0 0, .slice none 0 0, .slice none 0 0] 29)).alloc (.cells #[.slice px d.exits.length pxc, .slice pp d.players.length ppc, .slice pc d.coins.length pcc, .slice pi d.items.length pic, .slice pb d.boxes.length pbc, .int .i64 d.room, .int .i64 d.player, .int .i64 d.box, .slice none 0 0, .slice none 0 0, .slice none 0 0] 29)) (w.heap.size + 1 + 1) 29 #[.slice px d.exits.length pxc, .slice pp d.players.length ppc, .slice pc d.coins.length pcc, .slice pi d.items.length pic, .slice pb d.boxes.length pbc, .int .i64 d.room, .int .i64 d.player, .int .i64 d.box, .slice none 0 0, .slice none 0 0, .slice none 0 0] := Blk.newn _ _ _ (by simp)
  have y0 : (((w.alloc (.cells #[.slice px d.exits.length pxc, .slice pp d.players.length ppc, .slice pc d.coins.length pcc, .slice pi d.items.length pic, .slice pb d.boxes.length pbc, .int .i64 d.room, .int .i64 d.player, .int .i64 d.box] 26)).alloc (.cells #[.slice none 0 0, .slice none 0 0, .slice none 0 0, .slice none 0 0, .slice none 0 0, .int .i64 0, .int .i64 0, .int .i64 0, .slice none 0 0, .slice none 0 0, .slice none 0 0] 29)).alloc (.cells #[.slice px d.exits.length pxc, .slice pp d.players.length ppc, .slice pc d.coins.length pcc, .slice pi d.items.length pic, .slice pb d.boxes.length pbc, .int .i64 d.room, .int .i64 d.player, .int .i64 d.box, .slice none 0 0, .slice none 0 0, .slice none 0 0] 29)).heap.size = w.heap.size + 3 := by simp
  generalize hV0 : (((w.alloc (.cells #[.slice px d.exits.length pxc, .slice pp d.players.length ppc, .slice pc d.coins.length pcc, .slice pi d.items.length pic, .slice pb d.boxes.length pbc, .int .i64 d.room, .int .i64 d.player, .int .i64 d.box] 26)).alloc (.cells #[.slice none 0 0, .slice none 0 0, .slice none 0 0, .slice none 0 0, .slice none 0 0, .int .i64 0, .int .i64 0, .int .i64 0, .slice none 0 0, .slice none 0 0, .slice none 0 0] 29)).alloc (.cells #[.slice px d.exits.length pxc, .slice pp d.players.length ppc, .slice pc d.coins.length pcc, .slice pi d.items.length pic, .slice pb d.boxes.length pbc, .int .i64 d.room, .int .i64 d.player, .int .i64 d.box, .slice none 0 0, .slice none 0 0, .slice none 0 0] 29)) = V0 at b0 k0 z0 r0 y0
  obtain ⟨g1, c1, u1, hr1, o1, l1⟩ := append_nilrow 23 3 1 8 (.int .i64 0) inC Try.underlying23 int_info rfl (by decide) (by decide) inC_len inC_one (cap := ppc) (xs := d.players) (W := V0) (ints_row.1 (H.out.below b0 (Nat.le_refl _)).pl) (by omega) (by omega)
  have k1 := k0.call l1
  have z1 := z0.call l1
  have r1 := r0.call l1
  have b1 := b0.trans (l1.mono (by omega))
  have y1 := l1.size
  have rr1 : Blk (u1.setCell ⟨w.heap.size + 1 + 1, 8, none⟩ (.slice (some ⟨g1, 0, none⟩) d.players.length c1)) (w.heap.size + 1 + 1) 29 #[.slice px d.exits.length pxc, .slice pp d.players.length ppc, .slice pc d.coins.length pcc, .slice pi d.items.length pic, .slice pb d.boxes.length pbc, .int .i64 d.room, .int .i64 d.player, .int .i64 d.box, .slice (some ⟨g1, 0, none⟩) d.players.length c1, .slice none 0 0, .slice none 0 0] := r1.set_ 8 _
  have kk1 := k1.far (p := ⟨w.heap.size + 1 + 1, 8, none⟩) (by show w.heap.size ≠ w.heap.size + 1 + 1; omega) (.slice (some ⟨g1, 0, none⟩) d.players.length c1)
  have zz1 := z1.far (p := ⟨w.heap.size + 1 + 1, 8, none⟩) (by show w.heap.size + 1 ≠ w.heap.size + 1 + 1; omega) (.slice (some ⟨g1, 0, none⟩) d.players.length c1)
  have bb1 := b1.setCell (p := ⟨w.heap.size + 1 + 1, 8, none⟩) (by show w.heap.size ≤ w.heap.size + 1 + 1; omega) (.slice (some ⟨g1, 0, none⟩) d.players.length c1)
  have oo1 := (o1.less (m := w.heap.size + 3) (by omega)).set (q := w.heap.size + 1 + 1) (by omega) 8 (.slice (some ⟨g1, 0, none⟩) d.players.length c1)
  have ys1 : (u1.setCell ⟨w.heap.size + 1 + 1, 8, none⟩ (.slice (some ⟨g1, 0, none⟩) d.players.length c1)).heap.size = u1.heap.size := by simp [World.setCell]
  generalize hV1 : u1.setCell ⟨w.heap.size + 1 + 1, 8, none⟩ (.slice (some ⟨g1, 0, none⟩) d.players.length c1) = V1 at rr1 kk1 zz1 bb1 oo1 ys1
  obtain ⟨g2, c2, u2, hr2, o2, l2⟩ := append_nilrow 23 3 1 8 (.int .i64 0) inC Try.underlying23 int_info rfl (by decide) (by decide) inC_len inC_one (cap := pcc) (xs := d.coins) (W := V1) (ints_row.1 (H.out.below bb1 (Nat.le_refl _)).co) (by omega) (by omega)
  have k2 := kk1.call l2
  have z2 := zz1.call l2
  have r2 := rr1.call l2
  have b2 := bb1.trans (l2.mono (by omega))
  have o12 := oo1.call l2
  have y2 := l2.size
  have rr2 : Blk (u2.setCell ⟨w.heap.size + 1 + 1, 9, none⟩ (.slice (some ⟨g2, 0, none⟩) d.coins.length c2)) (w.heap.size + 1 + 1) 29 #[.slice px d.exits.length pxc, .slice pp d.players.length ppc, .slice pc d.coins.length pcc, .slice pi d.items.length pic, .slice pb d.boxes.length pbc, .int .i64 d.room, .int .i64 d.player, .int .i64 d.box, .slice (some ⟨g1, 0, none⟩) d.players.length c1, .slice (some ⟨g2, 0, none⟩) d.coins.length c2, .slice none 0 0] := r2.set_ 9 _
  have kk2 := k2.far (p := ⟨w.heap.size + 1 + 1, 9, none⟩) (by show w.heap.size ≠ w.heap.size + 1 + 1; omega) (.slice (some ⟨g2, 0, none⟩) d.coins.length c2)
  have zz2 := z2.far (p := ⟨w.heap.size + 1 + 1, 9, none⟩) (by show w.heap.size + 1 ≠ w.heap.size + 1 + 1; omega) (.slice (some ⟨g2, 0, none⟩) d.coins.length c2)
  have bb2 := b2.setCell (p := ⟨w.heap.size + 1 + 1, 9, none⟩) (by show w.heap.size ≤ w.heap.size + 1 + 1; omega) (.slice (some ⟨g2, 0, none⟩) d.coins.length c2)
  have oo12 := o12.set (q := w.heap.size + 1 + 1) (by omega) 9 (.slice (some ⟨g2, 0, none⟩) d.coins.length c2)
  have oo2 := (o2.less (m := w.heap.size + 3) (by omega)).set (q := w.heap.size + 1 + 1) (by omega) 9 (.slice (some ⟨g2, 0, none⟩) d.coins.length c2)
  have ys2 : (u2.setCell ⟨w.heap.size + 1 + 1, 9, none⟩ (.slice (some ⟨g2, 0, none⟩) d.coins.length c2)).heap.size = u2.heap.size := by simp [World.setCell]
  generalize hV2 : u2.setCell ⟨w.heap.size + 1 + 1, 9, none⟩ (.slice (some ⟨g2, 0, none⟩) d.coins.length c2) = V2 at rr2 kk2 zz2 bb2 oo12 oo2 ys2
  have HV1 := Lib.hid hV1
  have HV2 := Lib.hid hV2
  have R1 := Lib.hid hr1
  have R2 := Lib.hid hr2
  have KK2 := Lib.hid kk2
  have ZZ2 := Lib.hid zz2
  have RR2 := Lib.hid rr2
  have BB2 := Lib.hid bb2
  have O1 := Lib.hid oo12
  have O2 := Lib.hid oo2
  have HI := Lib.hid (H.out.below bb2 (Nat.le_refl _)).it
  have HMM := Lib.hid (show d.players.length ≤ maxLen ∧ d.coins.length ≤ maxLen by unfold maxLen; omega)
  have Y2 : w.heap.size + 3 ≤ V2.heap.size := by omega
  have e1k := k1.cell
  have e1r := r1.cell
  have e1f := r1.frozen
  have e1l := k1.lt
  have e1m := r1.lt
  have e2k := k2.cell
  have e2r := r2.cell
  have e2f := r2.frozen
  have e2l := k2.lt
  have e2m := r2.lt
  clear hV1 hV2 hr1 hr2 kk2 zz2 rr2 bb2 oo12 oo2 k0 z0 r0 y0 b0 l1 o1 z1 b1 y1 rr1 kk1 zz1 bb1 oo1 ys1 o2 l2 z2 b2 o12 y2 ys2 k1 r1 k2 r2 hf h
  subst hV0
  go_enter Try.func18, Try.ntmps18
  go_wp2_with (at_builtin; first | (refine append_step1 rfl (.tmp 8) (.tmp 10) 23 rfl _ _ _ u1 rfl rfl R1.out ?_; clear R1) | (rw [HV1.out]; refine append_step1 rfl (.tmp 14) (.tmp 16) 23 rfl _ _ _ u2 rfl rfl R2.out ?_; clear R2))
  rw [HV2.out]
  have N2 : w.heap.size + 1 + 1 < V2.heap.size := by omega
  clear e1k e1r e1f e1l e1m e2k e2r e2f e2l e2m
  go_loopw [4] (fun i wr => ∃ (k : Nat) (a : Option Addr) (c : Nat), k ≤ d.items.length ∧ i = .int .i64 k ∧ NI (w.heap.size + 1 + 1) V2.heap.size V2 wr #[.slice px d.exits.length pxc, .slice pp d.players.length ppc, .slice pc d.coins.length pcc, .slice pi d.items.length pic, .slice pb d.boxes.length pbc, .int .i64 d.room, .int .i64 d.player, .int .i64 d.box, .slice (some ⟨g1, 0, none⟩) d.players.length c1, .slice (some ⟨g2, 0, none⟩) d.coins.length c2, .slice a k c] a c k d.items) (fun i _ => d.items.length - (intOf i).toNat)
  case atStart => exact ⟨0, none, 0, Nat.zero_le _, rfl, ⟨Nat.le_refl _, fun _ _ _ => rfl, rfl, rfl, rfl, RR2.out, ⟨by simp [floorsL], .inl ⟨rfl, rfl⟩⟩⟩⟩
  case round =>
    obtain ⟨k, a, c, hk, rfl, hni⟩ := hrel
    have NN := Lib.hid hni
    have kb := hni.blk KK2.out (by omega) (by omega)
    have hc0 := kb.cell
    have hc2 := hni.bl.cell
    have hl2 := hni.bl.lt
    have hl0 := kb.lt
    by_cases hlt : k < d.items.length
    · obtain ⟨b, o, rfl, hb, hcs⟩ := (show IntsAt w pi d.items from H.out.it).at_ hlt
      have hi0 := (BB2.out.cell (p := ⟨b, o + k, none⟩) hb).trans (hcs k hlt)
      have hi1 : wr.cell? ⟨b, o + k, none⟩ = some (.int .i64 d.items[k]) := (NN.out.cell (p := ⟨b, o + k, none⟩) (by show b < V2.heap.size; omega) (by show b ≠ w.heap.size + 1 + 1; omega)).trans hi0
      have hs3 := NN.out.s
      obtain ⟨v3, u3, hr3, h13, hf3, hs33, ho3, ht3, hot3⟩ := append_place (W := wr.drew) NN.out.o.drew 0 d.items[k] (by omega) hs3
      obtain ⟨a2, c3, rfl⟩ := own_form2 h13
      have hob : ∀ q, q < V2.heap.size → some q ≠ (Value.slice a k c).ownBlock := fun q hq e => by
        have := (NN.out.o.lt q e.symm).1; omega
      have M0 : Blk u3 w.heap.size 26 #[.slice px d.exits.length pxc, .slice pp d.players.length ppc, .slice pc d.coins.length pcc, .slice (some ⟨b, o, none⟩) d.items.length pic, .slice pb d.boxes.length pbc, .int .i64 d.room, .int .i64 d.player, .int .i64 d.box] := (hf3 _ (by show w.heap.size < wr.heap.size; omega) (hob _ (by omega))).trans kb
      have M2 : Blk u3 (w.heap.size + 1 + 1) 29 #[.slice px d.exits.length pxc, .slice pp d.players.length ppc, .slice pc d.coins.length pcc, .slice (some ⟨b, o, none⟩) d.items.length pic, .slice pb d.boxes.length pbc, .int .i64 d.room, .int .i64 d.player, .int .i64 d.box, .slice (some ⟨g1, 0, none⟩) d.players.length c1, .slice (some ⟨g2, 0, none⟩) d.coins.length c2, .slice a k c] := (hf3 _ (by show w.heap.size + 1 + 1 < wr.heap.size; omega) (hob _ (by omega))).trans hni.bl
      have mc2 := M2.cell
      have mf2 := M2.frozen
      have ml2 := M2.lt
      have mi : u3.cell? ⟨b, o + k, none⟩ = some (.int .i64 d.items[k]) := by
        exact (World.cell?_of_block (w := wr.drew) (a := ⟨b, o + k, none⟩) (hf3 b (by show b < wr.heap.size; omega) (hob _ (by omega)))).trans hi1
      have RN := Lib.hid (NN.out.step hlt N2 (.slice a2 (k + 1) c3) rfl h13 hf3 hs33 ho3 ht3 hot3)
      generalize d.items[k] = x at *
      have R3 := Lib.hid hr3
      have KA := Lib.hid (show (∀ i, wr.drew.cell? ⟨w.heap.size, i, none⟩ = (#[.slice px d.exits.length pxc, .slice pp d.players.length ppc, .slice pc d.coins.length pcc, .slice (some ⟨b, o, none⟩) d.items.length pic, .slice pb d.boxes.length pbc, .int .i64 d.room, .int .i64 d.player, .int .i64 d.box][i]? : Option Value)) ∧ wr.drew.cell? ⟨b, o + k, none⟩ = some (.int .i64 x) from ⟨kb.cell, hi1⟩)
      have KB := Lib.hid (show (∀ i, (wr.alloc (.cells #[.int .i64 0, .int .i64 x] 57)).drew.cell? ⟨w.heap.size, i, none⟩ = (#[.slice px d.exits.length pxc, .slice pp d.players.length ppc, .slice pc d.coins.length pcc, .slice (some ⟨b, o, none⟩) d.items.length pic, .slice pb d.boxes.length pbc, .int .i64 d.room, .int .i64 d.player, .int .i64 d.box][i]? : Option Value)) ∧ (wr.alloc (.cells #[.int .i64 0, .int .i64 x] 57)).drew.cell? ⟨b, o + k, none⟩ = some (.int .i64 x) from ⟨(kb.alloc _).cell, (World.cell?_alloc_lt _ _ _ (by show b < wr.heap.size; omega)).trans hi1⟩)
      have KC := Lib.hid (show (∀ i, u3.cell? ⟨w.heap.size, i, none⟩ = (#[.slice px d.exits.length pxc, .slice pp d.players.length ppc, .slice pc d.coins.length pcc, .slice (some ⟨b, o, none⟩) d.items.length pic, .slice pb d.boxes.length pbc, .int .i64 d.room, .int .i64 d.player, .int .i64 d.box][i]? : Option Value)) ∧ u3.cell? ⟨b, o + k, none⟩ = some (.int .i64 x) from ⟨M0.cell, mi⟩)
      have KD := Lib.hid (show (∀ i, (u3.setCell ⟨w.heap.size + 1 + 1, 10, none⟩ (.slice a2 (k + 1) c3)).cell? ⟨w.heap.size, i, none⟩ = (#[.slice px d.exits.length pxc, .slice pp d.players.length ppc, .slice pc d.coins.length pcc, .slice (some ⟨b, o, none⟩) d.items.length pic, .slice pb d.boxes.length pbc, .int .i64 d.room, .int .i64 d.player, .int .i64 d.box][i]? : Option Value)) ∧ (u3.setCell ⟨w.heap.size + 1 + 1, 10, none⟩ (.slice a2 (k + 1) c3)).cell? ⟨b, o + k, none⟩ = some (.int .i64 x) from ⟨(M0.far (by show w.heap.size ≠ w.heap.size + 1 + 1; omega) _).cell, (World.cell?_setCell_far _ _ _ _ (by show w.heap.size + 1 + 1 ≠ b; omega)).trans mi⟩)
      clear hr3 hni kb hcs hi0 hi1 h13 hf3 ho3 ht3 hot3 M0 M2 mi hob
      go_wp2_with fail
      clear hc0
      refine wp_region_noPanic ?_
      refine wp_region_held_drew (S := (fun w' => (∀ i, w'.cell? ⟨w.heap.size, i, none⟩ = (#[.slice px d.exits.length pxc, .slice pp d.players.length ppc, .slice pc d.coins.length pcc, .slice (some ⟨b, o, none⟩) d.items.length pic, .slice pb d.boxes.length pbc, .int .i64 d.room, .int .i64 d.player, .int .i64 d.box][i]? : Option Value)) ∧ w'.cell? ⟨b, o + k, none⟩ = some (.int .i64 x))) (by kernel_rfl) (by (first | (with_reducible exact KA.out) | (with_reducible exact KB.out) | (with_reducible exact KC.out) | (with_reducible exact KD.out))) (fun hHeld => ?_)
      refine wpAnyH_take (i := 0) (v := ?_) (by simp only [List.getElem?_toArray, List.getElem?_cons_zero]; rfl) (by kernel_rfl) (by kernel_rfl) (by kernel_rfl) (fun _ _ _ h => h) (Or.inl ⟨by rfl, ?_⟩) (by assumption) ?_
      rotate_left
      · (intro ww hSw; (try dsimp only at hSw); go_simp; (try with_reducible rfl))
      try simp only [Act.put, List.setIfInBounds_toArray, List.set_cons_zero, List.set_cons_succ]
      refine wpAnyH_take (i := 2) (v := ?_) (by simp only [List.getElem?_toArray, List.getElem?_cons_succ, List.getElem?_cons_zero]; rfl) (by kernel_rfl) (by kernel_rfl) (by kernel_rfl) (fun _ _ _ h => h) (Or.inl ⟨by rfl, ?_⟩) (by assumption) ?_
      rotate_left
      · (intro ww hSw; (try dsimp only at hSw); go_simp; (try with_reducible rfl))
      try simp only [Act.put, List.setIfInBounds_toArray, List.set_cons_zero, List.set_cons_succ]
      refine wpAnyH_take (i := 3) (v := ?_) (by simp only [List.getElem?_toArray, List.getElem?_cons_succ, List.getElem?_cons_zero]; rfl) (by kernel_rfl) (by kernel_rfl) (by kernel_rfl) (fun _ _ _ h => h) (Or.inl ⟨by rfl, ?_⟩) (by assumption) ?_
      rotate_left
      · (intro ww hSw; (try dsimp only at hSw); go_simp; (try with_reducible rfl))
      try simp only [Act.put, List.setIfInBounds_toArray, List.set_cons_zero, List.set_cons_succ]
      refine wpAnyH_take (i := 4) (v := ?_) (by simp only [List.getElem?_toArray, List.getElem?_cons_succ, List.getElem?_cons_zero]; rfl) (by kernel_rfl) (by kernel_rfl) (by kernel_rfl) (fun _ _ _ h => h) (Or.inl ⟨by rfl, ?_⟩) (by assumption) ?_
      rotate_left
      · (intro ww hSw; (try dsimp only at hSw); go_simp; (try with_reducible rfl))
      try simp only [Act.put, List.setIfInBounds_toArray, List.set_cons_zero, List.set_cons_succ]
      refine wpAnyH_take (i := 5) (v := ?_) (by simp only [List.getElem?_toArray, List.getElem?_cons_succ, List.getElem?_cons_zero]; rfl) (by kernel_rfl) (by kernel_rfl) (by kernel_rfl) (fun _ _ _ h => h) (Or.inl ⟨by rfl, ?_⟩) (by assumption) ?_
      rotate_left
      · (intro ww hSw; (try dsimp only at hSw); go_simp; (try with_reducible rfl))
      try simp only [Act.put, List.setIfInBounds_toArray, List.set_cons_zero, List.set_cons_succ]
      refine wpAnyH_take (i := 6) (v := ?_) (by simp only [List.getElem?_toArray, List.getElem?_cons_succ, List.getElem?_cons_zero]; rfl) (by kernel_rfl) (by kernel_rfl) (by kernel_rfl) (fun _ _ _ h => h) (Or.inl ⟨by rfl, ?_⟩) (by assumption) ?_
      rotate_left
      · (intro ww hSw; (try dsimp only at hSw); go_simp; (try with_reducible rfl))
      try simp only [Act.put, List.setIfInBounds_toArray, List.set_cons_zero, List.set_cons_succ]
      refine wpAnyH_take (i := 7) (v := ?_) (by simp only [List.getElem?_toArray, List.getElem?_cons_succ, List.getElem?_cons_zero]; rfl) (by kernel_rfl) (by kernel_rfl) (by kernel_rfl) (fun _ _ _ h => h) (Or.inl ⟨by rfl, ?_⟩) (by assumption) ?_
      rotate_left
      · (intro ww hSw; (try dsimp only at hSw); go_simp; (try with_reducible rfl))
      try simp only [Act.put, List.setIfInBounds_toArray, List.set_cons_zero, List.set_cons_succ]
      refine wpAnyH_ready (rs := [1, 8]) (by kernel_rfl) (by simp) (AllReadyH.cons (by simp only [List.getElem?_toArray, List.getElem?_cons_succ, List.getElem?_cons_zero]; rfl) (fun K hK => ?_) (AllReadyH.cons (by simp only [List.getElem?_toArray, List.getElem?_cons_succ, List.getElem?_cons_zero]; rfl) (fun K hK => ?_) AllReadyH.nil))
      ·
        go_simp
        try go_wp2_with fail
        refine hK.out _ _ (by (first | (with_reducible exact KA.out) | (with_reducible exact KB.out) | (with_reducible exact KC.out) | (with_reducible exact KD.out))) (fun hHeld => ?_)
        clear hK K
        try simp only [Act.put, List.setIfInBounds_toArray, List.set_cons_zero, List.set_cons_succ]
        refine wpAnyH_ready (rs := [8]) (by kernel_rfl) (by simp) (AllReadyH.cons (by simp only [List.getElem?_toArray, List.getElem?_cons_succ, List.getElem?_cons_zero]; rfl) (fun K hK => ?_) AllReadyH.nil)
        go_simp
        try go_wp2_with fail
        refine hK.out _ _ (by (first | (with_reducible exact KA.out) | (with_reducible exact KB.out) | (with_reducible exact KC.out) | (with_reducible exact KD.out))) (fun hHeld => ?_)
        clear hK K
        try simp only [Act.put, List.setIfInBounds_toArray, List.set_cons_zero, List.set_cons_succ]
        refine wpAnyH_ready (rs := [9]) (by kernel_rfl) (by simp) (AllReadyH.cons (by simp only [List.getElem?_toArray, List.getElem?_cons_succ, List.getElem?_cons_zero]; rfl) (fun K hK => ?_) AllReadyH.nil)
        refine step_app rfl (.tmp 27) (.tmp 34) 27 rfl _ _ _ u3 rfl rfl R3.out ?_
        refine hK.out _ _ (by (first | (with_reducible exact KA.out) | (with_reducible exact KB.out) | (with_reducible exact KC.out) | (with_reducible exact KD.out))) (fun hHeld => ?_)
        clear hK K
        try simp only [Act.put, List.setIfInBounds_toArray, List.set_cons_zero, List.set_cons_succ]
        refine wpAnyH_take (i := 10) (v := ?_) (by simp only [List.getElem?_toArray, List.getElem?_cons_succ, List.getElem?_cons_zero]; rfl) (by kernel_rfl) (by kernel_rfl) (by kernel_rfl) (fun _ _ _ h => h) (Or.inl ⟨by rfl, ?_⟩) (by assumption) ?_
        rotate_left
        · (intro ww hSw; (try dsimp only at hSw); go_simp; (try with_reducible rfl))
        try simp only [Act.put, List.setIfInBounds_toArray, List.set_cons_zero, List.set_cons_succ]
        refine wpAnyH_ready (rs := [11]) (by kernel_rfl) (by simp) (AllReadyH.cons (by simp only [List.getElem?_toArray, List.getElem?_cons_succ, List.getElem?_cons_zero]; rfl) (fun K hK => ?_) AllReadyH.nil)
        go_simp
        try go_wp2_with fail
        refine hK.out _ _ (by (first | (with_reducible exact KA.out) | (with_reducible exact KB.out) | (with_reducible exact KC.out) | (with_reducible exact KD.out))) (fun hHeld => ?_)
        clear hK K
        try simp only [Act.put, List.setIfInBounds_toArray, List.set_cons_zero, List.set_cons_succ]
        refine wpAnyH_done (by kernel_rfl) ?_ _
        refine NoPanic.normal ?_
        go_wp2_with fail
        go_roundw
        case rel => exact ⟨k + 1, a2, c3, by omega, by go_num, RN.out⟩
        case measure => simp [intOf]; omega
      ·
        go_simp
        try go_wp2_with fail
        refine hK.out _ _ (by (first | (with_reducible exact KA.out) | (with_reducible exact KB.out) | (with_reducible exact KC.out) | (with_reducible exact KD.out))) (fun hHeld => ?_)
        clear hK K
        try simp only [Act.put, List.setIfInBounds_toArray, List.set_cons_zero, List.set_cons_succ]
        refine wpAnyH_ready (rs := [1]) (by kernel_rfl) (by simp) (AllReadyH.cons (by simp only [List.getElem?_toArray, List.getElem?_cons_succ, List.getElem?_cons_zero]; rfl) (fun K hK => ?_) AllReadyH.nil)
        go_simp
        try go_wp2_with fail
        refine hK.out _ _ (by (first | (with_reducible exact KA.out) | (with_reducible exact KB.out) | (with_reducible exact KC.out) | (with_reducible exact KD.out))) (fun hHeld => ?_)
        clear hK K
        try simp only [Act.put, List.setIfInBounds_toArray, List.set_cons_zero, List.set_cons_succ]
        refine wpAnyH_ready (rs := [9]) (by kernel_rfl) (by simp) (AllReadyH.cons (by simp only [List.getElem?_toArray, List.getElem?_cons_succ, List.getElem?_cons_zero]; rfl) (fun K hK => ?_) AllReadyH.nil)
        refine step_app rfl (.tmp 27) (.tmp 34) 27 rfl _ _ _ u3 rfl rfl R3.out ?_
        refine hK.out _ _ (by (first | (with_reducible exact KA.out) | (with_reducible exact KB.out) | (with_reducible exact KC.out) | (with_reducible exact KD.out))) (fun hHeld => ?_)
        clear hK K
        try simp only [Act.put, List.setIfInBounds_toArray, List.set_cons_zero, List.set_cons_succ]
        refine wpAnyH_take (i := 10) (v := ?_) (by simp only [List.getElem?_toArray, List.getElem?_cons_succ, List.getElem?_cons_zero]; rfl) (by kernel_rfl) (by kernel_rfl) (by kernel_rfl) (fun _ _ _ h => h) (Or.inl ⟨by rfl, ?_⟩) (by assumption) ?_
        rotate_left
        · (intro ww hSw; (try dsimp only at hSw); go_simp; (try with_reducible rfl))
        try simp only [Act.put, List.setIfInBounds_toArray, List.set_cons_zero, List.set_cons_succ]
        refine wpAnyH_ready (rs := [11]) (by kernel_rfl) (by simp) (AllReadyH.cons (by simp only [List.getElem?_toArray, List.getElem?_cons_succ, List.getElem?_cons_zero]; rfl) (fun K hK => ?_) AllReadyH.nil)
        go_simp
        try go_wp2_with fail
        refine hK.out _ _ (by (first | (with_reducible exact KA.out) | (with_reducible exact KB.out) | (with_reducible exact KC.out) | (with_reducible exact KD.out))) (fun hHeld => ?_)
        clear hK K
        try simp only [Act.put, List.setIfInBounds_toArray, List.set_cons_zero, List.set_cons_succ]
        refine wpAnyH_done (by kernel_rfl) ?_ _
        refine NoPanic.normal ?_
        go_wp2_with fail
        go_roundw
        case rel => exact ⟨k + 1, a2, c3, by omega, by go_num, RN.out⟩
        case measure => simp [intOf]; omega
    · have hke : k = d.items.length := by omega
      subst hke
      have zb := hni.blk ZZ2.out (by omega) (by omega)
      have hz := zb.cell
      have hzf := zb.frozen
      have hzl := zb.lt
      clear hni kb
      go_wp2_with fail
      refine bodyPost_ret (v := .agg #[.slice px d.exits.length pxc, .slice pp d.players.length ppc, .slice pc d.coins.length pcc, .slice pi d.items.length pic, .slice pb d.boxes.length pbc, .int .i64 d.room, .int .i64 d.player, .int .i64 d.box, .slice (some ⟨g1, 0, none⟩) d.players.length c1, .slice (some ⟨g2, 0, none⟩) d.coins.length c2, .slice a d.items.length c]) (by simp [results, Try.results18, go_sem, hz]) rfl ?_
      refine refnew_fin (p := ⟨px, pxc, pp, ppc, pc, pcc, pi, pic, pb, pbc⟩) (m := V2.heap.size) H.out ?_ (by omega) ?_ (fun r hr => O1.out.in_ hr) ?_ (fun r hr => O2.out.in_ hr) ?_
      · iterate 11 refine Below.setCell ?_ (by show w.heap.size ≤ w.heap.size + 1; omega) _
        exact NN.out.below BB2.out (by omega) (by omega) (Nat.le_refl _)
      · refine OwnR.less (n := w.heap.size + 3) ?_ (by omega)
        iterate 11 refine OwnR.set (q := w.heap.size + 1) ?_ (by omega) _ _
        exact O1.out.keep (fun b h1 h2 => NN.out.f b h2 (by omega))
      · refine OwnR.less (n := w.heap.size + 3) ?_ (by omega)
        iterate 11 refine OwnR.set (q := w.heap.size + 1) ?_ (by omega) _ _
        exact O2.out.keep (fun b h1 h2 => NN.out.f b h2 (by omega))
      · iterate 11 refine OwnR.set (q := w.heap.size + 1) ?_ (by omega) _ _
        exact own_ownR (xs := floorsL d.items) (by have := NN.out.o; rw [List.take_length] at this; simpa [floorsL] using this) (by simp [floorsL, maxLen]; omega)
theorem refnew_own (d : Ds) (p : Dp) (w : World) (h : DescAt w p d) (hm : mayD d = true) : Calls Try.prog 18 #[.agg #[.slice p.ex d.exits.length p.exc, .slice p.pl d.players.length p.plc, .slice p.co d.coins.length p.coc, .slice p.it d.items.length p.itc, .slice p.bo d.boxes.length p.boc, .int .i64 d.room, .int .i64 d.player, .int .i64 d.box]] w fun e w' => ∃ (x : Wd) (q : Wp), x = newW d ∧ e = .returned (.agg #[.slice q.d.ex x.d.exits.length q.d.exc, .slice q.d.pl x.d.players.length q.d.plc, .slice q.d.co x.d.coins.length q.d.coc, .slice q.d.it x.d.items.length q.d.itc, .slice q.d.bo x.d.boxes.length q.d.boc, .int .i64 x.d.room, .int .i64 x.d.player, .int .i64 x.d.box, .slice q.at_ x.at_.length q.atc, .slice q.co x.coins.length q.coc, .slice q.wh x.wher.length q.whc]) ∧ WorldAt w' q x ∧ Below w.heap.size w w' ∧ WhNew w.heap.size w' p q x :=
  refnew_go d p.ex p.pl p.co p.it p.bo p.exc p.plc p.coc p.itc p.boc w h hm
theorem refnew_any (d : Ds) (p : Dp) (w : World) (h : DescAt w p d) (hm : mayD d = true) : Calls Try.prog 18 #[.agg #[.slice p.ex d.exits.length p.exc, .slice p.pl d.players.length p.plc, .slice p.co d.coins.length p.coc, .slice p.it d.items.length p.itc, .slice p.bo d.boxes.length p.boc, .int .i64 d.room, .int .i64 d.player, .int .i64 d.box]] w fun e w' => ∃ (x : Wd) (q : Wp), x = newW d ∧ e = .returned (.agg #[.slice q.d.ex x.d.exits.length q.d.exc, .slice q.d.pl x.d.players.length q.d.plc, .slice q.d.co x.d.coins.length q.d.coc, .slice q.d.it x.d.items.length q.d.itc, .slice q.d.bo x.d.boxes.length q.d.boc, .int .i64 x.d.room, .int .i64 x.d.player, .int .i64 x.d.box, .slice q.at_ x.at_.length q.atc, .slice q.co x.coins.length q.coc, .slice q.wh x.wher.length q.whc]) ∧ WorldAt w' q x ∧ Below w.heap.size w w' :=
  (refnew_own d p w h hm).mono fun _ _ ⟨x, q, h1, h2, h3, h4, _⟩ => ⟨x, q, h1, h2, h3, h4⟩
end Go.Proofs.Ytkhjmgedamndhaa
