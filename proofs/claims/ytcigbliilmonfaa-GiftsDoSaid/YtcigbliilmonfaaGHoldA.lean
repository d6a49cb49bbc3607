/- hold: is there such an item; the places; an item brought elsewhere. -/
import Derived.Test.YtcigbliilmonfaaRows
import Derived.Test.YtcigbliilmonfaaKit
import Derived.Test.YtcigbliilmonfaaGMem
import Derived.Test.YtcigbliilmonfaaCoin
import Derived.Test.YtcigbliilmonfaaGWorld
import Derived.Test.YtcigbliilmonfaaGDescN
import Derived.Test.YtcigbliilmonfaaGRight
import Derived.Test.YtcigbliilmonfaaGCopy
import Derived.Test.YtcigbliilmonfaaGRefD
import Derived.Test.YtcigbliilmonfaaGEq
import Derived.Test.YtcigbliilmonfaaGAs
import Derived.Test.YtcigbliilmonfaaGTreeL
import Derived.Deep.QuietTactic
import Derived.BigQuiet
import Derived.Deep.RegionHeld3
import Derived.WalkKit
import Derived.ProofKit
import Derived.OpenShut
import Derived.IntWalk
import Derived.Test.YtcigbliilmonfaaDescMay
namespace Go.Proofs.Ytcigbliilmonfaa
open Go.ChangeShapes Go.WideShapes Go.ChangeAt Go.RowKit
set_option linter.unusedVariables false
open Go.RowKit
theorem right_fewW9 {x : Wd} (h : rightW x = true) : FewW x := by
  have h1 := right_lens h
  have h2 := may_few h1.2.2.2.2.2
  exact ⟨⟨by omega, by omega, by omega, by omega, by omega⟩, by omega, by omega, by omega⟩
/-- Three blocks of the call's own, one behind the other. -/
structure Tri (t u s : TypeId) (w v : World) (cs ds z : Array Value) : Prop where
  a : Blk v w.heap.size t cs
  m : Blk v (w.heap.size + 1) u ds
  r : Blk v (w.heap.size + 2) s z
  b : Below w.heap.size w v
section
variable {t u s : TypeId} {w v v1 : World} {cs ds z : Array Value}
theorem Tri.start (t u s : TypeId) (w : World) (cs ds z : Array Value) : Tri t u s w (((w.alloc (.cells cs t)).alloc (.cells ds u)).alloc (.cells z s)) cs ds z :=
  ⟨((Blk.new w _ cs).alloc _).alloc _, (Blk.newn _ _ _ (by simp)).alloc _, Blk.newn _ _ _ (by simp), (((Below.refl _ _).alloc (Nat.le_refl _) _).alloc (by simp) _).alloc (by simp; omega) _⟩
theorem Tri.call (h : Tri t u s w v cs ds z) (hb : Below v.heap.size v v1) : Tri t u s w v1 cs ds z := ⟨h.a.call hb, h.m.call hb, h.r.call hb, bl h.b (hb.mono (Nat.le_refl _))⟩
theorem Tri.alloc (h : Tri t u s w v cs ds z) (o : Obj) : Tri t u s w (v.alloc o) cs ds z := h.call ((Below.refl _ _).alloc (Nat.le_refl _) _)
theorem Tri.size (h : Tri t u s w v cs ds z) : w.heap.size + 3 ≤ v.heap.size := h.r.lt
end
/-- Four. -/
structure Qua (t u s r : TypeId) (w v : World) (cs ds es z : Array Value) : Prop where
  a : Blk v w.heap.size t cs
  m : Blk v (w.heap.size + 1) u ds
  n : Blk v (w.heap.size + 2) s es
  r : Blk v (w.heap.size + 3) r z
  b : Below w.heap.size w v
section
variable {t u s r : TypeId} {w v v1 : World} {cs ds es z : Array Value}
theorem Qua.start (t u s r : TypeId) (w : World) (cs ds es z : Array Value) : Qua t u s r w ((((w.alloc (.cells cs t)).alloc (.cells ds u)).alloc (.cells es s)).alloc (.cells z r)) cs ds es z :=
  ⟨(((Blk.new w _ cs).alloc _).alloc _).alloc _, ((Blk.newn _ _ _ (by simp)).alloc _).alloc _, (Blk.newn _ _ _ (by simp)).alloc _, Blk.newn _ _ _ (by simp), ((((Below.refl _ _).alloc (Nat.le_refl _) _).alloc (by simp) _).alloc (by simp; omega) _).alloc (by simp; omega) _⟩
theorem Qua.call (h : Qua t u s r w v cs ds es z) (hb : Below v.heap.size v v1) : Qua t u s r w v1 cs ds es z := ⟨h.a.call hb, h.m.call hb, h.n.call hb, h.r.call hb, bl h.b (hb.mono (Nat.le_refl _))⟩
theorem Qua.size (h : Qua t u s r w v cs ds es z) : w.heap.size + 4 ≤ v.heap.size := h.r.lt
end
set_option maxRecDepth 100000 in
theorem isitem_any (x : Wd) (p : Wp) (k : Int) (w : World) : Calls Try.prog 56 #[.agg #[.slice p.d.ex x.d.exits.length p.d.exc, .slice p.d.pl x.d.players.length p.d.plc, .slice p.d.co x.d.coins.length p.d.coc, .slice p.d.it x.d.items.length p.d.itc, .slice p.d.bo x.d.boxes.length p.d.boc, .int .i64 x.d.room, .int .i64 x.d.player, .int .i64 x.d.box, .slice p.at_ x.at_.length p.atc, .slice p.co x.coins.length p.coc, .slice p.wh x.wher.length p.whc], .int .i64 k] w fun e w' => e = .returned (.bool (inB k x.wher.length)) ∧ Below w.heap.size w w' := by
  have hb := (Below.refl w.heap.size w).alloc (Nat.le_refl _) (.cells #[.slice p.d.ex x.d.exits.length p.d.exc, .slice p.d.pl x.d.players.length p.d.plc, .slice p.d.co x.d.coins.length p.d.coc, .slice p.d.it x.d.items.length p.d.itc, .slice p.d.bo x.d.boxes.length p.d.boc, .int .i64 x.d.room, .int .i64 x.d.player, .int .i64 x.d.box, .slice p.at_ x.at_.length p.atc, .slice p.co x.coins.length p.coc, .slice p.wh x.wher.length p.whc] 29)
  unfold inB
  by_cases h1 : 0 ≤ k
  · by_cases h2 : k < x.wher.length
    ·
      go_enter Try.func56, Try.ntmps56
      go_wp2_with fail
      go_ret
      exact ⟨ret_bool (by simp [h1, h2]), hb⟩
    ·
      go_enter Try.func56, Try.ntmps56
      go_wp2_with fail
      go_ret
      exact ⟨ret_bool (by simp [h2]), hb⟩
  ·
    go_enter Try.func56, Try.ntmps56
    go_wp2_with fail
    go_ret
    exact ⟨ret_bool (by simp; omega), hb⟩
set_option maxRecDepth 100000 in
set_option maxHeartbeats 400000 in
theorem to_any (x : Wd) (p : Wp) (k : Nat) (y : Pl) (w : World) (h : WorldAt w p x) (hf : FewW x) (hk : k < x.wher.length) : Calls Try.prog 52 #[.agg #[.slice p.d.ex x.d.exits.length p.d.exc, .slice p.d.pl x.d.players.length p.d.plc, .slice p.d.co x.d.coins.length p.d.coc, .slice p.d.it x.d.items.length p.d.itc, .slice p.d.bo x.d.boxes.length p.d.boc, .int .i64 x.d.room, .int .i64 x.d.player, .int .i64 x.d.box, .slice p.at_ x.at_.length p.atc, .slice p.co x.coins.length p.coc, .slice p.wh x.wher.length p.whc], .int .i64 (k : Int), .agg #[.int .i64 y.kind, .int .i64 y.id]] w fun e w' => ∃ q : Wp, e = .returned (.agg #[.slice q.d.ex x.d.exits.length q.d.exc, .slice q.d.pl x.d.players.length q.d.plc, .slice q.d.co x.d.coins.length q.d.coc, .slice q.d.it x.d.items.length q.d.itc, .slice q.d.bo x.d.boxes.length q.d.boc, .int .i64 x.d.room, .int .i64 x.d.player, .int .i64 x.d.box, .slice q.at_ x.at_.length q.atc, .slice q.co x.coins.length q.coc, .slice q.wh x.wher.length q.whc]) ∧ WorldOwn w.heap.size w' q (putW x k y) ∧ Below w.heap.size w w' := by
  have C0 := Lib.hid (Tri.start 29 54 29 w #[.slice p.d.ex x.d.exits.length p.d.exc, .slice p.d.pl x.d.players.length p.d.plc, .slice p.d.co x.d.coins.length p.d.coc, .slice p.d.it x.d.items.length p.d.itc, .slice p.d.bo x.d.boxes.length p.d.boc, .int .i64 x.d.room, .int .i64 x.d.player, .int .i64 x.d.box, .slice p.at_ x.at_.length p.atc, .slice p.co x.coins.length p.coc, .slice p.wh x.wher.length p.whc] #[.int .i64 y.kind, .int .i64 y.id] #[.slice none 0 0, .slice none 0 0, .slice none 0 0, .slice none 0 0, .slice none 0 0, .int .i64 0, .int .i64 0, .int .i64 0, .slice none 0 0, .slice none 0 0, .slice none 0 0])
  have H := Lib.hid h
  have HF := Lib.hid hf
  have HI := Lib.hid (show inB (k : Int) x.wher.length = true by simp [inB, hk])
  have hlen := h.wh.len
  clear h hf
  go_enter Try.func52, Try.ntmps52
  go_wp2_with fail
  refine (copy_any x p _ (H.out.below C0.out.b (Nat.le_refl _)) HF.out).mono ?_
  rintro e w1 ⟨⟨qd, qa, qac, qk, qkc, qw, qwc⟩, rfl, ho, b1⟩
  obtain ⟨g, hqw, -, hg2, -, -, -⟩ := ho.putPlace hk
  simp only at hqw
  subst hqw
  have hg1 := C0.out.size
  have C1 := Lib.hid (C0.out.call b1)
  have HO := Lib.hid (ho.less hg1)
  have hg1 : w.heap.size + 3 ≤ g := Nat.le_trans hg1 (by have := ho.putPlace hk; obtain ⟨g', e, h1, _⟩ := this; simp only [Option.some.injEq, Addr.mk.injEq] at e; omega)
  clear ho b1
  have hca := C1.out.a.cell
  have hla := C1.out.a.lt
  go_wp2_with fail
  clear hca hla
  have D1 := Lib.hid (Blk.newn w1 29 #[.slice qd.ex x.d.exits.length qd.exc, .slice qd.pl x.d.players.length qd.plc, .slice qd.co x.d.coins.length qd.coc, .slice qd.it x.d.items.length qd.itc, .slice qd.bo x.d.boxes.length qd.boc, .int .i64 x.d.room, .int .i64 x.d.player, .int .i64 x.d.box, .slice qa x.at_.length qac, .slice qk x.coins.length qkc, .slice (some ⟨g, 0, none⟩) x.wher.length qwc] (n := w1.heap.size) rfl)
  have C2 := Lib.hid (C1.out.alloc (.cells #[.slice qd.ex x.d.exits.length qd.exc, .slice qd.pl x.d.players.length qd.plc, .slice qd.co x.d.coins.length qd.coc, .slice qd.it x.d.items.length qd.itc, .slice qd.bo x.d.boxes.length qd.boc, .int .i64 x.d.room, .int .i64 x.d.player, .int .i64 x.d.box, .slice qa x.at_.length qac, .slice qk x.coins.length qkc, .slice (some ⟨g, 0, none⟩) x.wher.length qwc] 29))
  have HO2 := Lib.hid (HO.out.alloc' (.cells #[.slice qd.ex x.d.exits.length qd.exc, .slice qd.pl x.d.players.length qd.plc, .slice qd.co x.d.coins.length qd.coc, .slice qd.it x.d.items.length qd.itc, .slice qd.bo x.d.boxes.length qd.boc, .int .i64 x.d.room, .int .i64 x.d.player, .int .i64 x.d.box, .slice qa x.at_.length qac, .slice qk x.coins.length qkc, .slice (some ⟨g, 0, none⟩) x.wher.length qwc] 29))
  have BO := Lib.hid ((Below.refl w.heap.size w).trans (C2.out.b))
  refine (isitem_any x p _ _).mono ?_
  rintro e w2 ⟨rfl, b2⟩
  rw [HI.out]
  have C3 := Lib.hid (C2.out.call b2)
  have D3 := Lib.hid (D1.out.call b2)
  obtain ⟨g', hqw, -, hg3, ⟨cA, cB⟩, fA, hput⟩ := (HO2.out.call b2).putPlace hk
  simp only [Option.some.injEq, Addr.mk.injEq] at hqw
  obtain ⟨rfl, -⟩ := hqw
  have HP := Lib.hid (hput y)
  have n1 : w1.heap.size ≠ g := by omega
  have n2 : g ≠ w1.heap.size := by omega
  have n3 : g ≠ w.heap.size + 2 := by omega
  have n4 : w.heap.size + 2 ≠ g := by omega
  have n5 : w1.heap.size ≠ w.heap.size + 2 := by have := C1.out.size; omega
  have n6 : w.heap.size + 2 ≠ w1.heap.size := fun h => n5 h.symm
  clear hput b2
  have hcm := C3.out.m.cell
  have hlm := C3.out.m.lt
  have hcr := C3.out.r.cell
  have hzr := C3.out.r.frozen
  have hlr := C3.out.r.lt
  have hcd := D3.out.cell
  have hld := D3.out.lt
  go_wp2_with fail
  refine bodyPost_ret (v := .agg #[.slice qd.ex x.d.exits.length qd.exc, .slice qd.pl x.d.players.length qd.plc, .slice qd.co x.d.coins.length qd.coc, .slice qd.it x.d.items.length qd.itc, .slice qd.bo x.d.boxes.length qd.boc, .int .i64 x.d.room, .int .i64 x.d.player, .int .i64 x.d.box, .slice qa x.at_.length qac, .slice qk x.coins.length qkc, .slice (some ⟨g, 0, none⟩) x.wher.length qwc]) (by simp [results, Try.results52, go_sem, hcr]) rfl ⟨⟨qd, qa, qac, qk, qkc, some ⟨g, 0, none⟩, qwc⟩, rfl, ?_, ?_⟩
  · refine WorldOwn.less (n := w.heap.size + 3) ?_ (by omega)
    iterate 11 refine WorldOwn.set (q := w.heap.size + 2) ?_ (by omega) _ _
    exact HP.out
  · iterate 11 refine Below.setCell ?_ (by show w.heap.size ≤ w.heap.size + 2; omega) _
    iterate 2 refine Below.setCell ?_ (by show w.heap.size ≤ g; omega) _
    exact C3.out.b
end Go.Proofs.Ytcigbliilmonfaa
/- hold: an item goes from one place to another; what is got, and dropped. -/
namespace Go.Proofs.Ytcigbliilmonfaa
open Go.ChangeShapes Go.WideShapes Go.ChangeAt Go.RowKit
set_option linter.unusedVariables false
open Go.RowKit
/-- What is answered: a world that stays, or a new one. -/
def Took (n : Nat) (W : World) (p q : Wp) (x : Wd) (R : Wd × Int) : Prop := (¬ R.2 = 0 ∧ R.1 = x ∧ q = p) ∨ (R.2 = 0 ∧ WorldOwn n W q R.1)
theorem Took.call {n : Nat} {W W' : World} {p q : Wp} {x : Wd} {R : Wd × Int} (h : Took n W p q x R) (hb : Below W.heap.size W W') : Took n W' p q x R := h.imp id (fun ⟨h1, h2⟩ => ⟨h1, h2.call hb⟩)
theorem Took.set {n : Nat} {W : World} {p q : Wp} {x : Wd} {R : Wd × Int} (h : Took n W p q x R) {b : Nat} (hb : b < n) (i : Nat) (u : Value) : Took n (W.setCell ⟨b, i, none⟩ u) p q x R := h.imp id (fun ⟨h1, h2⟩ => ⟨h1, h2.set hb i u⟩)
theorem Took.less {n m : Nat} {W : World} {p q : Wp} {x : Wd} {R : Wd × Int} (h : Took n W p q x R) (hm : m ≤ n) : Took m W p q x R := h.imp id (fun ⟨h1, h2⟩ => ⟨h1, h2.less hm⟩)
theorem Took.world {n : Nat} {W : World} {p q : Wp} {x : Wd} {R : Wd × Int} (h : Took n W p q x R) (hw : WorldAt W p x) : WorldAt W q R.1 := by
  rcases h with ⟨_, h1, h2⟩ | ⟨_, h2⟩
  · rw [h1, h2]; exact hw
  · exact h2.world
theorem cap_in {x : Wd} (h : rightW x = true) {q : Nat} (hq : q < 3) : 0 ≤ capOf x.d q ∧ capOf x.d q ≤ 64 := by
  have hm := (right_lens h).2.2.2.2.2
  simp only [mayD, capsB, Bool.and_eq_true, List.all_eq_true] at hm
  have hc := hm.2.2.1
  have c0 := hc x.d.room (by simp)
  have c1 := hc x.d.player (by simp)
  have c2 := hc x.d.box (by simp)
  simp only [capB, Bool.and_eq_true, decide_eq_true_eq] at c0 c1 c2
  obtain rfl | rfl | rfl : q = 0 ∨ q = 1 ∨ q = 2 := by omega
  all_goals simp [capOf]; omega
section
variable (x : Wd) (pd : Dp) (pa : Option Addr) (pac : Nat) (pk : Option Addr) (pkc b o pwc : Nat) (k : Nat) (f : Pl) (w : World) (hx : rightW x = true) (h : WorldAt w ⟨pd, pa, pac, pk, pkc, some ⟨b, o, none⟩, pwc⟩ x) (hk : k < x.wher.length)
  (c0 : w.cell? ⟨b, o + k * 2, none⟩ = some (.int .i64 (plOf x.wher k).kind)) (c1 : w.cell? ⟨b, o + k * 2 + 1, none⟩ = some (.int .i64 (plOf x.wher k).id))
include hx h hk c0 c1
end
end Go.Proofs.Ytcigbliilmonfaa
/- hold: what is got, and dropped: whole. -/
namespace Go.Proofs.Ytcigbliilmonfaa
open Go.ChangeShapes Go.WideShapes Go.ChangeAt Go.RowKit
set_option linter.unusedVariables false
open Go.RowKit
end Go.Proofs.Ytcigbliilmonfaa
