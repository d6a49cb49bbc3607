/- The document's own: Root, Depth, Within, of items. -/
import Derived.Test.YtojfichbnnfjpaaRows
import Derived.Test.YtojfichbnnfjpaaTk
import Derived.Test.YtojfichbnnfjpaaKit
import Derived.Test.YtojfichbnnfjpaaGMem
import Derived.Test.YtojfichbnnfjpaaCoin
import Derived.Test.YtojfichbnnfjpaaGWorld
import Derived.Test.YtojfichbnnfjpaaGDescN
import Derived.Test.YtojfichbnnfjpaaGCopy
import Derived.Test.YtojfichbnnfjpaaGAs
import Derived.Test.YtojfichbnnfjpaaGRefD
import Derived.Deep.QuietTactic
import Derived.BigQuiet
import Derived.Deep.RegionHeld3
import Derived.WalkKit
import Derived.ProofKit
import Derived.OpenShut
import Derived.IntWalk
namespace Go.Proofs.Ytojfichbnnfjpaa
open Go.ChangeShapes Go.WideShapes Go.ChangeAt Go.RowKit
set_option linter.unusedVariables false
open Go.RowKit
set_option maxRecDepth 100000 in
set_option maxHeartbeats 1000000 in
theorem refroot_go (x : Wd) (d : Dp) (a kk pw : Option Addr) (ac kc wc : Nat) (hT : Tr x.wher) : ∀ i : Nat, i < x.wher.length → ∀ w : World, PlsAt w pw x.wher → Calls Try.prog 37 #[.agg #[.slice d.ex x.d.exits.length d.exc, .slice d.pl x.d.players.length d.plc, .slice d.co x.d.coins.length d.coc, .slice d.it x.d.items.length d.itc, .slice d.bo x.d.boxes.length d.boc, .int .i64 x.d.room, .int .i64 x.d.player, .int .i64 x.d.box, .slice a x.at_.length ac, .slice kk x.coins.length kc, .slice pw x.wher.length wc], .int .i64 (i : Int)] w fun e w' => e = .returned (.agg #[.int .i64 (rootI x.wher i).kind, .int .i64 (rootI x.wher i).id]) ∧ Below w.heap.size w w' := by
  refine hT.ind (fun i hi hk w h => ?_) (fun i j hi hj he hu ih w h => ?_)
  · have HL := Lib.hid (rootI_leaf hk)
    have HR := Lib.hid (show Below w.heap.size w (((w.alloc (.cells #[.slice d.ex x.d.exits.length d.exc, .slice d.pl x.d.players.length d.plc, .slice d.co x.d.coins.length d.coc, .slice d.it x.d.items.length d.itc, .slice d.bo x.d.boxes.length d.boc, .int .i64 x.d.room, .int .i64 x.d.player, .int .i64 x.d.box, .slice a x.at_.length ac, .slice kk x.coins.length kc, .slice pw x.wher.length wc] 29)).alloc (.cells #[.int .i64 (plOf x.wher i).kind, .int .i64 (plOf x.wher i).id] 43)).alloc (.cells #[.int .i64 (plOf x.wher i).kind, .int .i64 (plOf x.wher i).id] 43)) from (((Below.refl _ w).alloc (Nat.le_refl _) _).alloc (by simp) _).alloc (by simp; omega) _)
    obtain ⟨b, o, hbo, hb, c0, c1⟩ := PlsAt.cells h hi
    subst hbo
    rw [← plOf_get hi] at c0 c1
    generalize plOf x.wher i = z at *
    obtain ⟨zk, zi⟩ := z
    simp only at c0 c1 hk HR
    have q : (zk != 2) = true := by simpa using hk
    clear hk h
    go_enter Try.func37, Try.ntmps37
    go_wp2_with fail
    refine bodyPost_ret (v := .agg #[.int .i64 zk, .int .i64 zi]) (by simp [results, Try.results37, go_sem]) rfl ?_
    exact ⟨by rw [HL.out], HR.out⟩
  · have HL := Lib.hid (rootI_box hu)
    obtain ⟨b, o, hbo, hb, c0, c1⟩ := PlsAt.cells h hi
    subst hbo
    rw [← plOf_get hi, he] at c0 c1
    simp only [box] at c0 c1
    have HB := Lib.hid (Below.refl w.heap.size w |>.alloc (Nat.le_refl _) (.cells #[.slice d.ex x.d.exits.length d.exc, .slice d.pl x.d.players.length d.plc, .slice d.co x.d.coins.length d.coc, .slice d.it x.d.items.length d.itc, .slice d.bo x.d.boxes.length d.boc, .int .i64 x.d.room, .int .i64 x.d.player, .int .i64 x.d.box, .slice a x.at_.length ac, .slice kk x.coins.length kc, .slice (some ⟨b, o, none⟩) x.wher.length wc] 29) |>.alloc (by simp) (.cells #[.int .i64 0, .int .i64 0] 43) |>.alloc (by simp; omega) (.cells #[.int .i64 2, .int .i64 (j : Int)] 43))
    have HK := Lib.hid ((Blk.newn (w.alloc (.cells #[.slice d.ex x.d.exits.length d.exc, .slice d.pl x.d.players.length d.plc, .slice d.co x.d.coins.length d.coc, .slice d.it x.d.items.length d.itc, .slice d.bo x.d.boxes.length d.boc, .int .i64 x.d.room, .int .i64 x.d.player, .int .i64 x.d.box, .slice a x.at_.length ac, .slice kk x.coins.length kc, .slice (some ⟨b, o, none⟩) x.wher.length wc] 29)) 43 #[.int .i64 0, .int .i64 0] (n := w.heap.size + 1) (by simp)).alloc (.cells #[.int .i64 2, .int .i64 (j : Int)] 43))
    have IH := Lib.hid ih
    have H := Lib.hid h
    obtain ⟨r, hr⟩ : ∃ r, rootI x.wher j = r := ⟨_, rfl⟩
    obtain ⟨rk, ri⟩ := r
    have HRR := Lib.hid hr
    clear ih h he hu hr
    go_enter Try.func37, Try.ntmps37
    go_wp2_with fail
    refine (IH.out _ (H.out.below HB.out (Nat.le_refl _))).mono ?_
    rintro e w1 ⟨rfl, b1⟩
    rw [HRR.out]
    have hB := HB.out.trans (b1.mono HB.out.size)
    have hK := HK.out.call b1
    have HB1 := Lib.hid hB
    have HK1 := Lib.hid hK
    have c2 := hK.cell
    have f2 := hK.frozen
    have l2 := hK.lt
    clear hB hK b1 c0 c1
    go_wp2_with fail
    have c5 := ((HK1.out.set_ 0 (.int .i64 rk)).set_ 1 (.int .i64 ri)).cell
    refine bodyPost_ret (v := .agg #[.int .i64 rk, .int .i64 ri]) (by simp [results, Try.results37, go_sem, c5]) rfl ?_
    exact ⟨by rw [HL.out, HRR.out], (HB1.out.setCell (p := ⟨w.heap.size + 1, 0, none⟩) (by show w.heap.size ≤ w.heap.size + 1; omega) _).setCell (p := ⟨w.heap.size + 1, 1, none⟩) (by show w.heap.size ≤ w.heap.size + 1; omega) _⟩
theorem refroot_any (x : Wd) (p : Wp) (hT : Tr x.wher) (i : Nat) (hi : i < x.wher.length) (w : World) (h : PlsAt w p.wh x.wher) : Calls Try.prog 37 #[.agg #[.slice p.d.ex x.d.exits.length p.d.exc, .slice p.d.pl x.d.players.length p.d.plc, .slice p.d.co x.d.coins.length p.d.coc, .slice p.d.it x.d.items.length p.d.itc, .slice p.d.bo x.d.boxes.length p.d.boc, .int .i64 x.d.room, .int .i64 x.d.player, .int .i64 x.d.box, .slice p.at_ x.at_.length p.atc, .slice p.co x.coins.length p.coc, .slice p.wh x.wher.length p.whc], .int .i64 (i : Int)] w fun e w' => e = .returned (.agg #[.int .i64 (rootI x.wher i).kind, .int .i64 (rootI x.wher i).id]) ∧ Below w.heap.size w w' :=
  refroot_go x p.d p.at_ p.co p.wh p.atc p.coc p.whc hT i hi w h
end Go.Proofs.Ytojfichbnnfjpaa
