import Derived.Test.YtameelaiigljjaaRows
import Derived.Test.YtameelaiigljjaaKit
import Derived.Test.YtameelaiigljjaaJMem
import Derived.Test.YtameelaiigljjaaCoin
import Derived.Test.YtameelaiigljjaaJWorld
import Derived.Test.YtameelaiigljjaaJDesc
import Derived.Test.YtameelaiigljjaaJSame
import Derived.Test.YtameelaiigljjaaJRefA
import Derived.Test.YtameelaiigljjaaJTreeHeight
import Derived.Deep.QuietTactic
import Derived.BigQuiet
import Derived.Deep.RegionHeld3
import Derived.WalkKit
import Derived.ProofKit
import Derived.OpenShut
import Derived.IntWalk
/- The document's own: Root, Depth, Within, of items. -/
namespace Go.Proofs.Ytameelaiigljjaa
open Go.ChangeShapes Go.WideShapes Go.ChangeAt Go.RowKit
set_option linter.unusedVariables false
open Go.RowKit
set_option maxRecDepth 100000 in
set_option maxHeartbeats 1000000 in
theorem refroot_go (x : Wd) (d : Dp) (a kk pw : Option Addr) (ac kc wc : Nat) (hT : Tr x.wher) : ∀ i : Nat, i < x.wher.length → ∀ w : World, PlsAt w pw x.wher → Calls Try.prog 20 #[.agg #[.slice d.ex x.d.exits.length d.exc, .slice d.pl x.d.players.length d.plc, .slice d.co x.d.coins.length d.coc, .slice d.it x.d.items.length d.itc, .slice d.bo x.d.boxes.length d.boc, .int .i64 x.d.room, .int .i64 x.d.player, .int .i64 x.d.box, .slice a x.at_.length ac, .slice kk x.coins.length kc, .slice pw x.wher.length wc], .int .i64 (i : Int)] w fun e w' => e = .returned (.agg #[.int .i64 (rootI x.wher i).kind, .int .i64 (rootI x.wher i).id]) ∧ Below w.heap.size w w' := by
  refine hT.ind (fun i hi hk w h => ?_) (fun i j hi hj he hu ih w h => ?_)
  · have HL := Lib.hid (rootI_leaf hk)
    have HR := Lib.hid (show Below w.heap.size w (((w.alloc (.cells #[.slice d.ex x.d.exits.length d.exc, .slice d.pl x.d.players.length d.plc, .slice d.co x.d.coins.length d.coc, .slice d.it x.d.items.length d.itc, .slice d.bo x.d.boxes.length d.boc, .int .i64 x.d.room, .int .i64 x.d.player, .int .i64 x.d.box, .slice a x.at_.length ac, .slice kk x.coins.length kc, .slice pw x.wher.length wc] 29)).alloc (.cells #[.int .i64 (plOf x.wher i).kind, .int .i64 (plOf x.wher i).id] 31)).alloc (.cells #[.int .i64 (plOf x.wher i).kind, .int .i64 (plOf x.wher i).id] 31)) from (((Below.refl _ w).alloc (Nat.le_refl _) _).alloc (by simp) _).alloc (by simp; omega) _)
    obtain ⟨b, o, hbo, hb, c0, c1⟩ := PlsAt.cells h hi
    subst hbo
    rw [← plOf_get hi] at c0 c1
    generalize plOf x.wher i = z at *
    obtain ⟨zk, zi⟩ := z
    simp only at c0 c1 hk HR
    have q : (zk != 2) = true := by simpa using hk
    clear hk h
    go_enter Try.func20, Try.ntmps20
    go_wp2_with fail
    refine bodyPost_ret (v := .agg #[.int .i64 zk, .int .i64 zi]) (by simp [results, Try.results20, go_sem]) rfl ?_
    exact ⟨by rw [HL.out], HR.out⟩
  · have HL := Lib.hid (rootI_box hu)
    obtain ⟨b, o, hbo, hb, c0, c1⟩ := PlsAt.cells h hi
    subst hbo
    rw [← plOf_get hi, he] at c0 c1
    simp only [box] at c0 c1
    have HB := Lib.hid (Below.refl w.heap.size w |>.alloc (Nat.le_refl _) (.cells #[.slice d.ex x.d.exits.length d.exc, .slice d.pl x.d.players.length d.plc, .slice d.co x.d.coins.length d.coc, .slice d.it x.d.items.length d.itc, .slice d.bo x.d.boxes.length d.boc, .int .i64 x.d.room, .int .i64 x.d.player, .int .i64 x.d.box, .slice a x.at_.length ac, .slice kk x.coins.length kc, .slice (some ⟨b, o, none⟩) x.wher.length wc] 29) |>.alloc (by simp) (.cells #[.int .i64 0, .int .i64 0] 31) |>.alloc (by simp; omega) (.cells #[.int .i64 2, .int .i64 (j : Int)] 31))
    have HK := Lib.hid ((Blk.newn (w.alloc (.cells #[.slice d.ex x.d.exits.length d.exc, .slice d.pl x.d.players.length d.plc, .slice d.co x.d.coins.length d.coc, .slice d.it x.d.items.length d.itc, .slice d.bo x.d.boxes.length d.boc, .int .i64 x.d.room, .int .i64 x.d.player, .int .i64 x.d.box, .slice a x.at_.length ac, .slice kk x.coins.length kc, .slice (some ⟨b, o, none⟩) x.wher.length wc] 29)) 31 #[.int .i64 0, .int .i64 0] (n := w.heap.size + 1) (by simp)).alloc (.cells #[.int .i64 2, .int .i64 (j : Int)] 31))
    have IH := Lib.hid ih
    have H := Lib.hid h
    obtain ⟨r, hr⟩ : ∃ r, rootI x.wher j = r := ⟨_, rfl⟩
    obtain ⟨rk, ri⟩ := r
    have HRR := Lib.hid hr
    clear ih h he hu hr
    go_enter Try.func20, Try.ntmps20
    go_wp2_with fail
    refine (IH.out _ (H.out.below HB.out (Nat.le_refl _))).mono ?_
    rintro e w1 ⟨rfl, b1⟩
    rw [HRR.out]
    have hB := HB.out.trans (b1.mono HB.out.size)
    have hK := HK.out.call b1
    have HB1 := Lib.hid hB
    have HK1 := Lib.hid hK
    have c2 := hK.cell
    have f2 := hK.frozen
    have l2 := hK.lt
    clear hB hK b1 c0 c1
    go_wp2_with fail
    have c5 := ((HK1.out.set_ 0 (.int .i64 rk)).set_ 1 (.int .i64 ri)).cell
    refine bodyPost_ret (v := .agg #[.int .i64 rk, .int .i64 ri]) (by simp [results, Try.results20, go_sem, c5]) rfl ?_
    exact ⟨by rw [HL.out, HRR.out], (HB1.out.setCell (p := ⟨w.heap.size + 1, 0, none⟩) (by show w.heap.size ≤ w.heap.size + 1; omega) _).setCell (p := ⟨w.heap.size + 1, 1, none⟩) (by show w.heap.size ≤ w.heap.size + 1; omega) _⟩
theorem refroot_any (x : Wd) (p : Wp) (hT : Tr x.wher) (i : Nat) (hi : i < x.wher.length) (w : World) (h : PlsAt w p.wh x.wher) : Calls Try.prog 20 #[.agg #[.slice p.d.ex x.d.exits.length p.d.exc, .slice p.d.pl x.d.players.length p.d.plc, .slice p.d.co x.d.coins.length p.d.coc, .slice p.d.it x.d.items.length p.d.itc, .slice p.d.bo x.d.boxes.length p.d.boc, .int .i64 x.d.room, .int .i64 x.d.player, .int .i64 x.d.box, .slice p.at_ x.at_.length p.atc, .slice p.co x.coins.length p.coc, .slice p.wh x.wher.length p.whc], .int .i64 (i : Int)] w fun e w' => e = .returned (.agg #[.int .i64 (rootI x.wher i).kind, .int .i64 (rootI x.wher i).id]) ∧ Below w.heap.size w w' :=
  refroot_go x p.d p.at_ p.co p.wh p.atc p.coc p.whc hT i hi w h
set_option maxRecDepth 100000 in
set_option maxHeartbeats 1000000 in
theorem refwithin_go (x : Wd) (d : Dp) (a kk pw : Option Addr) (ac kc wc : Nat) (hT : Tr x.wher) (j : Nat) : ∀ i : Nat, i < x.wher.length → ∀ w : World, PlsAt w pw x.wher → Calls Try.prog 26 #[.agg #[.slice d.ex x.d.exits.length d.exc, .slice d.pl x.d.players.length d.plc, .slice d.co x.d.coins.length d.coc, .slice d.it x.d.items.length d.itc, .slice d.bo x.d.boxes.length d.boc, .int .i64 x.d.room, .int .i64 x.d.player, .int .i64 x.d.box, .slice a x.at_.length ac, .slice kk x.coins.length kc, .slice pw x.wher.length wc], .int .i64 (i : Int), .int .i64 (j : Int)] w fun e w' => e = .returned (.bool (wB x.wher i j)) ∧ Below w.heap.size w w' := by
  have same : ∀ (i : Nat) (w : World), i = j → Calls Try.prog 26 #[.agg #[.slice d.ex x.d.exits.length d.exc, .slice d.pl x.d.players.length d.plc, .slice d.co x.d.coins.length d.coc, .slice d.it x.d.items.length d.itc, .slice d.bo x.d.boxes.length d.boc, .int .i64 x.d.room, .int .i64 x.d.player, .int .i64 x.d.box, .slice a x.at_.length ac, .slice kk x.coins.length kc, .slice pw x.wher.length wc], .int .i64 (i : Int), .int .i64 (j : Int)] w fun e w' => e = .returned (.bool true) ∧ Below w.heap.size w w' := by
    intro i w hij
    subst hij
    have HB := Lib.hid (Below.refl w.heap.size w |>.alloc (Nat.le_refl _) (.cells #[.slice d.ex x.d.exits.length d.exc, .slice d.pl x.d.players.length d.plc, .slice d.co x.d.coins.length d.coc, .slice d.it x.d.items.length d.itc, .slice d.bo x.d.boxes.length d.boc, .int .i64 x.d.room, .int .i64 x.d.player, .int .i64 x.d.box, .slice a x.at_.length ac, .slice kk x.coins.length kc, .slice pw x.wher.length wc] 29))
    go_enter Try.func26, Try.ntmps26
    go_wp2_with fail
    go_ret
    exact ⟨rfl, HB.out⟩
  refine hT.ind (fun i hi hk w h => ?_) (fun i k hi hk he hu ih w h => ?_)
  · by_cases hij : i = j
    · have := same i w hij
      rwa [show wB x.wher i j = true by rw [hij, wB_self]]
    rw [show wB x.wher i j = false by rw [wB_leaf j hk]; simpa using hij]
    have q0 : ((i : Int) == (j : Int)) = false := by simp; omega
    have HR := Lib.hid (show Below w.heap.size w ((w.alloc (.cells #[.slice d.ex x.d.exits.length d.exc, .slice d.pl x.d.players.length d.plc, .slice d.co x.d.coins.length d.coc, .slice d.it x.d.items.length d.itc, .slice d.bo x.d.boxes.length d.boc, .int .i64 x.d.room, .int .i64 x.d.player, .int .i64 x.d.box, .slice a x.at_.length ac, .slice kk x.coins.length kc, .slice pw x.wher.length wc] 29)).alloc (.cells #[.int .i64 (plOf x.wher i).kind, .int .i64 (plOf x.wher i).id] 31)) from (((Below.refl _ w).alloc (Nat.le_refl _) _).alloc (by simp) _))
    obtain ⟨b, o, hbo, hb, c0, c1⟩ := PlsAt.cells h hi
    subst hbo
    rw [← plOf_get hi] at c0 c1
    generalize plOf x.wher i = z at *
    obtain ⟨zk, zi⟩ := z
    simp only at c0 c1 hk HR
    have q : (zk == 2) = false := by simpa using hk
    clear hk h same hij
    go_enter Try.func26, Try.ntmps26
    go_wp2_with fail
    go_ret
    exact ⟨rfl, HR.out⟩
  · by_cases hij : i = j
    · have := same i w hij
      rwa [show wB x.wher i j = true by rw [hij, wB_self]]
    rw [show wB x.wher i j = wB x.wher k j by rw [wB_box j hu]; simp [hij]]
    have q0 : ((i : Int) == (j : Int)) = false := by simp; omega
    obtain ⟨b, o, hbo, hb, c0, c1⟩ := PlsAt.cells h hi
    subst hbo
    rw [← plOf_get hi, he] at c0 c1
    simp only [box] at c0 c1
    have HB := Lib.hid (Below.refl w.heap.size w |>.alloc (Nat.le_refl _) (.cells #[.slice d.ex x.d.exits.length d.exc, .slice d.pl x.d.players.length d.plc, .slice d.co x.d.coins.length d.coc, .slice d.it x.d.items.length d.itc, .slice d.bo x.d.boxes.length d.boc, .int .i64 x.d.room, .int .i64 x.d.player, .int .i64 x.d.box, .slice a x.at_.length ac, .slice kk x.coins.length kc, .slice (some ⟨b, o, none⟩) x.wher.length wc] 29) |>.alloc (by simp) (.cells #[.int .i64 2, .int .i64 (k : Int)] 31))
    have IH := Lib.hid ih
    have H := Lib.hid h
    obtain ⟨r, hr⟩ : ∃ r, wB x.wher k j = r := ⟨_, rfl⟩
    rw [hr]
    have HRR := Lib.hid hr
    clear ih h he hu hr same hij
    go_enter Try.func26, Try.ntmps26
    go_wp2_with fail
    refine (IH.out _ (H.out.below HB.out (Nat.le_refl _))).mono ?_
    rintro e w1 ⟨rfl, b1⟩
    rw [HRR.out]
    have HB1 := Lib.hid (HB.out.trans (b1.mono HB.out.size))
    clear b1 c0 c1
    go_wp2_with fail
    go_ret
    exact ⟨rfl, HB1.out⟩
theorem refwithin_any (x : Wd) (p : Wp) (hT : Tr x.wher) (i j : Nat) (hi : i < x.wher.length) (w : World) (h : PlsAt w p.wh x.wher) : Calls Try.prog 26 #[.agg #[.slice p.d.ex x.d.exits.length p.d.exc, .slice p.d.pl x.d.players.length p.d.plc, .slice p.d.co x.d.coins.length p.d.coc, .slice p.d.it x.d.items.length p.d.itc, .slice p.d.bo x.d.boxes.length p.d.boc, .int .i64 x.d.room, .int .i64 x.d.player, .int .i64 x.d.box, .slice p.at_ x.at_.length p.atc, .slice p.co x.coins.length p.coc, .slice p.wh x.wher.length p.whc], .int .i64 (i : Int), .int .i64 (j : Int)] w fun e w' => e = .returned (.bool (wB x.wher i j)) ∧ Below w.heap.size w w' :=
  refwithin_go x p.d p.at_ p.co p.wh p.atc p.coc p.whc hT j i hi w h
set_option maxRecDepth 100000 in
set_option maxHeartbeats 1000000 in
theorem refdepthi_go (x : Wd) (d : Dp) (a kk pw : Option Addr) (ac kc wc : Nat) (hT : Tr x.wher) (i : Nat) (hi : i < x.wher.length) (w : World) (h : PlsAt w pw x.wher) : Calls Try.prog 22 #[.agg #[.slice d.ex x.d.exits.length d.exc, .slice d.pl x.d.players.length d.plc, .slice d.co x.d.coins.length d.coc, .slice d.it x.d.items.length d.itc, .slice d.bo x.d.boxes.length d.boc, .int .i64 x.d.room, .int .i64 x.d.player, .int .i64 x.d.box, .slice a x.at_.length ac, .slice kk x.coins.length kc, .slice pw x.wher.length wc], .int .i64 (i : Int)] w fun e w' => e = .returned (.int .i64 (dep x.wher i : Nat)) ∧ Below w.heap.size w w' := by
  have HD := Lib.hid (hT.depth hi)
  have HN := Lib.hid (Holds.new w #[.slice d.ex x.d.exits.length d.exc, .slice d.pl x.d.players.length d.plc, .slice d.co x.d.coins.length d.coc, .slice d.it x.d.items.length d.itc, .slice d.bo x.d.boxes.length d.boc, .int .i64 x.d.room, .int .i64 x.d.player, .int .i64 x.d.box, .slice a x.at_.length ac, .slice kk x.coins.length kc, .slice pw x.wher.length wc] 29)
  have hzb : (plOf x.wher i).kind = 2 → 0 ≤ (plOf x.wher i).id ∧ (plOf x.wher i).id < x.wher.length := fun hk => hT.ids _ (plOf_mem hi) hk
  have HM := Lib.hid (fun W hW => depth_any x ⟨d, a, ac, kk, kc, pw, wc⟩ (plOf x.wher i) W hW hT.ids hzb)
  have HM2 := Lib.hid h
  obtain ⟨b, o, hbo, hb, c0, c1⟩ := PlsAt.cells h hi
  subst hbo
  rw [← plOf_get hi] at c0 c1
  have hbn := World.block_lt_of_cell? w _ c0
  clear h hzb hT
  generalize plOf x.wher i = z at *
  obtain ⟨zk, zi⟩ := z
  simp only at c0 c1 HM hbn
  have C0 := Lib.hid c0
  have C1 := Lib.hid c1
  go_enter Try.func22, Try.ntmps22
  go_wp2_with fail
  generalize (w.alloc (.cells #[.slice d.ex x.d.exits.length d.exc, .slice d.pl x.d.players.length d.plc, .slice d.co x.d.coins.length d.coc, .slice d.it x.d.items.length d.itc, .slice d.bo x.d.boxes.length d.boc, .int .i64 x.d.room, .int .i64 x.d.player, .int .i64 x.d.box, .slice a x.at_.length ac, .slice kk x.coins.length kc, .slice (some ⟨b, o, none⟩) x.wher.length wc] 29)) = V1 at *
  clear c0 c1
  have KS : Hid (∀ w', Below V1.heap.size V1 w' → Below V1.heap.size V1 w' ∧ (∀ i, w'.cell? ⟨w.heap.size, i, none⟩ = (#[.slice d.ex x.d.exits.length d.exc, .slice d.pl x.d.players.length d.plc, .slice d.co x.d.coins.length d.coc, .slice d.it x.d.items.length d.itc, .slice d.bo x.d.boxes.length d.boc, .int .i64 x.d.room, .int .i64 x.d.player, .int .i64 x.d.box, .slice a x.at_.length ac, .slice kk x.coins.length kc, .slice (some ⟨b, o, none⟩) x.wher.length wc][i]? : Option Value)) ∧ w'.cell? ⟨b, o + i * 2, none⟩ = some (.int .i64 zk) ∧ w'.cell? ⟨b, o + i * 2 + 1, none⟩ = some (.int .i64 zi)) := Lib.hid (fun w' hb9 => ⟨hb9, fun i => (hb9.cell (p := ⟨w.heap.size, i, none⟩) HN.out.2.1).trans (HN.out.2.2 i), ((HN.out.1.trans (hb9.mono HN.out.1.size)).cell (p := ⟨b, o + i * 2, none⟩) hbn).trans C0.out, ((HN.out.1.trans (hb9.mono HN.out.1.size)).cell (p := ⟨b, o + i * 2 + 1, none⟩) hbn).trans C1.out⟩)
  have HV := Lib.hid (HM2.out.below HN.out.1 (Nat.le_refl _))
  have hz : 0 < 1 := by omega
  refine wp_region_noPanic ?_
  refine wp_region_held_drew (S := (fun w' => Below V1.heap.size V1 w' ∧ (∀ i, w'.cell? ⟨w.heap.size, i, none⟩ = (#[.slice d.ex x.d.exits.length d.exc, .slice d.pl x.d.players.length d.plc, .slice d.co x.d.coins.length d.coc, .slice d.it x.d.items.length d.itc, .slice d.bo x.d.boxes.length d.boc, .int .i64 x.d.room, .int .i64 x.d.player, .int .i64 x.d.box, .slice a x.at_.length ac, .slice kk x.coins.length kc, .slice (some ⟨b, o, none⟩) x.wher.length wc][i]? : Option Value)) ∧ w'.cell? ⟨b, o + i * 2, none⟩ = some (.int .i64 zk) ∧ w'.cell? ⟨b, o + i * 2 + 1, none⟩ = some (.int .i64 zi))) (by kernel_rfl) (by (first | (with_reducible exact KS.out _ (bdrew1 (Below.refl _ _))) | (with_reducible exact KS.out _ (below_call hHeld.1 hHeld.1.size hb9)) | (with_reducible exact hHeld))) (fun hHeld => ?_)
  first
    | (refine wpAnyH_take (i := 0) (v := undef) (by simp only [List.getElem?_toArray, List.getElem?_cons_zero]; rfl) (by kernel_rfl) (by kernel_rfl) (by kernel_rfl) (fun _ _ _ h => h) (Or.inr ⟨by rfl, rfl⟩) (by assumption) ?_; try simp only [Act.put, List.setIfInBounds_toArray, List.set_cons_zero, List.set_cons_succ])
    | (refine wpAnyH_take (i := 0) (v := ?_) (by simp only [List.getElem?_toArray, List.getElem?_cons_zero]; rfl) (by kernel_rfl) (by kernel_rfl) (by kernel_rfl) (fun _ _ _ h => h) (Or.inl ⟨by rfl, ?_⟩) (by assumption) ?_
       rotate_left
       · (intro ww hSw; (try dsimp only at hSw); go_simp; (try with_reducible rfl))
       try simp only [Act.put, List.setIfInBounds_toArray, List.set_cons_zero, List.set_cons_succ])
    | (refine wpAnyH_ready (rs := [0]) (by kernel_rfl) (by simp) (AllReadyH.cons (by simp only [List.getElem?_toArray, List.getElem?_cons_succ, List.getElem?_cons_zero]; rfl) (fun K hK => ?_) AllReadyH.nil)
       go_simp
       first
         | (fail)
       try go_wp2_with fail
       refine hK.out _ _ (by (first | (with_reducible exact KS.out _ (bdrew1 (Below.refl _ _))) | (with_reducible exact KS.out _ (below_call hHeld.1 hHeld.1.size hb9)) | (with_reducible exact hHeld))) (fun hHeld => ?_)
       clear hK K
       try simp only [Act.put, List.setIfInBounds_toArray, List.set_cons_zero, List.set_cons_succ])
  first
    | (refine wpAnyH_take (i := 1) (v := undef) (by simp only [List.getElem?_toArray, List.getElem?_cons_succ, List.getElem?_cons_zero]; rfl) (by kernel_rfl) (by kernel_rfl) (by kernel_rfl) (fun _ _ _ h => h) (Or.inr ⟨by rfl, rfl⟩) (by assumption) ?_; try simp only [Act.put, List.setIfInBounds_toArray, List.set_cons_zero, List.set_cons_succ])
    | (refine wpAnyH_take (i := 1) (v := ?_) (by simp only [List.getElem?_toArray, List.getElem?_cons_succ, List.getElem?_cons_zero]; rfl) (by kernel_rfl) (by kernel_rfl) (by kernel_rfl) (fun _ _ _ h => h) (Or.inl ⟨by rfl, ?_⟩) (by assumption) ?_
       rotate_left
       · (intro ww hSw; (try dsimp only at hSw); go_simp; (try with_reducible rfl))
       try simp only [Act.put, List.setIfInBounds_toArray, List.set_cons_zero, List.set_cons_succ])
    | (refine wpAnyH_ready (rs := [1]) (by kernel_rfl) (by simp) (AllReadyH.cons (by simp only [List.getElem?_toArray, List.getElem?_cons_succ, List.getElem?_cons_zero]; rfl) (fun K hK => ?_) AllReadyH.nil)
       go_simp
       first
         | (fail)
       try go_wp2_with fail
       refine hK.out _ _ (by (first | (with_reducible exact KS.out _ (bdrew1 (Below.refl _ _))) | (with_reducible exact KS.out _ (below_call hHeld.1 hHeld.1.size hb9)) | (with_reducible exact hHeld))) (fun hHeld => ?_)
       clear hK K
       try simp only [Act.put, List.setIfInBounds_toArray, List.set_cons_zero, List.set_cons_succ])
  first
    | (refine wpAnyH_take (i := 2) (v := undef) (by simp only [List.getElem?_toArray, List.getElem?_cons_succ, List.getElem?_cons_zero]; rfl) (by kernel_rfl) (by kernel_rfl) (by kernel_rfl) (fun _ _ _ h => h) (Or.inr ⟨by rfl, rfl⟩) (by assumption) ?_; try simp only [Act.put, List.setIfInBounds_toArray, List.set_cons_zero, List.set_cons_succ])
    | (refine wpAnyH_take (i := 2) (v := ?_) (by simp only [List.getElem?_toArray, List.getElem?_cons_succ, List.getElem?_cons_zero]; rfl) (by kernel_rfl) (by kernel_rfl) (by kernel_rfl) (fun _ _ _ h => h) (Or.inl ⟨by rfl, ?_⟩) (by assumption) ?_
       rotate_left
       · (intro ww hSw; (try dsimp only at hSw); go_simp; (try with_reducible rfl))
       try simp only [Act.put, List.setIfInBounds_toArray, List.set_cons_zero, List.set_cons_succ])
    | (refine wpAnyH_ready (rs := [2]) (by kernel_rfl) (by simp) (AllReadyH.cons (by simp only [List.getElem?_toArray, List.getElem?_cons_succ, List.getElem?_cons_zero]; rfl) (fun K hK => ?_) AllReadyH.nil)
       go_simp
       first
         | (fail)
       try go_wp2_with fail
       refine hK.out _ _ (by (first | (with_reducible exact KS.out _ (bdrew1 (Below.refl _ _))) | (with_reducible exact KS.out _ (below_call hHeld.1 hHeld.1.size hb9)) | (with_reducible exact hHeld))) (fun hHeld => ?_)
       clear hK K
       try simp only [Act.put, List.setIfInBounds_toArray, List.set_cons_zero, List.set_cons_succ])
  first
    | (refine wpAnyH_take (i := 3) (v := undef) (by simp only [List.getElem?_toArray, List.getElem?_cons_succ, List.getElem?_cons_zero]; rfl) (by kernel_rfl) (by kernel_rfl) (by kernel_rfl) (fun _ _ _ h => h) (Or.inr ⟨by rfl, rfl⟩) (by assumption) ?_; try simp only [Act.put, List.setIfInBounds_toArray, List.set_cons_zero, List.set_cons_succ])
    | (refine wpAnyH_take (i := 3) (v := ?_) (by simp only [List.getElem?_toArray, List.getElem?_cons_succ, List.getElem?_cons_zero]; rfl) (by kernel_rfl) (by kernel_rfl) (by kernel_rfl) (fun _ _ _ h => h) (Or.inl ⟨by rfl, ?_⟩) (by assumption) ?_
       rotate_left
       · (intro ww hSw; (try dsimp only at hSw); go_simp; (try with_reducible rfl))
       try simp only [Act.put, List.setIfInBounds_toArray, List.set_cons_zero, List.set_cons_succ])
    | (refine wpAnyH_ready (rs := [3]) (by kernel_rfl) (by simp) (AllReadyH.cons (by simp only [List.getElem?_toArray, List.getElem?_cons_succ, List.getElem?_cons_zero]; rfl) (fun K hK => ?_) AllReadyH.nil)
       go_simp
       first
         | (fail)
       try go_wp2_with fail
       refine hK.out _ _ (by (first | (with_reducible exact KS.out _ (bdrew1 (Below.refl _ _))) | (with_reducible exact KS.out _ (below_call hHeld.1 hHeld.1.size hb9)) | (with_reducible exact hHeld))) (fun hHeld => ?_)
       clear hK K
       try simp only [Act.put, List.setIfInBounds_toArray, List.set_cons_zero, List.set_cons_succ])
  first
    | (refine wpAnyH_take (i := 4) (v := undef) (by simp only [List.getElem?_toArray, List.getElem?_cons_succ, List.getElem?_cons_zero]; rfl) (by kernel_rfl) (by kernel_rfl) (by kernel_rfl) (fun _ _ _ h => h) (Or.inr ⟨by rfl, rfl⟩) (by assumption) ?_; try simp only [Act.put, List.setIfInBounds_toArray, List.set_cons_zero, List.set_cons_succ])
    | (refine wpAnyH_take (i := 4) (v := ?_) (by simp only [List.getElem?_toArray, List.getElem?_cons_succ, List.getElem?_cons_zero]; rfl) (by kernel_rfl) (by kernel_rfl) (by kernel_rfl) (fun _ _ _ h => h) (Or.inl ⟨by rfl, ?_⟩) (by assumption) ?_
       rotate_left
       · (intro ww hSw; (try dsimp only at hSw); go_simp; (try with_reducible rfl))
       try simp only [Act.put, List.setIfInBounds_toArray, List.set_cons_zero, List.set_cons_succ])
    | (refine wpAnyH_ready (rs := [4]) (by kernel_rfl) (by simp) (AllReadyH.cons (by simp only [List.getElem?_toArray, List.getElem?_cons_succ, List.getElem?_cons_zero]; rfl) (fun K hK => ?_) AllReadyH.nil)
       go_simp
       first
         | (fail)
       try go_wp2_with fail
       refine hK.out _ _ (by (first | (with_reducible exact KS.out _ (bdrew1 (Below.refl _ _))) | (with_reducible exact KS.out _ (below_call hHeld.1 hHeld.1.size hb9)) | (with_reducible exact hHeld))) (fun hHeld => ?_)
       clear hK K
       try simp only [Act.put, List.setIfInBounds_toArray, List.set_cons_zero, List.set_cons_succ])
  first
    | (refine wpAnyH_take (i := 5) (v := undef) (by simp only [List.getElem?_toArray, List.getElem?_cons_succ, List.getElem?_cons_zero]; rfl) (by kernel_rfl) (by kernel_rfl) (by kernel_rfl) (fun _ _ _ h => h) (Or.inr ⟨by rfl, rfl⟩) (by assumption) ?_; try simp only [Act.put, List.setIfInBounds_toArray, List.set_cons_zero, List.set_cons_succ])
    | (refine wpAnyH_take (i := 5) (v := ?_) (by simp only [List.getElem?_toArray, List.getElem?_cons_succ, List.getElem?_cons_zero]; rfl) (by kernel_rfl) (by kernel_rfl) (by kernel_rfl) (fun _ _ _ h => h) (Or.inl ⟨by rfl, ?_⟩) (by assumption) ?_
       rotate_left
       · (intro ww hSw; (try dsimp only at hSw); go_simp; (try with_reducible rfl))
       try simp only [Act.put, List.setIfInBounds_toArray, List.set_cons_zero, List.set_cons_succ])
    | (refine wpAnyH_ready (rs := [5]) (by kernel_rfl) (by simp) (AllReadyH.cons (by simp only [List.getElem?_toArray, List.getElem?_cons_succ, List.getElem?_cons_zero]; rfl) (fun K hK => ?_) AllReadyH.nil)
       go_simp
       first
         | (fail)
       try go_wp2_with fail
       refine hK.out _ _ (by (first | (with_reducible exact KS.out _ (bdrew1 (Below.refl _ _))) | (with_reducible exact KS.out _ (below_call hHeld.1 hHeld.1.size hb9)) | (with_reducible exact hHeld))) (fun hHeld => ?_)
       clear hK K
       try simp only [Act.put, List.setIfInBounds_toArray, List.set_cons_zero, List.set_cons_succ])
  refine wpAnyH_ready (rs := [6]) (by kernel_rfl) (by simp) (AllReadyH.cons (by simp only [List.getElem?_toArray, List.getElem?_cons_succ, List.getElem?_cons_zero]; rfl) (fun K hK => ?_) AllReadyH.nil)
  go_simp; refine (HM.out _ (HV.out.below hHeld.1 (Nat.le_refl _))).mono ?_; rintro e w9 ⟨rfl, hb9⟩; rw [HD.out]; try go_wp2_with fail
  refine hK.out _ _ (by (first | (with_reducible exact KS.out _ (bdrew1 (Below.refl _ _))) | (with_reducible exact KS.out _ (below_call hHeld.1 hHeld.1.size hb9)) | (with_reducible exact hHeld))) (fun hHeld => ?_)
  clear hK K
  try simp only [Act.put, List.setIfInBounds_toArray, List.set_cons_zero, List.set_cons_succ]
  first
    | (refine wpAnyH_take (i := 7) (v := undef) (by simp only [List.getElem?_toArray, List.getElem?_cons_succ, List.getElem?_cons_zero]; rfl) (by kernel_rfl) (by kernel_rfl) (by kernel_rfl) (fun _ _ _ h => h) (Or.inr ⟨by rfl, rfl⟩) (by assumption) ?_; try simp only [Act.put, List.setIfInBounds_toArray, List.set_cons_zero, List.set_cons_succ])
    | (refine wpAnyH_take (i := 7) (v := ?_) (by simp only [List.getElem?_toArray, List.getElem?_cons_succ, List.getElem?_cons_zero]; rfl) (by kernel_rfl) (by kernel_rfl) (by kernel_rfl) (fun _ _ _ h => h) (Or.inl ⟨by rfl, ?_⟩) (by assumption) ?_
       rotate_left
       · (intro ww hSw; (try dsimp only at hSw); go_simp; (try with_reducible rfl))
       try simp only [Act.put, List.setIfInBounds_toArray, List.set_cons_zero, List.set_cons_succ])
    | (refine wpAnyH_ready (rs := [7]) (by kernel_rfl) (by simp) (AllReadyH.cons (by simp only [List.getElem?_toArray, List.getElem?_cons_succ, List.getElem?_cons_zero]; rfl) (fun K hK => ?_) AllReadyH.nil)
       go_simp
       first
         | (fail)
       try go_wp2_with fail
       refine hK.out _ _ (by (first | (with_reducible exact KS.out _ (bdrew1 (Below.refl _ _))) | (with_reducible exact KS.out _ (below_call hHeld.1 hHeld.1.size hb9)) | (with_reducible exact hHeld))) (fun hHeld => ?_)
       clear hK K
       try simp only [Act.put, List.setIfInBounds_toArray, List.set_cons_zero, List.set_cons_succ])
  refine wpAnyH_done (by kernel_rfl) ?_ _
  refine NoPanic.normal ?_
  have HE := Lib.hid hHeld.1
  clear hHeld
  go_wp2_with fail
  go_ret
  exact ⟨rfl, below_call HN.out.1 HN.out.1.size HE.out⟩
theorem refdepthi_any (x : Wd) (p : Wp) (hT : Tr x.wher) (i : Nat) (hi : i < x.wher.length) (w : World) (h : PlsAt w p.wh x.wher) : Calls Try.prog 22 #[.agg #[.slice p.d.ex x.d.exits.length p.d.exc, .slice p.d.pl x.d.players.length p.d.plc, .slice p.d.co x.d.coins.length p.d.coc, .slice p.d.it x.d.items.length p.d.itc, .slice p.d.bo x.d.boxes.length p.d.boc, .int .i64 x.d.room, .int .i64 x.d.player, .int .i64 x.d.box, .slice p.at_ x.at_.length p.atc, .slice p.co x.coins.length p.coc, .slice p.wh x.wher.length p.whc], .int .i64 (i : Int)] w fun e w' => e = .returned (.int .i64 (dep x.wher i : Nat)) ∧ Below w.heap.size w w' :=
  refdepthi_go x p.d p.at_ p.co p.wh p.atc p.coc p.whc hT i hi w h
end Go.Proofs.Ytameelaiigljjaa
