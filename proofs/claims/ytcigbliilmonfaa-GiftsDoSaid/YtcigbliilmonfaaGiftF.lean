/- The document's own Trade. -/
import Derived.Test.YtcigbliilmonfaaRows
import Derived.Test.YtcigbliilmonfaaKit
import Derived.Test.YtcigbliilmonfaaGMem
import Derived.Test.YtcigbliilmonfaaCoin
import Derived.Test.YtcigbliilmonfaaCoinB
import Derived.Test.YtcigbliilmonfaaGWorld
import Derived.Test.YtcigbliilmonfaaDescMay
import Derived.Test.YtcigbliilmonfaaGDescN
import Derived.Test.YtcigbliilmonfaaGRight
import Derived.Test.YtcigbliilmonfaaGCopy
import Derived.Test.YtcigbliilmonfaaGRefD
import Derived.Test.YtcigbliilmonfaaGEq
import Derived.Test.YtcigbliilmonfaaGAs
import Derived.Test.YtcigbliilmonfaaGNew
import Derived.Test.YtcigbliilmonfaaGTreeL
import Derived.Test.YtcigbliilmonfaaGHoldA
import Derived.Test.YtcigbliilmonfaaHoldD
import Derived.Test.YtcigbliilmonfaaHoldE
import Derived.Test.YtcigbliilmonfaaGiftMath
import Derived.Test.YtcigbliilmonfaaGiftMath2
import Derived.Test.YtcigbliilmonfaaGiftF0
import Derived.Deep.Cut
import Derived.Deep.QuietTactic
import Derived.BigQuiet
import Derived.Deep.RegionHeld3
import Derived.WalkKit
import Derived.ProofKit
import Derived.OpenShut
import Derived.IntWalk
namespace Go.Proofs.Ytcigbliilmonfaa
open Go.ChangeShapes Go.WideShapes Go.ChangeAt Go.RowKit
set_option linter.unusedVariables false
open Go.RowKit
theorem ret_n13 {v : Value} {a b : Int} (h : b = a) : Ending.returned (.tuple #[v, .int .i64 a]) = .returned (.tuple #[v, .int .i64 b]) := by rw [h]
theorem tri_Sr {t u s : TypeId} {w v : World} {cs ds z : Array Value} (h : Tri t u s w v cs ds z) : Below w.heap.size w v ∧ (∀ j, v.cell? ⟨w.heap.size, j, none⟩ = (cs[j]? : Option Value)) ∧ (∀ j, v.cell? ⟨w.heap.size + 1, j, none⟩ = (ds[j]? : Option Value)) := ⟨h.b, h.a.cell, h.m.cell⟩
theorem Tri.drew2 {t u s : TypeId} {w v : World} {cs ds z : Array Value} (h : Tri t u s w v cs ds z) : Tri t u s w v.drew cs ds z := h.call (bdrew1 (Below.refl _ _))
theorem trN_shape (x : Wd) (i q : Nat) (gs ws : List Nat) : Shape x (trN x i q gs ws) := ⟨rfl, rfl, rfl, rfl, rfl, rfl, rfl, rfl, rfl, rfl, by simp [trN, trP_len]⟩
theorem WhOwn.pls {n : Nat} {W : World} {p : Dp} {q : Wp} {x : Wd} (h : WhOwn n W p q x) : PlsAt W q.wh x.wher := by
  obtain ⟨_, m1, m2, _, _, _, _, _, _, hw⟩ := h
  exact hw.row
theorem Tri.gfar {t u s : TypeId} {w v : World} {cs ds z : Array Value} (h : Tri t u s w v cs ds z) {g : Nat} (hg : w.heap.size + 3 ≤ g) (i : Nat) (y : Value) : Tri t u s w (v.setCell ⟨g, i, none⟩ y) cs ds z :=
  ⟨h.a.far (by show w.heap.size ≠ g; omega) y, h.m.far (by show w.heap.size + 1 ≠ g; omega) y, h.r.far (by show w.heap.size + 2 ≠ g; omega) y, h.b.setCell (by show w.heap.size ≤ g; omega) y⟩
theorem rcoin_at {x : Wd} (hx : rightW x = true) {i : Nat} (hi : i < x.at_.length) : ∃ h : i < x.coins.length, x.coins[i] = coinOf x i ∧ 0 ≤ coinOf x i ∧ coinOf x i ≤ 1073741824 := by
  have h : i < x.coins.length := by rw [(right_lens hx).2.2.1]; exact hi
  have e : x.coins[i] = coinOf x i := by simp [coinOf, List.getD, List.getElem?_eq_getElem h]
  refine ⟨h, e, ?_⟩
  rw [← e]
  exact (right_in hx).2.1 _ (List.getElem_mem h)
def cellsAB (a b : Nat) (A B : Array Value) (W : World) : Prop := (∀ j, W.cell? ⟨a, j, none⟩ = (A[j]? : Option Value)) ∧ (∀ j, W.cell? ⟨b, j, none⟩ = (B[j]? : Option Value))
set_option maxRecDepth 100000 in
set_option maxHeartbeats 4000000 in
theorem reftrade_go (x : Wd) (pd : Dp) (ab ao pac kb ko pkc : Nat) (pw : Option Addr) (pwc : Nat) (i : Nat) (kd di it bx who pay fee : Int) (gl wl : List Int) (ga wa : Option Addr) (gc wc : Nat) (w : World) (hx : rightW x = true) (h : WorldAt w ⟨pd, some ⟨ab, ao, none⟩, pac, some ⟨kb, ko, none⟩, pkc, pw, pwc⟩ x) (hi : i < x.at_.length) (hg : IntsAt w ga gl) (hw : IntsAt w wa wl) (hgl : gl.length ≤ 16) (hwl : wl.length ≤ 16)
    (hat : ∀ j (hj : j < x.at_.length), w.cell? ⟨ab, ao + j, none⟩ = some (.int .i64 (roomOf x j : Int))) (hco : ∀ j (hj : j < x.at_.length), w.cell? ⟨kb, ko + j, none⟩ = some (.int .i64 (coinOf x j))) (R : Wd × Int) (hR : R = tradeW x i who gl wl pay fee) :
    Calls Try.prog 14 #[.agg #[.slice pd.ex x.d.exits.length pd.exc, .slice pd.pl x.d.players.length pd.plc, .slice pd.co x.d.coins.length pd.coc, .slice pd.it x.d.items.length pd.itc, .slice pd.bo x.d.boxes.length pd.boc, .int .i64 x.d.room, .int .i64 x.d.player, .int .i64 x.d.box, .slice (some ⟨ab, ao, none⟩) x.at_.length pac, .slice (some ⟨kb, ko, none⟩) x.coins.length pkc, .slice pw x.wher.length pwc], .int .i64 (i : Int), .agg #[.int .i64 kd, .int .i64 di, .int .i64 it, .int .i64 bx, .int .i64 who, .slice ga gl.length gc, .int .i64 pay, .slice wa wl.length wc, .int .i64 fee]] w fun e w' => ∃ p' : Wp, e = .returned (.tuple #[.agg #[.slice p'.d.ex x.d.exits.length p'.d.exc, .slice p'.d.pl x.d.players.length p'.d.plc, .slice p'.d.co x.d.coins.length p'.d.coc, .slice p'.d.it x.d.items.length p'.d.itc, .slice p'.d.bo x.d.boxes.length p'.d.boc, .int .i64 x.d.room, .int .i64 x.d.player, .int .i64 x.d.box, .slice p'.at_ x.at_.length p'.atc, .slice p'.co x.coins.length p'.coc, .slice p'.wh x.wher.length p'.whc], .int .i64 R.2]) ∧ RTook w.heap.size w' ⟨pd, some ⟨ab, ao, none⟩, pac, some ⟨kb, ko, none⟩, pkc, pw, pwc⟩ p' x R ∧ Below w.heap.size w w' := by
  have C0 := Lib.hid (Tri.start 29 31 29 w #[.slice pd.ex x.d.exits.length pd.exc, .slice pd.pl x.d.players.length pd.plc, .slice pd.co x.d.coins.length pd.coc, .slice pd.it x.d.items.length pd.itc, .slice pd.bo x.d.boxes.length pd.boc, .int .i64 x.d.room, .int .i64 x.d.player, .int .i64 x.d.box, .slice (some ⟨ab, ao, none⟩) x.at_.length pac, .slice (some ⟨kb, ko, none⟩) x.coins.length pkc, .slice pw x.wher.length pwc] #[.int .i64 kd, .int .i64 di, .int .i64 it, .int .i64 bx, .int .i64 who, .slice ga gl.length gc, .int .i64 pay, .slice wa wl.length wc, .int .i64 fee] #[.slice none 0 0, .slice none 0 0, .slice none 0 0, .slice none 0 0, .slice none 0 0, .int .i64 0, .int .i64 0, .int .i64 0, .slice none 0 0, .slice none 0 0, .slice none 0 0])
  have H := Lib.hid h
  have HX := Lib.hid hx
  have HG := Lib.hid hg
  have HW := Lib.hid hw
  have HGL := Lib.hid hgl
  have HWL := Lib.hid hwl
  have HAT := Lib.hid hat
  have HCO := Lib.hid hco
  have HR := Lib.hid hR
  have HI := Lib.hid hi
  clear h hx hg hw hgl hwl hat hco hR hi
  go_enter Try.func14, Try.ntmps14
  go_wp2_with fail
  generalize hw0 : (((w.alloc (.cells #[.slice pd.ex x.d.exits.length pd.exc, .slice pd.pl x.d.players.length pd.plc, .slice pd.co x.d.coins.length pd.coc, .slice pd.it x.d.items.length pd.itc, .slice pd.bo x.d.boxes.length pd.boc, .int .i64 x.d.room, .int .i64 x.d.player, .int .i64 x.d.box, .slice (some ⟨ab, ao, none⟩) x.at_.length pac, .slice (some ⟨kb, ko, none⟩) x.coins.length pkc, .slice pw x.wher.length pwc] 29)).alloc (.cells #[.int .i64 kd, .int .i64 di, .int .i64 it, .int .i64 bx, .int .i64 who, .slice ga gl.length gc, .int .i64 pay, .slice wa wl.length wc, .int .i64 fee] 31)).alloc (.cells #[.slice none 0 0, .slice none 0 0, .slice none 0 0, .slice none 0 0, .slice none 0 0, .int .i64 0, .int .i64 0, .int .i64 0, .slice none 0 0, .slice none 0 0, .slice none 0 0] 29)) = W0 at *
  clear hw0
  have C0 := Lib.hid C0.out.drew2
  obtain ⟨v1, W1, g, lc, W2, hr1, hr2, hb1, hb2, hli, hgm⟩ := append_both (W := W0.drew) (ca := gc) (cb := wc) rfl (HG.out.below C0.out.b (Nat.le_refl _)) (HW.out.below C0.out.b (Nat.le_refl _)) (by have := HGL.out; omega) (by have := HWL.out; omega)
  generalize hM : (gl ++ wl).length = M at *
  have HM := Lib.hid hM
  have hM32 : M ≤ 32 := by rw [← hM, List.length_append]; have := HGL.out; have := HWL.out; omega
  clear hM
  have HR1 := Lib.hid hr1
  have HR2 := Lib.hid hr2
  have CA := Lib.hid (C0.out.call ((Below.refl W0.drew.heap.size W0.drew).alloc (Nat.le_refl _) (.cells #[] 3)))
  have C1 := Lib.hid (C0.out.call hb1)
  have C2 := Lib.hid (C0.out.call hb2)
  have HLI := Lib.hid hli
  have hw3 := C0.out.size
  have HGM := Lib.hid (fun (r : Addr) (hr : g = some r) => (show w.heap.size + 3 ≤ r.block from Nat.le_trans C0.out.size (hgm r hr)))
  clear hr1 hr2 hb1 hb2 hli hgm hw3
  refine wp_region_noPanic ?_
  refine wp_region_held_drew (S := (fun w' => Below w.heap.size w w' ∧ (∀ j, w'.cell? ⟨w.heap.size, j, none⟩ = (#[.slice pd.ex x.d.exits.length pd.exc, .slice pd.pl x.d.players.length pd.plc, .slice pd.co x.d.coins.length pd.coc, .slice pd.it x.d.items.length pd.itc, .slice pd.bo x.d.boxes.length pd.boc, .int .i64 x.d.room, .int .i64 x.d.player, .int .i64 x.d.box, .slice (some ⟨ab, ao, none⟩) x.at_.length pac, .slice (some ⟨kb, ko, none⟩) x.coins.length pkc, .slice pw x.wher.length pwc][j]? : Option Value)) ∧ (∀ j, w'.cell? ⟨w.heap.size + 1, j, none⟩ = (#[.int .i64 kd, .int .i64 di, .int .i64 it, .int .i64 bx, .int .i64 who, .slice ga gl.length gc, .int .i64 pay, .slice wa wl.length wc, .int .i64 fee][j]? : Option Value)))) (by kernel_rfl) (by (first | (with_reducible exact tri_Sr C0.out))) (fun hHeld => ?_)
  refine wpAnyH_take (i := 1) (v := ?_) (by simp only [List.getElem?_toArray, List.getElem?_cons_succ, List.getElem?_cons_zero]; rfl) (by kernel_rfl) (by kernel_rfl) (by kernel_rfl) (fun _ _ _ h => h) (Or.inl ⟨by rfl, ?_⟩) (by assumption) ?_
  rotate_left
  · (intro ww hSw; (try dsimp only at hSw); go_simp; (try with_reducible rfl))
  try simp only [Act.put, List.setIfInBounds_toArray, List.set_cons_zero, List.set_cons_succ]
  refine wpAnyH_take (i := 2) (v := ?_) (by simp only [List.getElem?_toArray, List.getElem?_cons_succ, List.getElem?_cons_zero]; rfl) (by kernel_rfl) (by kernel_rfl) (by kernel_rfl) (fun _ _ _ h => h) (Or.inl ⟨by rfl, ?_⟩) (by assumption) ?_
  rotate_left
  · (intro ww hSw; (try dsimp only at hSw); go_simp; (try with_reducible rfl))
  try simp only [Act.put, List.setIfInBounds_toArray, List.set_cons_zero, List.set_cons_succ]
  refine wpAnyH_take (i := 4) (v := ?_) (by simp only [List.getElem?_toArray, List.getElem?_cons_succ, List.getElem?_cons_zero]; rfl) (by kernel_rfl) (by kernel_rfl) (by kernel_rfl) (fun _ _ _ h => h) (Or.inl ⟨by rfl, ?_⟩) (by assumption) ?_
  rotate_left
  · (intro ww hSw; (try dsimp only at hSw); go_simp; (try with_reducible rfl))
  try simp only [Act.put, List.setIfInBounds_toArray, List.set_cons_zero, List.set_cons_succ]
  refine wpAnyH_take (i := 5) (v := ?_) (by simp only [List.getElem?_toArray, List.getElem?_cons_succ, List.getElem?_cons_zero]; rfl) (by kernel_rfl) (by kernel_rfl) (by kernel_rfl) (fun _ _ _ h => h) (Or.inl ⟨by rfl, ?_⟩) (by assumption) ?_
  rotate_left
  · (intro ww hSw; (try dsimp only at hSw); go_simp; (try with_reducible rfl))
  try simp only [Act.put, List.setIfInBounds_toArray, List.set_cons_zero, List.set_cons_succ]
  refine wpAnyH_ready (rs := [0]) (by kernel_rfl) (by simp) (AllReadyH.cons (by simp only [List.getElem?_toArray, List.getElem?_cons_zero]; rfl) (fun K hK => ?_) AllReadyH.nil)
  go_simp
  try go_wp2_with fail
  refine hK.out _ _ (by (first | (with_reducible exact tri_Sr CA.out))) (fun hHeld => ?_)
  clear hK K
  try simp only [Act.put, List.setIfInBounds_toArray, List.set_cons_zero, List.set_cons_succ]
  refine wpAnyH_ready (rs := [3]) (by kernel_rfl) (by simp) (AllReadyH.cons (by simp only [List.getElem?_toArray, List.getElem?_cons_succ, List.getElem?_cons_zero]; rfl) (fun K hK => ?_) AllReadyH.nil)
  refine gstep_append rfl (.tmp 22) (.tmp 24) 23 rfl _ _ v1 W1 rfl rfl HR1.out ?_
  refine hK.out _ _ (by (first | (with_reducible exact tri_Sr C1.out))) (fun hHeld => ?_)
  clear hK K
  try simp only [Act.put, List.setIfInBounds_toArray, List.set_cons_zero, List.set_cons_succ]
  refine wpAnyH_ready (rs := [6]) (by kernel_rfl) (by simp) (AllReadyH.cons (by simp only [List.getElem?_toArray, List.getElem?_cons_succ, List.getElem?_cons_zero]; rfl) (fun K hK => ?_) AllReadyH.nil)
  refine gstep_append rfl (.tmp 25) (.tmp 27) 23 rfl _ _ _ W2 rfl rfl HR2.out ?_
  refine hK.out _ _ (by (first | (with_reducible exact tri_Sr C2.out))) (fun hHeld => ?_)
  clear hK K
  try simp only [Act.put, List.setIfInBounds_toArray, List.set_cons_zero, List.set_cons_succ]
  refine wpAnyH_take (i := 7) (v := ?_) (by simp only [List.getElem?_toArray, List.getElem?_cons_succ, List.getElem?_cons_zero]; rfl) (by kernel_rfl) (by kernel_rfl) (by kernel_rfl) (fun _ _ _ h => h) (Or.inl ⟨by rfl, ?_⟩) (by assumption) ?_
  rotate_left
  · (intro ww hSw; (try dsimp only at hSw); go_simp; (try with_reducible rfl))
  try simp only [Act.put, List.setIfInBounds_toArray, List.set_cons_zero, List.set_cons_succ]
  refine wpAnyH_done (by kernel_rfl) ?_ _
  refine NoPanic.normal ?_
  clear hHeld HR1 HR2 CA C1 C0
  have hca := C2.out.a.cell
  have hla := C2.out.a.lt
  by_cases hq0 : inB who x.at_.length = false
  · by_cases hq1 : who < 0
    ·
      have HRv := Lib.hid (show R = (x, 3) by rw [HR.out]; unfold tradeW; rw [if_pos hq0])
      clear hca hla
      have hca := C2.out.a.cell
      have hla := C2.out.a.lt
      have hcr : ∀ i, World.cell? _ ⟨w.heap.size + 1 + 1, i, none⟩ = _ := C2.out.r.cell
      have hzr : ∀ i, World.frozen? _ ⟨w.heap.size + 1 + 1, i, none⟩ = false := C2.out.r.frozen
      have hlr : w.heap.size + 1 + 1 < _ := C2.out.r.lt
      go_wp2_with fail
      refine bodyPost_ret (v := .tuple #[.agg #[.slice pd.ex x.d.exits.length pd.exc, .slice pd.pl x.d.players.length pd.plc, .slice pd.co x.d.coins.length pd.coc, .slice pd.it x.d.items.length pd.itc, .slice pd.bo x.d.boxes.length pd.boc, .int .i64 x.d.room, .int .i64 x.d.player, .int .i64 x.d.box, .slice (some ⟨ab, ao, none⟩) x.at_.length pac, .slice (some ⟨kb, ko, none⟩) x.coins.length pkc, .slice pw x.wher.length pwc], .int .i64 3]) (by simp [results, Try.results14, go_sem, hcr]) rfl ⟨⟨pd, some ⟨ab, ao, none⟩, pac, some ⟨kb, ko, none⟩, pkc, pw, pwc⟩, ret_n13 (by rw [HRv.out]), .inl (by rw [HRv.out]; exact ⟨by simp, rfl, rfl⟩), ?_⟩
      iterate 11 refine Below.setCell ?_ (by show w.heap.size ≤ w.heap.size + 2; omega) _
      exact C2.out.b
    · have hq2 : (x.at_.length : Int) ≤ who := by
        rw [Bool.eq_false_iff] at hq0
        apply Decidable.byContradiction; intro hc
        exact hq0 ((inB_iff _ _).2 (by omega))
      have HRv := Lib.hid (show R = (x, 3) by rw [HR.out]; unfold tradeW; rw [if_pos hq0])
      clear hca hla
      have hca := C2.out.a.cell
      have hla := C2.out.a.lt
      have hcr : ∀ i, World.cell? _ ⟨w.heap.size + 1 + 1, i, none⟩ = _ := C2.out.r.cell
      have hzr : ∀ i, World.frozen? _ ⟨w.heap.size + 1 + 1, i, none⟩ = false := C2.out.r.frozen
      have hlr : w.heap.size + 1 + 1 < _ := C2.out.r.lt
      go_wp2_with fail
      refine bodyPost_ret (v := .tuple #[.agg #[.slice pd.ex x.d.exits.length pd.exc, .slice pd.pl x.d.players.length pd.plc, .slice pd.co x.d.coins.length pd.coc, .slice pd.it x.d.items.length pd.itc, .slice pd.bo x.d.boxes.length pd.boc, .int .i64 x.d.room, .int .i64 x.d.player, .int .i64 x.d.box, .slice (some ⟨ab, ao, none⟩) x.at_.length pac, .slice (some ⟨kb, ko, none⟩) x.coins.length pkc, .slice pw x.wher.length pwc], .int .i64 3]) (by simp [results, Try.results14, go_sem, hcr]) rfl ⟨⟨pd, some ⟨ab, ao, none⟩, pac, some ⟨kb, ko, none⟩, pkc, pw, pwc⟩, ret_n13 (by rw [HRv.out]), .inl (by rw [HRv.out]; exact ⟨by simp, rfl, rfl⟩), ?_⟩
      iterate 11 refine Below.setCell ?_ (by show w.heap.size ≤ w.heap.size + 2; omega) _
      exact C2.out.b
  obtain ⟨q, rfl, hql⟩ : ∃ q : Nat, who = (q : Int) ∧ q < x.at_.length := ⟨who.toNat, by rw [Bool.not_eq_false, inB_iff] at hq0; omega, by rw [Bool.not_eq_false, inB_iff] at hq0; omega⟩
  have HQ0 := Lib.hid hq0
  have HQ := Lib.hid hql
  have hq1 : ¬ (q : Int) < 0 := by omega
  have hq2 : ¬ (x.at_.length : Int) ≤ (q : Int) := by omega
  have hq3 : (x.at_.length ≤ q) = False := by simp; omega
  clear hq0
  go_wp2_with fail
  clear hca hla hq1 hq2 hq3
  go_loopw [10] (fun v wr => ∃ j : Nat, j ≤ M ∧ v = .int .i64 j ∧ ((gl ++ wl).take j).all (fun k => inB k x.wher.length) = true ∧ Below W2.heap.size W2 wr) (fun v _ => M - (intOf v).toNat)
  case atStart => exact ⟨0, Nat.zero_le _, rfl, rfl, Below.refl _ _⟩
  case round =>
    obtain ⟨j, hj, rfl, htk, hB⟩ := hrel
    have HT := Lib.hid htk
    have HB := Lib.hid hB
    have C3 := Lib.hid (C2.out.call hB)
    clear htk
    by_cases hlt : j < M
    · have hlt2 : j < (gl ++ wl).length := by rw [HM.out]; exact hlt
      have HF := Lib.hid (all_take_succ (fun k => inB k x.wher.length) hlt2 HT.out)
      have HN := Lib.hid (all_not (fun k => inB k x.wher.length) hlt2)
      obtain ⟨b0, o0, rfl, hb0, hc0⟩ := HLI.out.at_ hlt2
      have cI := cell_call (hc0 j hlt2) hB
      generalize (gl ++ wl)[j] = y at *
      have hc1 := C3.out.a.cell
      have hl1 := C3.out.a.lt
      clear hc0 hB hlt2
      by_cases hy0 : y < 0
      ·
        go_wp2_with fail
        refine wp_region_noPanic ?_
        refine wp_region_held_drew (S := (fun w' => (∀ i, w'.cell? ⟨w.heap.size, i, none⟩ = (#[.slice pd.ex x.d.exits.length pd.exc, .slice pd.pl x.d.players.length pd.plc, .slice pd.co x.d.coins.length pd.coc, .slice pd.it x.d.items.length pd.itc, .slice pd.bo x.d.boxes.length pd.boc, .int .i64 x.d.room, .int .i64 x.d.player, .int .i64 x.d.box, .slice (some ⟨ab, ao, none⟩) x.at_.length pac, .slice (some ⟨kb, ko, none⟩) x.coins.length pkc, .slice pw x.wher.length pwc][i]? : Option Value)) ∧ w'.cell? ⟨b0, o0 + j, none⟩ = some (.int .i64 y))) (by kernel_rfl) (by (first | (exact ⟨hc1, cI⟩))) (fun hHeld => ?_)
        refine wpAnyH_take (i := 0) (v := ?_) (by simp only [List.getElem?_toArray, List.getElem?_cons_zero]; rfl) (by kernel_rfl) (by kernel_rfl) (by kernel_rfl) (fun _ _ _ h => h) (Or.inl ⟨by rfl, ?_⟩) (by assumption) ?_
        rotate_left
        · (intro ww hSw; (try dsimp only at hSw); go_simp; (try with_reducible rfl))
        try simp only [Act.put, List.setIfInBounds_toArray, List.set_cons_zero, List.set_cons_succ]
        refine wpAnyH_take (i := 1) (v := ?_) (by simp only [List.getElem?_toArray, List.getElem?_cons_succ, List.getElem?_cons_zero]; rfl) (by kernel_rfl) (by kernel_rfl) (by kernel_rfl) (fun _ _ _ h => h) (Or.inl ⟨by rfl, ?_⟩) (by assumption) ?_
        rotate_left
        · (intro ww hSw; (try dsimp only at hSw); go_simp; (try with_reducible rfl))
        try simp only [Act.put, List.setIfInBounds_toArray, List.set_cons_zero, List.set_cons_succ]
        refine wpAnyH_take (i := 2) (v := ?_) (by simp only [List.getElem?_toArray, List.getElem?_cons_succ, List.getElem?_cons_zero]; rfl) (by kernel_rfl) (by kernel_rfl) (by kernel_rfl) (fun _ _ _ h => h) (Or.inl ⟨by rfl, ?_⟩) (by assumption) ?_
        rotate_left
        · (intro ww hSw; (try dsimp only at hSw); go_simp; (try with_reducible rfl))
        try simp only [Act.put, List.setIfInBounds_toArray, List.set_cons_zero, List.set_cons_succ]
        refine wpAnyH_take (i := 3) (v := ?_) (by simp only [List.getElem?_toArray, List.getElem?_cons_succ, List.getElem?_cons_zero]; rfl) (by kernel_rfl) (by kernel_rfl) (by kernel_rfl) (fun _ _ _ h => h) (Or.inl ⟨by rfl, ?_⟩) (by assumption) ?_
        rotate_left
        · (intro ww hSw; (try dsimp only at hSw); go_simp; (try with_reducible rfl))
        try simp only [Act.put, List.setIfInBounds_toArray, List.set_cons_zero, List.set_cons_succ]
        refine wpAnyH_take (i := 4) (v := ?_) (by simp only [List.getElem?_toArray, List.getElem?_cons_succ, List.getElem?_cons_zero]; rfl) (by kernel_rfl) (by kernel_rfl) (by kernel_rfl) (fun _ _ _ h => h) (Or.inl ⟨by rfl, ?_⟩) (by assumption) ?_
        rotate_left
        · (intro ww hSw; (try dsimp only at hSw); go_simp; (try with_reducible rfl))
        try simp only [Act.put, List.setIfInBounds_toArray, List.set_cons_zero, List.set_cons_succ]
        refine wpAnyH_take (i := 5) (v := ?_) (by simp only [List.getElem?_toArray, List.getElem?_cons_succ, List.getElem?_cons_zero]; rfl) (by kernel_rfl) (by kernel_rfl) (by kernel_rfl) (fun _ _ _ h => h) (Or.inl ⟨by rfl, ?_⟩) (by assumption) ?_
        rotate_left
        · (intro ww hSw; (try dsimp only at hSw); go_simp; (try with_reducible rfl))
        try simp only [Act.put, List.setIfInBounds_toArray, List.set_cons_zero, List.set_cons_succ]
        refine wpAnyH_take (i := 6) (v := undef) (by simp only [List.getElem?_toArray, List.getElem?_cons_succ, List.getElem?_cons_zero]; rfl) (by kernel_rfl) (by kernel_rfl) (by kernel_rfl) (fun _ _ _ h => h) (Or.inr ⟨by rfl, rfl⟩) (by assumption) ?_
        try simp only [Act.put, List.setIfInBounds_toArray, List.set_cons_zero, List.set_cons_succ]
        refine wpAnyH_take (i := 7) (v := undef) (by simp only [List.getElem?_toArray, List.getElem?_cons_succ, List.getElem?_cons_zero]; rfl) (by kernel_rfl) (by kernel_rfl) (by kernel_rfl) (fun _ _ _ h => h) (Or.inr ⟨by rfl, rfl⟩) (by assumption) ?_
        try simp only [Act.put, List.setIfInBounds_toArray, List.set_cons_zero, List.set_cons_succ]
        refine wpAnyH_take (i := 8) (v := undef) (by simp only [List.getElem?_toArray, List.getElem?_cons_succ, List.getElem?_cons_zero]; rfl) (by kernel_rfl) (by kernel_rfl) (by kernel_rfl) (fun _ _ _ h => h) (Or.inr ⟨by rfl, rfl⟩) (by assumption) ?_
        try simp only [Act.put, List.setIfInBounds_toArray, List.set_cons_zero, List.set_cons_succ]
        refine wpAnyH_take (i := 9) (v := undef) (by simp only [List.getElem?_toArray, List.getElem?_cons_succ, List.getElem?_cons_zero]; rfl) (by kernel_rfl) (by kernel_rfl) (by kernel_rfl) (fun _ _ _ h => h) (Or.inr ⟨by rfl, rfl⟩) (by assumption) ?_
        try simp only [Act.put, List.setIfInBounds_toArray, List.set_cons_zero, List.set_cons_succ]
        refine wpAnyH_take (i := 10) (v := undef) (by simp only [List.getElem?_toArray, List.getElem?_cons_succ, List.getElem?_cons_zero]; rfl) (by kernel_rfl) (by kernel_rfl) (by kernel_rfl) (fun _ _ _ h => h) (Or.inr ⟨by rfl, rfl⟩) (by assumption) ?_
        try simp only [Act.put, List.setIfInBounds_toArray, List.set_cons_zero, List.set_cons_succ]
        refine wpAnyH_take (i := 11) (v := undef) (by simp only [List.getElem?_toArray, List.getElem?_cons_succ, List.getElem?_cons_zero]; rfl) (by kernel_rfl) (by kernel_rfl) (by kernel_rfl) (fun _ _ _ h => h) (Or.inr ⟨by rfl, rfl⟩) (by assumption) ?_
        try simp only [Act.put, List.setIfInBounds_toArray, List.set_cons_zero, List.set_cons_succ]
        refine wpAnyH_take (i := 12) (v := undef) (by simp only [List.getElem?_toArray, List.getElem?_cons_succ, List.getElem?_cons_zero]; rfl) (by kernel_rfl) (by kernel_rfl) (by kernel_rfl) (fun _ _ _ h => h) (Or.inr ⟨by rfl, rfl⟩) (by assumption) ?_
        try simp only [Act.put, List.setIfInBounds_toArray, List.set_cons_zero, List.set_cons_succ]
        refine wpAnyH_take (i := 13) (v := undef) (by simp only [List.getElem?_toArray, List.getElem?_cons_succ, List.getElem?_cons_zero]; rfl) (by kernel_rfl) (by kernel_rfl) (by kernel_rfl) (fun _ _ _ h => h) (Or.inr ⟨by rfl, rfl⟩) (by assumption) ?_
        try simp only [Act.put, List.setIfInBounds_toArray, List.set_cons_zero, List.set_cons_succ]
        refine wpAnyH_take (i := 14) (v := ?_) (by simp only [List.getElem?_toArray, List.getElem?_cons_succ, List.getElem?_cons_zero]; rfl) (by kernel_rfl) (by kernel_rfl) (by kernel_rfl) (fun _ _ _ h => h) (Or.inl ⟨by rfl, ?_⟩) (by assumption) ?_
        rotate_left
        · (intro ww hSw; (try dsimp only at hSw); go_simp; (try with_reducible rfl))
        try simp only [Act.put, List.setIfInBounds_toArray, List.set_cons_zero, List.set_cons_succ]
        refine wpAnyH_done (by kernel_rfl) ?_ _
        refine NoPanic.normal ?_
        clear hHeld hc1 hl1 cI
        have C4 := Lib.hid C3.out.drew2
        generalize wr.drew = W5 at *
        have HRv := Lib.hid (show R = (x, 3) by rw [HR.out]; unfold tradeW; rw [if_neg HQ0.out, if_pos (HN.out (by rw [Bool.eq_false_iff]; intro hh; rw [inB_iff] at hh; omega))])
        have hca := C4.out.a.cell
        have hla := C4.out.a.lt
        have hcr : ∀ i, World.cell? _ ⟨w.heap.size + 1 + 1, i, none⟩ = _ := C4.out.r.cell
        have hzr : ∀ i, World.frozen? _ ⟨w.heap.size + 1 + 1, i, none⟩ = false := C4.out.r.frozen
        have hlr : w.heap.size + 1 + 1 < _ := C4.out.r.lt
        go_wp2_with fail
        refine bodyPost_ret (v := .tuple #[.agg #[.slice pd.ex x.d.exits.length pd.exc, .slice pd.pl x.d.players.length pd.plc, .slice pd.co x.d.coins.length pd.coc, .slice pd.it x.d.items.length pd.itc, .slice pd.bo x.d.boxes.length pd.boc, .int .i64 x.d.room, .int .i64 x.d.player, .int .i64 x.d.box, .slice (some ⟨ab, ao, none⟩) x.at_.length pac, .slice (some ⟨kb, ko, none⟩) x.coins.length pkc, .slice pw x.wher.length pwc], .int .i64 3]) (by simp [results, Try.results14, go_sem, hcr]) rfl ⟨⟨pd, some ⟨ab, ao, none⟩, pac, some ⟨kb, ko, none⟩, pkc, pw, pwc⟩, ret_n13 (by rw [HRv.out]), .inl (by rw [HRv.out]; exact ⟨by simp, rfl, rfl⟩), ?_⟩
        iterate 11 refine Below.setCell ?_ (by show w.heap.size ≤ w.heap.size + 2; omega) _
        exact C4.out.b
      · by_cases hy1 : (x.wher.length : Int) ≤ y
        ·
          go_wp2_with fail
          have hy3 : ¬ y < 0 := by omega
          have hy2 : (x.wher.length : Int) ≤ y := by omega
          refine wp_region_noPanic ?_
          refine wp_region_held_drew (S := (fun w' => (∀ i, w'.cell? ⟨w.heap.size, i, none⟩ = (#[.slice pd.ex x.d.exits.length pd.exc, .slice pd.pl x.d.players.length pd.plc, .slice pd.co x.d.coins.length pd.coc, .slice pd.it x.d.items.length pd.itc, .slice pd.bo x.d.boxes.length pd.boc, .int .i64 x.d.room, .int .i64 x.d.player, .int .i64 x.d.box, .slice (some ⟨ab, ao, none⟩) x.at_.length pac, .slice (some ⟨kb, ko, none⟩) x.coins.length pkc, .slice pw x.wher.length pwc][i]? : Option Value)) ∧ w'.cell? ⟨b0, o0 + j, none⟩ = some (.int .i64 y))) (by kernel_rfl) (by (first | (exact ⟨hc1, cI⟩))) (fun hHeld => ?_)
          refine wpAnyH_take (i := 0) (v := ?_) (by simp only [List.getElem?_toArray, List.getElem?_cons_zero]; rfl) (by kernel_rfl) (by kernel_rfl) (by kernel_rfl) (fun _ _ _ h => h) (Or.inl ⟨by rfl, ?_⟩) (by assumption) ?_
          rotate_left
          · (intro ww hSw; (try dsimp only at hSw); go_simp; (try with_reducible rfl))
          try simp only [Act.put, List.setIfInBounds_toArray, List.set_cons_zero, List.set_cons_succ]
          refine wpAnyH_take (i := 1) (v := ?_) (by simp only [List.getElem?_toArray, List.getElem?_cons_succ, List.getElem?_cons_zero]; rfl) (by kernel_rfl) (by kernel_rfl) (by kernel_rfl) (fun _ _ _ h => h) (Or.inl ⟨by rfl, ?_⟩) (by assumption) ?_
          rotate_left
          · (intro ww hSw; (try dsimp only at hSw); go_simp; (try with_reducible rfl))
          try simp only [Act.put, List.setIfInBounds_toArray, List.set_cons_zero, List.set_cons_succ]
          refine wpAnyH_take (i := 2) (v := ?_) (by simp only [List.getElem?_toArray, List.getElem?_cons_succ, List.getElem?_cons_zero]; rfl) (by kernel_rfl) (by kernel_rfl) (by kernel_rfl) (fun _ _ _ h => h) (Or.inl ⟨by rfl, ?_⟩) (by assumption) ?_
          rotate_left
          · (intro ww hSw; (try dsimp only at hSw); go_simp; (try with_reducible rfl))
          try simp only [Act.put, List.setIfInBounds_toArray, List.set_cons_zero, List.set_cons_succ]
          refine wpAnyH_take (i := 3) (v := ?_) (by simp only [List.getElem?_toArray, List.getElem?_cons_succ, List.getElem?_cons_zero]; rfl) (by kernel_rfl) (by kernel_rfl) (by kernel_rfl) (fun _ _ _ h => h) (Or.inl ⟨by rfl, ?_⟩) (by assumption) ?_
          rotate_left
          · (intro ww hSw; (try dsimp only at hSw); go_simp; (try with_reducible rfl))
          try simp only [Act.put, List.setIfInBounds_toArray, List.set_cons_zero, List.set_cons_succ]
          refine wpAnyH_take (i := 4) (v := ?_) (by simp only [List.getElem?_toArray, List.getElem?_cons_succ, List.getElem?_cons_zero]; rfl) (by kernel_rfl) (by kernel_rfl) (by kernel_rfl) (fun _ _ _ h => h) (Or.inl ⟨by rfl, ?_⟩) (by assumption) ?_
          rotate_left
          · (intro ww hSw; (try dsimp only at hSw); go_simp; (try with_reducible rfl))
          try simp only [Act.put, List.setIfInBounds_toArray, List.set_cons_zero, List.set_cons_succ]
          refine wpAnyH_take (i := 5) (v := ?_) (by simp only [List.getElem?_toArray, List.getElem?_cons_succ, List.getElem?_cons_zero]; rfl) (by kernel_rfl) (by kernel_rfl) (by kernel_rfl) (fun _ _ _ h => h) (Or.inl ⟨by rfl, ?_⟩) (by assumption) ?_
          rotate_left
          · (intro ww hSw; (try dsimp only at hSw); go_simp; (try with_reducible rfl))
          try simp only [Act.put, List.setIfInBounds_toArray, List.set_cons_zero, List.set_cons_succ]
          refine wpAnyH_take (i := 6) (v := ?_) (by simp only [List.getElem?_toArray, List.getElem?_cons_succ, List.getElem?_cons_zero]; rfl) (by kernel_rfl) (by kernel_rfl) (by kernel_rfl) (fun _ _ _ h => h) (Or.inl ⟨by rfl, ?_⟩) (by assumption) ?_
          rotate_left
          · (intro ww hSw; (try dsimp only at hSw); go_simp; (try with_reducible rfl))
          try simp only [Act.put, List.setIfInBounds_toArray, List.set_cons_zero, List.set_cons_succ]
          refine wpAnyH_take (i := 7) (v := ?_) (by simp only [List.getElem?_toArray, List.getElem?_cons_succ, List.getElem?_cons_zero]; rfl) (by kernel_rfl) (by kernel_rfl) (by kernel_rfl) (fun _ _ _ h => h) (Or.inl ⟨by rfl, ?_⟩) (by assumption) ?_
          rotate_left
          · (intro ww hSw; (try dsimp only at hSw); go_simp; (try with_reducible rfl))
          try simp only [Act.put, List.setIfInBounds_toArray, List.set_cons_zero, List.set_cons_succ]
          refine wpAnyH_take (i := 8) (v := ?_) (by simp only [List.getElem?_toArray, List.getElem?_cons_succ, List.getElem?_cons_zero]; rfl) (by kernel_rfl) (by kernel_rfl) (by kernel_rfl) (fun _ _ _ h => h) (Or.inl ⟨by rfl, ?_⟩) (by assumption) ?_
          rotate_left
          · (intro ww hSw; (try dsimp only at hSw); go_simp; (try with_reducible rfl))
          try simp only [Act.put, List.setIfInBounds_toArray, List.set_cons_zero, List.set_cons_succ]
          refine wpAnyH_take (i := 9) (v := ?_) (by simp only [List.getElem?_toArray, List.getElem?_cons_succ, List.getElem?_cons_zero]; rfl) (by kernel_rfl) (by kernel_rfl) (by kernel_rfl) (fun _ _ _ h => h) (Or.inl ⟨by rfl, ?_⟩) (by assumption) ?_
          rotate_left
          · (intro ww hSw; (try dsimp only at hSw); go_simp; (try with_reducible rfl))
          try simp only [Act.put, List.setIfInBounds_toArray, List.set_cons_zero, List.set_cons_succ]
          refine wpAnyH_take (i := 10) (v := ?_) (by simp only [List.getElem?_toArray, List.getElem?_cons_succ, List.getElem?_cons_zero]; rfl) (by kernel_rfl) (by kernel_rfl) (by kernel_rfl) (fun _ _ _ h => h) (Or.inl ⟨by rfl, ?_⟩) (by assumption) ?_
          rotate_left
          · (intro ww hSw; (try dsimp only at hSw); go_simp; (try with_reducible rfl))
          try simp only [Act.put, List.setIfInBounds_toArray, List.set_cons_zero, List.set_cons_succ]
          refine wpAnyH_take (i := 11) (v := ?_) (by simp only [List.getElem?_toArray, List.getElem?_cons_succ, List.getElem?_cons_zero]; rfl) (by kernel_rfl) (by kernel_rfl) (by kernel_rfl) (fun _ _ _ h => h) (Or.inl ⟨by rfl, ?_⟩) (by assumption) ?_
          rotate_left
          · (intro ww hSw; (try dsimp only at hSw); go_simp; (try with_reducible rfl))
          try simp only [Act.put, List.setIfInBounds_toArray, List.set_cons_zero, List.set_cons_succ]
          refine wpAnyH_take (i := 12) (v := ?_) (by simp only [List.getElem?_toArray, List.getElem?_cons_succ, List.getElem?_cons_zero]; rfl) (by kernel_rfl) (by kernel_rfl) (by kernel_rfl) (fun _ _ _ h => h) (Or.inl ⟨by rfl, ?_⟩) (by assumption) ?_
          rotate_left
          · (intro ww hSw; (try dsimp only at hSw); go_simp; (try with_reducible rfl))
          try simp only [Act.put, List.setIfInBounds_toArray, List.set_cons_zero, List.set_cons_succ]
          refine wpAnyH_take (i := 13) (v := ?_) (by simp only [List.getElem?_toArray, List.getElem?_cons_succ, List.getElem?_cons_zero]; rfl) (by kernel_rfl) (by kernel_rfl) (by kernel_rfl) (fun _ _ _ h => h) (Or.inl ⟨by rfl, ?_⟩) (by assumption) ?_
          rotate_left
          · (intro ww hSw; (try dsimp only at hSw); go_simp; (try with_reducible rfl))
          try simp only [Act.put, List.setIfInBounds_toArray, List.set_cons_zero, List.set_cons_succ]
          refine wpAnyH_take (i := 14) (v := ?_) (by simp only [List.getElem?_toArray, List.getElem?_cons_succ, List.getElem?_cons_zero]; rfl) (by kernel_rfl) (by kernel_rfl) (by kernel_rfl) (fun _ _ _ h => h) (Or.inl ⟨by rfl, ?_⟩) (by assumption) ?_
          rotate_left
          · (intro ww hSw; (try dsimp only at hSw); go_simp; (try with_reducible rfl))
          try simp only [Act.put, List.setIfInBounds_toArray, List.set_cons_zero, List.set_cons_succ]
          refine wpAnyH_done (by kernel_rfl) ?_ _
          refine NoPanic.normal ?_
          clear hHeld hc1 hl1 cI
          have C4 := Lib.hid C3.out.drew2
          generalize wr.drew = W5 at *
          have HRv := Lib.hid (show R = (x, 3) by rw [HR.out]; unfold tradeW; rw [if_neg HQ0.out, if_pos (HN.out (by rw [Bool.eq_false_iff]; intro hh; rw [inB_iff] at hh; omega))])
          have hca := C4.out.a.cell
          have hla := C4.out.a.lt
          have hcr : ∀ i, World.cell? _ ⟨w.heap.size + 1 + 1, i, none⟩ = _ := C4.out.r.cell
          have hzr : ∀ i, World.frozen? _ ⟨w.heap.size + 1 + 1, i, none⟩ = false := C4.out.r.frozen
          have hlr : w.heap.size + 1 + 1 < _ := C4.out.r.lt
          go_wp2_with fail
          refine bodyPost_ret (v := .tuple #[.agg #[.slice pd.ex x.d.exits.length pd.exc, .slice pd.pl x.d.players.length pd.plc, .slice pd.co x.d.coins.length pd.coc, .slice pd.it x.d.items.length pd.itc, .slice pd.bo x.d.boxes.length pd.boc, .int .i64 x.d.room, .int .i64 x.d.player, .int .i64 x.d.box, .slice (some ⟨ab, ao, none⟩) x.at_.length pac, .slice (some ⟨kb, ko, none⟩) x.coins.length pkc, .slice pw x.wher.length pwc], .int .i64 3]) (by simp [results, Try.results14, go_sem, hcr]) rfl ⟨⟨pd, some ⟨ab, ao, none⟩, pac, some ⟨kb, ko, none⟩, pkc, pw, pwc⟩, ret_n13 (by rw [HRv.out]), .inl (by rw [HRv.out]; exact ⟨by simp, rfl, rfl⟩), ?_⟩
          iterate 11 refine Below.setCell ?_ (by show w.heap.size ≤ w.heap.size + 2; omega) _
          exact C4.out.b
        ·
          go_wp2_with fail
          have hy2 : ¬ (x.wher.length : Int) ≤ y := by omega
          have hy3 : ¬ y < 0 := by omega
          refine wp_region_noPanic ?_
          refine wp_region_held_drew (S := (fun w' => (∀ i, w'.cell? ⟨w.heap.size, i, none⟩ = (#[.slice pd.ex x.d.exits.length pd.exc, .slice pd.pl x.d.players.length pd.plc, .slice pd.co x.d.coins.length pd.coc, .slice pd.it x.d.items.length pd.itc, .slice pd.bo x.d.boxes.length pd.boc, .int .i64 x.d.room, .int .i64 x.d.player, .int .i64 x.d.box, .slice (some ⟨ab, ao, none⟩) x.at_.length pac, .slice (some ⟨kb, ko, none⟩) x.coins.length pkc, .slice pw x.wher.length pwc][i]? : Option Value)) ∧ w'.cell? ⟨b0, o0 + j, none⟩ = some (.int .i64 y))) (by kernel_rfl) (by (first | (exact ⟨hc1, cI⟩))) (fun hHeld => ?_)
          refine wpAnyH_take (i := 0) (v := ?_) (by simp only [List.getElem?_toArray, List.getElem?_cons_zero]; rfl) (by kernel_rfl) (by kernel_rfl) (by kernel_rfl) (fun _ _ _ h => h) (Or.inl ⟨by rfl, ?_⟩) (by assumption) ?_
          rotate_left
          · (intro ww hSw; (try dsimp only at hSw); go_simp; (try with_reducible rfl))
          try simp only [Act.put, List.setIfInBounds_toArray, List.set_cons_zero, List.set_cons_succ]
          refine wpAnyH_take (i := 1) (v := ?_) (by simp only [List.getElem?_toArray, List.getElem?_cons_succ, List.getElem?_cons_zero]; rfl) (by kernel_rfl) (by kernel_rfl) (by kernel_rfl) (fun _ _ _ h => h) (Or.inl ⟨by rfl, ?_⟩) (by assumption) ?_
          rotate_left
          · (intro ww hSw; (try dsimp only at hSw); go_simp; (try with_reducible rfl))
          try simp only [Act.put, List.setIfInBounds_toArray, List.set_cons_zero, List.set_cons_succ]
          refine wpAnyH_take (i := 2) (v := ?_) (by simp only [List.getElem?_toArray, List.getElem?_cons_succ, List.getElem?_cons_zero]; rfl) (by kernel_rfl) (by kernel_rfl) (by kernel_rfl) (fun _ _ _ h => h) (Or.inl ⟨by rfl, ?_⟩) (by assumption) ?_
          rotate_left
          · (intro ww hSw; (try dsimp only at hSw); go_simp; (try with_reducible rfl))
          try simp only [Act.put, List.setIfInBounds_toArray, List.set_cons_zero, List.set_cons_succ]
          refine wpAnyH_take (i := 3) (v := ?_) (by simp only [List.getElem?_toArray, List.getElem?_cons_succ, List.getElem?_cons_zero]; rfl) (by kernel_rfl) (by kernel_rfl) (by kernel_rfl) (fun _ _ _ h => h) (Or.inl ⟨by rfl, ?_⟩) (by assumption) ?_
          rotate_left
          · (intro ww hSw; (try dsimp only at hSw); go_simp; (try with_reducible rfl))
          try simp only [Act.put, List.setIfInBounds_toArray, List.set_cons_zero, List.set_cons_succ]
          refine wpAnyH_take (i := 4) (v := ?_) (by simp only [List.getElem?_toArray, List.getElem?_cons_succ, List.getElem?_cons_zero]; rfl) (by kernel_rfl) (by kernel_rfl) (by kernel_rfl) (fun _ _ _ h => h) (Or.inl ⟨by rfl, ?_⟩) (by assumption) ?_
          rotate_left
          · (intro ww hSw; (try dsimp only at hSw); go_simp; (try with_reducible rfl))
          try simp only [Act.put, List.setIfInBounds_toArray, List.set_cons_zero, List.set_cons_succ]
          refine wpAnyH_take (i := 5) (v := ?_) (by simp only [List.getElem?_toArray, List.getElem?_cons_succ, List.getElem?_cons_zero]; rfl) (by kernel_rfl) (by kernel_rfl) (by kernel_rfl) (fun _ _ _ h => h) (Or.inl ⟨by rfl, ?_⟩) (by assumption) ?_
          rotate_left
          · (intro ww hSw; (try dsimp only at hSw); go_simp; (try with_reducible rfl))
          try simp only [Act.put, List.setIfInBounds_toArray, List.set_cons_zero, List.set_cons_succ]
          refine wpAnyH_take (i := 6) (v := ?_) (by simp only [List.getElem?_toArray, List.getElem?_cons_succ, List.getElem?_cons_zero]; rfl) (by kernel_rfl) (by kernel_rfl) (by kernel_rfl) (fun _ _ _ h => h) (Or.inl ⟨by rfl, ?_⟩) (by assumption) ?_
          rotate_left
          · (intro ww hSw; (try dsimp only at hSw); go_simp; (try with_reducible rfl))
          try simp only [Act.put, List.setIfInBounds_toArray, List.set_cons_zero, List.set_cons_succ]
          refine wpAnyH_take (i := 7) (v := ?_) (by simp only [List.getElem?_toArray, List.getElem?_cons_succ, List.getElem?_cons_zero]; rfl) (by kernel_rfl) (by kernel_rfl) (by kernel_rfl) (fun _ _ _ h => h) (Or.inl ⟨by rfl, ?_⟩) (by assumption) ?_
          rotate_left
          · (intro ww hSw; (try dsimp only at hSw); go_simp; (try with_reducible rfl))
          try simp only [Act.put, List.setIfInBounds_toArray, List.set_cons_zero, List.set_cons_succ]
          refine wpAnyH_take (i := 8) (v := ?_) (by simp only [List.getElem?_toArray, List.getElem?_cons_succ, List.getElem?_cons_zero]; rfl) (by kernel_rfl) (by kernel_rfl) (by kernel_rfl) (fun _ _ _ h => h) (Or.inl ⟨by rfl, ?_⟩) (by assumption) ?_
          rotate_left
          · (intro ww hSw; (try dsimp only at hSw); go_simp; (try with_reducible rfl))
          try simp only [Act.put, List.setIfInBounds_toArray, List.set_cons_zero, List.set_cons_succ]
          refine wpAnyH_take (i := 9) (v := ?_) (by simp only [List.getElem?_toArray, List.getElem?_cons_succ, List.getElem?_cons_zero]; rfl) (by kernel_rfl) (by kernel_rfl) (by kernel_rfl) (fun _ _ _ h => h) (Or.inl ⟨by rfl, ?_⟩) (by assumption) ?_
          rotate_left
          · (intro ww hSw; (try dsimp only at hSw); go_simp; (try with_reducible rfl))
          try simp only [Act.put, List.setIfInBounds_toArray, List.set_cons_zero, List.set_cons_succ]
          refine wpAnyH_take (i := 10) (v := ?_) (by simp only [List.getElem?_toArray, List.getElem?_cons_succ, List.getElem?_cons_zero]; rfl) (by kernel_rfl) (by kernel_rfl) (by kernel_rfl) (fun _ _ _ h => h) (Or.inl ⟨by rfl, ?_⟩) (by assumption) ?_
          rotate_left
          · (intro ww hSw; (try dsimp only at hSw); go_simp; (try with_reducible rfl))
          try simp only [Act.put, List.setIfInBounds_toArray, List.set_cons_zero, List.set_cons_succ]
          refine wpAnyH_take (i := 11) (v := ?_) (by simp only [List.getElem?_toArray, List.getElem?_cons_succ, List.getElem?_cons_zero]; rfl) (by kernel_rfl) (by kernel_rfl) (by kernel_rfl) (fun _ _ _ h => h) (Or.inl ⟨by rfl, ?_⟩) (by assumption) ?_
          rotate_left
          · (intro ww hSw; (try dsimp only at hSw); go_simp; (try with_reducible rfl))
          try simp only [Act.put, List.setIfInBounds_toArray, List.set_cons_zero, List.set_cons_succ]
          refine wpAnyH_take (i := 12) (v := ?_) (by simp only [List.getElem?_toArray, List.getElem?_cons_succ, List.getElem?_cons_zero]; rfl) (by kernel_rfl) (by kernel_rfl) (by kernel_rfl) (fun _ _ _ h => h) (Or.inl ⟨by rfl, ?_⟩) (by assumption) ?_
          rotate_left
          · (intro ww hSw; (try dsimp only at hSw); go_simp; (try with_reducible rfl))
          try simp only [Act.put, List.setIfInBounds_toArray, List.set_cons_zero, List.set_cons_succ]
          refine wpAnyH_take (i := 13) (v := ?_) (by simp only [List.getElem?_toArray, List.getElem?_cons_succ, List.getElem?_cons_zero]; rfl) (by kernel_rfl) (by kernel_rfl) (by kernel_rfl) (fun _ _ _ h => h) (Or.inl ⟨by rfl, ?_⟩) (by assumption) ?_
          rotate_left
          · (intro ww hSw; (try dsimp only at hSw); go_simp; (try with_reducible rfl))
          try simp only [Act.put, List.setIfInBounds_toArray, List.set_cons_zero, List.set_cons_succ]
          refine wpAnyH_take (i := 14) (v := ?_) (by simp only [List.getElem?_toArray, List.getElem?_cons_succ, List.getElem?_cons_zero]; rfl) (by kernel_rfl) (by kernel_rfl) (by kernel_rfl) (fun _ _ _ h => h) (Or.inl ⟨by rfl, ?_⟩) (by assumption) ?_
          rotate_left
          · (intro ww hSw; (try dsimp only at hSw); go_simp; (try with_reducible rfl))
          try simp only [Act.put, List.setIfInBounds_toArray, List.set_cons_zero, List.set_cons_succ]
          refine wpAnyH_done (by kernel_rfl) ?_ _
          refine NoPanic.normal ?_
          clear hHeld hc1 hl1 cI
          have HB2 := Lib.hid (bdrew1 HB.out)
          have HY := Lib.hid (show inB y x.wher.length = true from (inB_iff _ _).2 (by omega))
          generalize wr.drew = W5 at *
          go_wp2_with fail
          go_roundw
          case rel => exact ⟨j + 1, by omega, by go_num, HF.out HY.out, HB2.out⟩
          case measure => simp [intOf]; omega
    · have hje : M = j := by omega
      subst hje
      have HALL := Lib.hid (show (gl ++ wl).all (fun k => inB k x.wher.length) = true by have := HT.out; rw [← HM.out] at this; exact all_whole _ this)
      clear HT hB
      skip
      obtain ⟨gs, hgs, hgi⟩ := nats_of (l := gl) (n := x.wher.length) (by have := HALL.out; rw [List.all_append, Bool.and_eq_true] at this; exact this.1)
      obtain ⟨ws, hws, hwi⟩ := nats_of (l := wl) (n := x.wher.length) (by have := HALL.out; rw [List.all_append, Bool.and_eq_true] at this; exact this.2)
      have HGS := Lib.hid hgs
      have HRN := Lib.hid (show R = tradeN x i q gs ws pay fee by rw [HR.out, hgs, hws]; exact tradeW_nat x i q gs ws pay fee HQ.out hgi hwi)
      obtain ⟨L, hL⟩ : ∃ L, L = gs ++ ws := ⟨_, rfl⟩
      have HL := Lib.hid hL
      have HLN := Lib.hid (show gl ++ wl = L.map (fun (k : Nat) => (k : Int)) by rw [hgs, hws, hL, List.map_append])
      have HLL := Lib.hid (show L.length = M by rw [← HM.out, HLN.out, List.length_map])
      have HLT := Lib.hid (fun (k : Nat) (hk : k ∈ L) => (show k < x.wher.length by rw [hL] at hk; rcases List.mem_append.1 hk with hk | hk; exact hgi k hk; exact hwi k hk))
      have HLX := Lib.hid (show IntsAt W2 g (L.map (fun (k : Nat) => (k : Int))) by rw [← HLN.out]; exact HLI.out)
      clear hgs hws hgi hwi hL HLI HALL HR HQ0
      obtain ⟨wp, hwp⟩ : ∃ q, q = wr := ⟨_, rfl⟩
      subst hwp
      have hca := C3.out.a.cell
      have hla := C3.out.a.lt
      have hcm : ∀ i, World.cell? _ ⟨w.heap.size + 1, i, none⟩ = _ := C3.out.m.cell
      have hlm := C3.out.m.lt
      by_cases hs : q = i
      · have hs2 : ((i : Int) == (q : Int)) = true := by simp [hs]
        have HRv := Lib.hid (show R = (x, 12) by rw [HRN.out]; unfold tradeN; rw [if_pos hs])
        clear hca hla hcm hlm
        have hca := C3.out.a.cell
        have hla := C3.out.a.lt
        have hcr : ∀ i, World.cell? _ ⟨w.heap.size + 1 + 1, i, none⟩ = _ := C3.out.r.cell
        have hzr : ∀ i, World.frozen? _ ⟨w.heap.size + 1 + 1, i, none⟩ = false := C3.out.r.frozen
        have hlr : w.heap.size + 1 + 1 < _ := C3.out.r.lt
        go_wp2_with fail
        refine bodyPost_ret (v := .tuple #[.agg #[.slice pd.ex x.d.exits.length pd.exc, .slice pd.pl x.d.players.length pd.plc, .slice pd.co x.d.coins.length pd.coc, .slice pd.it x.d.items.length pd.itc, .slice pd.bo x.d.boxes.length pd.boc, .int .i64 x.d.room, .int .i64 x.d.player, .int .i64 x.d.box, .slice (some ⟨ab, ao, none⟩) x.at_.length pac, .slice (some ⟨kb, ko, none⟩) x.coins.length pkc, .slice pw x.wher.length pwc], .int .i64 12]) (by simp [results, Try.results14, go_sem, hcr]) rfl ⟨⟨pd, some ⟨ab, ao, none⟩, pac, some ⟨kb, ko, none⟩, pkc, pw, pwc⟩, ret_n13 (by rw [HRv.out]), .inl (by rw [HRv.out]; exact ⟨by simp, rfl, rfl⟩), ?_⟩
        iterate 11 refine Below.setCell ?_ (by show w.heap.size ≤ w.heap.size + 2; omega) _
        exact C3.out.b
      have hs2 : ((i : Int) == (q : Int)) = false := by simp; omega
      have HR1 := Lib.hid (show R = if ¬ roomOf x i = roomOf x q then (x, 5) else if ¬ (gs ++ ws).Nodup then (x, 13) else if (hasB x i gs && hasB x q ws) = false then (x, 5)
        else if roomI (trN x i q gs ws) ⟨1, (i : Int)⟩ < 0 ∨ roomI (trN x i q gs ws) ⟨1, (q : Int)⟩ < 0 then (x, 9)
        else if ¬ swapE (coinOf x i) (coinOf x q) pay fee = 0 then (x, swapE (coinOf x i) (coinOf x q) pay fee) else (trW x i q gs ws (coinOf x i - pay + fee) (coinOf x q - fee + pay), 0) by rw [HRN.out]; unfold tradeN; rw [if_neg hs])
      have c1 := cell_call (HAT.out i HI.out) C3.out.b
      have c2 := cell_call (HAT.out q HQ.out) C3.out.b
      generalize roomOf x i = r1 at *
      generalize roomOf x q = r2 at *
      have hi1 := HI.out
      have hq1 := HQ.out
      have qi : ¬ (x.at_.length : Int) ≤ (i : Int) := by omega
      have qi2 : (x.at_.length ≤ i) = False := by simp; omega
      have qq : ¬ (x.at_.length : Int) ≤ (q : Int) := by omega
      have qq2 : (x.at_.length ≤ q) = False := by simp; omega
      clear hs HRN
      go_wp2_with fail
      refine wp_region_noPanic ?_
      refine wp_region_held_drew (S := (fun w' => (∀ i, w'.cell? ⟨w.heap.size, i, none⟩ = (#[.slice pd.ex x.d.exits.length pd.exc, .slice pd.pl x.d.players.length pd.plc, .slice pd.co x.d.coins.length pd.coc, .slice pd.it x.d.items.length pd.itc, .slice pd.bo x.d.boxes.length pd.boc, .int .i64 x.d.room, .int .i64 x.d.player, .int .i64 x.d.box, .slice (some ⟨ab, ao, none⟩) x.at_.length pac, .slice (some ⟨kb, ko, none⟩) x.coins.length pkc, .slice pw x.wher.length pwc][i]? : Option Value)) ∧ w'.cell? ⟨ab, ao + i, none⟩ = some (.int .i64 (r1 : Int)) ∧ w'.cell? ⟨ab, ao + q, none⟩ = some (.int .i64 (r2 : Int)))) (by kernel_rfl) (by (first | (exact ⟨hca, c1, c2⟩))) (fun hHeld => ?_)
      refine wpAnyH_take (i := 0) (v := ?_) (by simp only [List.getElem?_toArray, List.getElem?_cons_zero]; rfl) (by kernel_rfl) (by kernel_rfl) (by kernel_rfl) (fun _ _ _ h => h) (Or.inl ⟨by rfl, ?_⟩) (by assumption) ?_
      rotate_left
      · (intro ww hSw; (try dsimp only at hSw); go_simp; (try with_reducible rfl))
      try simp only [Act.put, List.setIfInBounds_toArray, List.set_cons_zero, List.set_cons_succ]
      refine wpAnyH_take (i := 1) (v := ?_) (by simp only [List.getElem?_toArray, List.getElem?_cons_succ, List.getElem?_cons_zero]; rfl) (by kernel_rfl) (by kernel_rfl) (by kernel_rfl) (fun _ _ _ h => h) (Or.inl ⟨by rfl, ?_⟩) (by assumption) ?_
      rotate_left
      · (intro ww hSw; (try dsimp only at hSw); go_simp; (try with_reducible rfl))
      try simp only [Act.put, List.setIfInBounds_toArray, List.set_cons_zero, List.set_cons_succ]
      refine wpAnyH_take (i := 2) (v := ?_) (by simp only [List.getElem?_toArray, List.getElem?_cons_succ, List.getElem?_cons_zero]; rfl) (by kernel_rfl) (by kernel_rfl) (by kernel_rfl) (fun _ _ _ h => h) (Or.inl ⟨by rfl, ?_⟩) (by assumption) ?_
      rotate_left
      · (intro ww hSw; (try dsimp only at hSw); go_simp; (try with_reducible rfl))
      try simp only [Act.put, List.setIfInBounds_toArray, List.set_cons_zero, List.set_cons_succ]
      refine wpAnyH_take (i := 3) (v := ?_) (by simp only [List.getElem?_toArray, List.getElem?_cons_succ, List.getElem?_cons_zero]; rfl) (by kernel_rfl) (by kernel_rfl) (by kernel_rfl) (fun _ _ _ h => h) (Or.inl ⟨by rfl, ?_⟩) (by assumption) ?_
      rotate_left
      · (intro ww hSw; (try dsimp only at hSw); go_simp; (try with_reducible rfl))
      try simp only [Act.put, List.setIfInBounds_toArray, List.set_cons_zero, List.set_cons_succ]
      refine wpAnyH_take (i := 4) (v := ?_) (by simp only [List.getElem?_toArray, List.getElem?_cons_succ, List.getElem?_cons_zero]; rfl) (by kernel_rfl) (by kernel_rfl) (by kernel_rfl) (fun _ _ _ h => h) (Or.inl ⟨by rfl, ?_⟩) (by assumption) ?_
      rotate_left
      · (intro ww hSw; (try dsimp only at hSw); go_simp; (try with_reducible rfl))
      try simp only [Act.put, List.setIfInBounds_toArray, List.set_cons_zero, List.set_cons_succ]
      refine wpAnyH_take (i := 5) (v := ?_) (by simp only [List.getElem?_toArray, List.getElem?_cons_succ, List.getElem?_cons_zero]; rfl) (by kernel_rfl) (by kernel_rfl) (by kernel_rfl) (fun _ _ _ h => h) (Or.inl ⟨by rfl, ?_⟩) (by assumption) ?_
      rotate_left
      · (intro ww hSw; (try dsimp only at hSw); go_simp; (try with_reducible rfl))
      try simp only [Act.put, List.setIfInBounds_toArray, List.set_cons_zero, List.set_cons_succ]
      refine wpAnyH_take (i := 6) (v := ?_) (by simp only [List.getElem?_toArray, List.getElem?_cons_succ, List.getElem?_cons_zero]; rfl) (by kernel_rfl) (by kernel_rfl) (by kernel_rfl) (fun _ _ _ h => h) (Or.inl ⟨by rfl, ?_⟩) (by assumption) ?_
      rotate_left
      · (intro ww hSw; (try dsimp only at hSw); go_simp; (try with_reducible rfl))
      try simp only [Act.put, List.setIfInBounds_toArray, List.set_cons_zero, List.set_cons_succ]
      refine wpAnyH_take (i := 7) (v := ?_) (by simp only [List.getElem?_toArray, List.getElem?_cons_succ, List.getElem?_cons_zero]; rfl) (by kernel_rfl) (by kernel_rfl) (by kernel_rfl) (fun _ _ _ h => h) (Or.inl ⟨by rfl, ?_⟩) (by assumption) ?_
      rotate_left
      · (intro ww hSw; (try dsimp only at hSw); go_simp; (try with_reducible rfl))
      try simp only [Act.put, List.setIfInBounds_toArray, List.set_cons_zero, List.set_cons_succ]
      refine wpAnyH_take (i := 8) (v := ?_) (by simp only [List.getElem?_toArray, List.getElem?_cons_succ, List.getElem?_cons_zero]; rfl) (by kernel_rfl) (by kernel_rfl) (by kernel_rfl) (fun _ _ _ h => h) (Or.inl ⟨by rfl, ?_⟩) (by assumption) ?_
      rotate_left
      · (intro ww hSw; (try dsimp only at hSw); go_simp; (try with_reducible rfl))
      try simp only [Act.put, List.setIfInBounds_toArray, List.set_cons_zero, List.set_cons_succ]
      refine wpAnyH_take (i := 9) (v := ?_) (by simp only [List.getElem?_toArray, List.getElem?_cons_succ, List.getElem?_cons_zero]; rfl) (by kernel_rfl) (by kernel_rfl) (by kernel_rfl) (fun _ _ _ h => h) (Or.inl ⟨by rfl, ?_⟩) (by assumption) ?_
      rotate_left
      · (intro ww hSw; (try dsimp only at hSw); go_simp; (try with_reducible rfl))
      try simp only [Act.put, List.setIfInBounds_toArray, List.set_cons_zero, List.set_cons_succ]
      refine wpAnyH_take (i := 10) (v := ?_) (by simp only [List.getElem?_toArray, List.getElem?_cons_succ, List.getElem?_cons_zero]; rfl) (by kernel_rfl) (by kernel_rfl) (by kernel_rfl) (fun _ _ _ h => h) (Or.inl ⟨by rfl, ?_⟩) (by assumption) ?_
      rotate_left
      · (intro ww hSw; (try dsimp only at hSw); go_simp; (try with_reducible rfl))
      try simp only [Act.put, List.setIfInBounds_toArray, List.set_cons_zero, List.set_cons_succ]
      refine wpAnyH_done (by kernel_rfl) ?_ _
      refine NoPanic.normal ?_
      clear hHeld hca hla hcm hlm c1 c2
      have C4 := Lib.hid C3.out.drew2
      have HB4 := Lib.hid (bdrew1 HB.out)
      clear C3 HB
      generalize wp.drew = W4 at *
      by_cases hr : r1 = r2
      case neg =>
        have hr2 : ((r1 : Int) != (r2 : Int)) = true := by simp; omega
        have HRv := Lib.hid (show R = (x, 5) by rw [HR1.out, if_pos hr])
        have hca := C4.out.a.cell
        have hla := C4.out.a.lt
        have hcr : ∀ i, World.cell? _ ⟨w.heap.size + 1 + 1, i, none⟩ = _ := C4.out.r.cell
        have hzr : ∀ i, World.frozen? _ ⟨w.heap.size + 1 + 1, i, none⟩ = false := C4.out.r.frozen
        have hlr : w.heap.size + 1 + 1 < _ := C4.out.r.lt
        go_wp2_with fail
        refine bodyPost_ret (v := .tuple #[.agg #[.slice pd.ex x.d.exits.length pd.exc, .slice pd.pl x.d.players.length pd.plc, .slice pd.co x.d.coins.length pd.coc, .slice pd.it x.d.items.length pd.itc, .slice pd.bo x.d.boxes.length pd.boc, .int .i64 x.d.room, .int .i64 x.d.player, .int .i64 x.d.box, .slice (some ⟨ab, ao, none⟩) x.at_.length pac, .slice (some ⟨kb, ko, none⟩) x.coins.length pkc, .slice pw x.wher.length pwc], .int .i64 5]) (by simp [results, Try.results14, go_sem, hcr]) rfl ⟨⟨pd, some ⟨ab, ao, none⟩, pac, some ⟨kb, ko, none⟩, pkc, pw, pwc⟩, ret_n13 (by rw [HRv.out]), .inl (by rw [HRv.out]; exact ⟨by simp, rfl, rfl⟩), ?_⟩
        iterate 11 refine Below.setCell ?_ (by show w.heap.size ≤ w.heap.size + 2; omega) _
        exact C4.out.b
      case pos =>
      have hr2 : ((r1 : Int) != (r2 : Int)) = false := by rw [hr]; simp
      rw [hr2]
      have HR2 := Lib.hid (show R = if ¬ (gs ++ ws).Nodup then (x, 13) else if (hasB x i gs && hasB x q ws) = false then (x, 5)
        else if roomI (trN x i q gs ws) ⟨1, (i : Int)⟩ < 0 ∨ roomI (trN x i q gs ws) ⟨1, (q : Int)⟩ < 0 then (x, 9)
        else if ¬ swapE (coinOf x i) (coinOf x q) pay fee = 0 then (x, swapE (coinOf x i) (coinOf x q) pay fee) else (trW x i q gs ws (coinOf x i - pay + fee) (coinOf x q - fee + pay), 0) by rw [HR1.out, if_neg (fun h => h hr)])
      clear hr HR1
      have hca := C4.out.a.cell
      have hla := C4.out.a.lt
      go_wp2_with fail
      clear hca hla hr2 qi qi2 qq qq2
      go_loopw [11, 12] (fun v _ wr => ∃ j : Nat, j ≤ M ∧ v = .int .i64 j ∧ (L.take j).Nodup ∧ Below W2.heap.size W2 wr) (fun v _ _ => M - (intOf v).toNat)
      case atStart => exact ⟨0, Nat.zero_le _, rfl, by simp, HB4.out⟩
      case round =>
        obtain ⟨j, hj, rfl, hnd, hB⟩ := hrel
        have HND := Lib.hid hnd
        have HB := Lib.hid hB
        clear hnd hB C4 HB4
        by_cases hlt : j < M
        · have hj2 : j < L.length := by rw [HLL.out]; exact hlt
          have HJ2 := Lib.hid hj2
          obtain ⟨wq, hwq⟩ : ∃ q, q = wr := ⟨_, rfl⟩
          subst hwq
          go_wp2_with fail
          go_loopw [12] (fun v wr => ∃ k : Nat, k ≤ j ∧ v = .int .i64 k ∧ (∀ m (hm : m < L.length), m < k → ¬ L[j] = L[m]) ∧ Below W2.heap.size W2 wr) (fun v _ => j - (intOf v).toNat)
          case atStart => exact ⟨0, Nat.zero_le _, rfl, fun m hm h => by omega, HB.out⟩
          case round =>
            obtain ⟨k, hk, rfl, hall, hB⟩ := hrel
            have HA := Lib.hid hall
            have HB2 := Lib.hid hB
            clear hall
            by_cases hkj : k < j
            · have hk2 : k < L.length := by omega
              obtain ⟨b0, o0, rfl, hb0, hc0⟩ := HLX.out.at_ (show j < (L.map (fun (k : Nat) => (k : Int))).length by simpa using hj2)
              have cJ := hc0 j (by simpa using hj2)
              have cK := hc0 k (by simpa using hk2)
              simp only [List.getElem_map] at cJ cK
              have cJ := cell_call cJ hB
              have cK := cell_call cK hB
              have HK2 := Lib.hid hk2
              have HNN := Lib.hid (fun (e : L[j] = L[k]) => nodup_not hj2 hkj e)
              have HAK := Lib.hid (fun (e : ¬ L[j] = L[k]) => (show ∀ m (hm : m < L.length), m < k + 1 → ¬ L[j] = L[m] from fun m hm h1 => by
                by_cases hmk : m = k
                · subst hmk; exact e
                · exact HA.out m hm (by omega)))
              have qj : ¬ (M : Int) ≤ (j : Int) := by omega
              have qj2 : (M ≤ j) = False := by simp; omega
              have qk : ¬ (M : Int) ≤ (k : Int) := by omega
              have qk2 : (M ≤ k) = False := by simp; omega
              clear hc0 hb0 hB HA
              generalize hyj : L[j] = y at *
              generalize hyk : L[k] = y2 at *
              clear hk2
              by_cases hy : y = y2
              · have hy2 : ((y : Int) == (y2 : Int)) = true := by simp [hy]
                go_wp2_with fail
                refine wp_region_noPanic ?_
                refine wp_region_held_drew (S := (fun w' => w'.cell? ⟨b0, o0 + j, none⟩ = some (.int .i64 (y : Int)) ∧ w'.cell? ⟨b0, o0 + k, none⟩ = some (.int .i64 (y2 : Int)))) (by kernel_rfl) (by (first | (exact ⟨cJ, cK⟩))) (fun hHeld => ?_)
                refine wpAnyH_take (i := 0) (v := ?_) (by simp only [List.getElem?_toArray, List.getElem?_cons_zero]; rfl) (by kernel_rfl) (by kernel_rfl) (by kernel_rfl) (fun _ _ _ h => h) (Or.inl ⟨by rfl, ?_⟩) (by assumption) ?_
                rotate_left
                · (intro ww hSw; (try dsimp only at hSw); go_simp; (try with_reducible rfl))
                try simp only [Act.put, List.setIfInBounds_toArray, List.set_cons_zero, List.set_cons_succ]
                refine wpAnyH_take (i := 1) (v := ?_) (by simp only [List.getElem?_toArray, List.getElem?_cons_succ, List.getElem?_cons_zero]; rfl) (by kernel_rfl) (by kernel_rfl) (by kernel_rfl) (fun _ _ _ h => h) (Or.inl ⟨by rfl, ?_⟩) (by assumption) ?_
                rotate_left
                · (intro ww hSw; (try dsimp only at hSw); go_simp; (try with_reducible rfl))
                try simp only [Act.put, List.setIfInBounds_toArray, List.set_cons_zero, List.set_cons_succ]
                refine wpAnyH_take (i := 2) (v := ?_) (by simp only [List.getElem?_toArray, List.getElem?_cons_succ, List.getElem?_cons_zero]; rfl) (by kernel_rfl) (by kernel_rfl) (by kernel_rfl) (fun _ _ _ h => h) (Or.inl ⟨by rfl, ?_⟩) (by assumption) ?_
                rotate_left
                · (intro ww hSw; (try dsimp only at hSw); go_simp; (try with_reducible rfl))
                try simp only [Act.put, List.setIfInBounds_toArray, List.set_cons_zero, List.set_cons_succ]
                refine wpAnyH_take (i := 3) (v := ?_) (by simp only [List.getElem?_toArray, List.getElem?_cons_succ, List.getElem?_cons_zero]; rfl) (by kernel_rfl) (by kernel_rfl) (by kernel_rfl) (fun _ _ _ h => h) (Or.inl ⟨by rfl, ?_⟩) (by assumption) ?_
                rotate_left
                · (intro ww hSw; (try dsimp only at hSw); go_simp; (try with_reducible rfl))
                try simp only [Act.put, List.setIfInBounds_toArray, List.set_cons_zero, List.set_cons_succ]
                refine wpAnyH_take (i := 4) (v := ?_) (by simp only [List.getElem?_toArray, List.getElem?_cons_succ, List.getElem?_cons_zero]; rfl) (by kernel_rfl) (by kernel_rfl) (by kernel_rfl) (fun _ _ _ h => h) (Or.inl ⟨by rfl, ?_⟩) (by assumption) ?_
                rotate_left
                · (intro ww hSw; (try dsimp only at hSw); go_simp; (try with_reducible rfl))
                try simp only [Act.put, List.setIfInBounds_toArray, List.set_cons_zero, List.set_cons_succ]
                refine wpAnyH_take (i := 5) (v := ?_) (by simp only [List.getElem?_toArray, List.getElem?_cons_succ, List.getElem?_cons_zero]; rfl) (by kernel_rfl) (by kernel_rfl) (by kernel_rfl) (fun _ _ _ h => h) (Or.inl ⟨by rfl, ?_⟩) (by assumption) ?_
                rotate_left
                · (intro ww hSw; (try dsimp only at hSw); go_simp; (try with_reducible rfl))
                try simp only [Act.put, List.setIfInBounds_toArray, List.set_cons_zero, List.set_cons_succ]
                refine wpAnyH_take (i := 6) (v := ?_) (by simp only [List.getElem?_toArray, List.getElem?_cons_succ, List.getElem?_cons_zero]; rfl) (by kernel_rfl) (by kernel_rfl) (by kernel_rfl) (fun _ _ _ h => h) (Or.inl ⟨by rfl, ?_⟩) (by assumption) ?_
                rotate_left
                · (intro ww hSw; (try dsimp only at hSw); go_simp; (try with_reducible rfl))
                try simp only [Act.put, List.setIfInBounds_toArray, List.set_cons_zero, List.set_cons_succ]
                refine wpAnyH_take (i := 7) (v := ?_) (by simp only [List.getElem?_toArray, List.getElem?_cons_succ, List.getElem?_cons_zero]; rfl) (by kernel_rfl) (by kernel_rfl) (by kernel_rfl) (fun _ _ _ h => h) (Or.inl ⟨by rfl, ?_⟩) (by assumption) ?_
                rotate_left
                · (intro ww hSw; (try dsimp only at hSw); go_simp; (try with_reducible rfl))
                try simp only [Act.put, List.setIfInBounds_toArray, List.set_cons_zero, List.set_cons_succ]
                refine wpAnyH_take (i := 8) (v := ?_) (by simp only [List.getElem?_toArray, List.getElem?_cons_succ, List.getElem?_cons_zero]; rfl) (by kernel_rfl) (by kernel_rfl) (by kernel_rfl) (fun _ _ _ h => h) (Or.inl ⟨by rfl, ?_⟩) (by assumption) ?_
                rotate_left
                · (intro ww hSw; (try dsimp only at hSw); go_simp; (try with_reducible rfl))
                try simp only [Act.put, List.setIfInBounds_toArray, List.set_cons_zero, List.set_cons_succ]
                refine wpAnyH_done (by kernel_rfl) ?_ _
                refine NoPanic.normal ?_
                clear hHeld cJ cK
                have C5 := Lib.hid (C2.out.call (bdrew1 HB2.out))
                generalize wr.drew = W5 at *
                have HRv := Lib.hid (show R = (x, 13) by rw [HR2.out, ← HL.out, if_pos (HNN.out hy)])
                have hca := C5.out.a.cell
                have hla := C5.out.a.lt
                have hcr : ∀ i, World.cell? _ ⟨w.heap.size + 1 + 1, i, none⟩ = _ := C5.out.r.cell
                have hzr : ∀ i, World.frozen? _ ⟨w.heap.size + 1 + 1, i, none⟩ = false := C5.out.r.frozen
                have hlr : w.heap.size + 1 + 1 < _ := C5.out.r.lt
                go_wp2_with fail
                refine bodyPost_ret (v := .tuple #[.agg #[.slice pd.ex x.d.exits.length pd.exc, .slice pd.pl x.d.players.length pd.plc, .slice pd.co x.d.coins.length pd.coc, .slice pd.it x.d.items.length pd.itc, .slice pd.bo x.d.boxes.length pd.boc, .int .i64 x.d.room, .int .i64 x.d.player, .int .i64 x.d.box, .slice (some ⟨ab, ao, none⟩) x.at_.length pac, .slice (some ⟨kb, ko, none⟩) x.coins.length pkc, .slice pw x.wher.length pwc], .int .i64 13]) (by simp [results, Try.results14, go_sem, hcr]) rfl ⟨⟨pd, some ⟨ab, ao, none⟩, pac, some ⟨kb, ko, none⟩, pkc, pw, pwc⟩, ret_n13 (by rw [HRv.out]), .inl (by rw [HRv.out]; exact ⟨by simp, rfl, rfl⟩), ?_⟩
                iterate 11 refine Below.setCell ?_ (by show w.heap.size ≤ w.heap.size + 2; omega) _
                exact C5.out.b
              · have hy2 : ((y : Int) == (y2 : Int)) = false := by simp; omega
                go_wp2_with fail
                refine wp_region_noPanic ?_
                refine wp_region_held_drew (S := (fun w' => w'.cell? ⟨b0, o0 + j, none⟩ = some (.int .i64 (y : Int)) ∧ w'.cell? ⟨b0, o0 + k, none⟩ = some (.int .i64 (y2 : Int)))) (by kernel_rfl) (by (first | (exact ⟨cJ, cK⟩))) (fun hHeld => ?_)
                refine wpAnyH_take (i := 0) (v := ?_) (by simp only [List.getElem?_toArray, List.getElem?_cons_zero]; rfl) (by kernel_rfl) (by kernel_rfl) (by kernel_rfl) (fun _ _ _ h => h) (Or.inl ⟨by rfl, ?_⟩) (by assumption) ?_
                rotate_left
                · (intro ww hSw; (try dsimp only at hSw); go_simp; (try with_reducible rfl))
                try simp only [Act.put, List.setIfInBounds_toArray, List.set_cons_zero, List.set_cons_succ]
                refine wpAnyH_take (i := 1) (v := ?_) (by simp only [List.getElem?_toArray, List.getElem?_cons_succ, List.getElem?_cons_zero]; rfl) (by kernel_rfl) (by kernel_rfl) (by kernel_rfl) (fun _ _ _ h => h) (Or.inl ⟨by rfl, ?_⟩) (by assumption) ?_
                rotate_left
                · (intro ww hSw; (try dsimp only at hSw); go_simp; (try with_reducible rfl))
                try simp only [Act.put, List.setIfInBounds_toArray, List.set_cons_zero, List.set_cons_succ]
                refine wpAnyH_take (i := 2) (v := ?_) (by simp only [List.getElem?_toArray, List.getElem?_cons_succ, List.getElem?_cons_zero]; rfl) (by kernel_rfl) (by kernel_rfl) (by kernel_rfl) (fun _ _ _ h => h) (Or.inl ⟨by rfl, ?_⟩) (by assumption) ?_
                rotate_left
                · (intro ww hSw; (try dsimp only at hSw); go_simp; (try with_reducible rfl))
                try simp only [Act.put, List.setIfInBounds_toArray, List.set_cons_zero, List.set_cons_succ]
                refine wpAnyH_take (i := 3) (v := ?_) (by simp only [List.getElem?_toArray, List.getElem?_cons_succ, List.getElem?_cons_zero]; rfl) (by kernel_rfl) (by kernel_rfl) (by kernel_rfl) (fun _ _ _ h => h) (Or.inl ⟨by rfl, ?_⟩) (by assumption) ?_
                rotate_left
                · (intro ww hSw; (try dsimp only at hSw); go_simp; (try with_reducible rfl))
                try simp only [Act.put, List.setIfInBounds_toArray, List.set_cons_zero, List.set_cons_succ]
                refine wpAnyH_take (i := 4) (v := ?_) (by simp only [List.getElem?_toArray, List.getElem?_cons_succ, List.getElem?_cons_zero]; rfl) (by kernel_rfl) (by kernel_rfl) (by kernel_rfl) (fun _ _ _ h => h) (Or.inl ⟨by rfl, ?_⟩) (by assumption) ?_
                rotate_left
                · (intro ww hSw; (try dsimp only at hSw); go_simp; (try with_reducible rfl))
                try simp only [Act.put, List.setIfInBounds_toArray, List.set_cons_zero, List.set_cons_succ]
                refine wpAnyH_take (i := 5) (v := ?_) (by simp only [List.getElem?_toArray, List.getElem?_cons_succ, List.getElem?_cons_zero]; rfl) (by kernel_rfl) (by kernel_rfl) (by kernel_rfl) (fun _ _ _ h => h) (Or.inl ⟨by rfl, ?_⟩) (by assumption) ?_
                rotate_left
                · (intro ww hSw; (try dsimp only at hSw); go_simp; (try with_reducible rfl))
                try simp only [Act.put, List.setIfInBounds_toArray, List.set_cons_zero, List.set_cons_succ]
                refine wpAnyH_take (i := 6) (v := ?_) (by simp only [List.getElem?_toArray, List.getElem?_cons_succ, List.getElem?_cons_zero]; rfl) (by kernel_rfl) (by kernel_rfl) (by kernel_rfl) (fun _ _ _ h => h) (Or.inl ⟨by rfl, ?_⟩) (by assumption) ?_
                rotate_left
                · (intro ww hSw; (try dsimp only at hSw); go_simp; (try with_reducible rfl))
                try simp only [Act.put, List.setIfInBounds_toArray, List.set_cons_zero, List.set_cons_succ]
                refine wpAnyH_take (i := 7) (v := ?_) (by simp only [List.getElem?_toArray, List.getElem?_cons_succ, List.getElem?_cons_zero]; rfl) (by kernel_rfl) (by kernel_rfl) (by kernel_rfl) (fun _ _ _ h => h) (Or.inl ⟨by rfl, ?_⟩) (by assumption) ?_
                rotate_left
                · (intro ww hSw; (try dsimp only at hSw); go_simp; (try with_reducible rfl))
                try simp only [Act.put, List.setIfInBounds_toArray, List.set_cons_zero, List.set_cons_succ]
                refine wpAnyH_take (i := 8) (v := ?_) (by simp only [List.getElem?_toArray, List.getElem?_cons_succ, List.getElem?_cons_zero]; rfl) (by kernel_rfl) (by kernel_rfl) (by kernel_rfl) (fun _ _ _ h => h) (Or.inl ⟨by rfl, ?_⟩) (by assumption) ?_
                rotate_left
                · (intro ww hSw; (try dsimp only at hSw); go_simp; (try with_reducible rfl))
                try simp only [Act.put, List.setIfInBounds_toArray, List.set_cons_zero, List.set_cons_succ]
                refine wpAnyH_done (by kernel_rfl) ?_ _
                refine NoPanic.normal ?_
                clear hHeld cJ cK
                have HB3 := Lib.hid (bdrew1 HB2.out)
                generalize wr.drew = W5 at *
                go_wp2_with fail
                go_roundw
                case rel => exact ⟨k + 1, by omega, by go_num, HAK.out hy, HB3.out⟩
                case measure => simp [intOf]; omega
            · have hkj : k = j := by omega
              subst hkj
              have HN2 := Lib.hid (show (L.take (k + 1)).Nodup from (nodup_more HJ2.out).2 ⟨HND.out, fun m hm h => HA.out m hm h⟩)
              clear hB
              go_wp2_with fail
              go_roundw
              case rel => exact ⟨k + 1, by omega, by go_num, HN2.out, HB2.out⟩
              case measure => simp [intOf]; omega
        · have hje : M = j := by omega
          subst hje
          have HNOD := Lib.hid (show (gs ++ ws).Nodup by have := HND.out; rw [← HLL.out, List.take_length, HL.out] at this; exact this)
          have HR5 := Lib.hid (show R = if (hasB x i gs && hasB x q ws) = false then (x, 5)
            else if roomI (trN x i q gs ws) ⟨1, (i : Int)⟩ < 0 ∨ roomI (trN x i q gs ws) ⟨1, (q : Int)⟩ < 0 then (x, 9)
            else if ¬ swapE (coinOf x i) (coinOf x q) pay fee = 0 then (x, swapE (coinOf x i) (coinOf x q) pay fee) else (trW x i q gs ws (coinOf x i - pay + fee) (coinOf x q - fee + pay), 0) by rw [HR2.out, if_neg (fun h => h HNOD.out)])
          have C5 := Lib.hid (C2.out.call HB.out)
          clear HND HR2 HNOD
          have hca := C5.out.a.cell
          have hla := C5.out.a.lt
          have hwr := HB.out.size
          go_wp2_with fail
          refine (copied_own3 x ⟨pd, some ⟨ab, ao, none⟩, pac, some ⟨kb, ko, none⟩, pkc, pw, pwc⟩ _ (H.out.below C5.out.b (Nat.le_refl _)) (right_fewW9 HX.out)).mono ?_
          rintro e w1 ⟨⟨qd, qa, qac, qk, qkc, qw, qwc⟩, rfl, -, b1, ho⟩
          obtain rfl : pd = qd := ho.1.symm
          have HB1 := Lib.hid (HB.out.trans (b1.mono hwr))
          have HO := Lib.hid (WhOwn.alloc (ho.less hwr) (.cells #[.slice pd.ex x.d.exits.length pd.exc, .slice pd.pl x.d.players.length pd.plc, .slice pd.co x.d.coins.length pd.coc, .slice pd.it x.d.items.length pd.itc, .slice pd.bo x.d.boxes.length pd.boc, .int .i64 x.d.room, .int .i64 x.d.player, .int .i64 x.d.box, .slice qa x.at_.length qac, .slice qk x.coins.length qkc, .slice qw x.wher.length qwc] 29))
          have HQM := Lib.hid (fun (r : Addr) (hr : qw = some r) => (show r.block < w1.heap.size from by obtain ⟨_, m1, m2, _, _, _, _, _, _, hw⟩ := ho; exact OwnR.in_ hw hr))
          have HQK := Lib.hid (fun (r : Addr) (hr : qk = some r) => (show r.block < w1.heap.size from by obtain ⟨_, m1, m2, _, _, _, _, hk, _, hw⟩ := ho; exact OwnR.in_ hk hr))
          have DN := Lib.hid (Blk.newn w1 29 #[.slice pd.ex x.d.exits.length pd.exc, .slice pd.pl x.d.players.length pd.plc, .slice pd.co x.d.coins.length pd.coc, .slice pd.it x.d.items.length pd.itc, .slice pd.bo x.d.boxes.length pd.boc, .int .i64 x.d.room, .int .i64 x.d.player, .int .i64 x.d.box, .slice qa x.at_.length qac, .slice qk x.coins.length qkc, .slice qw x.wher.length qwc] (n := w1.heap.size) rfl)
          have HBN := Lib.hid (HB1.out.alloc HB1.out.size (.cells #[.slice pd.ex x.d.exits.length pd.exc, .slice pd.pl x.d.players.length pd.plc, .slice pd.co x.d.coins.length pd.coc, .slice pd.it x.d.items.length pd.itc, .slice pd.bo x.d.boxes.length pd.boc, .int .i64 x.d.room, .int .i64 x.d.player, .int .i64 x.d.box, .slice qa x.at_.length qac, .slice qk x.coins.length qkc, .slice qw x.wher.length qwc] 29))
          have hN2 := HB1.out.size
          clear ho b1 hca hla
          generalize hN : w1.heap.size = N at *
          go_wp2_with fail
          generalize w1.alloc (.cells #[.slice pd.ex x.d.exits.length pd.exc, .slice pd.pl x.d.players.length pd.plc, .slice pd.co x.d.coins.length pd.coc, .slice pd.it x.d.items.length pd.itc, .slice pd.bo x.d.boxes.length pd.boc, .int .i64 x.d.room, .int .i64 x.d.player, .int .i64 x.d.box, .slice qa x.at_.length qac, .slice qk x.coins.length qkc, .slice qw x.wher.length qwc] 29) = W6 at *
          clear hwr C5 HB HB1
          go_loopw [14, 15, 16] (fun v _ _ wr => ∃ j : Nat, j ≤ M ∧ v = .int .i64 j ∧ hasN x i q gs ws j = true ∧ Below W2.heap.size W2 wr ∧ Blk wr N 29 #[.slice pd.ex x.d.exits.length pd.exc, .slice pd.pl x.d.players.length pd.plc, .slice pd.co x.d.coins.length pd.coc, .slice pd.it x.d.items.length pd.itc, .slice pd.bo x.d.boxes.length pd.boc, .int .i64 x.d.room, .int .i64 x.d.player, .int .i64 x.d.box, .slice qa x.at_.length qac, .slice qk x.coins.length qkc, .slice qw x.wher.length qwc] ∧ WhOwn W2.heap.size wr pd ⟨pd, qa, qac, qk, qkc, qw, qwc⟩ ⟨x.d, x.at_, x.coins, stepP x.wher i q gs ws j⟩ ∧ (∀ r, qw = some r → r.block < N)) (fun v _ _ _ => M - (intOf v).toNat)
          case atStart => exact ⟨0, Nat.zero_le _, rfl, hasN_zero _ _ _ _ _, HBN.out, DN.out, by rw [stepP_zero]; exact HO.out, HQM.out⟩
          case round =>
            obtain ⟨j, hj, rfl, hhn, hB7, hD7, hO7, hqm⟩ := hrel
            have HHJ := Lib.hid hhn
            have HB7 := Lib.hid hB7
            have D7 := Lib.hid hD7
            have O7 := Lib.hid hO7
            have C7 := Lib.hid (C2.out.call hB7)
            have hc1 := C7.out.a.cell
            have hl1 := C7.out.a.lt
            have hcm : ∀ i, World.cell? _ ⟨w.heap.size + 1, i, none⟩ = _ := C7.out.m.cell
            have hlm := C7.out.m.lt
            have hn := hD7.cell
            have hnl := hD7.lt
            clear hhn hD7 HBN DN HO
            by_cases hlt : j < M
            · have hj2 : j < L.length := by rw [HLL.out]; exact hlt
              obtain ⟨k, hk⟩ : ∃ k, k = L[j] := ⟨_, rfl⟩
              have HKX := Lib.hid (HLT.out L[j] (List.getElem_mem hj2))
              obtain ⟨b0, o0, rfl, hb0, hc0⟩ := HLX.out.at_ (show j < (L.map (fun (k : Nat) => (k : Int))).length by simpa using hj2)
              have cI := hc0 j (by simpa using hj2)
              simp only [List.getElem_map] at cI
              have cI := cell_call cI hB7
              rw [← hk] at cI HKX
              obtain ⟨b, o, ew, hyb, d0, d1⟩ := PlsAt.cells H.out.wh HKX.out
              simp only at ew
              rw [← plOf_get HKX.out] at d0 d1
              have d0 := cell_call d0 C7.out.b
              have d1 := cell_call d1 C7.out.b
              obtain ⟨gw, hqw, hg1, hg2, -, -, -⟩ := hO7.putPlace (k := k) (by rw [stepP_len]; exact HKX.out)
              simp only at hqw
              subst hqw ew
              have hgm : gw < N := hqm _ rfl
              have n1 : gw ≠ N := by omega
              have n3 : gw ≠ b0 := by omega
              have n4 : W2.heap.size ≤ gw := hg1
              have hkx : k < x.wher.length := HKX.out
              have hk1 : ¬ (x.wher.length : Int) ≤ (k : Int) := by omega
              have hk2 : (x.wher.length ≤ k) = False := by simp; omega
              have qj : ¬ (M : Int) ≤ (j : Int) := by omega
              have qj2 : (M ≤ j) = False := by simp; omega
              have hbg := both_get (gs := gs) (ws := ws) (m := j) (by rw [← HL.out]; exact hj2)
              have hkL : k = (gs ++ ws)[j]'(by rw [← HL.out]; exact hj2) := by rw [hk]; simp only [HL.out]
              clear hO7 hc0 hqm hb0 hyb hg1 hg2 hk hB7
              rcases hbg with ⟨hjg, hj3, hkk⟩ | ⟨hjg, hj3, hkk⟩
              · rw [hkk] at hkL
                replace hkk := hkL
                clear hkL
                have hA : ¬ (gl.length : Int) ≤ (j : Int) := by have := HGS.out; have h2 := congrArg List.length this; rw [List.length_map] at h2; omega
                have HH := Lib.hid (show hasN x i q gs ws (j + 1) = (hasN x i q gs ws j && decide (plOf x.wher k = ⟨1, (i : Int)⟩)) by rw [hkk]; exact hasN_give hjg)
                have HS := Lib.hid (show stepP x.wher i q gs ws (j + 1) = (stepP x.wher i q gs ws j).set k ⟨1, (q : Int)⟩ by rw [hkk]; exact stepP_give hjg)
                clear hkk
                generalize plOf x.wher k = z at *
                obtain ⟨zk, zi⟩ := z
                simp only at d0 d1
                have hrun := run_pl zk zi 1 (i : Int)
                by_cases hz : (⟨zk, zi⟩ : Pl) = ⟨1, (i : Int)⟩
                case neg =>
                  have HZ := Lib.hid hz
                  simp only [hz, decide_false, Bool.not_false] at hrun
                  clear hz
                  go_wp2_with fail
                  refine wp_region_noPanic ?_
                  refine wp_region_held_drew (S := (fun w' => (∀ i, w'.cell? ⟨w.heap.size, i, none⟩ = (#[.slice pd.ex x.d.exits.length pd.exc, .slice pd.pl x.d.players.length pd.plc, .slice pd.co x.d.coins.length pd.coc, .slice pd.it x.d.items.length pd.itc, .slice pd.bo x.d.boxes.length pd.boc, .int .i64 x.d.room, .int .i64 x.d.player, .int .i64 x.d.box, .slice (some ⟨ab, ao, none⟩) x.at_.length pac, .slice (some ⟨kb, ko, none⟩) x.coins.length pkc, .slice (some ⟨b, o, none⟩) x.wher.length pwc][i]? : Option Value)) ∧ w'.cell? ⟨b0, o0 + j, none⟩ = some (.int .i64 (k : Int)) ∧ w'.cell? ⟨b, o + k * 2, none⟩ = some (.int .i64 zk) ∧ w'.cell? ⟨b, o + k * 2 + 1, none⟩ = some (.int .i64 zi))) (by kernel_rfl) (by (first | (exact ⟨hc1, cI, d0, d1⟩))) (fun hHeld => ?_)
                  refine wpAnyH_take (i := 0) (v := ?_) (by simp only [List.getElem?_toArray, List.getElem?_cons_zero]; rfl) (by kernel_rfl) (by kernel_rfl) (by kernel_rfl) (fun _ _ _ h => h) (Or.inl ⟨by rfl, ?_⟩) (by assumption) ?_
                  rotate_left
                  · (intro ww hSw; (try dsimp only at hSw); go_simp; (try with_reducible rfl))
                  try simp only [Act.put, List.setIfInBounds_toArray, List.set_cons_zero, List.set_cons_succ]
                  refine wpAnyH_take (i := 1) (v := ?_) (by simp only [List.getElem?_toArray, List.getElem?_cons_succ, List.getElem?_cons_zero]; rfl) (by kernel_rfl) (by kernel_rfl) (by kernel_rfl) (fun _ _ _ h => h) (Or.inl ⟨by rfl, ?_⟩) (by assumption) ?_
                  rotate_left
                  · (intro ww hSw; (try dsimp only at hSw); go_simp; (try with_reducible rfl))
                  try simp only [Act.put, List.setIfInBounds_toArray, List.set_cons_zero, List.set_cons_succ]
                  refine wpAnyH_take (i := 2) (v := ?_) (by simp only [List.getElem?_toArray, List.getElem?_cons_succ, List.getElem?_cons_zero]; rfl) (by kernel_rfl) (by kernel_rfl) (by kernel_rfl) (fun _ _ _ h => h) (Or.inl ⟨by rfl, ?_⟩) (by assumption) ?_
                  rotate_left
                  · (intro ww hSw; (try dsimp only at hSw); go_simp; (try with_reducible rfl))
                  try simp only [Act.put, List.setIfInBounds_toArray, List.set_cons_zero, List.set_cons_succ]
                  refine wpAnyH_take (i := 3) (v := ?_) (by simp only [List.getElem?_toArray, List.getElem?_cons_succ, List.getElem?_cons_zero]; rfl) (by kernel_rfl) (by kernel_rfl) (by kernel_rfl) (fun _ _ _ h => h) (Or.inl ⟨by rfl, ?_⟩) (by assumption) ?_
                  rotate_left
                  · (intro ww hSw; (try dsimp only at hSw); go_simp; (try with_reducible rfl))
                  try simp only [Act.put, List.setIfInBounds_toArray, List.set_cons_zero, List.set_cons_succ]
                  refine wpAnyH_take (i := 4) (v := ?_) (by simp only [List.getElem?_toArray, List.getElem?_cons_succ, List.getElem?_cons_zero]; rfl) (by kernel_rfl) (by kernel_rfl) (by kernel_rfl) (fun _ _ _ h => h) (Or.inl ⟨by rfl, ?_⟩) (by assumption) ?_
                  rotate_left
                  · (intro ww hSw; (try dsimp only at hSw); go_simp; (try with_reducible rfl))
                  try simp only [Act.put, List.setIfInBounds_toArray, List.set_cons_zero, List.set_cons_succ]
                  refine wpAnyH_take (i := 5) (v := ?_) (by simp only [List.getElem?_toArray, List.getElem?_cons_succ, List.getElem?_cons_zero]; rfl) (by kernel_rfl) (by kernel_rfl) (by kernel_rfl) (fun _ _ _ h => h) (Or.inl ⟨by rfl, ?_⟩) (by assumption) ?_
                  rotate_left
                  · (intro ww hSw; (try dsimp only at hSw); go_simp; (try with_reducible rfl))
                  try simp only [Act.put, List.setIfInBounds_toArray, List.set_cons_zero, List.set_cons_succ]
                  refine wpAnyH_take (i := 6) (v := ?_) (by simp only [List.getElem?_toArray, List.getElem?_cons_succ, List.getElem?_cons_zero]; rfl) (by kernel_rfl) (by kernel_rfl) (by kernel_rfl) (fun _ _ _ h => h) (Or.inl ⟨by rfl, ?_⟩) (by assumption) ?_
                  rotate_left
                  · (intro ww hSw; (try dsimp only at hSw); go_simp; (try with_reducible rfl))
                  try simp only [Act.put, List.setIfInBounds_toArray, List.set_cons_zero, List.set_cons_succ]
                  refine wpAnyH_take (i := 7) (v := ?_) (by simp only [List.getElem?_toArray, List.getElem?_cons_succ, List.getElem?_cons_zero]; rfl) (by kernel_rfl) (by kernel_rfl) (by kernel_rfl) (fun _ _ _ h => h) (Or.inl ⟨by rfl, ?_⟩) (by assumption) ?_
                  rotate_left
                  · (intro ww hSw; (try dsimp only at hSw); go_simp; (try with_reducible rfl))
                  try simp only [Act.put, List.setIfInBounds_toArray, List.set_cons_zero, List.set_cons_succ]
                  refine wpAnyH_take (i := 8) (v := ?_) (by simp only [List.getElem?_toArray, List.getElem?_cons_succ, List.getElem?_cons_zero]; rfl) (by kernel_rfl) (by kernel_rfl) (by kernel_rfl) (fun _ _ _ h => h) (Or.inl ⟨by rfl, ?_⟩) (by assumption) ?_
                  rotate_left
                  · (intro ww hSw; (try dsimp only at hSw); go_simp; (try with_reducible rfl))
                  try simp only [Act.put, List.setIfInBounds_toArray, List.set_cons_zero, List.set_cons_succ]
                  refine wpAnyH_take (i := 9) (v := ?_) (by simp only [List.getElem?_toArray, List.getElem?_cons_succ, List.getElem?_cons_zero]; rfl) (by kernel_rfl) (by kernel_rfl) (by kernel_rfl) (fun _ _ _ h => h) (Or.inl ⟨by rfl, ?_⟩) (by assumption) ?_
                  rotate_left
                  · (intro ww hSw; (try dsimp only at hSw); go_simp; (try with_reducible rfl))
                  try simp only [Act.put, List.setIfInBounds_toArray, List.set_cons_zero, List.set_cons_succ]
                  refine wpAnyH_take (i := 10) (v := ?_) (by simp only [List.getElem?_toArray, List.getElem?_cons_succ, List.getElem?_cons_zero]; rfl) (by kernel_rfl) (by kernel_rfl) (by kernel_rfl) (fun _ _ _ h => h) (Or.inl ⟨by rfl, ?_⟩) (by assumption) ?_
                  rotate_left
                  · (intro ww hSw; (try dsimp only at hSw); go_simp; (try with_reducible rfl))
                  try simp only [Act.put, List.setIfInBounds_toArray, List.set_cons_zero, List.set_cons_succ]
                  refine wpAnyH_done (by kernel_rfl) ?_ _
                  refine NoPanic.normal ?_
                  clear hHeld hc1 hl1 hcm hlm hn hnl cI d0 d1
                  have C8 := Lib.hid C7.out.drew2
                  generalize wr.drew = W8 at *
                  have HRv := Lib.hid (show R = (x, 5) by rw [HR5.out, if_pos (Bool.and_eq_false_iff.2 (hasN_false (m := j + 1) (by rw [HH.out, decide_eq_false HZ.out, Bool.and_false])))])
                  have hca := C8.out.a.cell
                  have hla := C8.out.a.lt
                  have hcr : ∀ i, World.cell? _ ⟨w.heap.size + 1 + 1, i, none⟩ = _ := C8.out.r.cell
                  have hzr : ∀ i, World.frozen? _ ⟨w.heap.size + 1 + 1, i, none⟩ = false := C8.out.r.frozen
                  have hlr : w.heap.size + 1 + 1 < _ := C8.out.r.lt
                  go_wp2_with fail
                  refine bodyPost_ret (v := .tuple #[.agg #[.slice pd.ex x.d.exits.length pd.exc, .slice pd.pl x.d.players.length pd.plc, .slice pd.co x.d.coins.length pd.coc, .slice pd.it x.d.items.length pd.itc, .slice pd.bo x.d.boxes.length pd.boc, .int .i64 x.d.room, .int .i64 x.d.player, .int .i64 x.d.box, .slice (some ⟨ab, ao, none⟩) x.at_.length pac, .slice (some ⟨kb, ko, none⟩) x.coins.length pkc, .slice (some ⟨b, o, none⟩) x.wher.length pwc], .int .i64 5]) (by simp [results, Try.results14, go_sem, hcr]) rfl ⟨⟨pd, some ⟨ab, ao, none⟩, pac, some ⟨kb, ko, none⟩, pkc, some ⟨b, o, none⟩, pwc⟩, ret_n13 (by rw [HRv.out]), .inl (by rw [HRv.out]; exact ⟨by simp, rfl, rfl⟩), ?_⟩
                  iterate 11 refine Below.setCell ?_ (by show w.heap.size ≤ w.heap.size + 2; omega) _
                  exact C8.out.b
                case pos =>
                  have HZ := Lib.hid hz
                  simp only [hz, decide_true, Bool.not_true] at hrun
                  clear hz
                  go_wp2_with fail
                  refine wp_region_noPanic ?_
                  refine wp_region_held_drew (S := (fun w' => (∀ i, w'.cell? ⟨w.heap.size, i, none⟩ = (#[.slice pd.ex x.d.exits.length pd.exc, .slice pd.pl x.d.players.length pd.plc, .slice pd.co x.d.coins.length pd.coc, .slice pd.it x.d.items.length pd.itc, .slice pd.bo x.d.boxes.length pd.boc, .int .i64 x.d.room, .int .i64 x.d.player, .int .i64 x.d.box, .slice (some ⟨ab, ao, none⟩) x.at_.length pac, .slice (some ⟨kb, ko, none⟩) x.coins.length pkc, .slice (some ⟨b, o, none⟩) x.wher.length pwc][i]? : Option Value)) ∧ w'.cell? ⟨b0, o0 + j, none⟩ = some (.int .i64 (k : Int)) ∧ w'.cell? ⟨b, o + k * 2, none⟩ = some (.int .i64 zk) ∧ w'.cell? ⟨b, o + k * 2 + 1, none⟩ = some (.int .i64 zi))) (by kernel_rfl) (by (first | (exact ⟨hc1, cI, d0, d1⟩))) (fun hHeld => ?_)
                  refine wpAnyH_take (i := 0) (v := ?_) (by simp only [List.getElem?_toArray, List.getElem?_cons_zero]; rfl) (by kernel_rfl) (by kernel_rfl) (by kernel_rfl) (fun _ _ _ h => h) (Or.inl ⟨by rfl, ?_⟩) (by assumption) ?_
                  rotate_left
                  · (intro ww hSw; (try dsimp only at hSw); go_simp; (try with_reducible rfl))
                  try simp only [Act.put, List.setIfInBounds_toArray, List.set_cons_zero, List.set_cons_succ]
                  refine wpAnyH_take (i := 1) (v := ?_) (by simp only [List.getElem?_toArray, List.getElem?_cons_succ, List.getElem?_cons_zero]; rfl) (by kernel_rfl) (by kernel_rfl) (by kernel_rfl) (fun _ _ _ h => h) (Or.inl ⟨by rfl, ?_⟩) (by assumption) ?_
                  rotate_left
                  · (intro ww hSw; (try dsimp only at hSw); go_simp; (try with_reducible rfl))
                  try simp only [Act.put, List.setIfInBounds_toArray, List.set_cons_zero, List.set_cons_succ]
                  refine wpAnyH_take (i := 2) (v := ?_) (by simp only [List.getElem?_toArray, List.getElem?_cons_succ, List.getElem?_cons_zero]; rfl) (by kernel_rfl) (by kernel_rfl) (by kernel_rfl) (fun _ _ _ h => h) (Or.inl ⟨by rfl, ?_⟩) (by assumption) ?_
                  rotate_left
                  · (intro ww hSw; (try dsimp only at hSw); go_simp; (try with_reducible rfl))
                  try simp only [Act.put, List.setIfInBounds_toArray, List.set_cons_zero, List.set_cons_succ]
                  refine wpAnyH_take (i := 3) (v := ?_) (by simp only [List.getElem?_toArray, List.getElem?_cons_succ, List.getElem?_cons_zero]; rfl) (by kernel_rfl) (by kernel_rfl) (by kernel_rfl) (fun _ _ _ h => h) (Or.inl ⟨by rfl, ?_⟩) (by assumption) ?_
                  rotate_left
                  · (intro ww hSw; (try dsimp only at hSw); go_simp; (try with_reducible rfl))
                  try simp only [Act.put, List.setIfInBounds_toArray, List.set_cons_zero, List.set_cons_succ]
                  refine wpAnyH_take (i := 4) (v := ?_) (by simp only [List.getElem?_toArray, List.getElem?_cons_succ, List.getElem?_cons_zero]; rfl) (by kernel_rfl) (by kernel_rfl) (by kernel_rfl) (fun _ _ _ h => h) (Or.inl ⟨by rfl, ?_⟩) (by assumption) ?_
                  rotate_left
                  · (intro ww hSw; (try dsimp only at hSw); go_simp; (try with_reducible rfl))
                  try simp only [Act.put, List.setIfInBounds_toArray, List.set_cons_zero, List.set_cons_succ]
                  refine wpAnyH_take (i := 5) (v := ?_) (by simp only [List.getElem?_toArray, List.getElem?_cons_succ, List.getElem?_cons_zero]; rfl) (by kernel_rfl) (by kernel_rfl) (by kernel_rfl) (fun _ _ _ h => h) (Or.inl ⟨by rfl, ?_⟩) (by assumption) ?_
                  rotate_left
                  · (intro ww hSw; (try dsimp only at hSw); go_simp; (try with_reducible rfl))
                  try simp only [Act.put, List.setIfInBounds_toArray, List.set_cons_zero, List.set_cons_succ]
                  refine wpAnyH_take (i := 6) (v := ?_) (by simp only [List.getElem?_toArray, List.getElem?_cons_succ, List.getElem?_cons_zero]; rfl) (by kernel_rfl) (by kernel_rfl) (by kernel_rfl) (fun _ _ _ h => h) (Or.inl ⟨by rfl, ?_⟩) (by assumption) ?_
                  rotate_left
                  · (intro ww hSw; (try dsimp only at hSw); go_simp; (try with_reducible rfl))
                  try simp only [Act.put, List.setIfInBounds_toArray, List.set_cons_zero, List.set_cons_succ]
                  refine wpAnyH_take (i := 7) (v := ?_) (by simp only [List.getElem?_toArray, List.getElem?_cons_succ, List.getElem?_cons_zero]; rfl) (by kernel_rfl) (by kernel_rfl) (by kernel_rfl) (fun _ _ _ h => h) (Or.inl ⟨by rfl, ?_⟩) (by assumption) ?_
                  rotate_left
                  · (intro ww hSw; (try dsimp only at hSw); go_simp; (try with_reducible rfl))
                  try simp only [Act.put, List.setIfInBounds_toArray, List.set_cons_zero, List.set_cons_succ]
                  refine wpAnyH_take (i := 8) (v := ?_) (by simp only [List.getElem?_toArray, List.getElem?_cons_succ, List.getElem?_cons_zero]; rfl) (by kernel_rfl) (by kernel_rfl) (by kernel_rfl) (fun _ _ _ h => h) (Or.inl ⟨by rfl, ?_⟩) (by assumption) ?_
                  rotate_left
                  · (intro ww hSw; (try dsimp only at hSw); go_simp; (try with_reducible rfl))
                  try simp only [Act.put, List.setIfInBounds_toArray, List.set_cons_zero, List.set_cons_succ]
                  refine wpAnyH_take (i := 9) (v := ?_) (by simp only [List.getElem?_toArray, List.getElem?_cons_succ, List.getElem?_cons_zero]; rfl) (by kernel_rfl) (by kernel_rfl) (by kernel_rfl) (fun _ _ _ h => h) (Or.inl ⟨by rfl, ?_⟩) (by assumption) ?_
                  rotate_left
                  · (intro ww hSw; (try dsimp only at hSw); go_simp; (try with_reducible rfl))
                  try simp only [Act.put, List.setIfInBounds_toArray, List.set_cons_zero, List.set_cons_succ]
                  refine wpAnyH_take (i := 10) (v := ?_) (by simp only [List.getElem?_toArray, List.getElem?_cons_succ, List.getElem?_cons_zero]; rfl) (by kernel_rfl) (by kernel_rfl) (by kernel_rfl) (fun _ _ _ h => h) (Or.inl ⟨by rfl, ?_⟩) (by assumption) ?_
                  rotate_left
                  · (intro ww hSw; (try dsimp only at hSw); go_simp; (try with_reducible rfl))
                  try simp only [Act.put, List.setIfInBounds_toArray, List.set_cons_zero, List.set_cons_succ]
                  refine wpAnyH_done (by kernel_rfl) ?_ _
                  refine NoPanic.normal ?_
                  clear hHeld hc1 hl1 hcm hlm hn hnl d0 d1
                  have HB8 := Lib.hid (bdrew1 HB7.out)
                  have D8 := Lib.hid (show Blk wr.drew N _ _ from D7.out)
                  have O8 := Lib.hid O7.out.drew
                  have cI := (show wr.drew.cell? _ = _ from cI)
                  clear HB7 D7 O7 C7
                  generalize wr.drew = W8 at *
                  go_wp2_with fail
                  have hn := D8.out.cell
                  have hnl := D8.out.lt
                  obtain ⟨g', hqw, -, hg3, ⟨cA, cB⟩, fA, hput⟩ := O8.out.putPlace (by rw [stepP_len]; exact HKX.out)
                  simp only [Option.some.injEq, Addr.mk.injEq] at hqw
                  obtain ⟨rfl, -⟩ := hqw
                  have HP := Lib.hid (hput ⟨1, (q : Int)⟩)
                  have hkx : k < x.wher.length := HKX.out
                  have hk1 : ¬ (x.wher.length : Int) ≤ (k : Int) := by omega
                  have hk2 : (x.wher.length ≤ k) = False := by simp; omega
                  clear hput
                  refine wp_region_noPanic ?_
                  refine wp_region_held_drew (S := (fun w' => (∀ i, w'.cell? ⟨N, i, none⟩ = (#[.slice pd.ex x.d.exits.length pd.exc, .slice pd.pl x.d.players.length pd.plc, .slice pd.co x.d.coins.length pd.coc, .slice pd.it x.d.items.length pd.itc, .slice pd.bo x.d.boxes.length pd.boc, .int .i64 x.d.room, .int .i64 x.d.player, .int .i64 x.d.box, .slice qa x.at_.length qac, .slice qk x.coins.length qkc, .slice (some ⟨gw, 0, none⟩) x.wher.length qwc][i]? : Option Value)) ∧ w'.cell? ⟨b0, o0 + j, none⟩ = some (.int .i64 (k : Int)))) (by kernel_rfl) (by (first | (exact ⟨hn, cI⟩) | (exact ⟨fun i => far2 (hn i) n1, far2 cI n3⟩))) (fun hHeld => ?_)
                  refine wpAnyH_take (i := 0) (v := ?_) (by simp only [List.getElem?_toArray, List.getElem?_cons_zero]; rfl) (by kernel_rfl) (by kernel_rfl) (by kernel_rfl) (fun _ _ _ h => h) (Or.inl ⟨by rfl, ?_⟩) (by assumption) ?_
                  rotate_left
                  · (intro ww hSw; (try dsimp only at hSw); go_simp; (try with_reducible rfl))
                  try simp only [Act.put, List.setIfInBounds_toArray, List.set_cons_zero, List.set_cons_succ]
                  refine wpAnyH_take (i := 1) (v := ?_) (by simp only [List.getElem?_toArray, List.getElem?_cons_succ, List.getElem?_cons_zero]; rfl) (by kernel_rfl) (by kernel_rfl) (by kernel_rfl) (fun _ _ _ h => h) (Or.inl ⟨by rfl, ?_⟩) (by assumption) ?_
                  rotate_left
                  · (intro ww hSw; (try dsimp only at hSw); go_simp; (try with_reducible rfl))
                  try simp only [Act.put, List.setIfInBounds_toArray, List.set_cons_zero, List.set_cons_succ]
                  refine wpAnyH_take (i := 2) (v := ?_) (by simp only [List.getElem?_toArray, List.getElem?_cons_succ, List.getElem?_cons_zero]; rfl) (by kernel_rfl) (by kernel_rfl) (by kernel_rfl) (fun _ _ _ h => h) (Or.inl ⟨by rfl, ?_⟩) (by assumption) ?_
                  rotate_left
                  · (intro ww hSw; (try dsimp only at hSw); go_simp; (try with_reducible rfl))
                  try simp only [Act.put, List.setIfInBounds_toArray, List.set_cons_zero, List.set_cons_succ]
                  refine wpAnyH_take (i := 3) (v := ?_) (by simp only [List.getElem?_toArray, List.getElem?_cons_succ, List.getElem?_cons_zero]; rfl) (by kernel_rfl) (by kernel_rfl) (by kernel_rfl) (fun _ _ _ h => h) (Or.inl ⟨by rfl, ?_⟩) (by assumption) ?_
                  rotate_left
                  · (intro ww hSw; (try dsimp only at hSw); go_simp; (try with_reducible rfl))
                  try simp only [Act.put, List.setIfInBounds_toArray, List.set_cons_zero, List.set_cons_succ]
                  refine wpAnyH_take (i := 4) (v := ?_) (by simp only [List.getElem?_toArray, List.getElem?_cons_succ, List.getElem?_cons_zero]; rfl) (by kernel_rfl) (by kernel_rfl) (by kernel_rfl) (fun _ _ _ h => h) (Or.inl ⟨by rfl, ?_⟩) (by assumption) ?_
                  rotate_left
                  · (intro ww hSw; (try dsimp only at hSw); go_simp; (try with_reducible rfl))
                  try simp only [Act.put, List.setIfInBounds_toArray, List.set_cons_zero, List.set_cons_succ]
                  refine wpAnyH_take (i := 5) (v := ?_) (by simp only [List.getElem?_toArray, List.getElem?_cons_succ, List.getElem?_cons_zero]; rfl) (by kernel_rfl) (by kernel_rfl) (by kernel_rfl) (fun _ _ _ h => h) (Or.inl ⟨by rfl, ?_⟩) (by assumption) ?_
                  rotate_left
                  · (intro ww hSw; (try dsimp only at hSw); go_simp; (try with_reducible rfl))
                  try simp only [Act.put, List.setIfInBounds_toArray, List.set_cons_zero, List.set_cons_succ]
                  refine wpAnyH_take (i := 6) (v := ?_) (by simp only [List.getElem?_toArray, List.getElem?_cons_succ, List.getElem?_cons_zero]; rfl) (by kernel_rfl) (by kernel_rfl) (by kernel_rfl) (fun _ _ _ h => h) (Or.inl ⟨by rfl, ?_⟩) (by assumption) ?_
                  rotate_left
                  · (intro ww hSw; (try dsimp only at hSw); go_simp; (try with_reducible rfl))
                  try simp only [Act.put, List.setIfInBounds_toArray, List.set_cons_zero, List.set_cons_succ]
                  refine wpAnyH_take (i := 7) (v := ?_) (by simp only [List.getElem?_toArray, List.getElem?_cons_succ, List.getElem?_cons_zero]; rfl) (by kernel_rfl) (by kernel_rfl) (by kernel_rfl) (fun _ _ _ h => h) (Or.inl ⟨by rfl, ?_⟩) (by assumption) ?_
                  rotate_left
                  · (intro ww hSw; (try dsimp only at hSw); go_simp; (try with_reducible rfl))
                  try simp only [Act.put, List.setIfInBounds_toArray, List.set_cons_zero, List.set_cons_succ]
                  refine wpAnyH_take (i := 8) (v := ?_) (by simp only [List.getElem?_toArray, List.getElem?_cons_succ, List.getElem?_cons_zero]; rfl) (by kernel_rfl) (by kernel_rfl) (by kernel_rfl) (fun _ _ _ h => h) (Or.inl ⟨by rfl, ?_⟩) (by assumption) ?_
                  rotate_left
                  · (intro ww hSw; (try dsimp only at hSw); go_simp; (try with_reducible rfl))
                  try simp only [Act.put, List.setIfInBounds_toArray, List.set_cons_zero, List.set_cons_succ]
                  refine wpAnyH_ready (rs := [9]) (by kernel_rfl) (by simp) (AllReadyH.cons (by simp only [List.getElem?_toArray, List.getElem?_cons_succ, List.getElem?_cons_zero]; rfl) (fun K hK => ?_) AllReadyH.nil)
                  go_simp
                  try go_wp2_with fail
                  refine hK.out _ _ (by (first | (exact ⟨hn, cI⟩) | (exact ⟨fun i => far2 (hn i) n1, far2 cI n3⟩))) (fun hHeld => ?_)
                  clear hK K
                  try simp only [Act.put, List.setIfInBounds_toArray, List.set_cons_zero, List.set_cons_succ]
                  refine wpAnyH_done (by kernel_rfl) ?_ _
                  refine NoPanic.normal ?_
                  clear hHeld
                  go_wp2_with fail
                  go_roundw
                  case rel => exact ⟨j + 1, by omega, by go_num, by rw [HH.out, HHJ.out, Bool.true_and]; exact decide_eq_true HZ.out, bdrew1 ((HB8.out.setCell n4 _).setCell n4 _), ((D8.out.far n1.symm _).far n1.symm _).drew, by rw [HS.out]; exact HP.out.drew, fun r hr => by cases hr; exact hgm⟩
                  case measure => simp [intOf]; omega
              · rw [hkk] at hkL
                replace hkk := hkL
                clear hkL
                have hA : (gl.length : Int) ≤ (j : Int) := by have := HGS.out; have h2 := congrArg List.length this; rw [List.length_map] at h2; omega
                have HH := Lib.hid (show hasN x i q gs ws (j + 1) = (hasN x i q gs ws j && decide (plOf x.wher k = ⟨1, (q : Int)⟩)) by rw [hkk]; exact hasN_want hjg hj3)
                have HS := Lib.hid (show stepP x.wher i q gs ws (j + 1) = (stepP x.wher i q gs ws j).set k ⟨1, (i : Int)⟩ by rw [hkk]; exact stepP_want hjg hj3)
                clear hkk
                generalize plOf x.wher k = z at *
                obtain ⟨zk, zi⟩ := z
                simp only at d0 d1
                have hrun := run_pl zk zi 1 (q : Int)
                by_cases hz : (⟨zk, zi⟩ : Pl) = ⟨1, (q : Int)⟩
                case neg =>
                  have HZ := Lib.hid hz
                  simp only [hz, decide_false, Bool.not_false] at hrun
                  clear hz
                  go_wp2_with fail
                  refine wp_region_noPanic ?_
                  refine wp_region_held_drew (S := (fun w' => (∀ i, w'.cell? ⟨w.heap.size, i, none⟩ = (#[.slice pd.ex x.d.exits.length pd.exc, .slice pd.pl x.d.players.length pd.plc, .slice pd.co x.d.coins.length pd.coc, .slice pd.it x.d.items.length pd.itc, .slice pd.bo x.d.boxes.length pd.boc, .int .i64 x.d.room, .int .i64 x.d.player, .int .i64 x.d.box, .slice (some ⟨ab, ao, none⟩) x.at_.length pac, .slice (some ⟨kb, ko, none⟩) x.coins.length pkc, .slice (some ⟨b, o, none⟩) x.wher.length pwc][i]? : Option Value)) ∧ w'.cell? ⟨b0, o0 + j, none⟩ = some (.int .i64 (k : Int)) ∧ w'.cell? ⟨b, o + k * 2, none⟩ = some (.int .i64 zk) ∧ w'.cell? ⟨b, o + k * 2 + 1, none⟩ = some (.int .i64 zi))) (by kernel_rfl) (by (first | (exact ⟨hc1, cI, d0, d1⟩))) (fun hHeld => ?_)
                  refine wpAnyH_take (i := 0) (v := ?_) (by simp only [List.getElem?_toArray, List.getElem?_cons_zero]; rfl) (by kernel_rfl) (by kernel_rfl) (by kernel_rfl) (fun _ _ _ h => h) (Or.inl ⟨by rfl, ?_⟩) (by assumption) ?_
                  rotate_left
                  · (intro ww hSw; (try dsimp only at hSw); go_simp; (try with_reducible rfl))
                  try simp only [Act.put, List.setIfInBounds_toArray, List.set_cons_zero, List.set_cons_succ]
                  refine wpAnyH_take (i := 1) (v := ?_) (by simp only [List.getElem?_toArray, List.getElem?_cons_succ, List.getElem?_cons_zero]; rfl) (by kernel_rfl) (by kernel_rfl) (by kernel_rfl) (fun _ _ _ h => h) (Or.inl ⟨by rfl, ?_⟩) (by assumption) ?_
                  rotate_left
                  · (intro ww hSw; (try dsimp only at hSw); go_simp; (try with_reducible rfl))
                  try simp only [Act.put, List.setIfInBounds_toArray, List.set_cons_zero, List.set_cons_succ]
                  refine wpAnyH_take (i := 2) (v := ?_) (by simp only [List.getElem?_toArray, List.getElem?_cons_succ, List.getElem?_cons_zero]; rfl) (by kernel_rfl) (by kernel_rfl) (by kernel_rfl) (fun _ _ _ h => h) (Or.inl ⟨by rfl, ?_⟩) (by assumption) ?_
                  rotate_left
                  · (intro ww hSw; (try dsimp only at hSw); go_simp; (try with_reducible rfl))
                  try simp only [Act.put, List.setIfInBounds_toArray, List.set_cons_zero, List.set_cons_succ]
                  refine wpAnyH_take (i := 3) (v := ?_) (by simp only [List.getElem?_toArray, List.getElem?_cons_succ, List.getElem?_cons_zero]; rfl) (by kernel_rfl) (by kernel_rfl) (by kernel_rfl) (fun _ _ _ h => h) (Or.inl ⟨by rfl, ?_⟩) (by assumption) ?_
                  rotate_left
                  · (intro ww hSw; (try dsimp only at hSw); go_simp; (try with_reducible rfl))
                  try simp only [Act.put, List.setIfInBounds_toArray, List.set_cons_zero, List.set_cons_succ]
                  refine wpAnyH_take (i := 4) (v := ?_) (by simp only [List.getElem?_toArray, List.getElem?_cons_succ, List.getElem?_cons_zero]; rfl) (by kernel_rfl) (by kernel_rfl) (by kernel_rfl) (fun _ _ _ h => h) (Or.inl ⟨by rfl, ?_⟩) (by assumption) ?_
                  rotate_left
                  · (intro ww hSw; (try dsimp only at hSw); go_simp; (try with_reducible rfl))
                  try simp only [Act.put, List.setIfInBounds_toArray, List.set_cons_zero, List.set_cons_succ]
                  refine wpAnyH_take (i := 5) (v := ?_) (by simp only [List.getElem?_toArray, List.getElem?_cons_succ, List.getElem?_cons_zero]; rfl) (by kernel_rfl) (by kernel_rfl) (by kernel_rfl) (fun _ _ _ h => h) (Or.inl ⟨by rfl, ?_⟩) (by assumption) ?_
                  rotate_left
                  · (intro ww hSw; (try dsimp only at hSw); go_simp; (try with_reducible rfl))
                  try simp only [Act.put, List.setIfInBounds_toArray, List.set_cons_zero, List.set_cons_succ]
                  refine wpAnyH_take (i := 6) (v := ?_) (by simp only [List.getElem?_toArray, List.getElem?_cons_succ, List.getElem?_cons_zero]; rfl) (by kernel_rfl) (by kernel_rfl) (by kernel_rfl) (fun _ _ _ h => h) (Or.inl ⟨by rfl, ?_⟩) (by assumption) ?_
                  rotate_left
                  · (intro ww hSw; (try dsimp only at hSw); go_simp; (try with_reducible rfl))
                  try simp only [Act.put, List.setIfInBounds_toArray, List.set_cons_zero, List.set_cons_succ]
                  refine wpAnyH_take (i := 7) (v := ?_) (by simp only [List.getElem?_toArray, List.getElem?_cons_succ, List.getElem?_cons_zero]; rfl) (by kernel_rfl) (by kernel_rfl) (by kernel_rfl) (fun _ _ _ h => h) (Or.inl ⟨by rfl, ?_⟩) (by assumption) ?_
                  rotate_left
                  · (intro ww hSw; (try dsimp only at hSw); go_simp; (try with_reducible rfl))
                  try simp only [Act.put, List.setIfInBounds_toArray, List.set_cons_zero, List.set_cons_succ]
                  refine wpAnyH_take (i := 8) (v := ?_) (by simp only [List.getElem?_toArray, List.getElem?_cons_succ, List.getElem?_cons_zero]; rfl) (by kernel_rfl) (by kernel_rfl) (by kernel_rfl) (fun _ _ _ h => h) (Or.inl ⟨by rfl, ?_⟩) (by assumption) ?_
                  rotate_left
                  · (intro ww hSw; (try dsimp only at hSw); go_simp; (try with_reducible rfl))
                  try simp only [Act.put, List.setIfInBounds_toArray, List.set_cons_zero, List.set_cons_succ]
                  refine wpAnyH_take (i := 9) (v := ?_) (by simp only [List.getElem?_toArray, List.getElem?_cons_succ, List.getElem?_cons_zero]; rfl) (by kernel_rfl) (by kernel_rfl) (by kernel_rfl) (fun _ _ _ h => h) (Or.inl ⟨by rfl, ?_⟩) (by assumption) ?_
                  rotate_left
                  · (intro ww hSw; (try dsimp only at hSw); go_simp; (try with_reducible rfl))
                  try simp only [Act.put, List.setIfInBounds_toArray, List.set_cons_zero, List.set_cons_succ]
                  refine wpAnyH_take (i := 10) (v := ?_) (by simp only [List.getElem?_toArray, List.getElem?_cons_succ, List.getElem?_cons_zero]; rfl) (by kernel_rfl) (by kernel_rfl) (by kernel_rfl) (fun _ _ _ h => h) (Or.inl ⟨by rfl, ?_⟩) (by assumption) ?_
                  rotate_left
                  · (intro ww hSw; (try dsimp only at hSw); go_simp; (try with_reducible rfl))
                  try simp only [Act.put, List.setIfInBounds_toArray, List.set_cons_zero, List.set_cons_succ]
                  refine wpAnyH_done (by kernel_rfl) ?_ _
                  refine NoPanic.normal ?_
                  clear hHeld hc1 hl1 hcm hlm hn hnl cI d0 d1
                  have C8 := Lib.hid C7.out.drew2
                  generalize wr.drew = W8 at *
                  have HRv := Lib.hid (show R = (x, 5) by rw [HR5.out, if_pos (Bool.and_eq_false_iff.2 (hasN_false (m := j + 1) (by rw [HH.out, decide_eq_false HZ.out, Bool.and_false])))])
                  have hca := C8.out.a.cell
                  have hla := C8.out.a.lt
                  have hcr : ∀ i, World.cell? _ ⟨w.heap.size + 1 + 1, i, none⟩ = _ := C8.out.r.cell
                  have hzr : ∀ i, World.frozen? _ ⟨w.heap.size + 1 + 1, i, none⟩ = false := C8.out.r.frozen
                  have hlr : w.heap.size + 1 + 1 < _ := C8.out.r.lt
                  go_wp2_with fail
                  refine bodyPost_ret (v := .tuple #[.agg #[.slice pd.ex x.d.exits.length pd.exc, .slice pd.pl x.d.players.length pd.plc, .slice pd.co x.d.coins.length pd.coc, .slice pd.it x.d.items.length pd.itc, .slice pd.bo x.d.boxes.length pd.boc, .int .i64 x.d.room, .int .i64 x.d.player, .int .i64 x.d.box, .slice (some ⟨ab, ao, none⟩) x.at_.length pac, .slice (some ⟨kb, ko, none⟩) x.coins.length pkc, .slice (some ⟨b, o, none⟩) x.wher.length pwc], .int .i64 5]) (by simp [results, Try.results14, go_sem, hcr]) rfl ⟨⟨pd, some ⟨ab, ao, none⟩, pac, some ⟨kb, ko, none⟩, pkc, some ⟨b, o, none⟩, pwc⟩, ret_n13 (by rw [HRv.out]), .inl (by rw [HRv.out]; exact ⟨by simp, rfl, rfl⟩), ?_⟩
                  iterate 11 refine Below.setCell ?_ (by show w.heap.size ≤ w.heap.size + 2; omega) _
                  exact C8.out.b
                case pos =>
                  have HZ := Lib.hid hz
                  simp only [hz, decide_true, Bool.not_true] at hrun
                  clear hz
                  go_wp2_with fail
                  refine wp_region_noPanic ?_
                  refine wp_region_held_drew (S := (fun w' => (∀ i, w'.cell? ⟨w.heap.size, i, none⟩ = (#[.slice pd.ex x.d.exits.length pd.exc, .slice pd.pl x.d.players.length pd.plc, .slice pd.co x.d.coins.length pd.coc, .slice pd.it x.d.items.length pd.itc, .slice pd.bo x.d.boxes.length pd.boc, .int .i64 x.d.room, .int .i64 x.d.player, .int .i64 x.d.box, .slice (some ⟨ab, ao, none⟩) x.at_.length pac, .slice (some ⟨kb, ko, none⟩) x.coins.length pkc, .slice (some ⟨b, o, none⟩) x.wher.length pwc][i]? : Option Value)) ∧ w'.cell? ⟨b0, o0 + j, none⟩ = some (.int .i64 (k : Int)) ∧ w'.cell? ⟨b, o + k * 2, none⟩ = some (.int .i64 zk) ∧ w'.cell? ⟨b, o + k * 2 + 1, none⟩ = some (.int .i64 zi))) (by kernel_rfl) (by (first | (exact ⟨hc1, cI, d0, d1⟩))) (fun hHeld => ?_)
                  refine wpAnyH_take (i := 0) (v := ?_) (by simp only [List.getElem?_toArray, List.getElem?_cons_zero]; rfl) (by kernel_rfl) (by kernel_rfl) (by kernel_rfl) (fun _ _ _ h => h) (Or.inl ⟨by rfl, ?_⟩) (by assumption) ?_
                  rotate_left
                  · (intro ww hSw; (try dsimp only at hSw); go_simp; (try with_reducible rfl))
                  try simp only [Act.put, List.setIfInBounds_toArray, List.set_cons_zero, List.set_cons_succ]
                  refine wpAnyH_take (i := 1) (v := ?_) (by simp only [List.getElem?_toArray, List.getElem?_cons_succ, List.getElem?_cons_zero]; rfl) (by kernel_rfl) (by kernel_rfl) (by kernel_rfl) (fun _ _ _ h => h) (Or.inl ⟨by rfl, ?_⟩) (by assumption) ?_
                  rotate_left
                  · (intro ww hSw; (try dsimp only at hSw); go_simp; (try with_reducible rfl))
                  try simp only [Act.put, List.setIfInBounds_toArray, List.set_cons_zero, List.set_cons_succ]
                  refine wpAnyH_take (i := 2) (v := ?_) (by simp only [List.getElem?_toArray, List.getElem?_cons_succ, List.getElem?_cons_zero]; rfl) (by kernel_rfl) (by kernel_rfl) (by kernel_rfl) (fun _ _ _ h => h) (Or.inl ⟨by rfl, ?_⟩) (by assumption) ?_
                  rotate_left
                  · (intro ww hSw; (try dsimp only at hSw); go_simp; (try with_reducible rfl))
                  try simp only [Act.put, List.setIfInBounds_toArray, List.set_cons_zero, List.set_cons_succ]
                  refine wpAnyH_take (i := 3) (v := ?_) (by simp only [List.getElem?_toArray, List.getElem?_cons_succ, List.getElem?_cons_zero]; rfl) (by kernel_rfl) (by kernel_rfl) (by kernel_rfl) (fun _ _ _ h => h) (Or.inl ⟨by rfl, ?_⟩) (by assumption) ?_
                  rotate_left
                  · (intro ww hSw; (try dsimp only at hSw); go_simp; (try with_reducible rfl))
                  try simp only [Act.put, List.setIfInBounds_toArray, List.set_cons_zero, List.set_cons_succ]
                  refine wpAnyH_take (i := 4) (v := ?_) (by simp only [List.getElem?_toArray, List.getElem?_cons_succ, List.getElem?_cons_zero]; rfl) (by kernel_rfl) (by kernel_rfl) (by kernel_rfl) (fun _ _ _ h => h) (Or.inl ⟨by rfl, ?_⟩) (by assumption) ?_
                  rotate_left
                  · (intro ww hSw; (try dsimp only at hSw); go_simp; (try with_reducible rfl))
                  try simp only [Act.put, List.setIfInBounds_toArray, List.set_cons_zero, List.set_cons_succ]
                  refine wpAnyH_take (i := 5) (v := ?_) (by simp only [List.getElem?_toArray, List.getElem?_cons_succ, List.getElem?_cons_zero]; rfl) (by kernel_rfl) (by kernel_rfl) (by kernel_rfl) (fun _ _ _ h => h) (Or.inl ⟨by rfl, ?_⟩) (by assumption) ?_
                  rotate_left
                  · (intro ww hSw; (try dsimp only at hSw); go_simp; (try with_reducible rfl))
                  try simp only [Act.put, List.setIfInBounds_toArray, List.set_cons_zero, List.set_cons_succ]
                  refine wpAnyH_take (i := 6) (v := ?_) (by simp only [List.getElem?_toArray, List.getElem?_cons_succ, List.getElem?_cons_zero]; rfl) (by kernel_rfl) (by kernel_rfl) (by kernel_rfl) (fun _ _ _ h => h) (Or.inl ⟨by rfl, ?_⟩) (by assumption) ?_
                  rotate_left
                  · (intro ww hSw; (try dsimp only at hSw); go_simp; (try with_reducible rfl))
                  try simp only [Act.put, List.setIfInBounds_toArray, List.set_cons_zero, List.set_cons_succ]
                  refine wpAnyH_take (i := 7) (v := ?_) (by simp only [List.getElem?_toArray, List.getElem?_cons_succ, List.getElem?_cons_zero]; rfl) (by kernel_rfl) (by kernel_rfl) (by kernel_rfl) (fun _ _ _ h => h) (Or.inl ⟨by rfl, ?_⟩) (by assumption) ?_
                  rotate_left
                  · (intro ww hSw; (try dsimp only at hSw); go_simp; (try with_reducible rfl))
                  try simp only [Act.put, List.setIfInBounds_toArray, List.set_cons_zero, List.set_cons_succ]
                  refine wpAnyH_take (i := 8) (v := ?_) (by simp only [List.getElem?_toArray, List.getElem?_cons_succ, List.getElem?_cons_zero]; rfl) (by kernel_rfl) (by kernel_rfl) (by kernel_rfl) (fun _ _ _ h => h) (Or.inl ⟨by rfl, ?_⟩) (by assumption) ?_
                  rotate_left
                  · (intro ww hSw; (try dsimp only at hSw); go_simp; (try with_reducible rfl))
                  try simp only [Act.put, List.setIfInBounds_toArray, List.set_cons_zero, List.set_cons_succ]
                  refine wpAnyH_take (i := 9) (v := ?_) (by simp only [List.getElem?_toArray, List.getElem?_cons_succ, List.getElem?_cons_zero]; rfl) (by kernel_rfl) (by kernel_rfl) (by kernel_rfl) (fun _ _ _ h => h) (Or.inl ⟨by rfl, ?_⟩) (by assumption) ?_
                  rotate_left
                  · (intro ww hSw; (try dsimp only at hSw); go_simp; (try with_reducible rfl))
                  try simp only [Act.put, List.setIfInBounds_toArray, List.set_cons_zero, List.set_cons_succ]
                  refine wpAnyH_take (i := 10) (v := ?_) (by simp only [List.getElem?_toArray, List.getElem?_cons_succ, List.getElem?_cons_zero]; rfl) (by kernel_rfl) (by kernel_rfl) (by kernel_rfl) (fun _ _ _ h => h) (Or.inl ⟨by rfl, ?_⟩) (by assumption) ?_
                  rotate_left
                  · (intro ww hSw; (try dsimp only at hSw); go_simp; (try with_reducible rfl))
                  try simp only [Act.put, List.setIfInBounds_toArray, List.set_cons_zero, List.set_cons_succ]
                  refine wpAnyH_done (by kernel_rfl) ?_ _
                  refine NoPanic.normal ?_
                  clear hHeld hc1 hl1 hcm hlm hn hnl d0 d1
                  have HB8 := Lib.hid (bdrew1 HB7.out)
                  have D8 := Lib.hid (show Blk wr.drew N _ _ from D7.out)
                  have O8 := Lib.hid O7.out.drew
                  have cI := (show wr.drew.cell? _ = _ from cI)
                  clear HB7 D7 O7 C7
                  generalize wr.drew = W8 at *
                  go_wp2_with fail
                  have hn := D8.out.cell
                  have hnl := D8.out.lt
                  obtain ⟨g', hqw, -, hg3, ⟨cA, cB⟩, fA, hput⟩ := O8.out.putPlace (by rw [stepP_len]; exact HKX.out)
                  simp only [Option.some.injEq, Addr.mk.injEq] at hqw
                  obtain ⟨rfl, -⟩ := hqw
                  have HP := Lib.hid (hput ⟨1, (i : Int)⟩)
                  have hkx : k < x.wher.length := HKX.out
                  have hk1 : ¬ (x.wher.length : Int) ≤ (k : Int) := by omega
                  have hk2 : (x.wher.length ≤ k) = False := by simp; omega
                  clear hput
                  refine wp_region_noPanic ?_
                  refine wp_region_held_drew (S := (fun w' => (∀ i, w'.cell? ⟨N, i, none⟩ = (#[.slice pd.ex x.d.exits.length pd.exc, .slice pd.pl x.d.players.length pd.plc, .slice pd.co x.d.coins.length pd.coc, .slice pd.it x.d.items.length pd.itc, .slice pd.bo x.d.boxes.length pd.boc, .int .i64 x.d.room, .int .i64 x.d.player, .int .i64 x.d.box, .slice qa x.at_.length qac, .slice qk x.coins.length qkc, .slice (some ⟨gw, 0, none⟩) x.wher.length qwc][i]? : Option Value)) ∧ w'.cell? ⟨b0, o0 + j, none⟩ = some (.int .i64 (k : Int)))) (by kernel_rfl) (by (first | (exact ⟨hn, cI⟩) | (exact ⟨fun i => far2 (hn i) n1, far2 cI n3⟩))) (fun hHeld => ?_)
                  refine wpAnyH_take (i := 0) (v := ?_) (by simp only [List.getElem?_toArray, List.getElem?_cons_zero]; rfl) (by kernel_rfl) (by kernel_rfl) (by kernel_rfl) (fun _ _ _ h => h) (Or.inl ⟨by rfl, ?_⟩) (by assumption) ?_
                  rotate_left
                  · (intro ww hSw; (try dsimp only at hSw); go_simp; (try with_reducible rfl))
                  try simp only [Act.put, List.setIfInBounds_toArray, List.set_cons_zero, List.set_cons_succ]
                  refine wpAnyH_take (i := 1) (v := ?_) (by simp only [List.getElem?_toArray, List.getElem?_cons_succ, List.getElem?_cons_zero]; rfl) (by kernel_rfl) (by kernel_rfl) (by kernel_rfl) (fun _ _ _ h => h) (Or.inl ⟨by rfl, ?_⟩) (by assumption) ?_
                  rotate_left
                  · (intro ww hSw; (try dsimp only at hSw); go_simp; (try with_reducible rfl))
                  try simp only [Act.put, List.setIfInBounds_toArray, List.set_cons_zero, List.set_cons_succ]
                  refine wpAnyH_take (i := 2) (v := ?_) (by simp only [List.getElem?_toArray, List.getElem?_cons_succ, List.getElem?_cons_zero]; rfl) (by kernel_rfl) (by kernel_rfl) (by kernel_rfl) (fun _ _ _ h => h) (Or.inl ⟨by rfl, ?_⟩) (by assumption) ?_
                  rotate_left
                  · (intro ww hSw; (try dsimp only at hSw); go_simp; (try with_reducible rfl))
                  try simp only [Act.put, List.setIfInBounds_toArray, List.set_cons_zero, List.set_cons_succ]
                  refine wpAnyH_take (i := 3) (v := ?_) (by simp only [List.getElem?_toArray, List.getElem?_cons_succ, List.getElem?_cons_zero]; rfl) (by kernel_rfl) (by kernel_rfl) (by kernel_rfl) (fun _ _ _ h => h) (Or.inl ⟨by rfl, ?_⟩) (by assumption) ?_
                  rotate_left
                  · (intro ww hSw; (try dsimp only at hSw); go_simp; (try with_reducible rfl))
                  try simp only [Act.put, List.setIfInBounds_toArray, List.set_cons_zero, List.set_cons_succ]
                  refine wpAnyH_take (i := 4) (v := ?_) (by simp only [List.getElem?_toArray, List.getElem?_cons_succ, List.getElem?_cons_zero]; rfl) (by kernel_rfl) (by kernel_rfl) (by kernel_rfl) (fun _ _ _ h => h) (Or.inl ⟨by rfl, ?_⟩) (by assumption) ?_
                  rotate_left
                  · (intro ww hSw; (try dsimp only at hSw); go_simp; (try with_reducible rfl))
                  try simp only [Act.put, List.setIfInBounds_toArray, List.set_cons_zero, List.set_cons_succ]
                  refine wpAnyH_take (i := 5) (v := ?_) (by simp only [List.getElem?_toArray, List.getElem?_cons_succ, List.getElem?_cons_zero]; rfl) (by kernel_rfl) (by kernel_rfl) (by kernel_rfl) (fun _ _ _ h => h) (Or.inl ⟨by rfl, ?_⟩) (by assumption) ?_
                  rotate_left
                  · (intro ww hSw; (try dsimp only at hSw); go_simp; (try with_reducible rfl))
                  try simp only [Act.put, List.setIfInBounds_toArray, List.set_cons_zero, List.set_cons_succ]
                  refine wpAnyH_take (i := 6) (v := ?_) (by simp only [List.getElem?_toArray, List.getElem?_cons_succ, List.getElem?_cons_zero]; rfl) (by kernel_rfl) (by kernel_rfl) (by kernel_rfl) (fun _ _ _ h => h) (Or.inl ⟨by rfl, ?_⟩) (by assumption) ?_
                  rotate_left
                  · (intro ww hSw; (try dsimp only at hSw); go_simp; (try with_reducible rfl))
                  try simp only [Act.put, List.setIfInBounds_toArray, List.set_cons_zero, List.set_cons_succ]
                  refine wpAnyH_take (i := 7) (v := ?_) (by simp only [List.getElem?_toArray, List.getElem?_cons_succ, List.getElem?_cons_zero]; rfl) (by kernel_rfl) (by kernel_rfl) (by kernel_rfl) (fun _ _ _ h => h) (Or.inl ⟨by rfl, ?_⟩) (by assumption) ?_
                  rotate_left
                  · (intro ww hSw; (try dsimp only at hSw); go_simp; (try with_reducible rfl))
                  try simp only [Act.put, List.setIfInBounds_toArray, List.set_cons_zero, List.set_cons_succ]
                  refine wpAnyH_take (i := 8) (v := ?_) (by simp only [List.getElem?_toArray, List.getElem?_cons_succ, List.getElem?_cons_zero]; rfl) (by kernel_rfl) (by kernel_rfl) (by kernel_rfl) (fun _ _ _ h => h) (Or.inl ⟨by rfl, ?_⟩) (by assumption) ?_
                  rotate_left
                  · (intro ww hSw; (try dsimp only at hSw); go_simp; (try with_reducible rfl))
                  try simp only [Act.put, List.setIfInBounds_toArray, List.set_cons_zero, List.set_cons_succ]
                  refine wpAnyH_ready (rs := [9]) (by kernel_rfl) (by simp) (AllReadyH.cons (by simp only [List.getElem?_toArray, List.getElem?_cons_succ, List.getElem?_cons_zero]; rfl) (fun K hK => ?_) AllReadyH.nil)
                  go_simp
                  try go_wp2_with fail
                  refine hK.out _ _ (by (first | (exact ⟨hn, cI⟩) | (exact ⟨fun i => far2 (hn i) n1, far2 cI n3⟩))) (fun hHeld => ?_)
                  clear hK K
                  try simp only [Act.put, List.setIfInBounds_toArray, List.set_cons_zero, List.set_cons_succ]
                  refine wpAnyH_done (by kernel_rfl) ?_ _
                  refine NoPanic.normal ?_
                  clear hHeld
                  go_wp2_with fail
                  go_roundw
                  case rel => exact ⟨j + 1, by omega, by go_num, by rw [HH.out, HHJ.out, Bool.true_and]; exact decide_eq_true HZ.out, bdrew1 ((HB8.out.setCell n4 _).setCell n4 _), ((D8.out.far n1.symm _).far n1.symm _).drew, by rw [HS.out]; exact HP.out.drew, fun r hr => by cases hr; exact hgm⟩
                  case measure => simp [intOf]; omega
            · have hje : M = j := by omega
              subst hje
              have HHB := Lib.hid (show (hasB x i gs && hasB x q ws) = true by have := HHJ.out; rw [← HLL.out, HL.out, hasN_all] at this; exact this)
              have O8 := Lib.hid (show WhOwn W2.heap.size wr pd ⟨pd, qa, qac, qk, qkc, qw, qwc⟩ (trN x i q gs ws) from by
                have := O7.out
                rw [← HLL.out, HL.out, stepP_all] at this
                exact this)
              have HR6 := Lib.hid (show R = if roomI (trN x i q gs ws) ⟨1, (i : Int)⟩ < 0 ∨ roomI (trN x i q gs ws) ⟨1, (q : Int)⟩ < 0 then (x, 9)
                else if ¬ swapE (coinOf x i) (coinOf x q) pay fee = 0 then (x, swapE (coinOf x i) (coinOf x q) pay fee) else (trW x i q gs ws (coinOf x i - pay + fee) (coinOf x q - fee + pay), 0) by rw [HR5.out, if_neg (by rw [HHB.out]; decide)])
              have HT1 := Lib.hid (fun W (hh : PlsAt W qw (trN x i q gs ws).wher) => rroom_as (trN_shape x i q gs ws) rfl ⟨pd, qa, qac, qk, qkc, qw, qwc⟩ i W HX.out hh)
              have HT2 := Lib.hid (fun W (hh : PlsAt W qw (trN x i q gs ws).wher) => rroom_as (trN_shape x i q gs ws) rfl ⟨pd, qa, qac, qk, qkc, qw, qwc⟩ q W HX.out hh)
              generalize roomI (trN x i q gs ws) ⟨1, (i : Int)⟩ = t1 at *
              generalize roomI (trN x i q gs ws) ⟨1, (q : Int)⟩ = t2 at *
              clear O7 HHJ HR5 hB7 hO7 hqm
              go_wp2_with fail
              refine (HT1.out _ O8.out.pls).mono ?_
              rintro e w8 ⟨rfl, b8⟩
              have O9 := Lib.hid (O8.out.call b8)
              have D9 := Lib.hid (D7.out.call b8)
              have HB9 := Lib.hid (HB7.out.trans (b8.mono HB7.out.size))
              have C9 := Lib.hid (C7.out.call b8)
              clear b8 hc1 hl1 hcm hlm hn hnl O8 D7 HB7 C7
              by_cases ht1 : t1 < 0
              · have ht : True := trivial
                have HRv := Lib.hid (show R = (x, 9) by rw [HR6.out, if_pos (.inl ht1)])
                have hca := C9.out.a.cell
                have hla := C9.out.a.lt
                have hcr : ∀ i, World.cell? _ ⟨w.heap.size + 1 + 1, i, none⟩ = _ := C9.out.r.cell
                have hzr : ∀ i, World.frozen? _ ⟨w.heap.size + 1 + 1, i, none⟩ = false := C9.out.r.frozen
                have hlr : w.heap.size + 1 + 1 < _ := C9.out.r.lt
                go_wp2_with fail
                refine bodyPost_ret (v := .tuple #[.agg #[.slice pd.ex x.d.exits.length pd.exc, .slice pd.pl x.d.players.length pd.plc, .slice pd.co x.d.coins.length pd.coc, .slice pd.it x.d.items.length pd.itc, .slice pd.bo x.d.boxes.length pd.boc, .int .i64 x.d.room, .int .i64 x.d.player, .int .i64 x.d.box, .slice (some ⟨ab, ao, none⟩) x.at_.length pac, .slice (some ⟨kb, ko, none⟩) x.coins.length pkc, .slice pw x.wher.length pwc], .int .i64 9]) (by simp [results, Try.results14, go_sem, hcr]) rfl ⟨⟨pd, some ⟨ab, ao, none⟩, pac, some ⟨kb, ko, none⟩, pkc, pw, pwc⟩, ret_n13 (by rw [HRv.out]), .inl (by rw [HRv.out]; exact ⟨by simp, rfl, rfl⟩), ?_⟩
                iterate 11 refine Below.setCell ?_ (by show w.heap.size ≤ w.heap.size + 2; omega) _
                exact C9.out.b
              have hn := D9.out.cell
              have hnl := D9.out.lt
              go_wp2_with fail
              refine (HT2.out _ O9.out.pls).mono ?_
              rintro e w9 ⟨rfl, b9⟩
              have OA := Lib.hid (O9.out.call b9)
              have DA := Lib.hid (D9.out.call b9)
              have HBA := Lib.hid (HB9.out.trans (b9.mono HB9.out.size))
              have CA := Lib.hid (C9.out.call b9)
              clear b9 hn hnl O9 D9 HB9 C9
              by_cases ht2 : t2 < 0
              · have ht : True := trivial
                have HRv := Lib.hid (show R = (x, 9) by rw [HR6.out, if_pos (.inr ht2)])
                have hca := CA.out.a.cell
                have hla := CA.out.a.lt
                have hcr : ∀ i, World.cell? _ ⟨w.heap.size + 1 + 1, i, none⟩ = _ := CA.out.r.cell
                have hzr : ∀ i, World.frozen? _ ⟨w.heap.size + 1 + 1, i, none⟩ = false := CA.out.r.frozen
                have hlr : w.heap.size + 1 + 1 < _ := CA.out.r.lt
                go_wp2_with fail
                refine bodyPost_ret (v := .tuple #[.agg #[.slice pd.ex x.d.exits.length pd.exc, .slice pd.pl x.d.players.length pd.plc, .slice pd.co x.d.coins.length pd.coc, .slice pd.it x.d.items.length pd.itc, .slice pd.bo x.d.boxes.length pd.boc, .int .i64 x.d.room, .int .i64 x.d.player, .int .i64 x.d.box, .slice (some ⟨ab, ao, none⟩) x.at_.length pac, .slice (some ⟨kb, ko, none⟩) x.coins.length pkc, .slice pw x.wher.length pwc], .int .i64 9]) (by simp [results, Try.results14, go_sem, hcr]) rfl ⟨⟨pd, some ⟨ab, ao, none⟩, pac, some ⟨kb, ko, none⟩, pkc, pw, pwc⟩, ret_n13 (by rw [HRv.out]), .inl (by rw [HRv.out]; exact ⟨by simp, rfl, rfl⟩), ?_⟩
                iterate 11 refine Below.setCell ?_ (by show w.heap.size ≤ w.heap.size + 2; omega) _
                exact CA.out.b
              have HR7 := Lib.hid (show R = if ¬ swapE (coinOf x i) (coinOf x q) pay fee = 0 then (x, swapE (coinOf x i) (coinOf x q) pay fee) else (trW x i q gs ws (coinOf x i - pay + fee) (coinOf x q - fee + pay), 0) by rw [HR6.out, if_neg (by omega)])
              have k1 := cell_call (HCO.out i HI.out) CA.out.b
              have k2 := cell_call (HCO.out q HQ.out) CA.out.b
              obtain ⟨li, -, a0, a1⟩ := rcoin_at HX.out HI.out
              obtain ⟨lq, -, b0, b1⟩ := rcoin_at HX.out HQ.out
              have A0 := Lib.hid a0
              have A1 := Lib.hid a1
              have B0 := Lib.hid b0
              have B1 := Lib.hid b1
              have qi : ¬ (x.coins.length : Int) ≤ (i : Int) := by omega
              have qi2 : (x.coins.length ≤ i) = False := by simp; omega
              have qq : ¬ (x.coins.length : Int) ≤ (q : Int) := by omega
              have qq2 : (x.coins.length ≤ q) = False := by simp; omega
              have LI := Lib.hid li
              have LQ := Lib.hid lq
              have HA := Lib.hid (fun (h : swapE (coinOf x i) (coinOf x q) pay fee = 0) => (show swapA (coinOf x i) (coinOf x q) pay fee = coinOf x i - pay + fee by unfold swapA; rw [if_pos h]))
              have HB := Lib.hid (fun (h : swapE (coinOf x i) (coinOf x q) pay fee = 0) => (show swapB (coinOf x i) (coinOf x q) pay fee = coinOf x q - fee + pay by unfold swapB; rw [if_pos h]))
              have HSW := Lib.hid (fun W => refswap_any (coinOf x i) (coinOf x q) pay fee W A0.out A1.out B0.out B1.out)
              clear a0 a1 b0 b1 li lq HR6 A0 A1 B0 B1
              generalize coinOf x i = cI at *
              generalize coinOf x q = cQ at *
              generalize swapE cI cQ pay fee = S at *
              generalize swapA cI cQ pay fee = sA at *
              generalize swapB cI cQ pay fee = sB at *
              have hc1 := CA.out.a.cell
              have hl1 := CA.out.a.lt
              have hcm : ∀ i, World.cell? _ ⟨w.heap.size + 1, i, none⟩ = _ := CA.out.m.cell
              have hlm := CA.out.m.lt
              go_wp2_with fail
              refine wp_region_noPanic ?_
              refine wp_region_held_drew (S := (fun w' => (∀ i, w'.cell? ⟨w.heap.size, i, none⟩ = (#[.slice pd.ex x.d.exits.length pd.exc, .slice pd.pl x.d.players.length pd.plc, .slice pd.co x.d.coins.length pd.coc, .slice pd.it x.d.items.length pd.itc, .slice pd.bo x.d.boxes.length pd.boc, .int .i64 x.d.room, .int .i64 x.d.player, .int .i64 x.d.box, .slice (some ⟨ab, ao, none⟩) x.at_.length pac, .slice (some ⟨kb, ko, none⟩) x.coins.length pkc, .slice pw x.wher.length pwc][i]? : Option Value)) ∧ (∀ j, w'.cell? ⟨w.heap.size + 1, j, none⟩ = (#[.int .i64 kd, .int .i64 di, .int .i64 it, .int .i64 bx, .int .i64 (q : Int), .slice ga gl.length gc, .int .i64 pay, .slice wa wl.length wc, .int .i64 fee][j]? : Option Value)) ∧ w'.cell? ⟨kb, ko + i, none⟩ = some (.int .i64 cI) ∧ w'.cell? ⟨kb, ko + q, none⟩ = some (.int .i64 cQ))) (by kernel_rfl) (by (first | (exact ⟨hc1, hcm, k1, k2⟩))) (fun hHeld => ?_)
              clear hc1 hl1 hcm hlm k1 k2
              refine wpAnyH_take (i := 0) (v := ?_) (by simp only [List.getElem?_toArray, List.getElem?_cons_zero]; rfl) (by kernel_rfl) (by kernel_rfl) (by kernel_rfl) (fun _ _ _ h => h) (Or.inl ⟨by rfl, ?_⟩) (by assumption) ?_
              rotate_left
              · (intro ww hSw; (try dsimp only at hSw); go_simp; (try with_reducible rfl))
              try simp only [Act.put, List.setIfInBounds_toArray, List.set_cons_zero, List.set_cons_succ]
              refine wpAnyH_take (i := 1) (v := ?_) (by simp only [List.getElem?_toArray, List.getElem?_cons_succ, List.getElem?_cons_zero]; rfl) (by kernel_rfl) (by kernel_rfl) (by kernel_rfl) (fun _ _ _ h => h) (Or.inl ⟨by rfl, ?_⟩) (by assumption) ?_
              rotate_left
              · (intro ww hSw; (try dsimp only at hSw); go_simp; (try with_reducible rfl))
              try simp only [Act.put, List.setIfInBounds_toArray, List.set_cons_zero, List.set_cons_succ]
              refine wpAnyH_take (i := 2) (v := ?_) (by simp only [List.getElem?_toArray, List.getElem?_cons_succ, List.getElem?_cons_zero]; rfl) (by kernel_rfl) (by kernel_rfl) (by kernel_rfl) (fun _ _ _ h => h) (Or.inl ⟨by rfl, ?_⟩) (by assumption) ?_
              rotate_left
              · (intro ww hSw; (try dsimp only at hSw); go_simp; (try with_reducible rfl))
              try simp only [Act.put, List.setIfInBounds_toArray, List.set_cons_zero, List.set_cons_succ]
              refine wpAnyH_take (i := 3) (v := ?_) (by simp only [List.getElem?_toArray, List.getElem?_cons_succ, List.getElem?_cons_zero]; rfl) (by kernel_rfl) (by kernel_rfl) (by kernel_rfl) (fun _ _ _ h => h) (Or.inl ⟨by rfl, ?_⟩) (by assumption) ?_
              rotate_left
              · (intro ww hSw; (try dsimp only at hSw); go_simp; (try with_reducible rfl))
              try simp only [Act.put, List.setIfInBounds_toArray, List.set_cons_zero, List.set_cons_succ]
              refine wpAnyH_take (i := 4) (v := ?_) (by simp only [List.getElem?_toArray, List.getElem?_cons_succ, List.getElem?_cons_zero]; rfl) (by kernel_rfl) (by kernel_rfl) (by kernel_rfl) (fun _ _ _ h => h) (Or.inl ⟨by rfl, ?_⟩) (by assumption) ?_
              rotate_left
              · (intro ww hSw; (try dsimp only at hSw); go_simp; (try with_reducible rfl))
              try simp only [Act.put, List.setIfInBounds_toArray, List.set_cons_zero, List.set_cons_succ]
              refine wpAnyH_take (i := 5) (v := ?_) (by simp only [List.getElem?_toArray, List.getElem?_cons_succ, List.getElem?_cons_zero]; rfl) (by kernel_rfl) (by kernel_rfl) (by kernel_rfl) (fun _ _ _ h => h) (Or.inl ⟨by rfl, ?_⟩) (by assumption) ?_
              rotate_left
              · (intro ww hSw; (try dsimp only at hSw); go_simp; (try with_reducible rfl))
              try simp only [Act.put, List.setIfInBounds_toArray, List.set_cons_zero, List.set_cons_succ]
              refine wpAnyH_take (i := 6) (v := ?_) (by simp only [List.getElem?_toArray, List.getElem?_cons_succ, List.getElem?_cons_zero]; rfl) (by kernel_rfl) (by kernel_rfl) (by kernel_rfl) (fun _ _ _ h => h) (Or.inl ⟨by rfl, ?_⟩) (by assumption) ?_
              rotate_left
              · (intro ww hSw; (try dsimp only at hSw); go_simp; (try with_reducible rfl))
              try simp only [Act.put, List.setIfInBounds_toArray, List.set_cons_zero, List.set_cons_succ]
              refine wpAnyH_take (i := 7) (v := ?_) (by simp only [List.getElem?_toArray, List.getElem?_cons_succ, List.getElem?_cons_zero]; rfl) (by kernel_rfl) (by kernel_rfl) (by kernel_rfl) (fun _ _ _ h => h) (Or.inl ⟨by rfl, ?_⟩) (by assumption) ?_
              rotate_left
              · (intro ww hSw; (try dsimp only at hSw); go_simp; (try with_reducible rfl))
              try simp only [Act.put, List.setIfInBounds_toArray, List.set_cons_zero, List.set_cons_succ]
              refine wpAnyH_take (i := 8) (v := ?_) (by simp only [List.getElem?_toArray, List.getElem?_cons_succ, List.getElem?_cons_zero]; rfl) (by kernel_rfl) (by kernel_rfl) (by kernel_rfl) (fun _ _ _ h => h) (Or.inl ⟨by rfl, ?_⟩) (by assumption) ?_
              rotate_left
              · (intro ww hSw; (try dsimp only at hSw); go_simp; (try with_reducible rfl))
              try simp only [Act.put, List.setIfInBounds_toArray, List.set_cons_zero, List.set_cons_succ]
              refine wpAnyH_take (i := 9) (v := ?_) (by simp only [List.getElem?_toArray, List.getElem?_cons_succ, List.getElem?_cons_zero]; rfl) (by kernel_rfl) (by kernel_rfl) (by kernel_rfl) (fun _ _ _ h => h) (Or.inl ⟨by rfl, ?_⟩) (by assumption) ?_
              rotate_left
              · (intro ww hSw; (try dsimp only at hSw); go_simp; (try with_reducible rfl))
              try simp only [Act.put, List.setIfInBounds_toArray, List.set_cons_zero, List.set_cons_succ]
              refine wpAnyH_take (i := 10) (v := ?_) (by simp only [List.getElem?_toArray, List.getElem?_cons_succ, List.getElem?_cons_zero]; rfl) (by kernel_rfl) (by kernel_rfl) (by kernel_rfl) (fun _ _ _ h => h) (Or.inl ⟨by rfl, ?_⟩) (by assumption) ?_
              rotate_left
              · (intro ww hSw; (try dsimp only at hSw); go_simp; (try with_reducible rfl))
              try simp only [Act.put, List.setIfInBounds_toArray, List.set_cons_zero, List.set_cons_succ]
              refine wpAnyH_take (i := 11) (v := ?_) (by simp only [List.getElem?_toArray, List.getElem?_cons_succ, List.getElem?_cons_zero]; rfl) (by kernel_rfl) (by kernel_rfl) (by kernel_rfl) (fun _ _ _ h => h) (Or.inl ⟨by rfl, ?_⟩) (by assumption) ?_
              rotate_left
              · (intro ww hSw; (try dsimp only at hSw); go_simp; (try with_reducible rfl))
              try simp only [Act.put, List.setIfInBounds_toArray, List.set_cons_zero, List.set_cons_succ]
              refine wpAnyH_take (i := 12) (v := ?_) (by simp only [List.getElem?_toArray, List.getElem?_cons_succ, List.getElem?_cons_zero]; rfl) (by kernel_rfl) (by kernel_rfl) (by kernel_rfl) (fun _ _ _ h => h) (Or.inl ⟨by rfl, ?_⟩) (by assumption) ?_
              rotate_left
              · (intro ww hSw; (try dsimp only at hSw); go_simp; (try with_reducible rfl))
              try simp only [Act.put, List.setIfInBounds_toArray, List.set_cons_zero, List.set_cons_succ]
              refine wpAnyH_take (i := 13) (v := ?_) (by simp only [List.getElem?_toArray, List.getElem?_cons_succ, List.getElem?_cons_zero]; rfl) (by kernel_rfl) (by kernel_rfl) (by kernel_rfl) (fun _ _ _ h => h) (Or.inl ⟨by rfl, ?_⟩) (by assumption) ?_
              rotate_left
              · (intro ww hSw; (try dsimp only at hSw); go_simp; (try with_reducible rfl))
              try simp only [Act.put, List.setIfInBounds_toArray, List.set_cons_zero, List.set_cons_succ]
              refine wpAnyH_ready (rs := [14]) (by kernel_rfl) (by simp) (AllReadyH.cons (by simp only [List.getElem?_toArray, List.getElem?_cons_succ, List.getElem?_cons_zero]; rfl) (fun K hK => ?_) AllReadyH.nil)
              go_simp
              refine (HSW.out _).mono ?_; rintro e w' ⟨rfl, rfl⟩
              try go_wp2_with fail
              refine hK.out _ _ (by (first | (with_reducible exact hHeld))) (fun hHeld => ?_)
              clear hK K
              try simp only [Act.put, List.setIfInBounds_toArray, List.set_cons_zero, List.set_cons_succ]
              refine wpAnyH_take (i := 15) (v := ?_) (by simp only [List.getElem?_toArray, List.getElem?_cons_succ, List.getElem?_cons_zero]; rfl) (by kernel_rfl) (by kernel_rfl) (by kernel_rfl) (fun _ _ _ h => h) (Or.inl ⟨by rfl, ?_⟩) (by assumption) ?_
              rotate_left
              · (intro ww hSw; (try dsimp only at hSw); go_simp; (try with_reducible rfl))
              try simp only [Act.put, List.setIfInBounds_toArray, List.set_cons_zero, List.set_cons_succ]
              refine wpAnyH_take (i := 16) (v := ?_) (by simp only [List.getElem?_toArray, List.getElem?_cons_succ, List.getElem?_cons_zero]; rfl) (by kernel_rfl) (by kernel_rfl) (by kernel_rfl) (fun _ _ _ h => h) (Or.inl ⟨by rfl, ?_⟩) (by assumption) ?_
              rotate_left
              · (intro ww hSw; (try dsimp only at hSw); go_simp; (try with_reducible rfl))
              try simp only [Act.put, List.setIfInBounds_toArray, List.set_cons_zero, List.set_cons_succ]
              refine wpAnyH_take (i := 17) (v := ?_) (by simp only [List.getElem?_toArray, List.getElem?_cons_succ, List.getElem?_cons_zero]; rfl) (by kernel_rfl) (by kernel_rfl) (by kernel_rfl) (fun _ _ _ h => h) (Or.inl ⟨by rfl, ?_⟩) (by assumption) ?_
              rotate_left
              · (intro ww hSw; (try dsimp only at hSw); go_simp; (try with_reducible rfl))
              try simp only [Act.put, List.setIfInBounds_toArray, List.set_cons_zero, List.set_cons_succ]
              refine wpAnyH_take (i := 18) (v := ?_) (by simp only [List.getElem?_toArray, List.getElem?_cons_succ, List.getElem?_cons_zero]; rfl) (by kernel_rfl) (by kernel_rfl) (by kernel_rfl) (fun _ _ _ h => h) (Or.inl ⟨by rfl, ?_⟩) (by assumption) ?_
              rotate_left
              · (intro ww hSw; (try dsimp only at hSw); go_simp; (try with_reducible rfl))
              try simp only [Act.put, List.setIfInBounds_toArray, List.set_cons_zero, List.set_cons_succ]
              refine wpAnyH_take (i := 19) (v := ?_) (by simp only [List.getElem?_toArray, List.getElem?_cons_succ, List.getElem?_cons_zero]; rfl) (by kernel_rfl) (by kernel_rfl) (by kernel_rfl) (fun _ _ _ h => h) (Or.inl ⟨by rfl, ?_⟩) (by assumption) ?_
              rotate_left
              · (intro ww hSw; (try dsimp only at hSw); go_simp; (try with_reducible rfl))
              try simp only [Act.put, List.setIfInBounds_toArray, List.set_cons_zero, List.set_cons_succ]
              refine wpAnyH_take (i := 20) (v := ?_) (by simp only [List.getElem?_toArray, List.getElem?_cons_succ, List.getElem?_cons_zero]; rfl) (by kernel_rfl) (by kernel_rfl) (by kernel_rfl) (fun _ _ _ h => h) (Or.inl ⟨by rfl, ?_⟩) (by assumption) ?_
              rotate_left
              · (intro ww hSw; (try dsimp only at hSw); go_simp; (try with_reducible rfl))
              try simp only [Act.put, List.setIfInBounds_toArray, List.set_cons_zero, List.set_cons_succ]
              refine wpAnyH_take (i := 21) (v := ?_) (by simp only [List.getElem?_toArray, List.getElem?_cons_succ, List.getElem?_cons_zero]; rfl) (by kernel_rfl) (by kernel_rfl) (by kernel_rfl) (fun _ _ _ h => h) (Or.inl ⟨by rfl, ?_⟩) (by assumption) ?_
              rotate_left
              · (intro ww hSw; (try dsimp only at hSw); go_simp; (try with_reducible rfl))
              try simp only [Act.put, List.setIfInBounds_toArray, List.set_cons_zero, List.set_cons_succ]
              refine wpAnyH_done (by kernel_rfl) ?_ _
              refine NoPanic.normal ?_
              clear hHeld
              have CB := Lib.hid CA.out.drew2
              have OB := Lib.hid OA.out.drew
              have DB := Lib.hid (show Blk w9.drew N _ _ from DA.out)
              have HBB := Lib.hid (bdrew1 HBA.out)
              clear CA OA DA HBA
              generalize w9.drew = WB at *
              by_cases hne : S = 0
              case neg =>
                have hne2 : (S != 0) = true := by simpa using hne
                have HRv := Lib.hid (show R = (x, S) by rw [HR7.out, if_pos hne])
                have hca := CB.out.a.cell
                have hla := CB.out.a.lt
                have hcr : ∀ i, World.cell? _ ⟨w.heap.size + 1 + 1, i, none⟩ = _ := CB.out.r.cell
                have hzr : ∀ i, World.frozen? _ ⟨w.heap.size + 1 + 1, i, none⟩ = false := CB.out.r.frozen
                have hlr : w.heap.size + 1 + 1 < _ := CB.out.r.lt
                go_wp2_with fail
                refine bodyPost_ret (v := .tuple #[.agg #[.slice pd.ex x.d.exits.length pd.exc, .slice pd.pl x.d.players.length pd.plc, .slice pd.co x.d.coins.length pd.coc, .slice pd.it x.d.items.length pd.itc, .slice pd.bo x.d.boxes.length pd.boc, .int .i64 x.d.room, .int .i64 x.d.player, .int .i64 x.d.box, .slice (some ⟨ab, ao, none⟩) x.at_.length pac, .slice (some ⟨kb, ko, none⟩) x.coins.length pkc, .slice pw x.wher.length pwc], .int .i64 S]) (by simp [results, Try.results14, go_sem, hcr]) rfl ⟨⟨pd, some ⟨ab, ao, none⟩, pac, some ⟨kb, ko, none⟩, pkc, pw, pwc⟩, ret_n13 (by rw [HRv.out]), .inl (by rw [HRv.out]; exact ⟨by simpa using hne2, rfl, rfl⟩), ?_⟩
                iterate 11 refine Below.setCell ?_ (by show w.heap.size ≤ w.heap.size + 2; omega) _
                exact CB.out.b
              case pos =>
              subst hne
              have HRv := Lib.hid (show R = (trW x i q gs ws (cI - pay + fee) (cQ - fee + pay), 0) by rw [HR7.out, if_neg (by simp)])
              rw [HA.out rfl, HB.out rfl]
              generalize cI - pay + fee = a at *
              generalize cQ - fee + pay = b at *
              clear HA HB HR7 HSW qi qi2 qq qq2
              obtain ⟨gk, eg, hg3, hg5, cz, fz, hput⟩ := OB.out.putCo (k := i) LI.out
              simp only at eg
              subst eg
              have hgN : gk < N := HQK.out _ rfl
              obtain ⟨g', eg, -, -, cz2, fz2, hput2⟩ := (hput a).putCo (k := q) (by show q < (x.coins.set i a).length; simpa using LQ.out)
              simp only [Option.some.injEq, Addr.mk.injEq] at eg
              obtain ⟨rfl, -⟩ := eg
              have OE := Lib.hid (show WhOwn W2.heap.size _ pd ⟨pd, qa, qac, some ⟨gk, 0, none⟩, qkc, qw, qwc⟩ (trW x i q gs ws a b) from hput2 b)
              have n1 : N ≠ gk := by omega
              have n2 : gk ≠ N := by omega
              have hw3 := C2.out.size
              have n3 : w.heap.size + 1 + 1 ≠ gk := by omega
              have n4 : gk ≠ w.heap.size + 1 + 1 := by omega
              have n5 : w.heap.size ≤ gk := by omega
              have CE := Lib.hid ((CB.out.gfar (g := gk) (by omega) i (.int .i64 a)).gfar (g := gk) (by omega) q (.int .i64 b))
              have DE := Lib.hid ((DB.out.far n1 (.int .i64 a) (p := ⟨gk, i, none⟩)).far n1 (.int .i64 b) (p := ⟨gk, q, none⟩))
              have hi2 : ¬ (x.coins.length : Int) ≤ (i : Int) := by have := LI.out; omega
              have hi3 : (x.coins.length ≤ i) = False := by have := LI.out; simp; omega
              have hq2 : ¬ (x.coins.length : Int) ≤ (q : Int) := by have := LQ.out; omega
              have hq3 : (x.coins.length ≤ q) = False := by have := LQ.out; simp; omega
              have cz := cz
              have fz' := fz i
              have fz2' := fz2 q
              have hn := DB.out.cell
              have hnl := DB.out.lt
              clear hput hput2 fz fz2
              go_upto_region 40 with fail
              have DD := Lib.hid (DB.out.far n1 (.int .i64 a) (p := ⟨gk, i, none⟩))
              have BE := Lib.hid ((HBB.out.setCell (p := ⟨gk, i, none⟩) hg3 (.int .i64 a)).setCell (p := ⟨gk, q, none⟩) hg3 (.int .i64 b))
              clear cz fz' hn hnl DB CB OB HBB hi2 hi3
              generalize WB.setCell ⟨gk, i, none⟩ (.int .i64 a) = WD at *
              have hn := DD.out.cell
              have hnl := DD.out.lt
              have hgl : gk < WD.heap.size := by have := DD.out.lt; omega
              go_upto_region 41 with fail
              clear cz2 fz2' hn hnl DD hq2 hq3 hgl
              generalize WD.setCell ⟨gk, q, none⟩ (.int .i64 b) = WE at *
              have hn := DE.out.cell
              have hnl := DE.out.lt
              have hcr : ∀ i, World.cell? _ ⟨w.heap.size + 1 + 1, i, none⟩ = _ := CE.out.r.cell
              have hzr : ∀ i, World.frozen? _ ⟨w.heap.size + 1 + 1, i, none⟩ = false := CE.out.r.frozen
              have hlr : w.heap.size + 1 + 1 < _ := CE.out.r.lt
              go_wp2_with fail
              refine bodyPost_ret (v := .tuple #[.agg #[.slice pd.ex x.d.exits.length pd.exc, .slice pd.pl x.d.players.length pd.plc, .slice pd.co x.d.coins.length pd.coc, .slice pd.it x.d.items.length pd.itc, .slice pd.bo x.d.boxes.length pd.boc, .int .i64 x.d.room, .int .i64 x.d.player, .int .i64 x.d.box, .slice qa x.at_.length qac, .slice (some ⟨gk, 0, none⟩) x.coins.length qkc, .slice qw x.wher.length qwc], .int .i64 0]) (by simp [results, Try.results14, go_sem, hcr]) rfl ⟨⟨pd, qa, qac, some ⟨gk, 0, none⟩, qkc, qw, qwc⟩, ret_n13 (by rw [HRv.out]), .inr (by rw [HRv.out]; refine ⟨rfl, rfl, ?_⟩; show WhOwn w.heap.size _ pd _ _; refine WhOwn.less (n := W2.heap.size) ?_ (by have := C2.out.size; omega); (iterate 11 refine WhOwn.set (b := w.heap.size + 2) ?_ (by have := C2.out.size; omega) _ _); exact OE.out), ?_⟩
              iterate 11 refine Below.setCell ?_ (by show w.heap.size ≤ w.heap.size + 2; omega) _
              exact CE.out.b

theorem reftrade_any (x : Wd) (p : Wp) (i : Nat) (kd di it bx who pay fee : Int) (gl wl : List Int) (ga wa : Option Addr) (gc wc : Nat) (w : World) (hx : rightW x = true) (h : WorldAt w p x) (hi : i < x.at_.length) (hg : IntsAt w ga gl) (hw : IntsAt w wa wl) (hgl : gl.length ≤ 16) (hwl : wl.length ≤ 16) :
    Calls Try.prog 14 #[.agg #[.slice p.d.ex x.d.exits.length p.d.exc, .slice p.d.pl x.d.players.length p.d.plc, .slice p.d.co x.d.coins.length p.d.coc, .slice p.d.it x.d.items.length p.d.itc, .slice p.d.bo x.d.boxes.length p.d.boc, .int .i64 x.d.room, .int .i64 x.d.player, .int .i64 x.d.box, .slice p.at_ x.at_.length p.atc, .slice p.co x.coins.length p.coc, .slice p.wh x.wher.length p.whc], .int .i64 (i : Int), .agg #[.int .i64 kd, .int .i64 di, .int .i64 it, .int .i64 bx, .int .i64 who, .slice ga gl.length gc, .int .i64 pay, .slice wa wl.length wc, .int .i64 fee]] w fun e w' => ∃ p' : Wp, e = .returned (.tuple #[.agg #[.slice p'.d.ex x.d.exits.length p'.d.exc, .slice p'.d.pl x.d.players.length p'.d.plc, .slice p'.d.co x.d.coins.length p'.d.coc, .slice p'.d.it x.d.items.length p'.d.itc, .slice p'.d.bo x.d.boxes.length p'.d.boc, .int .i64 x.d.room, .int .i64 x.d.player, .int .i64 x.d.box, .slice p'.at_ x.at_.length p'.atc, .slice p'.co x.coins.length p'.coc, .slice p'.wh x.wher.length p'.whc], .int .i64 (tradeW x i who gl wl pay fee).2]) ∧ RTook w.heap.size w' p p' x (tradeW x i who gl wl pay fee) ∧ Below w.heap.size w w' := by
  obtain ⟨li, ei, -, -⟩ := rcoin_at hx hi
  obtain ⟨kb, ko, ea, hkb, hc⟩ := h.co.at_ li
  obtain ⟨ab, ao, eb, hab, hat⟩ := h.at_.at_ hi
  obtain ⟨pd, pa, pac, pk, pkc, pw, pwc⟩ := p
  simp only at ea eb
  subst ea eb
  exact reftrade_go x pd ab ao pac kb ko pkc pw pwc i kd di it bx who pay fee gl wl ga wa gc wc w hx h hi hg hw hgl hwl (fun j hj => by
    have := hat j hj
    rwa [(room_at hx hj).1] at this) (fun j hj => by
    obtain ⟨lj, ej, -, -⟩ := rcoin_at hx hj
    have := hc j lj
    rwa [ej] at this) _ rfl
end Go.Proofs.Ytcigbliilmonfaa
