/- gifts.Trade: what is traded. -/
import Derived.Test.YtcigbliilmonfaaRows
import Derived.Test.YtcigbliilmonfaaKit
import Derived.Test.YtcigbliilmonfaaGMem
import Derived.Test.YtcigbliilmonfaaCoin
import Derived.Test.YtcigbliilmonfaaCoinB
import Derived.Test.YtcigbliilmonfaaGWorld
import Derived.Test.YtcigbliilmonfaaGCopy
import Derived.Test.YtcigbliilmonfaaGDescN
import Derived.Test.YtcigbliilmonfaaGRight
import Derived.Test.YtcigbliilmonfaaGRefD
import Derived.Test.YtcigbliilmonfaaGEq
import Derived.Test.YtcigbliilmonfaaGAs
import Derived.Test.YtcigbliilmonfaaGTreeL
import Derived.Test.YtcigbliilmonfaaGHoldA
import Derived.Test.YtcigbliilmonfaaGiftMath
import Derived.Test.YtcigbliilmonfaaGiftMath4
import Derived.Test.YtcigbliilmonfaaGiftA
import Derived.Test.YtcigbliilmonfaaGiftB
import Derived.Test.YtcigbliilmonfaaGiftRep
import Derived.Test.YtcigbliilmonfaaGiftC
import Derived.Test.YtcigbliilmonfaaGiftC2
import Derived.Test.YtcigbliilmonfaaGiftD0
import Derived.Deep.QuietTactic
import Derived.BigQuiet
import Derived.Deep.RegionHeld3
import Derived.WalkKit
import Derived.ProofKit
import Derived.OpenShut
import Derived.IntWalk
namespace Go.Proofs.Ytcigbliilmonfaa
open Go.ChangeShapes Go.WideShapes Go.ChangeAt Go.RowKit
set_option linter.unusedVariables false
open Go.RowKit
theorem ret_n12 {v : Value} {a b : Int} (h : b = a) : Ending.returned (.tuple #[v, .int .i64 a]) = .returned (.tuple #[v, .int .i64 b]) := by rw [h]
set_option maxRecDepth 100000 in
set_option maxHeartbeats 400000 in
theorem gtrade_part (x : Wd) (p : Wp) (i : Nat) (kd di it bx who pay fee : Int) (gl wl : List Int) (ga wa : Option Addr) (gc wc : Nat) (w : World) (hx : rightW x = true) (h : WorldAt w p x) (hi : i < x.at_.length) (hg : IntsAt w ga gl) (hw : IntsAt w wa wl) (E : Int) (hE : partE x i who gl wl = E) (hne : ¬ E = 0) :
    Calls Try.prog 13 #[.agg #[.slice p.d.ex x.d.exits.length p.d.exc, .slice p.d.pl x.d.players.length p.d.plc, .slice p.d.co x.d.coins.length p.d.coc, .slice p.d.it x.d.items.length p.d.itc, .slice p.d.bo x.d.boxes.length p.d.boc, .int .i64 x.d.room, .int .i64 x.d.player, .int .i64 x.d.box, .slice p.at_ x.at_.length p.atc, .slice p.co x.coins.length p.coc, .slice p.wh x.wher.length p.whc], .int .i64 (i : Int), .agg #[.int .i64 kd, .int .i64 di, .int .i64 it, .int .i64 bx, .int .i64 who, .slice ga gl.length gc, .int .i64 pay, .slice wa wl.length wc, .int .i64 fee]] w fun e w' => e = .returned (.tuple #[.agg #[.slice p.d.ex x.d.exits.length p.d.exc, .slice p.d.pl x.d.players.length p.d.plc, .slice p.d.co x.d.coins.length p.d.coc, .slice p.d.it x.d.items.length p.d.itc, .slice p.d.bo x.d.boxes.length p.d.boc, .int .i64 x.d.room, .int .i64 x.d.player, .int .i64 x.d.box, .slice p.at_ x.at_.length p.atc, .slice p.co x.coins.length p.coc, .slice p.wh x.wher.length p.whc], .int .i64 E]) ∧ Below w.heap.size w w' := by
  have C0 := Lib.hid (Tri.start 29 31 29 w #[.slice p.d.ex x.d.exits.length p.d.exc, .slice p.d.pl x.d.players.length p.d.plc, .slice p.d.co x.d.coins.length p.d.coc, .slice p.d.it x.d.items.length p.d.itc, .slice p.d.bo x.d.boxes.length p.d.boc, .int .i64 x.d.room, .int .i64 x.d.player, .int .i64 x.d.box, .slice p.at_ x.at_.length p.atc, .slice p.co x.coins.length p.coc, .slice p.wh x.wher.length p.whc] #[.int .i64 kd, .int .i64 di, .int .i64 it, .int .i64 bx, .int .i64 who, .slice ga gl.length gc, .int .i64 pay, .slice wa wl.length wc, .int .i64 fee] #[.slice none 0 0, .slice none 0 0, .slice none 0 0, .slice none 0 0, .slice none 0 0, .int .i64 0, .int .i64 0, .int .i64 0, .slice none 0 0, .slice none 0 0, .slice none 0 0])
  have H := Lib.hid h
  have HX := Lib.hid hx
  have HG := Lib.hid hg
  have HW := Lib.hid hw
  have HE := Lib.hid hE
  clear h hx hg hw hE
  go_enter Try.func13, Try.ntmps13
  go_wp2_with fail
  refine (partners_any x p.d p.at_ p.co p.wh p.atc p.coc p.whc i kd di it bx who pay fee gl wl ga wa gc wc _ HX.out (H.out.below C0.out.b (Nat.le_refl _)).at_ hi (HG.out.below C0.out.b (Nat.le_refl _)) (HW.out.below C0.out.b (Nat.le_refl _))).mono ?_
  rintro e w1 ⟨rfl, b1⟩
  rw [HE.out]
  have C1 := Lib.hid (C0.out.call b1)
  clear b1
  have hne2 : (E != 0) = true := by simpa using hne
  have hca := C1.out.a.cell
  have hla := C1.out.a.lt
  have hcr : ∀ i, World.cell? _ ⟨w.heap.size + 1 + 1, i, none⟩ = _ := C1.out.r.cell
  have hzr : ∀ i, World.frozen? _ ⟨w.heap.size + 1 + 1, i, none⟩ = false := C1.out.r.frozen
  have hlr : w.heap.size + 1 + 1 < _ := C1.out.r.lt
  go_wp2_with fail
  refine bodyPost_ret (v := .tuple #[.agg #[.slice p.d.ex x.d.exits.length p.d.exc, .slice p.d.pl x.d.players.length p.d.plc, .slice p.d.co x.d.coins.length p.d.coc, .slice p.d.it x.d.items.length p.d.itc, .slice p.d.bo x.d.boxes.length p.d.boc, .int .i64 x.d.room, .int .i64 x.d.player, .int .i64 x.d.box, .slice p.at_ x.at_.length p.atc, .slice p.co x.coins.length p.coc, .slice p.wh x.wher.length p.whc], .int .i64 E]) (by simp [results, Try.results13, go_sem, hcr]) rfl ⟨rfl, ?_⟩
  iterate 11 refine Below.setCell ?_ (by show w.heap.size ≤ w.heap.size + 2; omega) _
  exact C1.out.b
section
variable (x : Wd) (pd : Dp) (pa : Option Addr) (pac kb ko pkc : Nat) (pw : Option Addr) (pwc : Nat) (i q : Nat) (kd di it bx pay fee : Int) (gs ws : List Nat) (ga wa : Option Addr) (gc wc : Nat) (w : World) (hx : rightW x = true) (h : WorldAt w ⟨pd, pa, pac, some ⟨kb, ko, none⟩, pkc, pw, pwc⟩ x) (hi : i < x.at_.length) (hq : q < x.at_.length)
  (hg : IntsAt w ga (gs.map fun (k : Nat) => (k : Int))) (hw : IntsAt w wa (ws.map fun (k : Nat) => (k : Int))) (hgi : ∀ k ∈ gs, k < x.wher.length) (hwi : ∀ k ∈ ws, k < x.wher.length) (hgl : gs.length ≤ 16) (hwl : ws.length ≤ 16)
  (hP : partE x i q (gs.map fun (k : Nat) => (k : Int)) (ws.map fun (k : Nat) => (k : Int)) = 0) (E : Int) (hE : wareE x i q gs ws = E)
include hx h hi hq hg hw hgi hwi hgl hwl hP hE
set_option maxRecDepth 100000 in
set_option maxHeartbeats 400000 in
theorem gtrade_ware (hne : ¬ E = 0) : Calls Try.prog 13 #[.agg #[.slice pd.ex x.d.exits.length pd.exc, .slice pd.pl x.d.players.length pd.plc, .slice pd.co x.d.coins.length pd.coc, .slice pd.it x.d.items.length pd.itc, .slice pd.bo x.d.boxes.length pd.boc, .int .i64 x.d.room, .int .i64 x.d.player, .int .i64 x.d.box, .slice pa x.at_.length pac, .slice (some ⟨kb, ko, none⟩) x.coins.length pkc, .slice pw x.wher.length pwc], .int .i64 (i : Int), .agg #[.int .i64 kd, .int .i64 di, .int .i64 it, .int .i64 bx, .int .i64 (q : Int), .slice ga gs.length gc, .int .i64 pay, .slice wa ws.length wc, .int .i64 fee]] w fun e w' => e = .returned (.tuple #[.agg #[.slice pd.ex x.d.exits.length pd.exc, .slice pd.pl x.d.players.length pd.plc, .slice pd.co x.d.coins.length pd.coc, .slice pd.it x.d.items.length pd.itc, .slice pd.bo x.d.boxes.length pd.boc, .int .i64 x.d.room, .int .i64 x.d.player, .int .i64 x.d.box, .slice pa x.at_.length pac, .slice (some ⟨kb, ko, none⟩) x.coins.length pkc, .slice pw x.wher.length pwc], .int .i64 E]) ∧ Below w.heap.size w w' := by
  have C0 := Lib.hid (Tri.start 29 31 29 w #[.slice pd.ex x.d.exits.length pd.exc, .slice pd.pl x.d.players.length pd.plc, .slice pd.co x.d.coins.length pd.coc, .slice pd.it x.d.items.length pd.itc, .slice pd.bo x.d.boxes.length pd.boc, .int .i64 x.d.room, .int .i64 x.d.player, .int .i64 x.d.box, .slice pa x.at_.length pac, .slice (some ⟨kb, ko, none⟩) x.coins.length pkc, .slice pw x.wher.length pwc] #[.int .i64 kd, .int .i64 di, .int .i64 it, .int .i64 bx, .int .i64 (q : Int), .slice ga gs.length gc, .int .i64 pay, .slice wa ws.length wc, .int .i64 fee] #[.slice none 0 0, .slice none 0 0, .slice none 0 0, .slice none 0 0, .slice none 0 0, .int .i64 0, .int .i64 0, .int .i64 0, .slice none 0 0, .slice none 0 0, .slice none 0 0])
  have H := Lib.hid h
  have HX := Lib.hid hx
  have HG := Lib.hid hg
  have HW := Lib.hid hw
  have HGI := Lib.hid hgi
  have HWI := Lib.hid hwi
  have HGL := Lib.hid hgl
  have HWL := Lib.hid hwl
  have HP := Lib.hid hP
  have HE := Lib.hid hE
  have HQ := Lib.hid hq
  have HI := Lib.hid hi
  clear h hx hg hw hgi hwi hP hE hq hi hgl hwl
  go_enter Try.func13, Try.ntmps13
  go_wp2_with fail
  refine (partners_nat x ⟨pd, pa, pac, some ⟨kb, ko, none⟩, pkc, pw, pwc⟩ i q kd di it bx pay fee gs ws ga wa gc wc _ HX.out (H.out.below C0.out.b (Nat.le_refl _)) HI.out (HG.out.below C0.out.b (Nat.le_refl _)) (HW.out.below C0.out.b (Nat.le_refl _))).mono ?_
  rintro e w1 ⟨rfl, b1⟩
  rw [HP.out]
  have C1 := Lib.hid (C0.out.call b1)
  clear b1
  have hca := C1.out.a.cell
  have hla := C1.out.a.lt
  have hcm : ∀ i, World.cell? _ ⟨w.heap.size + 1, i, none⟩ = _ := C1.out.m.cell
  have hlm := C1.out.m.lt
  go_wp2_with fail
  refine (wares_any x ⟨pd, pa, pac, some ⟨kb, ko, none⟩, pkc, pw, pwc⟩ i q kd di it bx pay fee gs ws ga wa gc wc _ HX.out (H.out.below C1.out.b (Nat.le_refl _)) (HG.out.below C1.out.b (Nat.le_refl _)) (HW.out.below C1.out.b (Nat.le_refl _)) HGI.out HWI.out HGL.out HWL.out).mono ?_
  rintro e w2 ⟨rfl, b2⟩
  rw [HE.out]
  have C2 := Lib.hid (C1.out.call b2)
  clear b2 hca hla hcm hlm C0 C1
  have hca := C2.out.a.cell
  have hla := C2.out.a.lt
  have hcm : ∀ i, World.cell? _ ⟨w.heap.size + 1, i, none⟩ = _ := C2.out.m.cell
  have hlm := C2.out.m.lt
  have hcr : ∀ i, World.cell? _ ⟨w.heap.size + 1 + 1, i, none⟩ = _ := C2.out.r.cell
  have hzr : ∀ i, World.frozen? _ ⟨w.heap.size + 1 + 1, i, none⟩ = false := C2.out.r.frozen
  have hlr : w.heap.size + 1 + 1 < _ := C2.out.r.lt
  have hne2 : (E != 0) = true := by simpa using hne
  go_wp2_with fail
  refine bodyPost_ret (v := .tuple #[.agg #[.slice pd.ex x.d.exits.length pd.exc, .slice pd.pl x.d.players.length pd.plc, .slice pd.co x.d.coins.length pd.coc, .slice pd.it x.d.items.length pd.itc, .slice pd.bo x.d.boxes.length pd.boc, .int .i64 x.d.room, .int .i64 x.d.player, .int .i64 x.d.box, .slice pa x.at_.length pac, .slice (some ⟨kb, ko, none⟩) x.coins.length pkc, .slice pw x.wher.length pwc], .int .i64 E]) (by simp [results, Try.results13, go_sem, hcr]) rfl ⟨rfl, ?_⟩
  iterate 11 refine Below.setCell ?_ (by show w.heap.size ≤ w.heap.size + 2; omega) _
  exact C2.out.b
variable (k1 : w.cell? ⟨kb, ko + i, none⟩ = some (.int .i64 (coinOf x i))) (k2 : w.cell? ⟨kb, ko + q, none⟩ = some (.int .i64 (coinOf x q)))
include k1 k2
set_option maxRecDepth 100000 in
set_option maxHeartbeats 1000000 in
theorem gtrade_swap (hE0 : E = 0) (S : Int) (hS : swapE (coinOf x i) (coinOf x q) pay fee = S) (hne : ¬ S = 0) : Calls Try.prog 13 #[.agg #[.slice pd.ex x.d.exits.length pd.exc, .slice pd.pl x.d.players.length pd.plc, .slice pd.co x.d.coins.length pd.coc, .slice pd.it x.d.items.length pd.itc, .slice pd.bo x.d.boxes.length pd.boc, .int .i64 x.d.room, .int .i64 x.d.player, .int .i64 x.d.box, .slice pa x.at_.length pac, .slice (some ⟨kb, ko, none⟩) x.coins.length pkc, .slice pw x.wher.length pwc], .int .i64 (i : Int), .agg #[.int .i64 kd, .int .i64 di, .int .i64 it, .int .i64 bx, .int .i64 (q : Int), .slice ga gs.length gc, .int .i64 pay, .slice wa ws.length wc, .int .i64 fee]] w fun e w' => e = .returned (.tuple #[.agg #[.slice pd.ex x.d.exits.length pd.exc, .slice pd.pl x.d.players.length pd.plc, .slice pd.co x.d.coins.length pd.coc, .slice pd.it x.d.items.length pd.itc, .slice pd.bo x.d.boxes.length pd.boc, .int .i64 x.d.room, .int .i64 x.d.player, .int .i64 x.d.box, .slice pa x.at_.length pac, .slice (some ⟨kb, ko, none⟩) x.coins.length pkc, .slice pw x.wher.length pwc], .int .i64 S]) ∧ Below w.heap.size w w' := by
  subst hE0
  have C0 := Lib.hid (Tri.start 29 31 29 w #[.slice pd.ex x.d.exits.length pd.exc, .slice pd.pl x.d.players.length pd.plc, .slice pd.co x.d.coins.length pd.coc, .slice pd.it x.d.items.length pd.itc, .slice pd.bo x.d.boxes.length pd.boc, .int .i64 x.d.room, .int .i64 x.d.player, .int .i64 x.d.box, .slice pa x.at_.length pac, .slice (some ⟨kb, ko, none⟩) x.coins.length pkc, .slice pw x.wher.length pwc] #[.int .i64 kd, .int .i64 di, .int .i64 it, .int .i64 bx, .int .i64 (q : Int), .slice ga gs.length gc, .int .i64 pay, .slice wa ws.length wc, .int .i64 fee] #[.slice none 0 0, .slice none 0 0, .slice none 0 0, .slice none 0 0, .slice none 0 0, .int .i64 0, .int .i64 0, .int .i64 0, .slice none 0 0, .slice none 0 0, .slice none 0 0])
  have H := Lib.hid h
  have HX := Lib.hid hx
  have HG := Lib.hid hg
  have HW := Lib.hid hw
  have HGI := Lib.hid hgi
  have HWI := Lib.hid hwi
  have HGL := Lib.hid hgl
  have HWL := Lib.hid hwl
  have HP := Lib.hid hP
  have HE := Lib.hid hE
  have HQ := Lib.hid hq
  have HI := Lib.hid hi
  clear h hx hg hw hgi hwi hP hE hq hi hgl hwl
  go_enter Try.func13, Try.ntmps13
  go_wp2_with fail
  refine (partners_nat x ⟨pd, pa, pac, some ⟨kb, ko, none⟩, pkc, pw, pwc⟩ i q kd di it bx pay fee gs ws ga wa gc wc _ HX.out (H.out.below C0.out.b (Nat.le_refl _)) HI.out (HG.out.below C0.out.b (Nat.le_refl _)) (HW.out.below C0.out.b (Nat.le_refl _))).mono ?_
  rintro e w1 ⟨rfl, b1⟩
  rw [HP.out]
  have C1 := Lib.hid (C0.out.call b1)
  clear b1
  have hca := C1.out.a.cell
  have hla := C1.out.a.lt
  have hcm : ∀ i, World.cell? _ ⟨w.heap.size + 1, i, none⟩ = _ := C1.out.m.cell
  have hlm := C1.out.m.lt
  go_wp2_with fail
  refine (wares_any x ⟨pd, pa, pac, some ⟨kb, ko, none⟩, pkc, pw, pwc⟩ i q kd di it bx pay fee gs ws ga wa gc wc _ HX.out (H.out.below C1.out.b (Nat.le_refl _)) (HG.out.below C1.out.b (Nat.le_refl _)) (HW.out.below C1.out.b (Nat.le_refl _)) HGI.out HWI.out HGL.out HWL.out).mono ?_
  rintro e w2 ⟨rfl, b2⟩
  rw [HE.out]
  have C2 := Lib.hid (C1.out.call b2)
  clear b2 hca hla hcm hlm C0 C1
  have hca := C2.out.a.cell
  have hla := C2.out.a.lt
  have hcm : ∀ i, World.cell? _ ⟨w.heap.size + 1, i, none⟩ = _ := C2.out.m.cell
  have hlm := C2.out.m.lt
  have hcr : ∀ i, World.cell? _ ⟨w.heap.size + 1 + 1, i, none⟩ = _ := C2.out.r.cell
  have hzr : ∀ i, World.frozen? _ ⟨w.heap.size + 1 + 1, i, none⟩ = false := C2.out.r.frozen
  have hlr : w.heap.size + 1 + 1 < _ := C2.out.r.lt
  have k1 := cell_call k1 C2.out.b
  have k2 := cell_call k2 C2.out.b
  obtain ⟨li, -, a0, a1⟩ := coin_at HX.out HI.out
  obtain ⟨lq, -, b0, b1⟩ := coin_at HX.out HQ.out
  have A0 := Lib.hid a0
  have A1 := Lib.hid a1
  have B0 := Lib.hid b0
  have B1 := Lib.hid b1
  have qi : ¬ (x.coins.length : Int) ≤ (i : Int) := by omega
  have qi2 : (x.coins.length ≤ i) = False := by simp; omega
  have qq : ¬ (x.coins.length : Int) ≤ (q : Int) := by omega
  have qq2 : (x.coins.length ≤ q) = False := by simp; omega
  have hs0 := Lib.hid (show swapE (coinOf x i) (coinOf x q) pay fee = S from hS)
  have LI := Lib.hid li
  have LQ := Lib.hid lq
  clear a0 a1 b0 b1 hS li lq
  generalize hcI : coinOf x i = cI at *
  generalize hcQ : coinOf x q = cQ at *
  have HCI := Lib.hid hcI
  have HCQ := Lib.hid hcQ
  clear hcI hcQ
  go_wp2_with fail
  refine wp_region_noPanic ?_
  refine wp_region_held_drew (S := (fun w' => Below w.heap.size w w' ∧ (∀ i, w'.cell? ⟨w.heap.size, i, none⟩ = (#[.slice pd.ex x.d.exits.length pd.exc, .slice pd.pl x.d.players.length pd.plc, .slice pd.co x.d.coins.length pd.coc, .slice pd.it x.d.items.length pd.itc, .slice pd.bo x.d.boxes.length pd.boc, .int .i64 x.d.room, .int .i64 x.d.player, .int .i64 x.d.box, .slice pa x.at_.length pac, .slice (some ⟨kb, ko, none⟩) x.coins.length pkc, .slice pw x.wher.length pwc][i]? : Option Value)) ∧ (∀ j, w'.cell? ⟨w.heap.size + 1, j, none⟩ = (#[.int .i64 kd, .int .i64 di, .int .i64 it, .int .i64 bx, .int .i64 (q : Int), .slice ga gs.length gc, .int .i64 pay, .slice wa ws.length wc, .int .i64 fee][j]? : Option Value)) ∧ w'.cell? ⟨kb, ko + i, none⟩ = some (.int .i64 cI) ∧ w'.cell? ⟨kb, ko + q, none⟩ = some (.int .i64 cQ))) (by kernel_rfl) (by (first | (exact ⟨C2.out.drew.b, C2.out.drew.a.cell, C2.out.drew.m.cell, k1, k2⟩))) (fun hHeld => ?_)
  clear hca hla hcm hlm hcr hzr hlr
  refine wpAnyH_take (i := 0) (v := ?_) (by simp only [List.getElem?_toArray, List.getElem?_cons_zero]; rfl) (by kernel_rfl) (by kernel_rfl) (by kernel_rfl) (fun _ _ _ h => h) (Or.inl ⟨by rfl, ?_⟩) (by assumption) ?_
  rotate_left
  · (intro ww hSw; (try dsimp only at hSw); go_simp; (try with_reducible rfl))
  try simp only [Act.put, List.setIfInBounds_toArray, List.set_cons_zero, List.set_cons_succ]
  refine wpAnyH_take (i := 1) (v := ?_) (by simp only [List.getElem?_toArray, List.getElem?_cons_succ, List.getElem?_cons_zero]; rfl) (by kernel_rfl) (by kernel_rfl) (by kernel_rfl) (fun _ _ _ h => h) (Or.inl ⟨by rfl, ?_⟩) (by assumption) ?_
  rotate_left
  · (intro ww hSw; (try dsimp only at hSw); go_simp; (try with_reducible rfl))
  try simp only [Act.put, List.setIfInBounds_toArray, List.set_cons_zero, List.set_cons_succ]
  refine wpAnyH_take (i := 2) (v := ?_) (by simp only [List.getElem?_toArray, List.getElem?_cons_succ, List.getElem?_cons_zero]; rfl) (by kernel_rfl) (by kernel_rfl) (by kernel_rfl) (fun _ _ _ h => h) (Or.inl ⟨by rfl, ?_⟩) (by assumption) ?_
  rotate_left
  · (intro ww hSw; (try dsimp only at hSw); go_simp; (try with_reducible rfl))
  try simp only [Act.put, List.setIfInBounds_toArray, List.set_cons_zero, List.set_cons_succ]
  refine wpAnyH_take (i := 3) (v := ?_) (by simp only [List.getElem?_toArray, List.getElem?_cons_succ, List.getElem?_cons_zero]; rfl) (by kernel_rfl) (by kernel_rfl) (by kernel_rfl) (fun _ _ _ h => h) (Or.inl ⟨by rfl, ?_⟩) (by assumption) ?_
  rotate_left
  · (intro ww hSw; (try dsimp only at hSw); go_simp; (try with_reducible rfl))
  try simp only [Act.put, List.setIfInBounds_toArray, List.set_cons_zero, List.set_cons_succ]
  refine wpAnyH_take (i := 4) (v := ?_) (by simp only [List.getElem?_toArray, List.getElem?_cons_succ, List.getElem?_cons_zero]; rfl) (by kernel_rfl) (by kernel_rfl) (by kernel_rfl) (fun _ _ _ h => h) (Or.inl ⟨by rfl, ?_⟩) (by assumption) ?_
  rotate_left
  · (intro ww hSw; (try dsimp only at hSw); go_simp; (try with_reducible rfl))
  try simp only [Act.put, List.setIfInBounds_toArray, List.set_cons_zero, List.set_cons_succ]
  refine wpAnyH_take (i := 5) (v := ?_) (by simp only [List.getElem?_toArray, List.getElem?_cons_succ, List.getElem?_cons_zero]; rfl) (by kernel_rfl) (by kernel_rfl) (by kernel_rfl) (fun _ _ _ h => h) (Or.inl ⟨by rfl, ?_⟩) (by assumption) ?_
  rotate_left
  · (intro ww hSw; (try dsimp only at hSw); go_simp; (try with_reducible rfl))
  try simp only [Act.put, List.setIfInBounds_toArray, List.set_cons_zero, List.set_cons_succ]
  refine wpAnyH_take (i := 6) (v := ?_) (by simp only [List.getElem?_toArray, List.getElem?_cons_succ, List.getElem?_cons_zero]; rfl) (by kernel_rfl) (by kernel_rfl) (by kernel_rfl) (fun _ _ _ h => h) (Or.inl ⟨by rfl, ?_⟩) (by assumption) ?_
  rotate_left
  · (intro ww hSw; (try dsimp only at hSw); go_simp; (try with_reducible rfl))
  try simp only [Act.put, List.setIfInBounds_toArray, List.set_cons_zero, List.set_cons_succ]
  refine wpAnyH_take (i := 7) (v := ?_) (by simp only [List.getElem?_toArray, List.getElem?_cons_succ, List.getElem?_cons_zero]; rfl) (by kernel_rfl) (by kernel_rfl) (by kernel_rfl) (fun _ _ _ h => h) (Or.inl ⟨by rfl, ?_⟩) (by assumption) ?_
  rotate_left
  · (intro ww hSw; (try dsimp only at hSw); go_simp; (try with_reducible rfl))
  try simp only [Act.put, List.setIfInBounds_toArray, List.set_cons_zero, List.set_cons_succ]
  refine wpAnyH_take (i := 8) (v := ?_) (by simp only [List.getElem?_toArray, List.getElem?_cons_succ, List.getElem?_cons_zero]; rfl) (by kernel_rfl) (by kernel_rfl) (by kernel_rfl) (fun _ _ _ h => h) (Or.inl ⟨by rfl, ?_⟩) (by assumption) ?_
  rotate_left
  · (intro ww hSw; (try dsimp only at hSw); go_simp; (try with_reducible rfl))
  try simp only [Act.put, List.setIfInBounds_toArray, List.set_cons_zero, List.set_cons_succ]
  refine wpAnyH_take (i := 9) (v := ?_) (by simp only [List.getElem?_toArray, List.getElem?_cons_succ, List.getElem?_cons_zero]; rfl) (by kernel_rfl) (by kernel_rfl) (by kernel_rfl) (fun _ _ _ h => h) (Or.inl ⟨by rfl, ?_⟩) (by assumption) ?_
  rotate_left
  · (intro ww hSw; (try dsimp only at hSw); go_simp; (try with_reducible rfl))
  try simp only [Act.put, List.setIfInBounds_toArray, List.set_cons_zero, List.set_cons_succ]
  refine wpAnyH_take (i := 10) (v := ?_) (by simp only [List.getElem?_toArray, List.getElem?_cons_succ, List.getElem?_cons_zero]; rfl) (by kernel_rfl) (by kernel_rfl) (by kernel_rfl) (fun _ _ _ h => h) (Or.inl ⟨by rfl, ?_⟩) (by assumption) ?_
  rotate_left
  · (intro ww hSw; (try dsimp only at hSw); go_simp; (try with_reducible rfl))
  try simp only [Act.put, List.setIfInBounds_toArray, List.set_cons_zero, List.set_cons_succ]
  refine wpAnyH_take (i := 11) (v := ?_) (by simp only [List.getElem?_toArray, List.getElem?_cons_succ, List.getElem?_cons_zero]; rfl) (by kernel_rfl) (by kernel_rfl) (by kernel_rfl) (fun _ _ _ h => h) (Or.inl ⟨by rfl, ?_⟩) (by assumption) ?_
  rotate_left
  · (intro ww hSw; (try dsimp only at hSw); go_simp; (try with_reducible rfl))
  try simp only [Act.put, List.setIfInBounds_toArray, List.set_cons_zero, List.set_cons_succ]
  refine wpAnyH_take (i := 12) (v := ?_) (by simp only [List.getElem?_toArray, List.getElem?_cons_succ, List.getElem?_cons_zero]; rfl) (by kernel_rfl) (by kernel_rfl) (by kernel_rfl) (fun _ _ _ h => h) (Or.inl ⟨by rfl, ?_⟩) (by assumption) ?_
  rotate_left
  · (intro ww hSw; (try dsimp only at hSw); go_simp; (try with_reducible rfl))
  try simp only [Act.put, List.setIfInBounds_toArray, List.set_cons_zero, List.set_cons_succ]
  refine wpAnyH_take (i := 13) (v := ?_) (by simp only [List.getElem?_toArray, List.getElem?_cons_succ, List.getElem?_cons_zero]; rfl) (by kernel_rfl) (by kernel_rfl) (by kernel_rfl) (fun _ _ _ h => h) (Or.inl ⟨by rfl, ?_⟩) (by assumption) ?_
  rotate_left
  · (intro ww hSw; (try dsimp only at hSw); go_simp; (try with_reducible rfl))
  try simp only [Act.put, List.setIfInBounds_toArray, List.set_cons_zero, List.set_cons_succ]
  refine wpAnyH_take (i := 14) (v := ?_) (by simp only [List.getElem?_toArray, List.getElem?_cons_succ, List.getElem?_cons_zero]; rfl) (by kernel_rfl) (by kernel_rfl) (by kernel_rfl) (fun _ _ _ h => h) (Or.inl ⟨by rfl, ?_⟩) (by assumption) ?_
  rotate_left
  · (intro ww hSw; (try dsimp only at hSw); go_simp; (try with_reducible rfl))
  try simp only [Act.put, List.setIfInBounds_toArray, List.set_cons_zero, List.set_cons_succ]
  have K1 := Lib.hid hHeld.2.2.2
  refine wpAnyH_ready (rs := [15]) (by kernel_rfl) (by simp) (AllReadyH.cons (by simp only [List.getElem?_toArray, List.getElem?_cons_succ, List.getElem?_cons_zero]; rfl) (fun K hK => ?_) AllReadyH.nil)
  go_simp
  refine (swap_any cI cQ pay fee _ A0.out A1.out B0.out B1.out).mono ?_; rintro e w3 ⟨rfl, hb3⟩; rw [hs0.out]; have C3 := Lib.hid (C2.out.drew.call hb3)
  try go_wp2_with fail
  refine hK.out _ _ (by (first | (with_reducible exact ⟨C3.out.b, C3.out.a.cell, C3.out.m.cell, cell_call K1.out.1 hb3, cell_call K1.out.2 hb3⟩))) (fun hHeld => ?_)
  clear hK K
  try simp only [Act.put, List.setIfInBounds_toArray, List.set_cons_zero, List.set_cons_succ]
  clear hb3
  refine wpAnyH_take (i := 16) (v := ?_) (by simp only [List.getElem?_toArray, List.getElem?_cons_succ, List.getElem?_cons_zero]; rfl) (by kernel_rfl) (by kernel_rfl) (by kernel_rfl) (fun _ _ _ h => h) (Or.inl ⟨by rfl, ?_⟩) (by assumption) ?_
  rotate_left
  · (intro ww hSw; (try dsimp only at hSw); go_simp; (try with_reducible rfl))
  try simp only [Act.put, List.setIfInBounds_toArray, List.set_cons_zero, List.set_cons_succ]
  refine wpAnyH_take (i := 17) (v := ?_) (by simp only [List.getElem?_toArray, List.getElem?_cons_succ, List.getElem?_cons_zero]; rfl) (by kernel_rfl) (by kernel_rfl) (by kernel_rfl) (fun _ _ _ h => h) (Or.inl ⟨by rfl, ?_⟩) (by assumption) ?_
  rotate_left
  · (intro ww hSw; (try dsimp only at hSw); go_simp; (try with_reducible rfl))
  try simp only [Act.put, List.setIfInBounds_toArray, List.set_cons_zero, List.set_cons_succ]
  refine wpAnyH_take (i := 18) (v := ?_) (by simp only [List.getElem?_toArray, List.getElem?_cons_succ, List.getElem?_cons_zero]; rfl) (by kernel_rfl) (by kernel_rfl) (by kernel_rfl) (fun _ _ _ h => h) (Or.inl ⟨by rfl, ?_⟩) (by assumption) ?_
  rotate_left
  · (intro ww hSw; (try dsimp only at hSw); go_simp; (try with_reducible rfl))
  try simp only [Act.put, List.setIfInBounds_toArray, List.set_cons_zero, List.set_cons_succ]
  refine wpAnyH_take (i := 19) (v := ?_) (by simp only [List.getElem?_toArray, List.getElem?_cons_succ, List.getElem?_cons_zero]; rfl) (by kernel_rfl) (by kernel_rfl) (by kernel_rfl) (fun _ _ _ h => h) (Or.inl ⟨by rfl, ?_⟩) (by assumption) ?_
  rotate_left
  · (intro ww hSw; (try dsimp only at hSw); go_simp; (try with_reducible rfl))
  try simp only [Act.put, List.setIfInBounds_toArray, List.set_cons_zero, List.set_cons_succ]
  refine wpAnyH_take (i := 20) (v := ?_) (by simp only [List.getElem?_toArray, List.getElem?_cons_succ, List.getElem?_cons_zero]; rfl) (by kernel_rfl) (by kernel_rfl) (by kernel_rfl) (fun _ _ _ h => h) (Or.inl ⟨by rfl, ?_⟩) (by assumption) ?_
  rotate_left
  · (intro ww hSw; (try dsimp only at hSw); go_simp; (try with_reducible rfl))
  try simp only [Act.put, List.setIfInBounds_toArray, List.set_cons_zero, List.set_cons_succ]
  refine wpAnyH_take (i := 21) (v := ?_) (by simp only [List.getElem?_toArray, List.getElem?_cons_succ, List.getElem?_cons_zero]; rfl) (by kernel_rfl) (by kernel_rfl) (by kernel_rfl) (fun _ _ _ h => h) (Or.inl ⟨by rfl, ?_⟩) (by assumption) ?_
  rotate_left
  · (intro ww hSw; (try dsimp only at hSw); go_simp; (try with_reducible rfl))
  try simp only [Act.put, List.setIfInBounds_toArray, List.set_cons_zero, List.set_cons_succ]
  refine wpAnyH_take (i := 22) (v := ?_) (by simp only [List.getElem?_toArray, List.getElem?_cons_succ, List.getElem?_cons_zero]; rfl) (by kernel_rfl) (by kernel_rfl) (by kernel_rfl) (fun _ _ _ h => h) (Or.inl ⟨by rfl, ?_⟩) (by assumption) ?_
  rotate_left
  · (intro ww hSw; (try dsimp only at hSw); go_simp; (try with_reducible rfl))
  try simp only [Act.put, List.setIfInBounds_toArray, List.set_cons_zero, List.set_cons_succ]
  refine wpAnyH_done (by kernel_rfl) ?_ _
  refine NoPanic.normal ?_
  clear hHeld k1 k2
  have hca := C3.out.a.cell
  have hla := C3.out.a.lt
  have hcm : ∀ i, World.cell? _ ⟨w.heap.size + 1, i, none⟩ = _ := C3.out.m.cell
  have hlm := C3.out.m.lt
  have hcr : ∀ i, World.cell? _ ⟨w.heap.size + 1 + 1, i, none⟩ = _ := C3.out.r.cell
  have hzr : ∀ i, World.frozen? _ ⟨w.heap.size + 1 + 1, i, none⟩ = false := C3.out.r.frozen
  have hlr : w.heap.size + 1 + 1 < _ := C3.out.r.lt
  have hne2 : (S != 0) = true := by simpa using hne
  go_wp2_with fail
  refine bodyPost_ret (v := .tuple #[.agg #[.slice pd.ex x.d.exits.length pd.exc, .slice pd.pl x.d.players.length pd.plc, .slice pd.co x.d.coins.length pd.coc, .slice pd.it x.d.items.length pd.itc, .slice pd.bo x.d.boxes.length pd.boc, .int .i64 x.d.room, .int .i64 x.d.player, .int .i64 x.d.box, .slice pa x.at_.length pac, .slice (some ⟨kb, ko, none⟩) x.coins.length pkc, .slice pw x.wher.length pwc], .int .i64 S]) (by simp [results, Try.results13, go_sem, hcr]) rfl ⟨rfl, ?_⟩
  iterate 11 refine Below.setCell ?_ (by show w.heap.size ≤ w.heap.size + 2; omega) _
  exact C3.out.b
set_option maxRecDepth 100000 in
set_option maxHeartbeats 4000000 in
theorem gtrade_go (hE0 : E = 0) (S : Int) (hS : swapE (coinOf x i) (coinOf x q) pay fee = S) (hS0 : S = 0) (a b : Int) (ha : coinOf x i - pay + fee = a) (hb : coinOf x q - fee + pay = b) : Calls Try.prog 13 #[.agg #[.slice pd.ex x.d.exits.length pd.exc, .slice pd.pl x.d.players.length pd.plc, .slice pd.co x.d.coins.length pd.coc, .slice pd.it x.d.items.length pd.itc, .slice pd.bo x.d.boxes.length pd.boc, .int .i64 x.d.room, .int .i64 x.d.player, .int .i64 x.d.box, .slice pa x.at_.length pac, .slice (some ⟨kb, ko, none⟩) x.coins.length pkc, .slice pw x.wher.length pwc], .int .i64 (i : Int), .agg #[.int .i64 kd, .int .i64 di, .int .i64 it, .int .i64 bx, .int .i64 (q : Int), .slice ga gs.length gc, .int .i64 pay, .slice wa ws.length wc, .int .i64 fee]] w fun e w' => ∃ p' : Wp, e = .returned (.tuple #[.agg #[.slice p'.d.ex x.d.exits.length p'.d.exc, .slice p'.d.pl x.d.players.length p'.d.plc, .slice p'.d.co x.d.coins.length p'.d.coc, .slice p'.d.it x.d.items.length p'.d.itc, .slice p'.d.bo x.d.boxes.length p'.d.boc, .int .i64 x.d.room, .int .i64 x.d.player, .int .i64 x.d.box, .slice p'.at_ x.at_.length p'.atc, .slice p'.co x.coins.length p'.coc, .slice p'.wh x.wher.length p'.whc], .int .i64 0]) ∧ WorldOwn w.heap.size w' p' (trW x i q gs ws a b) ∧ Below w.heap.size w w' := by
  subst hE0
  have C0 := Lib.hid (Tri.start 29 31 29 w #[.slice pd.ex x.d.exits.length pd.exc, .slice pd.pl x.d.players.length pd.plc, .slice pd.co x.d.coins.length pd.coc, .slice pd.it x.d.items.length pd.itc, .slice pd.bo x.d.boxes.length pd.boc, .int .i64 x.d.room, .int .i64 x.d.player, .int .i64 x.d.box, .slice pa x.at_.length pac, .slice (some ⟨kb, ko, none⟩) x.coins.length pkc, .slice pw x.wher.length pwc] #[.int .i64 kd, .int .i64 di, .int .i64 it, .int .i64 bx, .int .i64 (q : Int), .slice ga gs.length gc, .int .i64 pay, .slice wa ws.length wc, .int .i64 fee] #[.slice none 0 0, .slice none 0 0, .slice none 0 0, .slice none 0 0, .slice none 0 0, .int .i64 0, .int .i64 0, .int .i64 0, .slice none 0 0, .slice none 0 0, .slice none 0 0])
  have H := Lib.hid h
  have HX := Lib.hid hx
  have HG := Lib.hid hg
  have HW := Lib.hid hw
  have HGI := Lib.hid hgi
  have HWI := Lib.hid hwi
  have HGL := Lib.hid hgl
  have HWL := Lib.hid hwl
  have HP := Lib.hid hP
  have HE := Lib.hid hE
  have HQ := Lib.hid hq
  have HI := Lib.hid hi
  clear h hx hg hw hgi hwi hP hE hq hi hgl hwl
  go_enter Try.func13, Try.ntmps13
  go_wp2_with fail
  refine (partners_nat x ⟨pd, pa, pac, some ⟨kb, ko, none⟩, pkc, pw, pwc⟩ i q kd di it bx pay fee gs ws ga wa gc wc _ HX.out (H.out.below C0.out.b (Nat.le_refl _)) HI.out (HG.out.below C0.out.b (Nat.le_refl _)) (HW.out.below C0.out.b (Nat.le_refl _))).mono ?_
  rintro e w1 ⟨rfl, b1⟩
  rw [HP.out]
  have C1 := Lib.hid (C0.out.call b1)
  clear b1
  have hca := C1.out.a.cell
  have hla := C1.out.a.lt
  have hcm : ∀ i, World.cell? _ ⟨w.heap.size + 1, i, none⟩ = _ := C1.out.m.cell
  have hlm := C1.out.m.lt
  go_wp2_with fail
  refine (wares_any x ⟨pd, pa, pac, some ⟨kb, ko, none⟩, pkc, pw, pwc⟩ i q kd di it bx pay fee gs ws ga wa gc wc _ HX.out (H.out.below C1.out.b (Nat.le_refl _)) (HG.out.below C1.out.b (Nat.le_refl _)) (HW.out.below C1.out.b (Nat.le_refl _)) HGI.out HWI.out HGL.out HWL.out).mono ?_
  rintro e w2 ⟨rfl, b2⟩
  rw [HE.out]
  have C2 := Lib.hid (C1.out.call b2)
  clear b2 hca hla hcm hlm C0 C1
  have hca := C2.out.a.cell
  have hla := C2.out.a.lt
  have hcm : ∀ i, World.cell? _ ⟨w.heap.size + 1, i, none⟩ = _ := C2.out.m.cell
  have hlm := C2.out.m.lt
  have hcr : ∀ i, World.cell? _ ⟨w.heap.size + 1 + 1, i, none⟩ = _ := C2.out.r.cell
  have hzr : ∀ i, World.frozen? _ ⟨w.heap.size + 1 + 1, i, none⟩ = false := C2.out.r.frozen
  have hlr : w.heap.size + 1 + 1 < _ := C2.out.r.lt
  have k1 := cell_call k1 C2.out.b
  have k2 := cell_call k2 C2.out.b
  obtain ⟨li, -, a0, a1⟩ := coin_at HX.out HI.out
  obtain ⟨lq, -, b0, b1⟩ := coin_at HX.out HQ.out
  have A0 := Lib.hid a0
  have A1 := Lib.hid a1
  have B0 := Lib.hid b0
  have B1 := Lib.hid b1
  have qi : ¬ (x.coins.length : Int) ≤ (i : Int) := by omega
  have qi2 : (x.coins.length ≤ i) = False := by simp; omega
  have qq : ¬ (x.coins.length : Int) ≤ (q : Int) := by omega
  have qq2 : (x.coins.length ≤ q) = False := by simp; omega
  have hs0 := Lib.hid (show swapE (coinOf x i) (coinOf x q) pay fee = S from hS)
  have LI := Lib.hid li
  have LQ := Lib.hid lq
  clear a0 a1 b0 b1 hS li lq
  generalize hcI : coinOf x i = cI at *
  generalize hcQ : coinOf x q = cQ at *
  have HCI := Lib.hid hcI
  have HCQ := Lib.hid hcQ
  clear hcI hcQ
  go_wp2_with fail
  refine wp_region_noPanic ?_
  refine wp_region_held_drew (S := (fun w' => Below w.heap.size w w' ∧ (∀ i, w'.cell? ⟨w.heap.size, i, none⟩ = (#[.slice pd.ex x.d.exits.length pd.exc, .slice pd.pl x.d.players.length pd.plc, .slice pd.co x.d.coins.length pd.coc, .slice pd.it x.d.items.length pd.itc, .slice pd.bo x.d.boxes.length pd.boc, .int .i64 x.d.room, .int .i64 x.d.player, .int .i64 x.d.box, .slice pa x.at_.length pac, .slice (some ⟨kb, ko, none⟩) x.coins.length pkc, .slice pw x.wher.length pwc][i]? : Option Value)) ∧ (∀ j, w'.cell? ⟨w.heap.size + 1, j, none⟩ = (#[.int .i64 kd, .int .i64 di, .int .i64 it, .int .i64 bx, .int .i64 (q : Int), .slice ga gs.length gc, .int .i64 pay, .slice wa ws.length wc, .int .i64 fee][j]? : Option Value)) ∧ w'.cell? ⟨kb, ko + i, none⟩ = some (.int .i64 cI) ∧ w'.cell? ⟨kb, ko + q, none⟩ = some (.int .i64 cQ))) (by kernel_rfl) (by (first | (exact ⟨C2.out.drew.b, C2.out.drew.a.cell, C2.out.drew.m.cell, k1, k2⟩))) (fun hHeld => ?_)
  clear hca hla hcm hlm hcr hzr hlr
  refine wpAnyH_take (i := 0) (v := ?_) (by simp only [List.getElem?_toArray, List.getElem?_cons_zero]; rfl) (by kernel_rfl) (by kernel_rfl) (by kernel_rfl) (fun _ _ _ h => h) (Or.inl ⟨by rfl, ?_⟩) (by assumption) ?_
  rotate_left
  · (intro ww hSw; (try dsimp only at hSw); go_simp; (try with_reducible rfl))
  try simp only [Act.put, List.setIfInBounds_toArray, List.set_cons_zero, List.set_cons_succ]
  refine wpAnyH_take (i := 1) (v := ?_) (by simp only [List.getElem?_toArray, List.getElem?_cons_succ, List.getElem?_cons_zero]; rfl) (by kernel_rfl) (by kernel_rfl) (by kernel_rfl) (fun _ _ _ h => h) (Or.inl ⟨by rfl, ?_⟩) (by assumption) ?_
  rotate_left
  · (intro ww hSw; (try dsimp only at hSw); go_simp; (try with_reducible rfl))
  try simp only [Act.put, List.setIfInBounds_toArray, List.set_cons_zero, List.set_cons_succ]
  refine wpAnyH_take (i := 2) (v := ?_) (by simp only [List.getElem?_toArray, List.getElem?_cons_succ, List.getElem?_cons_zero]; rfl) (by kernel_rfl) (by kernel_rfl) (by kernel_rfl) (fun _ _ _ h => h) (Or.inl ⟨by rfl, ?_⟩) (by assumption) ?_
  rotate_left
  · (intro ww hSw; (try dsimp only at hSw); go_simp; (try with_reducible rfl))
  try simp only [Act.put, List.setIfInBounds_toArray, List.set_cons_zero, List.set_cons_succ]
  refine wpAnyH_take (i := 3) (v := ?_) (by simp only [List.getElem?_toArray, List.getElem?_cons_succ, List.getElem?_cons_zero]; rfl) (by kernel_rfl) (by kernel_rfl) (by kernel_rfl) (fun _ _ _ h => h) (Or.inl ⟨by rfl, ?_⟩) (by assumption) ?_
  rotate_left
  · (intro ww hSw; (try dsimp only at hSw); go_simp; (try with_reducible rfl))
  try simp only [Act.put, List.setIfInBounds_toArray, List.set_cons_zero, List.set_cons_succ]
  refine wpAnyH_take (i := 4) (v := ?_) (by simp only [List.getElem?_toArray, List.getElem?_cons_succ, List.getElem?_cons_zero]; rfl) (by kernel_rfl) (by kernel_rfl) (by kernel_rfl) (fun _ _ _ h => h) (Or.inl ⟨by rfl, ?_⟩) (by assumption) ?_
  rotate_left
  · (intro ww hSw; (try dsimp only at hSw); go_simp; (try with_reducible rfl))
  try simp only [Act.put, List.setIfInBounds_toArray, List.set_cons_zero, List.set_cons_succ]
  refine wpAnyH_take (i := 5) (v := ?_) (by simp only [List.getElem?_toArray, List.getElem?_cons_succ, List.getElem?_cons_zero]; rfl) (by kernel_rfl) (by kernel_rfl) (by kernel_rfl) (fun _ _ _ h => h) (Or.inl ⟨by rfl, ?_⟩) (by assumption) ?_
  rotate_left
  · (intro ww hSw; (try dsimp only at hSw); go_simp; (try with_reducible rfl))
  try simp only [Act.put, List.setIfInBounds_toArray, List.set_cons_zero, List.set_cons_succ]
  refine wpAnyH_take (i := 6) (v := ?_) (by simp only [List.getElem?_toArray, List.getElem?_cons_succ, List.getElem?_cons_zero]; rfl) (by kernel_rfl) (by kernel_rfl) (by kernel_rfl) (fun _ _ _ h => h) (Or.inl ⟨by rfl, ?_⟩) (by assumption) ?_
  rotate_left
  · (intro ww hSw; (try dsimp only at hSw); go_simp; (try with_reducible rfl))
  try simp only [Act.put, List.setIfInBounds_toArray, List.set_cons_zero, List.set_cons_succ]
  refine wpAnyH_take (i := 7) (v := ?_) (by simp only [List.getElem?_toArray, List.getElem?_cons_succ, List.getElem?_cons_zero]; rfl) (by kernel_rfl) (by kernel_rfl) (by kernel_rfl) (fun _ _ _ h => h) (Or.inl ⟨by rfl, ?_⟩) (by assumption) ?_
  rotate_left
  · (intro ww hSw; (try dsimp only at hSw); go_simp; (try with_reducible rfl))
  try simp only [Act.put, List.setIfInBounds_toArray, List.set_cons_zero, List.set_cons_succ]
  refine wpAnyH_take (i := 8) (v := ?_) (by simp only [List.getElem?_toArray, List.getElem?_cons_succ, List.getElem?_cons_zero]; rfl) (by kernel_rfl) (by kernel_rfl) (by kernel_rfl) (fun _ _ _ h => h) (Or.inl ⟨by rfl, ?_⟩) (by assumption) ?_
  rotate_left
  · (intro ww hSw; (try dsimp only at hSw); go_simp; (try with_reducible rfl))
  try simp only [Act.put, List.setIfInBounds_toArray, List.set_cons_zero, List.set_cons_succ]
  refine wpAnyH_take (i := 9) (v := ?_) (by simp only [List.getElem?_toArray, List.getElem?_cons_succ, List.getElem?_cons_zero]; rfl) (by kernel_rfl) (by kernel_rfl) (by kernel_rfl) (fun _ _ _ h => h) (Or.inl ⟨by rfl, ?_⟩) (by assumption) ?_
  rotate_left
  · (intro ww hSw; (try dsimp only at hSw); go_simp; (try with_reducible rfl))
  try simp only [Act.put, List.setIfInBounds_toArray, List.set_cons_zero, List.set_cons_succ]
  refine wpAnyH_take (i := 10) (v := ?_) (by simp only [List.getElem?_toArray, List.getElem?_cons_succ, List.getElem?_cons_zero]; rfl) (by kernel_rfl) (by kernel_rfl) (by kernel_rfl) (fun _ _ _ h => h) (Or.inl ⟨by rfl, ?_⟩) (by assumption) ?_
  rotate_left
  · (intro ww hSw; (try dsimp only at hSw); go_simp; (try with_reducible rfl))
  try simp only [Act.put, List.setIfInBounds_toArray, List.set_cons_zero, List.set_cons_succ]
  refine wpAnyH_take (i := 11) (v := ?_) (by simp only [List.getElem?_toArray, List.getElem?_cons_succ, List.getElem?_cons_zero]; rfl) (by kernel_rfl) (by kernel_rfl) (by kernel_rfl) (fun _ _ _ h => h) (Or.inl ⟨by rfl, ?_⟩) (by assumption) ?_
  rotate_left
  · (intro ww hSw; (try dsimp only at hSw); go_simp; (try with_reducible rfl))
  try simp only [Act.put, List.setIfInBounds_toArray, List.set_cons_zero, List.set_cons_succ]
  refine wpAnyH_take (i := 12) (v := ?_) (by simp only [List.getElem?_toArray, List.getElem?_cons_succ, List.getElem?_cons_zero]; rfl) (by kernel_rfl) (by kernel_rfl) (by kernel_rfl) (fun _ _ _ h => h) (Or.inl ⟨by rfl, ?_⟩) (by assumption) ?_
  rotate_left
  · (intro ww hSw; (try dsimp only at hSw); go_simp; (try with_reducible rfl))
  try simp only [Act.put, List.setIfInBounds_toArray, List.set_cons_zero, List.set_cons_succ]
  refine wpAnyH_take (i := 13) (v := ?_) (by simp only [List.getElem?_toArray, List.getElem?_cons_succ, List.getElem?_cons_zero]; rfl) (by kernel_rfl) (by kernel_rfl) (by kernel_rfl) (fun _ _ _ h => h) (Or.inl ⟨by rfl, ?_⟩) (by assumption) ?_
  rotate_left
  · (intro ww hSw; (try dsimp only at hSw); go_simp; (try with_reducible rfl))
  try simp only [Act.put, List.setIfInBounds_toArray, List.set_cons_zero, List.set_cons_succ]
  refine wpAnyH_take (i := 14) (v := ?_) (by simp only [List.getElem?_toArray, List.getElem?_cons_succ, List.getElem?_cons_zero]; rfl) (by kernel_rfl) (by kernel_rfl) (by kernel_rfl) (fun _ _ _ h => h) (Or.inl ⟨by rfl, ?_⟩) (by assumption) ?_
  rotate_left
  · (intro ww hSw; (try dsimp only at hSw); go_simp; (try with_reducible rfl))
  try simp only [Act.put, List.setIfInBounds_toArray, List.set_cons_zero, List.set_cons_succ]
  have K1 := Lib.hid hHeld.2.2.2
  refine wpAnyH_ready (rs := [15]) (by kernel_rfl) (by simp) (AllReadyH.cons (by simp only [List.getElem?_toArray, List.getElem?_cons_succ, List.getElem?_cons_zero]; rfl) (fun K hK => ?_) AllReadyH.nil)
  go_simp
  refine (swap_any cI cQ pay fee _ A0.out A1.out B0.out B1.out).mono ?_; rintro e w3 ⟨rfl, hb3⟩; rw [hs0.out]; have C3 := Lib.hid (C2.out.drew.call hb3)
  try go_wp2_with fail
  refine hK.out _ _ (by (first | (with_reducible exact ⟨C3.out.b, C3.out.a.cell, C3.out.m.cell, cell_call K1.out.1 hb3, cell_call K1.out.2 hb3⟩))) (fun hHeld => ?_)
  clear hK K
  try simp only [Act.put, List.setIfInBounds_toArray, List.set_cons_zero, List.set_cons_succ]
  clear hb3
  refine wpAnyH_take (i := 16) (v := ?_) (by simp only [List.getElem?_toArray, List.getElem?_cons_succ, List.getElem?_cons_zero]; rfl) (by kernel_rfl) (by kernel_rfl) (by kernel_rfl) (fun _ _ _ h => h) (Or.inl ⟨by rfl, ?_⟩) (by assumption) ?_
  rotate_left
  · (intro ww hSw; (try dsimp only at hSw); go_simp; (try with_reducible rfl))
  try simp only [Act.put, List.setIfInBounds_toArray, List.set_cons_zero, List.set_cons_succ]
  refine wpAnyH_take (i := 17) (v := ?_) (by simp only [List.getElem?_toArray, List.getElem?_cons_succ, List.getElem?_cons_zero]; rfl) (by kernel_rfl) (by kernel_rfl) (by kernel_rfl) (fun _ _ _ h => h) (Or.inl ⟨by rfl, ?_⟩) (by assumption) ?_
  rotate_left
  · (intro ww hSw; (try dsimp only at hSw); go_simp; (try with_reducible rfl))
  try simp only [Act.put, List.setIfInBounds_toArray, List.set_cons_zero, List.set_cons_succ]
  refine wpAnyH_take (i := 18) (v := ?_) (by simp only [List.getElem?_toArray, List.getElem?_cons_succ, List.getElem?_cons_zero]; rfl) (by kernel_rfl) (by kernel_rfl) (by kernel_rfl) (fun _ _ _ h => h) (Or.inl ⟨by rfl, ?_⟩) (by assumption) ?_
  rotate_left
  · (intro ww hSw; (try dsimp only at hSw); go_simp; (try with_reducible rfl))
  try simp only [Act.put, List.setIfInBounds_toArray, List.set_cons_zero, List.set_cons_succ]
  refine wpAnyH_take (i := 19) (v := ?_) (by simp only [List.getElem?_toArray, List.getElem?_cons_succ, List.getElem?_cons_zero]; rfl) (by kernel_rfl) (by kernel_rfl) (by kernel_rfl) (fun _ _ _ h => h) (Or.inl ⟨by rfl, ?_⟩) (by assumption) ?_
  rotate_left
  · (intro ww hSw; (try dsimp only at hSw); go_simp; (try with_reducible rfl))
  try simp only [Act.put, List.setIfInBounds_toArray, List.set_cons_zero, List.set_cons_succ]
  refine wpAnyH_take (i := 20) (v := ?_) (by simp only [List.getElem?_toArray, List.getElem?_cons_succ, List.getElem?_cons_zero]; rfl) (by kernel_rfl) (by kernel_rfl) (by kernel_rfl) (fun _ _ _ h => h) (Or.inl ⟨by rfl, ?_⟩) (by assumption) ?_
  rotate_left
  · (intro ww hSw; (try dsimp only at hSw); go_simp; (try with_reducible rfl))
  try simp only [Act.put, List.setIfInBounds_toArray, List.set_cons_zero, List.set_cons_succ]
  refine wpAnyH_take (i := 21) (v := ?_) (by simp only [List.getElem?_toArray, List.getElem?_cons_succ, List.getElem?_cons_zero]; rfl) (by kernel_rfl) (by kernel_rfl) (by kernel_rfl) (fun _ _ _ h => h) (Or.inl ⟨by rfl, ?_⟩) (by assumption) ?_
  rotate_left
  · (intro ww hSw; (try dsimp only at hSw); go_simp; (try with_reducible rfl))
  try simp only [Act.put, List.setIfInBounds_toArray, List.set_cons_zero, List.set_cons_succ]
  refine wpAnyH_take (i := 22) (v := ?_) (by simp only [List.getElem?_toArray, List.getElem?_cons_succ, List.getElem?_cons_zero]; rfl) (by kernel_rfl) (by kernel_rfl) (by kernel_rfl) (fun _ _ _ h => h) (Or.inl ⟨by rfl, ?_⟩) (by assumption) ?_
  rotate_left
  · (intro ww hSw; (try dsimp only at hSw); go_simp; (try with_reducible rfl))
  try simp only [Act.put, List.setIfInBounds_toArray, List.set_cons_zero, List.set_cons_succ]
  refine wpAnyH_done (by kernel_rfl) ?_ _
  refine NoPanic.normal ?_
  clear hHeld k1 k2
  have hca := C3.out.a.cell
  have hla := C3.out.a.lt
  have hcm : ∀ i, World.cell? _ ⟨w.heap.size + 1, i, none⟩ = _ := C3.out.m.cell
  have hlm := C3.out.m.lt
  have hcr : ∀ i, World.cell? _ ⟨w.heap.size + 1 + 1, i, none⟩ = _ := C3.out.r.cell
  have hzr : ∀ i, World.frozen? _ ⟨w.heap.size + 1 + 1, i, none⟩ = false := C3.out.r.frozen
  have hlr : w.heap.size + 1 + 1 < _ := C3.out.r.lt
  subst hS0
  have HA := Lib.hid (show swapA cI cQ pay fee = a by unfold swapA; rw [if_pos hs0.out]; exact ha)
  have HB := Lib.hid (show swapB cI cQ pay fee = b by unfold swapB; rw [if_pos hs0.out]; exact hb)
  clear ha hb
  go_wp2_with fail
  rw [HA.out, HB.out]
  refine (anew_any x ⟨pd, pa, pac, some ⟨kb, ko, none⟩, pkc, pw, pwc⟩ _ (H.out.below C3.out.b (Nat.le_refl _)) (right_fewW9 HX.out)).mono ?_
  rintro e w4 ⟨⟨qd, qa, qac, qk, qkc, qw, qwc⟩, rfl, ho, b4⟩
  have C4 := Lib.hid (C3.out.call b4)
  have HO := Lib.hid (ho.less C3.out.size)
  clear b4 ho hca hla hcm hlm hcr hzr hlr
  have hg0 : ∃ g : Nat, qk = some ⟨g, 0, none⟩ ∧ w.heap.size + 3 ≤ g ∧ g < w4.heap.size := by obtain ⟨g, e, h1, h2, -⟩ := HO.out.putCo (k := i) LI.out; exact ⟨g, e, h1, h2⟩
  obtain ⟨g, rfl, hg3, hgN⟩ := hg0
  have HN3 := Lib.hid C4.out.size
  have D5 := Lib.hid (Blk.newn w4 29 #[.slice qd.ex x.d.exits.length qd.exc, .slice qd.pl x.d.players.length qd.plc, .slice qd.co x.d.coins.length qd.coc, .slice qd.it x.d.items.length qd.itc, .slice qd.bo x.d.boxes.length qd.boc, .int .i64 x.d.room, .int .i64 x.d.player, .int .i64 x.d.box, .slice qa x.at_.length qac, .slice (some ⟨g, 0, none⟩) x.coins.length qkc, .slice qw x.wher.length qwc] (n := w4.heap.size) rfl)
  have C5 := Lib.hid (C4.out.alloc (.cells #[.slice qd.ex x.d.exits.length qd.exc, .slice qd.pl x.d.players.length qd.plc, .slice qd.co x.d.coins.length qd.coc, .slice qd.it x.d.items.length qd.itc, .slice qd.bo x.d.boxes.length qd.boc, .int .i64 x.d.room, .int .i64 x.d.player, .int .i64 x.d.box, .slice qa x.at_.length qac, .slice (some ⟨g, 0, none⟩) x.coins.length qkc, .slice qw x.wher.length qwc] 29))
  have O5 := Lib.hid (HO.out.alloc' (.cells #[.slice qd.ex x.d.exits.length qd.exc, .slice qd.pl x.d.players.length qd.plc, .slice qd.co x.d.coins.length qd.coc, .slice qd.it x.d.items.length qd.itc, .slice qd.bo x.d.boxes.length qd.boc, .int .i64 x.d.room, .int .i64 x.d.player, .int .i64 x.d.box, .slice qa x.at_.length qac, .slice (some ⟨g, 0, none⟩) x.coins.length qkc, .slice qw x.wher.length qwc] 29))
  clear C4 HO
  generalize hN : w4.heap.size = N at *
  go_wp2_with fail
  generalize w4.alloc (.cells #[.slice qd.ex x.d.exits.length qd.exc, .slice qd.pl x.d.players.length qd.plc, .slice qd.co x.d.coins.length qd.coc, .slice qd.it x.d.items.length qd.itc, .slice qd.bo x.d.boxes.length qd.boc, .int .i64 x.d.room, .int .i64 x.d.player, .int .i64 x.d.box, .slice qa x.at_.length qac, .slice (some ⟨g, 0, none⟩) x.coins.length qkc, .slice qw x.wher.length qwc] 29) = W5 at *
  obtain ⟨g', eg, -, hg5, cz, fz, hput⟩ := O5.out.putCo (k := i) LI.out
  simp only [Option.some.injEq, Addr.mk.injEq] at eg
  obtain ⟨rfl, -⟩ := eg
  obtain ⟨g', eg, -, -, cz2, fz2, hput2⟩ := (hput a).putCo (k := q) (by simpa using LQ.out)
  simp only [Option.some.injEq, Addr.mk.injEq] at eg
  obtain ⟨rfl, -⟩ := eg
  have O6 := Lib.hid (show WorldOwn (w.heap.size + 3) ((W5.setCell ⟨g, i, none⟩ (.int .i64 a)).setCell ⟨g, q, none⟩ (.int .i64 b)).drew ⟨qd, qa, qac, some ⟨g, 0, none⟩, qkc, qw, qwc⟩ (coinsW x i q a b) from (hput2 b).drew_)
  have n1 : N ≠ g := by omega
  have n2 : w.heap.size + 1 ≠ g := by omega
  have n3 : g ≠ N := by omega
  have C6 := Lib.hid (show Tri 29 31 29 w ((W5.setCell ⟨g, i, none⟩ (.int .i64 a)).setCell ⟨g, q, none⟩ (.int .i64 b)).drew #[.slice pd.ex x.d.exits.length pd.exc, .slice pd.pl x.d.players.length pd.plc, .slice pd.co x.d.coins.length pd.coc, .slice pd.it x.d.items.length pd.itc, .slice pd.bo x.d.boxes.length pd.boc, .int .i64 x.d.room, .int .i64 x.d.player, .int .i64 x.d.box, .slice pa x.at_.length pac, .slice (some ⟨kb, ko, none⟩) x.coins.length pkc, .slice pw x.wher.length pwc] #[.int .i64 kd, .int .i64 di, .int .i64 it, .int .i64 bx, .int .i64 (q : Int), .slice ga gs.length gc, .int .i64 pay, .slice wa ws.length wc, .int .i64 fee] #[.slice none 0 0, .slice none 0 0, .slice none 0 0, .slice none 0 0, .slice none 0 0, .int .i64 0, .int .i64 0, .int .i64 0, .slice none 0 0, .slice none 0 0, .slice none 0 0] from ((C5.out.far hg3 i _).far hg3 q _).drew)
  have D6 := Lib.hid (show Blk ((W5.setCell ⟨g, i, none⟩ (.int .i64 a)).setCell ⟨g, q, none⟩ (.int .i64 b)).drew N _ #[.slice qd.ex x.d.exits.length qd.exc, .slice qd.pl x.d.players.length qd.plc, .slice qd.co x.d.coins.length qd.coc, .slice qd.it x.d.items.length qd.itc, .slice qd.bo x.d.boxes.length qd.boc, .int .i64 x.d.room, .int .i64 x.d.player, .int .i64 x.d.box, .slice qa x.at_.length qac, .slice (some ⟨g, 0, none⟩) x.coins.length qkc, .slice qw x.wher.length qwc] from (((D5.out.far n1 _).far n1 _).drew))
  have hl5 := hg5
  have S5 := Lib.hid (show OffG N (w.heap.size + 1) #[.slice qd.ex x.d.exits.length qd.exc, .slice qd.pl x.d.players.length qd.plc, .slice qd.co x.d.coins.length qd.coc, .slice qd.it x.d.items.length qd.itc, .slice qd.bo x.d.boxes.length qd.boc, .int .i64 x.d.room, .int .i64 x.d.player, .int .i64 x.d.box, .slice qa x.at_.length qac, .slice (some ⟨g, 0, none⟩) x.coins.length qkc, .slice qw x.wher.length qwc] #[.int .i64 kd, .int .i64 di, .int .i64 it, .int .i64 bx, .int .i64 (q : Int), .slice ga gs.length gc, .int .i64 pay, .slice wa ws.length wc, .int .i64 fee] W5.drew from ⟨D5.out.drew.cell, C5.out.m.cell⟩)
  clear hput hput2
  refine wp_region_noPanic ?_
  refine wp_region_held_drew (S := (fun w' => (∀ j, w'.cell? ⟨N, j, none⟩ = (#[.slice qd.ex x.d.exits.length qd.exc, .slice qd.pl x.d.players.length qd.plc, .slice qd.co x.d.coins.length qd.coc, .slice qd.it x.d.items.length qd.itc, .slice qd.bo x.d.boxes.length qd.boc, .int .i64 x.d.room, .int .i64 x.d.player, .int .i64 x.d.box, .slice qa x.at_.length qac, .slice (some ⟨g, 0, none⟩) x.coins.length qkc, .slice qw x.wher.length qwc][j]? : Option Value)) ∧ (∀ j, w'.cell? ⟨w.heap.size + 1, j, none⟩ = (#[.int .i64 kd, .int .i64 di, .int .i64 it, .int .i64 bx, .int .i64 (q : Int), .slice ga gs.length gc, .int .i64 pay, .slice wa ws.length wc, .int .i64 fee][j]? : Option Value)))) (by kernel_rfl) (by (first | (exact S5.out))) (fun hHeld => ?_)
  refine wpAnyH_take (i := 0) (v := ?_) (by simp only [List.getElem?_toArray, List.getElem?_cons_zero]; rfl) (by kernel_rfl) (by kernel_rfl) (by kernel_rfl) (fun _ _ _ h => h) (Or.inl ⟨by rfl, ?_⟩) (by assumption) ?_
  rotate_left
  · (intro ww hSw; (try dsimp only at hSw); go_simp; (try with_reducible rfl))
  try simp only [Act.put, List.setIfInBounds_toArray, List.set_cons_zero, List.set_cons_succ]
  refine wpAnyH_take (i := 1) (v := ?_) (by simp only [List.getElem?_toArray, List.getElem?_cons_succ, List.getElem?_cons_zero]; rfl) (by kernel_rfl) (by kernel_rfl) (by kernel_rfl) (fun _ _ _ h => h) (Or.inl ⟨by rfl, ?_⟩) (by assumption) ?_
  rotate_left
  · (intro ww hSw; (try dsimp only at hSw); go_simp; (try with_reducible rfl))
  try simp only [Act.put, List.setIfInBounds_toArray, List.set_cons_zero, List.set_cons_succ]
  refine wpAnyH_take (i := 2) (v := ?_) (by simp only [List.getElem?_toArray, List.getElem?_cons_succ, List.getElem?_cons_zero]; rfl) (by kernel_rfl) (by kernel_rfl) (by kernel_rfl) (fun _ _ _ h => h) (Or.inl ⟨by rfl, ?_⟩) (by assumption) ?_
  rotate_left
  · (intro ww hSw; (try dsimp only at hSw); go_simp; (try with_reducible rfl))
  try simp only [Act.put, List.setIfInBounds_toArray, List.set_cons_zero, List.set_cons_succ]
  refine wpAnyH_take (i := 3) (v := ?_) (by simp only [List.getElem?_toArray, List.getElem?_cons_succ, List.getElem?_cons_zero]; rfl) (by kernel_rfl) (by kernel_rfl) (by kernel_rfl) (fun _ _ _ h => h) (Or.inl ⟨by rfl, ?_⟩) (by assumption) ?_
  rotate_left
  · (intro ww hSw; (try dsimp only at hSw); go_simp; (try with_reducible rfl))
  try simp only [Act.put, List.setIfInBounds_toArray, List.set_cons_zero, List.set_cons_succ]
  refine wpAnyH_take (i := 4) (v := ?_) (by simp only [List.getElem?_toArray, List.getElem?_cons_succ, List.getElem?_cons_zero]; rfl) (by kernel_rfl) (by kernel_rfl) (by kernel_rfl) (fun _ _ _ h => h) (Or.inl ⟨by rfl, ?_⟩) (by assumption) ?_
  rotate_left
  · (intro ww hSw; (try dsimp only at hSw); go_simp; (try with_reducible rfl))
  try simp only [Act.put, List.setIfInBounds_toArray, List.set_cons_zero, List.set_cons_succ]
  refine wpAnyH_take (i := 5) (v := ?_) (by simp only [List.getElem?_toArray, List.getElem?_cons_succ, List.getElem?_cons_zero]; rfl) (by kernel_rfl) (by kernel_rfl) (by kernel_rfl) (fun _ _ _ h => h) (Or.inl ⟨by rfl, ?_⟩) (by assumption) ?_
  rotate_left
  · (intro ww hSw; (try dsimp only at hSw); go_simp; (try with_reducible rfl))
  try simp only [Act.put, List.setIfInBounds_toArray, List.set_cons_zero, List.set_cons_succ]
  refine wpAnyH_take (i := 6) (v := ?_) (by simp only [List.getElem?_toArray, List.getElem?_cons_succ, List.getElem?_cons_zero]; rfl) (by kernel_rfl) (by kernel_rfl) (by kernel_rfl) (fun _ _ _ h => h) (Or.inl ⟨by rfl, ?_⟩) (by assumption) ?_
  rotate_left
  · (intro ww hSw; (try dsimp only at hSw); go_simp; (try with_reducible rfl))
  try simp only [Act.put, List.setIfInBounds_toArray, List.set_cons_zero, List.set_cons_succ]
  refine wpAnyH_take (i := 7) (v := ?_) (by simp only [List.getElem?_toArray, List.getElem?_cons_succ, List.getElem?_cons_zero]; rfl) (by kernel_rfl) (by kernel_rfl) (by kernel_rfl) (fun _ _ _ h => h) (Or.inl ⟨by rfl, ?_⟩) (by assumption) ?_
  rotate_left
  · (intro ww hSw; (try dsimp only at hSw); go_simp; (try with_reducible rfl))
  try simp only [Act.put, List.setIfInBounds_toArray, List.set_cons_zero, List.set_cons_succ]
  refine wpAnyH_take (i := 8) (v := ?_) (by simp only [List.getElem?_toArray, List.getElem?_cons_succ, List.getElem?_cons_zero]; rfl) (by kernel_rfl) (by kernel_rfl) (by kernel_rfl) (fun _ _ _ h => h) (Or.inl ⟨by rfl, ?_⟩) (by assumption) ?_
  rotate_left
  · (intro ww hSw; (try dsimp only at hSw); go_simp; (try with_reducible rfl))
  try simp only [Act.put, List.setIfInBounds_toArray, List.set_cons_zero, List.set_cons_succ]
  refine wpAnyH_take (i := 9) (v := ?_) (by simp only [List.getElem?_toArray, List.getElem?_cons_succ, List.getElem?_cons_zero]; rfl) (by kernel_rfl) (by kernel_rfl) (by kernel_rfl) (fun _ _ _ h => h) (Or.inl ⟨by rfl, ?_⟩) (by assumption) ?_
  rotate_left
  · (intro ww hSw; (try dsimp only at hSw); go_simp; (try with_reducible rfl))
  try simp only [Act.put, List.setIfInBounds_toArray, List.set_cons_zero, List.set_cons_succ]
  refine wpAnyH_ready (rs := [10]) (by kernel_rfl) (by simp) (AllReadyH.cons (by simp only [List.getElem?_toArray, List.getElem?_cons_succ, List.getElem?_cons_zero]; rfl) (fun K hK => ?_) AllReadyH.nil)
  go_simp
  try go_wp2_with fail
  refine hK.out _ _ (by (first | (refine OffG.set n1 n2 S5.out _ _))) (fun hHeld => ?_)
  clear hK K
  try simp only [Act.put, List.setIfInBounds_toArray, List.set_cons_zero, List.set_cons_succ]
  refine wpAnyH_take (i := 11) (v := ?_) (by simp only [List.getElem?_toArray, List.getElem?_cons_succ, List.getElem?_cons_zero]; rfl) (by kernel_rfl) (by kernel_rfl) (by kernel_rfl) (fun _ _ _ h => h) (Or.inl ⟨by rfl, ?_⟩) (by assumption) ?_
  rotate_left
  · (intro ww hSw; (try dsimp only at hSw); go_simp; (try with_reducible rfl))
  try simp only [Act.put, List.setIfInBounds_toArray, List.set_cons_zero, List.set_cons_succ]
  refine wpAnyH_ready (rs := [12]) (by kernel_rfl) (by simp) (AllReadyH.cons (by simp only [List.getElem?_toArray, List.getElem?_cons_succ, List.getElem?_cons_zero]; rfl) (fun K hK => ?_) AllReadyH.nil)
  go_simp
  try go_wp2_with fail
  refine hK.out _ _ (by (first | (refine OffG.set n1 n2 (OffG.set n1 n2 S5.out _ _) _ _))) (fun hHeld => ?_)
  clear hK K
  try simp only [Act.put, List.setIfInBounds_toArray, List.set_cons_zero, List.set_cons_succ]
  refine wpAnyH_done (by kernel_rfl) ?_ _
  refine NoPanic.normal ?_
  clear hHeld
  go_wp2_with fail
  generalize ((W5.setCell ⟨g, i, none⟩ (.int .i64 a)).setCell ⟨g, q, none⟩ (.int .i64 b)).drew = W6 at *
  clear hgN hg5 hl5 fz fz2 cz cz2 n1 n2 n3 S5 D5 C5 O5
  have C6 := Lib.hid C6.out.drew
  have D6 := Lib.hid D6.out.drew
  have O6 := Lib.hid O6.out.drew_
  refine wp_region_noPanic ?_
  refine wp_region_held_drew (S := (fun w' => Below w.heap.size w w' ∧ (∀ j, w'.cell? ⟨w.heap.size + 1, j, none⟩ = (#[.int .i64 kd, .int .i64 di, .int .i64 it, .int .i64 bx, .int .i64 (q : Int), .slice ga gs.length gc, .int .i64 pay, .slice wa ws.length wc, .int .i64 fee][j]? : Option Value)))) (by kernel_rfl) (by (first | (with_reducible exact tri_S1 C6.out))) (fun hHeld => ?_)
  generalize W6.drew = V6 at *
  refine wpAnyH_take (i := 1) (v := ?_) (by simp only [List.getElem?_toArray, List.getElem?_cons_succ, List.getElem?_cons_zero]; rfl) (by kernel_rfl) (by kernel_rfl) (by kernel_rfl) (fun _ _ _ h => h) (Or.inl ⟨by rfl, ?_⟩) (by assumption) ?_
  rotate_left
  · (intro ww hSw; (try dsimp only at hSw); go_simp; (try with_reducible rfl))
  try simp only [Act.put, List.setIfInBounds_toArray, List.set_cons_zero, List.set_cons_succ]
  refine wpAnyH_take (i := 2) (v := ?_) (by simp only [List.getElem?_toArray, List.getElem?_cons_succ, List.getElem?_cons_zero]; rfl) (by kernel_rfl) (by kernel_rfl) (by kernel_rfl) (fun _ _ _ h => h) (Or.inl ⟨by rfl, ?_⟩) (by assumption) ?_
  rotate_left
  · (intro ww hSw; (try dsimp only at hSw); go_simp; (try with_reducible rfl))
  try simp only [Act.put, List.setIfInBounds_toArray, List.set_cons_zero, List.set_cons_succ]
  refine wpAnyH_take (i := 3) (v := ?_) (by simp only [List.getElem?_toArray, List.getElem?_cons_succ, List.getElem?_cons_zero]; rfl) (by kernel_rfl) (by kernel_rfl) (by kernel_rfl) (fun _ _ _ h => h) (Or.inl ⟨by rfl, ?_⟩) (by assumption) ?_
  rotate_left
  · (intro ww hSw; (try dsimp only at hSw); go_simp; (try with_reducible rfl))
  try simp only [Act.put, List.setIfInBounds_toArray, List.set_cons_zero, List.set_cons_succ]
  refine wpAnyH_take (i := 4) (v := ?_) (by simp only [List.getElem?_toArray, List.getElem?_cons_succ, List.getElem?_cons_zero]; rfl) (by kernel_rfl) (by kernel_rfl) (by kernel_rfl) (fun _ _ _ h => h) (Or.inl ⟨by rfl, ?_⟩) (by assumption) ?_
  rotate_left
  · (intro ww hSw; (try dsimp only at hSw); go_simp; (try with_reducible rfl))
  try simp only [Act.put, List.setIfInBounds_toArray, List.set_cons_zero, List.set_cons_succ]
  have hn := D6.out.cell
  have hnl := D6.out.lt
  refine wpAnyH_ready (rs := [0, 5]) (by kernel_rfl) (by simp) (AllReadyH.cons (by simp only [List.getElem?_toArray, List.getElem?_cons_zero]; rfl) (fun K hK => ?_) (AllReadyH.cons (by simp only [List.getElem?_toArray, List.getElem?_cons_succ, List.getElem?_cons_zero]; rfl) (fun K hK => ?_) AllReadyH.nil))
  ·
    go_simp
    try go_wp2_with fail
    refine hK.out _ _ (by (first | (with_reducible exact tri_S1 C6.out))) (fun hHeld => ?_)
    clear hK K
    try simp only [Act.put, List.setIfInBounds_toArray, List.set_cons_zero, List.set_cons_succ]
    refine wpAnyH_ready (rs := [5]) (by kernel_rfl) (by simp) (AllReadyH.cons (by simp only [List.getElem?_toArray, List.getElem?_cons_succ, List.getElem?_cons_zero]; rfl) (fun K hK => ?_) AllReadyH.nil)
    go_simp
    refine (ghands_any q _).mono ?_; rintro e wA6 ⟨rfl, hbA⟩; have CA6 := Lib.hid (C6.out.call hbA); have DA6 := Lib.hid (D6.out.call hbA); have BA6 := Lib.hid hbA; clear hbA
    try go_wp2_with fail
    refine hK.out _ _ (by (first | (with_reducible exact tri_S1 CA6.out))) (fun hHeld => ?_)
    clear hK K
    try simp only [Act.put, List.setIfInBounds_toArray, List.set_cons_zero, List.set_cons_succ]
    clear hnl
    refine wpAnyH_ready (rs := [6]) (by kernel_rfl) (by simp) (AllReadyH.cons (by simp only [List.getElem?_toArray, List.getElem?_cons_succ, List.getElem?_cons_zero]; rfl) (fun K hK => ?_) AllReadyH.nil)
    go_simp
    refine (gbring_as (coinsW_shape x i q a b) ⟨qd, qa, qac, some ⟨g, 0, none⟩, qkc, qw, qwc⟩ gs ga gc q _ (w.heap.size + 3) CA6.out.size (O6.out.call BA6.out) (coinsW_few (right_fewW9 HX.out) i q a b) (HG.out.below CA6.out.b (Nat.le_refl _)) HGI.out).mono ?_; rintro e wB6 ⟨⟨rd, ra, rac, rk, rkc, rw_, rwc⟩, rfl, ho, hbB⟩; have CB6 := Lib.hid (CA6.out.call hbB); have DB6 := Lib.hid (DA6.out.call hbB); have OB6 := Lib.hid ho; clear hbB ho
    try go_wp2_with fail
    refine hK.out _ _ (by (first | (with_reducible exact tri_S1 CB6.out))) (fun hHeld => ?_)
    clear hK K
    try simp only [Act.put, List.setIfInBounds_toArray, List.set_cons_zero, List.set_cons_succ]
    clear hn
    have hn := DB6.out.cell
    have hnz := DB6.out.frozen
    have hnl := DB6.out.lt
    refine wpAnyH_ready (rs := [7]) (by kernel_rfl) (by simp) (AllReadyH.cons (by simp only [List.getElem?_toArray, List.getElem?_cons_succ, List.getElem?_cons_zero]; rfl) (fun K hK => ?_) AllReadyH.nil)
    go_simp
    try go_wp2_with fail
    refine hK.out _ _ (by (first | (refine tri_S1 (t := 29) (u := 31) (s := 29) (w := w) (cs := #[.slice pd.ex x.d.exits.length pd.exc, .slice pd.pl x.d.players.length pd.plc, .slice pd.co x.d.coins.length pd.coc, .slice pd.it x.d.items.length pd.itc, .slice pd.bo x.d.boxes.length pd.boc, .int .i64 x.d.room, .int .i64 x.d.player, .int .i64 x.d.box, .slice pa x.at_.length pac, .slice (some ⟨kb, ko, none⟩) x.coins.length pkc, .slice pw x.wher.length pwc]) (z := #[.slice none 0 0, .slice none 0 0, .slice none 0 0, .slice none 0 0, .slice none 0 0, .int .i64 0, .int .i64 0, .int .i64 0, .slice none 0 0, .slice none 0 0, .slice none 0 0]) ?_; (iterate 11 with_reducible refine Tri.far ?_ HN3.out _ _); with_reducible exact CB6.out))) (fun hHeld => ?_)
    clear hK K
    try simp only [Act.put, List.setIfInBounds_toArray, List.set_cons_zero, List.set_cons_succ]
    refine wpAnyH_done (by kernel_rfl) ?_ _
    refine NoPanic.normal ?_
    clear hHeld hn hnz hnl
    have C8 := Lib.hid (show Tri 29 31 29 w (((((((((((wB6.setCell ⟨N, 0, none⟩ (.slice rd.ex x.d.exits.length rd.exc)).setCell ⟨N, 1, none⟩ (.slice rd.pl x.d.players.length rd.plc)).setCell ⟨N, 2, none⟩ (.slice rd.co x.d.coins.length rd.coc)).setCell ⟨N, 3, none⟩ (.slice rd.it x.d.items.length rd.itc)).setCell ⟨N, 4, none⟩ (.slice rd.bo x.d.boxes.length rd.boc)).setCell ⟨N, 5, none⟩ (.int .i64 x.d.room)).setCell ⟨N, 6, none⟩ (.int .i64 x.d.player)).setCell ⟨N, 7, none⟩ (.int .i64 x.d.box)).setCell ⟨N, 8, none⟩ (.slice ra x.at_.length rac)).setCell ⟨N, 9, none⟩ (.slice rk x.coins.length rkc)).setCell ⟨N, 10, none⟩ (.slice rw_ x.wher.length rwc)) #[.slice pd.ex x.d.exits.length pd.exc, .slice pd.pl x.d.players.length pd.plc, .slice pd.co x.d.coins.length pd.coc, .slice pd.it x.d.items.length pd.itc, .slice pd.bo x.d.boxes.length pd.boc, .int .i64 x.d.room, .int .i64 x.d.player, .int .i64 x.d.box, .slice pa x.at_.length pac, .slice (some ⟨kb, ko, none⟩) x.coins.length pkc, .slice pw x.wher.length pwc] #[.int .i64 kd, .int .i64 di, .int .i64 it, .int .i64 bx, .int .i64 (q : Int), .slice ga gs.length gc, .int .i64 pay, .slice wa ws.length wc, .int .i64 fee] #[.slice none 0 0, .slice none 0 0, .slice none 0 0, .slice none 0 0, .slice none 0 0, .int .i64 0, .int .i64 0, .int .i64 0, .slice none 0 0, .slice none 0 0, .slice none 0 0] from by (iterate 11 with_reducible refine Tri.far ?_ HN3.out _ _); with_reducible exact CB6.out)
    have D8 := Lib.hid (show Blk (((((((((((wB6.setCell ⟨N, 0, none⟩ (.slice rd.ex x.d.exits.length rd.exc)).setCell ⟨N, 1, none⟩ (.slice rd.pl x.d.players.length rd.plc)).setCell ⟨N, 2, none⟩ (.slice rd.co x.d.coins.length rd.coc)).setCell ⟨N, 3, none⟩ (.slice rd.it x.d.items.length rd.itc)).setCell ⟨N, 4, none⟩ (.slice rd.bo x.d.boxes.length rd.boc)).setCell ⟨N, 5, none⟩ (.int .i64 x.d.room)).setCell ⟨N, 6, none⟩ (.int .i64 x.d.player)).setCell ⟨N, 7, none⟩ (.int .i64 x.d.box)).setCell ⟨N, 8, none⟩ (.slice ra x.at_.length rac)).setCell ⟨N, 9, none⟩ (.slice rk x.coins.length rkc)).setCell ⟨N, 10, none⟩ (.slice rw_ x.wher.length rwc)) N 29 #[.slice rd.ex x.d.exits.length rd.exc, .slice rd.pl x.d.players.length rd.plc, .slice rd.co x.d.coins.length rd.coc, .slice rd.it x.d.items.length rd.itc, .slice rd.bo x.d.boxes.length rd.boc, .int .i64 x.d.room, .int .i64 x.d.player, .int .i64 x.d.box, .slice ra x.at_.length rac, .slice rk x.coins.length rkc, .slice rw_ x.wher.length rwc] from blk_set11 DB6.out)
    have O8 := Lib.hid (show WorldOwn (w.heap.size + 3) (((((((((((wB6.setCell ⟨N, 0, none⟩ (.slice rd.ex x.d.exits.length rd.exc)).setCell ⟨N, 1, none⟩ (.slice rd.pl x.d.players.length rd.plc)).setCell ⟨N, 2, none⟩ (.slice rd.co x.d.coins.length rd.coc)).setCell ⟨N, 3, none⟩ (.slice rd.it x.d.items.length rd.itc)).setCell ⟨N, 4, none⟩ (.slice rd.bo x.d.boxes.length rd.boc)).setCell ⟨N, 5, none⟩ (.int .i64 x.d.room)).setCell ⟨N, 6, none⟩ (.int .i64 x.d.player)).setCell ⟨N, 7, none⟩ (.int .i64 x.d.box)).setCell ⟨N, 8, none⟩ (.slice ra x.at_.length rac)).setCell ⟨N, 9, none⟩ (.slice rk x.coins.length rkc)).setCell ⟨N, 10, none⟩ (.slice rw_ x.wher.length rwc)) ⟨rd, ra, rac, rk, rkc, rw_, rwc⟩ (setLW (coinsW x i q a b) gs ⟨1, (q : Int)⟩) from OB6.out.only DB6.out (by (iterate 11 with_reducible refine OnlyN.set ?_ _ _); exact OnlyN.refl _ _))
    generalize (((((((((((wB6.setCell ⟨N, 0, none⟩ (.slice rd.ex x.d.exits.length rd.exc)).setCell ⟨N, 1, none⟩ (.slice rd.pl x.d.players.length rd.plc)).setCell ⟨N, 2, none⟩ (.slice rd.co x.d.coins.length rd.coc)).setCell ⟨N, 3, none⟩ (.slice rd.it x.d.items.length rd.itc)).setCell ⟨N, 4, none⟩ (.slice rd.bo x.d.boxes.length rd.boc)).setCell ⟨N, 5, none⟩ (.int .i64 x.d.room)).setCell ⟨N, 6, none⟩ (.int .i64 x.d.player)).setCell ⟨N, 7, none⟩ (.int .i64 x.d.box)).setCell ⟨N, 8, none⟩ (.slice ra x.at_.length rac)).setCell ⟨N, 9, none⟩ (.slice rk x.coins.length rkc)).setCell ⟨N, 10, none⟩ (.slice rw_ x.wher.length rwc)) = W8 at *
    go_wp2_with fail
    clear CB6 DB6 OB6 CA6 DA6 C6 D6 O6 BA6
    have C8 := Lib.hid C8.out.drew
    have D8 := Lib.hid D8.out.drew
    have O8 := Lib.hid O8.out.drew_
    refine wp_region_noPanic ?_
    refine wp_region_held_drew (S := (fun w' => Below w.heap.size w w' ∧ (∀ j, w'.cell? ⟨w.heap.size + 1, j, none⟩ = (#[.int .i64 kd, .int .i64 di, .int .i64 it, .int .i64 bx, .int .i64 (q : Int), .slice ga gs.length gc, .int .i64 pay, .slice wa ws.length wc, .int .i64 fee][j]? : Option Value)))) (by kernel_rfl) (by (first | (with_reducible exact tri_S1 C8.out))) (fun hHeld => ?_)
    generalize W8.drew = V8 at *
    refine wpAnyH_take (i := 1) (v := ?_) (by simp only [List.getElem?_toArray, List.getElem?_cons_succ, List.getElem?_cons_zero]; rfl) (by kernel_rfl) (by kernel_rfl) (by kernel_rfl) (fun _ _ _ h => h) (Or.inl ⟨by rfl, ?_⟩) (by assumption) ?_
    rotate_left
    · (intro ww hSw; (try dsimp only at hSw); go_simp; (try with_reducible rfl))
    try simp only [Act.put, List.setIfInBounds_toArray, List.set_cons_zero, List.set_cons_succ]
    refine wpAnyH_take (i := 2) (v := ?_) (by simp only [List.getElem?_toArray, List.getElem?_cons_succ, List.getElem?_cons_zero]; rfl) (by kernel_rfl) (by kernel_rfl) (by kernel_rfl) (fun _ _ _ h => h) (Or.inl ⟨by rfl, ?_⟩) (by assumption) ?_
    rotate_left
    · (intro ww hSw; (try dsimp only at hSw); go_simp; (try with_reducible rfl))
    try simp only [Act.put, List.setIfInBounds_toArray, List.set_cons_zero, List.set_cons_succ]
    refine wpAnyH_take (i := 3) (v := ?_) (by simp only [List.getElem?_toArray, List.getElem?_cons_succ, List.getElem?_cons_zero]; rfl) (by kernel_rfl) (by kernel_rfl) (by kernel_rfl) (fun _ _ _ h => h) (Or.inl ⟨by rfl, ?_⟩) (by assumption) ?_
    rotate_left
    · (intro ww hSw; (try dsimp only at hSw); go_simp; (try with_reducible rfl))
    try simp only [Act.put, List.setIfInBounds_toArray, List.set_cons_zero, List.set_cons_succ]
    have hn := D8.out.cell
    have hnl := D8.out.lt
    refine wpAnyH_ready (rs := [0, 4]) (by kernel_rfl) (by simp) (AllReadyH.cons (by simp only [List.getElem?_toArray, List.getElem?_cons_zero]; rfl) (fun K hK => ?_) (AllReadyH.cons (by simp only [List.getElem?_toArray, List.getElem?_cons_succ, List.getElem?_cons_zero]; rfl) (fun K hK => ?_) AllReadyH.nil))
    ·
      go_simp
      try go_wp2_with fail
      refine hK.out _ _ (by (first | (with_reducible exact tri_S1 C8.out))) (fun hHeld => ?_)
      clear hK K
      try simp only [Act.put, List.setIfInBounds_toArray, List.set_cons_zero, List.set_cons_succ]
      refine wpAnyH_ready (rs := [4]) (by kernel_rfl) (by simp) (AllReadyH.cons (by simp only [List.getElem?_toArray, List.getElem?_cons_succ, List.getElem?_cons_zero]; rfl) (fun K hK => ?_) AllReadyH.nil)
      go_simp
      refine (ghands_any i _).mono ?_; rintro e wA8 ⟨rfl, hbA⟩; have CA8 := Lib.hid (C8.out.call hbA); have DA8 := Lib.hid (D8.out.call hbA); have BA8 := Lib.hid hbA; clear hbA
      try go_wp2_with fail
      refine hK.out _ _ (by (first | (with_reducible exact tri_S1 CA8.out))) (fun hHeld => ?_)
      clear hK K
      try simp only [Act.put, List.setIfInBounds_toArray, List.set_cons_zero, List.set_cons_succ]
      clear hnl
      refine wpAnyH_ready (rs := [5]) (by kernel_rfl) (by simp) (AllReadyH.cons (by simp only [List.getElem?_toArray, List.getElem?_cons_succ, List.getElem?_cons_zero]; rfl) (fun K hK => ?_) AllReadyH.nil)
      go_simp
      refine (gbring_as (Shape.trans' (coinsW_shape x i q a b) (setLW_shape _ gs ⟨1, (q : Int)⟩)) ⟨rd, ra, rac, rk, rkc, rw_, rwc⟩ ws wa wc i _ (w.heap.size + 3) CA8.out.size (O8.out.call BA8.out) (setLW_few (coinsW_few (right_fewW9 HX.out) i q a b) _ _) (HW.out.below CA8.out.b (Nat.le_refl _)) (fun k hk => by rw [(setLW_shape _ gs ⟨1, (q : Int)⟩).w]; exact HWI.out k hk)).mono ?_; rintro e wB8 ⟨⟨ud, ua, uac, uk, ukc, uw, uwc⟩, rfl, ho, hbB⟩; have CB8 := Lib.hid (CA8.out.call hbB); have DB8 := Lib.hid (DA8.out.call hbB); have OB8 := Lib.hid ho; clear hbB ho
      try go_wp2_with fail
      refine hK.out _ _ (by (first | (with_reducible exact tri_S1 CB8.out))) (fun hHeld => ?_)
      clear hK K
      try simp only [Act.put, List.setIfInBounds_toArray, List.set_cons_zero, List.set_cons_succ]
      clear hn
      have hn := DB8.out.cell
      have hnz := DB8.out.frozen
      have hnl := DB8.out.lt
      refine wpAnyH_ready (rs := [6]) (by kernel_rfl) (by simp) (AllReadyH.cons (by simp only [List.getElem?_toArray, List.getElem?_cons_succ, List.getElem?_cons_zero]; rfl) (fun K hK => ?_) AllReadyH.nil)
      go_simp
      try go_wp2_with fail
      refine hK.out _ _ (by (first | (refine tri_S1 (t := 29) (u := 31) (s := 29) (w := w) (cs := #[.slice pd.ex x.d.exits.length pd.exc, .slice pd.pl x.d.players.length pd.plc, .slice pd.co x.d.coins.length pd.coc, .slice pd.it x.d.items.length pd.itc, .slice pd.bo x.d.boxes.length pd.boc, .int .i64 x.d.room, .int .i64 x.d.player, .int .i64 x.d.box, .slice pa x.at_.length pac, .slice (some ⟨kb, ko, none⟩) x.coins.length pkc, .slice pw x.wher.length pwc]) (z := #[.slice none 0 0, .slice none 0 0, .slice none 0 0, .slice none 0 0, .slice none 0 0, .int .i64 0, .int .i64 0, .int .i64 0, .slice none 0 0, .slice none 0 0, .slice none 0 0]) ?_; (iterate 11 with_reducible refine Tri.far ?_ HN3.out _ _); with_reducible exact CB8.out))) (fun hHeld => ?_)
      clear hK K
      try simp only [Act.put, List.setIfInBounds_toArray, List.set_cons_zero, List.set_cons_succ]
      refine wpAnyH_done (by kernel_rfl) ?_ _
      refine NoPanic.normal ?_
      clear hHeld hn hnz hnl
      have CE := Lib.hid (show Tri 29 31 29 w (((((((((((wB8.setCell ⟨N, 0, none⟩ (.slice ud.ex x.d.exits.length ud.exc)).setCell ⟨N, 1, none⟩ (.slice ud.pl x.d.players.length ud.plc)).setCell ⟨N, 2, none⟩ (.slice ud.co x.d.coins.length ud.coc)).setCell ⟨N, 3, none⟩ (.slice ud.it x.d.items.length ud.itc)).setCell ⟨N, 4, none⟩ (.slice ud.bo x.d.boxes.length ud.boc)).setCell ⟨N, 5, none⟩ (.int .i64 x.d.room)).setCell ⟨N, 6, none⟩ (.int .i64 x.d.player)).setCell ⟨N, 7, none⟩ (.int .i64 x.d.box)).setCell ⟨N, 8, none⟩ (.slice ua x.at_.length uac)).setCell ⟨N, 9, none⟩ (.slice uk x.coins.length ukc)).setCell ⟨N, 10, none⟩ (.slice uw x.wher.length uwc)) #[.slice pd.ex x.d.exits.length pd.exc, .slice pd.pl x.d.players.length pd.plc, .slice pd.co x.d.coins.length pd.coc, .slice pd.it x.d.items.length pd.itc, .slice pd.bo x.d.boxes.length pd.boc, .int .i64 x.d.room, .int .i64 x.d.player, .int .i64 x.d.box, .slice pa x.at_.length pac, .slice (some ⟨kb, ko, none⟩) x.coins.length pkc, .slice pw x.wher.length pwc] #[.int .i64 kd, .int .i64 di, .int .i64 it, .int .i64 bx, .int .i64 (q : Int), .slice ga gs.length gc, .int .i64 pay, .slice wa ws.length wc, .int .i64 fee] #[.slice none 0 0, .slice none 0 0, .slice none 0 0, .slice none 0 0, .slice none 0 0, .int .i64 0, .int .i64 0, .int .i64 0, .slice none 0 0, .slice none 0 0, .slice none 0 0] from by (iterate 11 with_reducible refine Tri.far ?_ HN3.out _ _); with_reducible exact CB8.out)
      have DE := Lib.hid (show Blk (((((((((((wB8.setCell ⟨N, 0, none⟩ (.slice ud.ex x.d.exits.length ud.exc)).setCell ⟨N, 1, none⟩ (.slice ud.pl x.d.players.length ud.plc)).setCell ⟨N, 2, none⟩ (.slice ud.co x.d.coins.length ud.coc)).setCell ⟨N, 3, none⟩ (.slice ud.it x.d.items.length ud.itc)).setCell ⟨N, 4, none⟩ (.slice ud.bo x.d.boxes.length ud.boc)).setCell ⟨N, 5, none⟩ (.int .i64 x.d.room)).setCell ⟨N, 6, none⟩ (.int .i64 x.d.player)).setCell ⟨N, 7, none⟩ (.int .i64 x.d.box)).setCell ⟨N, 8, none⟩ (.slice ua x.at_.length uac)).setCell ⟨N, 9, none⟩ (.slice uk x.coins.length ukc)).setCell ⟨N, 10, none⟩ (.slice uw x.wher.length uwc)) N 29 #[.slice ud.ex x.d.exits.length ud.exc, .slice ud.pl x.d.players.length ud.plc, .slice ud.co x.d.coins.length ud.coc, .slice ud.it x.d.items.length ud.itc, .slice ud.bo x.d.boxes.length ud.boc, .int .i64 x.d.room, .int .i64 x.d.player, .int .i64 x.d.box, .slice ua x.at_.length uac, .slice uk x.coins.length ukc, .slice uw x.wher.length uwc] from blk_set11 DB8.out)
      have OE := Lib.hid (show WorldOwn (w.heap.size + 3) (((((((((((wB8.setCell ⟨N, 0, none⟩ (.slice ud.ex x.d.exits.length ud.exc)).setCell ⟨N, 1, none⟩ (.slice ud.pl x.d.players.length ud.plc)).setCell ⟨N, 2, none⟩ (.slice ud.co x.d.coins.length ud.coc)).setCell ⟨N, 3, none⟩ (.slice ud.it x.d.items.length ud.itc)).setCell ⟨N, 4, none⟩ (.slice ud.bo x.d.boxes.length ud.boc)).setCell ⟨N, 5, none⟩ (.int .i64 x.d.room)).setCell ⟨N, 6, none⟩ (.int .i64 x.d.player)).setCell ⟨N, 7, none⟩ (.int .i64 x.d.box)).setCell ⟨N, 8, none⟩ (.slice ua x.at_.length uac)).setCell ⟨N, 9, none⟩ (.slice uk x.coins.length ukc)).setCell ⟨N, 10, none⟩ (.slice uw x.wher.length uwc)) ⟨ud, ua, uac, uk, ukc, uw, uwc⟩ (setLW (setLW (coinsW x i q a b) gs ⟨1, (q : Int)⟩) ws ⟨1, (i : Int)⟩) from OB8.out.only DB8.out (by (iterate 11 with_reducible refine OnlyN.set ?_ _ _); exact OnlyN.refl _ _))
      generalize (((((((((((wB8.setCell ⟨N, 0, none⟩ (.slice ud.ex x.d.exits.length ud.exc)).setCell ⟨N, 1, none⟩ (.slice ud.pl x.d.players.length ud.plc)).setCell ⟨N, 2, none⟩ (.slice ud.co x.d.coins.length ud.coc)).setCell ⟨N, 3, none⟩ (.slice ud.it x.d.items.length ud.itc)).setCell ⟨N, 4, none⟩ (.slice ud.bo x.d.boxes.length ud.boc)).setCell ⟨N, 5, none⟩ (.int .i64 x.d.room)).setCell ⟨N, 6, none⟩ (.int .i64 x.d.player)).setCell ⟨N, 7, none⟩ (.int .i64 x.d.box)).setCell ⟨N, 8, none⟩ (.slice ua x.at_.length uac)).setCell ⟨N, 9, none⟩ (.slice uk x.coins.length ukc)).setCell ⟨N, 10, none⟩ (.slice uw x.wher.length uwc)) = WE at *
      clear CB8 DB8 OB8 CA8 DA8 C8 D8 O8 BA8
      have hn := DE.out.cell
      have hnl := DE.out.lt
      have hcr : ∀ i, World.cell? _ ⟨w.heap.size + 1 + 1, i, none⟩ = _ := CE.out.r.cell
      have hzr : ∀ i, World.frozen? _ ⟨w.heap.size + 1 + 1, i, none⟩ = false := CE.out.r.frozen
      have hlr : w.heap.size + 1 + 1 < _ := CE.out.r.lt
      go_wp2_with fail
      refine bodyPost_ret (v := .tuple #[.agg #[.slice ud.ex x.d.exits.length ud.exc, .slice ud.pl x.d.players.length ud.plc, .slice ud.co x.d.coins.length ud.coc, .slice ud.it x.d.items.length ud.itc, .slice ud.bo x.d.boxes.length ud.boc, .int .i64 x.d.room, .int .i64 x.d.player, .int .i64 x.d.box, .slice ua x.at_.length uac, .slice uk x.coins.length ukc, .slice uw x.wher.length uwc], .int .i64 0]) (by simp [results, Try.results13, go_sem, hcr]) rfl ⟨⟨ud, ua, uac, uk, ukc, uw, uwc⟩, rfl, ?_, ?_⟩
      · rw [← coins_trW]
        refine WorldOwn.less (n := w.heap.size + 3) ?_ (by omega)
        iterate 11 with_reducible refine WorldOwn.set (q := w.heap.size + 2) ?_ (by omega) _ _
        exact OE.out
      · iterate 11 with_reducible refine Below.setCell ?_ (by show w.heap.size ≤ w.heap.size + 2; omega) _
        exact CE.out.b
    ·
      go_simp
      refine (ghands_any i _).mono ?_; rintro e wA8 ⟨rfl, hbA⟩; have CA8 := Lib.hid (C8.out.call hbA); have DA8 := Lib.hid (D8.out.call hbA); have BA8 := Lib.hid hbA; clear hbA
      try go_wp2_with fail
      refine hK.out _ _ (by (first | (with_reducible exact tri_S1 CA8.out))) (fun hHeld => ?_)
      clear hK K
      try simp only [Act.put, List.setIfInBounds_toArray, List.set_cons_zero, List.set_cons_succ]
      clear hn hnl
      have hn := DA8.out.cell
      have hnl := DA8.out.lt
      refine wpAnyH_ready (rs := [0]) (by kernel_rfl) (by simp) (AllReadyH.cons (by simp only [List.getElem?_toArray, List.getElem?_cons_zero]; rfl) (fun K hK => ?_) AllReadyH.nil)
      go_simp
      try go_wp2_with fail
      refine hK.out _ _ (by (first | (with_reducible exact tri_S1 CA8.out))) (fun hHeld => ?_)
      clear hK K
      try simp only [Act.put, List.setIfInBounds_toArray, List.set_cons_zero, List.set_cons_succ]
      clear hnl
      refine wpAnyH_ready (rs := [5]) (by kernel_rfl) (by simp) (AllReadyH.cons (by simp only [List.getElem?_toArray, List.getElem?_cons_succ, List.getElem?_cons_zero]; rfl) (fun K hK => ?_) AllReadyH.nil)
      go_simp
      refine (gbring_as (Shape.trans' (coinsW_shape x i q a b) (setLW_shape _ gs ⟨1, (q : Int)⟩)) ⟨rd, ra, rac, rk, rkc, rw_, rwc⟩ ws wa wc i _ (w.heap.size + 3) CA8.out.size (O8.out.call BA8.out) (setLW_few (coinsW_few (right_fewW9 HX.out) i q a b) _ _) (HW.out.below CA8.out.b (Nat.le_refl _)) (fun k hk => by rw [(setLW_shape _ gs ⟨1, (q : Int)⟩).w]; exact HWI.out k hk)).mono ?_; rintro e wB8 ⟨⟨ud, ua, uac, uk, ukc, uw, uwc⟩, rfl, ho, hbB⟩; have CB8 := Lib.hid (CA8.out.call hbB); have DB8 := Lib.hid (DA8.out.call hbB); have OB8 := Lib.hid ho; clear hbB ho
      try go_wp2_with fail
      refine hK.out _ _ (by (first | (with_reducible exact tri_S1 CB8.out))) (fun hHeld => ?_)
      clear hK K
      try simp only [Act.put, List.setIfInBounds_toArray, List.set_cons_zero, List.set_cons_succ]
      clear hn
      have hn := DB8.out.cell
      have hnz := DB8.out.frozen
      have hnl := DB8.out.lt
      refine wpAnyH_ready (rs := [6]) (by kernel_rfl) (by simp) (AllReadyH.cons (by simp only [List.getElem?_toArray, List.getElem?_cons_succ, List.getElem?_cons_zero]; rfl) (fun K hK => ?_) AllReadyH.nil)
      go_simp
      try go_wp2_with fail
      refine hK.out _ _ (by (first | (refine tri_S1 (t := 29) (u := 31) (s := 29) (w := w) (cs := #[.slice pd.ex x.d.exits.length pd.exc, .slice pd.pl x.d.players.length pd.plc, .slice pd.co x.d.coins.length pd.coc, .slice pd.it x.d.items.length pd.itc, .slice pd.bo x.d.boxes.length pd.boc, .int .i64 x.d.room, .int .i64 x.d.player, .int .i64 x.d.box, .slice pa x.at_.length pac, .slice (some ⟨kb, ko, none⟩) x.coins.length pkc, .slice pw x.wher.length pwc]) (z := #[.slice none 0 0, .slice none 0 0, .slice none 0 0, .slice none 0 0, .slice none 0 0, .int .i64 0, .int .i64 0, .int .i64 0, .slice none 0 0, .slice none 0 0, .slice none 0 0]) ?_; (iterate 11 with_reducible refine Tri.far ?_ HN3.out _ _); with_reducible exact CB8.out))) (fun hHeld => ?_)
      clear hK K
      try simp only [Act.put, List.setIfInBounds_toArray, List.set_cons_zero, List.set_cons_succ]
      refine wpAnyH_done (by kernel_rfl) ?_ _
      refine NoPanic.normal ?_
      clear hHeld hn hnz hnl
      have CE := Lib.hid (show Tri 29 31 29 w (((((((((((wB8.setCell ⟨N, 0, none⟩ (.slice ud.ex x.d.exits.length ud.exc)).setCell ⟨N, 1, none⟩ (.slice ud.pl x.d.players.length ud.plc)).setCell ⟨N, 2, none⟩ (.slice ud.co x.d.coins.length ud.coc)).setCell ⟨N, 3, none⟩ (.slice ud.it x.d.items.length ud.itc)).setCell ⟨N, 4, none⟩ (.slice ud.bo x.d.boxes.length ud.boc)).setCell ⟨N, 5, none⟩ (.int .i64 x.d.room)).setCell ⟨N, 6, none⟩ (.int .i64 x.d.player)).setCell ⟨N, 7, none⟩ (.int .i64 x.d.box)).setCell ⟨N, 8, none⟩ (.slice ua x.at_.length uac)).setCell ⟨N, 9, none⟩ (.slice uk x.coins.length ukc)).setCell ⟨N, 10, none⟩ (.slice uw x.wher.length uwc)) #[.slice pd.ex x.d.exits.length pd.exc, .slice pd.pl x.d.players.length pd.plc, .slice pd.co x.d.coins.length pd.coc, .slice pd.it x.d.items.length pd.itc, .slice pd.bo x.d.boxes.length pd.boc, .int .i64 x.d.room, .int .i64 x.d.player, .int .i64 x.d.box, .slice pa x.at_.length pac, .slice (some ⟨kb, ko, none⟩) x.coins.length pkc, .slice pw x.wher.length pwc] #[.int .i64 kd, .int .i64 di, .int .i64 it, .int .i64 bx, .int .i64 (q : Int), .slice ga gs.length gc, .int .i64 pay, .slice wa ws.length wc, .int .i64 fee] #[.slice none 0 0, .slice none 0 0, .slice none 0 0, .slice none 0 0, .slice none 0 0, .int .i64 0, .int .i64 0, .int .i64 0, .slice none 0 0, .slice none 0 0, .slice none 0 0] from by (iterate 11 with_reducible refine Tri.far ?_ HN3.out _ _); with_reducible exact CB8.out)
      have DE := Lib.hid (show Blk (((((((((((wB8.setCell ⟨N, 0, none⟩ (.slice ud.ex x.d.exits.length ud.exc)).setCell ⟨N, 1, none⟩ (.slice ud.pl x.d.players.length ud.plc)).setCell ⟨N, 2, none⟩ (.slice ud.co x.d.coins.length ud.coc)).setCell ⟨N, 3, none⟩ (.slice ud.it x.d.items.length ud.itc)).setCell ⟨N, 4, none⟩ (.slice ud.bo x.d.boxes.length ud.boc)).setCell ⟨N, 5, none⟩ (.int .i64 x.d.room)).setCell ⟨N, 6, none⟩ (.int .i64 x.d.player)).setCell ⟨N, 7, none⟩ (.int .i64 x.d.box)).setCell ⟨N, 8, none⟩ (.slice ua x.at_.length uac)).setCell ⟨N, 9, none⟩ (.slice uk x.coins.length ukc)).setCell ⟨N, 10, none⟩ (.slice uw x.wher.length uwc)) N 29 #[.slice ud.ex x.d.exits.length ud.exc, .slice ud.pl x.d.players.length ud.plc, .slice ud.co x.d.coins.length ud.coc, .slice ud.it x.d.items.length ud.itc, .slice ud.bo x.d.boxes.length ud.boc, .int .i64 x.d.room, .int .i64 x.d.player, .int .i64 x.d.box, .slice ua x.at_.length uac, .slice uk x.coins.length ukc, .slice uw x.wher.length uwc] from blk_set11 DB8.out)
      have OE := Lib.hid (show WorldOwn (w.heap.size + 3) (((((((((((wB8.setCell ⟨N, 0, none⟩ (.slice ud.ex x.d.exits.length ud.exc)).setCell ⟨N, 1, none⟩ (.slice ud.pl x.d.players.length ud.plc)).setCell ⟨N, 2, none⟩ (.slice ud.co x.d.coins.length ud.coc)).setCell ⟨N, 3, none⟩ (.slice ud.it x.d.items.length ud.itc)).setCell ⟨N, 4, none⟩ (.slice ud.bo x.d.boxes.length ud.boc)).setCell ⟨N, 5, none⟩ (.int .i64 x.d.room)).setCell ⟨N, 6, none⟩ (.int .i64 x.d.player)).setCell ⟨N, 7, none⟩ (.int .i64 x.d.box)).setCell ⟨N, 8, none⟩ (.slice ua x.at_.length uac)).setCell ⟨N, 9, none⟩ (.slice uk x.coins.length ukc)).setCell ⟨N, 10, none⟩ (.slice uw x.wher.length uwc)) ⟨ud, ua, uac, uk, ukc, uw, uwc⟩ (setLW (setLW (coinsW x i q a b) gs ⟨1, (q : Int)⟩) ws ⟨1, (i : Int)⟩) from OB8.out.only DB8.out (by (iterate 11 with_reducible refine OnlyN.set ?_ _ _); exact OnlyN.refl _ _))
      generalize (((((((((((wB8.setCell ⟨N, 0, none⟩ (.slice ud.ex x.d.exits.length ud.exc)).setCell ⟨N, 1, none⟩ (.slice ud.pl x.d.players.length ud.plc)).setCell ⟨N, 2, none⟩ (.slice ud.co x.d.coins.length ud.coc)).setCell ⟨N, 3, none⟩ (.slice ud.it x.d.items.length ud.itc)).setCell ⟨N, 4, none⟩ (.slice ud.bo x.d.boxes.length ud.boc)).setCell ⟨N, 5, none⟩ (.int .i64 x.d.room)).setCell ⟨N, 6, none⟩ (.int .i64 x.d.player)).setCell ⟨N, 7, none⟩ (.int .i64 x.d.box)).setCell ⟨N, 8, none⟩ (.slice ua x.at_.length uac)).setCell ⟨N, 9, none⟩ (.slice uk x.coins.length ukc)).setCell ⟨N, 10, none⟩ (.slice uw x.wher.length uwc)) = WE at *
      clear CB8 DB8 OB8 CA8 DA8 C8 D8 O8 BA8
      have hn := DE.out.cell
      have hnl := DE.out.lt
      have hcr : ∀ i, World.cell? _ ⟨w.heap.size + 1 + 1, i, none⟩ = _ := CE.out.r.cell
      have hzr : ∀ i, World.frozen? _ ⟨w.heap.size + 1 + 1, i, none⟩ = false := CE.out.r.frozen
      have hlr : w.heap.size + 1 + 1 < _ := CE.out.r.lt
      go_wp2_with fail
      refine bodyPost_ret (v := .tuple #[.agg #[.slice ud.ex x.d.exits.length ud.exc, .slice ud.pl x.d.players.length ud.plc, .slice ud.co x.d.coins.length ud.coc, .slice ud.it x.d.items.length ud.itc, .slice ud.bo x.d.boxes.length ud.boc, .int .i64 x.d.room, .int .i64 x.d.player, .int .i64 x.d.box, .slice ua x.at_.length uac, .slice uk x.coins.length ukc, .slice uw x.wher.length uwc], .int .i64 0]) (by simp [results, Try.results13, go_sem, hcr]) rfl ⟨⟨ud, ua, uac, uk, ukc, uw, uwc⟩, rfl, ?_, ?_⟩
      · rw [← coins_trW]
        refine WorldOwn.less (n := w.heap.size + 3) ?_ (by omega)
        iterate 11 with_reducible refine WorldOwn.set (q := w.heap.size + 2) ?_ (by omega) _ _
        exact OE.out
      · iterate 11 with_reducible refine Below.setCell ?_ (by show w.heap.size ≤ w.heap.size + 2; omega) _
        exact CE.out.b
  ·
    go_simp
    refine (ghands_any q _).mono ?_; rintro e wA6 ⟨rfl, hbA⟩; have CA6 := Lib.hid (C6.out.call hbA); have DA6 := Lib.hid (D6.out.call hbA); have BA6 := Lib.hid hbA; clear hbA
    try go_wp2_with fail
    refine hK.out _ _ (by (first | (with_reducible exact tri_S1 CA6.out))) (fun hHeld => ?_)
    clear hK K
    try simp only [Act.put, List.setIfInBounds_toArray, List.set_cons_zero, List.set_cons_succ]
    clear hn hnl
    have hn := DA6.out.cell
    have hnl := DA6.out.lt
    refine wpAnyH_ready (rs := [0]) (by kernel_rfl) (by simp) (AllReadyH.cons (by simp only [List.getElem?_toArray, List.getElem?_cons_zero]; rfl) (fun K hK => ?_) AllReadyH.nil)
    go_simp
    try go_wp2_with fail
    refine hK.out _ _ (by (first | (with_reducible exact tri_S1 CA6.out))) (fun hHeld => ?_)
    clear hK K
    try simp only [Act.put, List.setIfInBounds_toArray, List.set_cons_zero, List.set_cons_succ]
    clear hnl
    refine wpAnyH_ready (rs := [6]) (by kernel_rfl) (by simp) (AllReadyH.cons (by simp only [List.getElem?_toArray, List.getElem?_cons_succ, List.getElem?_cons_zero]; rfl) (fun K hK => ?_) AllReadyH.nil)
    go_simp
    refine (gbring_as (coinsW_shape x i q a b) ⟨qd, qa, qac, some ⟨g, 0, none⟩, qkc, qw, qwc⟩ gs ga gc q _ (w.heap.size + 3) CA6.out.size (O6.out.call BA6.out) (coinsW_few (right_fewW9 HX.out) i q a b) (HG.out.below CA6.out.b (Nat.le_refl _)) HGI.out).mono ?_; rintro e wB6 ⟨⟨rd, ra, rac, rk, rkc, rw_, rwc⟩, rfl, ho, hbB⟩; have CB6 := Lib.hid (CA6.out.call hbB); have DB6 := Lib.hid (DA6.out.call hbB); have OB6 := Lib.hid ho; clear hbB ho
    try go_wp2_with fail
    refine hK.out _ _ (by (first | (with_reducible exact tri_S1 CB6.out))) (fun hHeld => ?_)
    clear hK K
    try simp only [Act.put, List.setIfInBounds_toArray, List.set_cons_zero, List.set_cons_succ]
    clear hn
    have hn := DB6.out.cell
    have hnz := DB6.out.frozen
    have hnl := DB6.out.lt
    refine wpAnyH_ready (rs := [7]) (by kernel_rfl) (by simp) (AllReadyH.cons (by simp only [List.getElem?_toArray, List.getElem?_cons_succ, List.getElem?_cons_zero]; rfl) (fun K hK => ?_) AllReadyH.nil)
    go_simp
    try go_wp2_with fail
    refine hK.out _ _ (by (first | (refine tri_S1 (t := 29) (u := 31) (s := 29) (w := w) (cs := #[.slice pd.ex x.d.exits.length pd.exc, .slice pd.pl x.d.players.length pd.plc, .slice pd.co x.d.coins.length pd.coc, .slice pd.it x.d.items.length pd.itc, .slice pd.bo x.d.boxes.length pd.boc, .int .i64 x.d.room, .int .i64 x.d.player, .int .i64 x.d.box, .slice pa x.at_.length pac, .slice (some ⟨kb, ko, none⟩) x.coins.length pkc, .slice pw x.wher.length pwc]) (z := #[.slice none 0 0, .slice none 0 0, .slice none 0 0, .slice none 0 0, .slice none 0 0, .int .i64 0, .int .i64 0, .int .i64 0, .slice none 0 0, .slice none 0 0, .slice none 0 0]) ?_; (iterate 11 with_reducible refine Tri.far ?_ HN3.out _ _); with_reducible exact CB6.out))) (fun hHeld => ?_)
    clear hK K
    try simp only [Act.put, List.setIfInBounds_toArray, List.set_cons_zero, List.set_cons_succ]
    refine wpAnyH_done (by kernel_rfl) ?_ _
    refine NoPanic.normal ?_
    clear hHeld hn hnz hnl
    have C8 := Lib.hid (show Tri 29 31 29 w (((((((((((wB6.setCell ⟨N, 0, none⟩ (.slice rd.ex x.d.exits.length rd.exc)).setCell ⟨N, 1, none⟩ (.slice rd.pl x.d.players.length rd.plc)).setCell ⟨N, 2, none⟩ (.slice rd.co x.d.coins.length rd.coc)).setCell ⟨N, 3, none⟩ (.slice rd.it x.d.items.length rd.itc)).setCell ⟨N, 4, none⟩ (.slice rd.bo x.d.boxes.length rd.boc)).setCell ⟨N, 5, none⟩ (.int .i64 x.d.room)).setCell ⟨N, 6, none⟩ (.int .i64 x.d.player)).setCell ⟨N, 7, none⟩ (.int .i64 x.d.box)).setCell ⟨N, 8, none⟩ (.slice ra x.at_.length rac)).setCell ⟨N, 9, none⟩ (.slice rk x.coins.length rkc)).setCell ⟨N, 10, none⟩ (.slice rw_ x.wher.length rwc)) #[.slice pd.ex x.d.exits.length pd.exc, .slice pd.pl x.d.players.length pd.plc, .slice pd.co x.d.coins.length pd.coc, .slice pd.it x.d.items.length pd.itc, .slice pd.bo x.d.boxes.length pd.boc, .int .i64 x.d.room, .int .i64 x.d.player, .int .i64 x.d.box, .slice pa x.at_.length pac, .slice (some ⟨kb, ko, none⟩) x.coins.length pkc, .slice pw x.wher.length pwc] #[.int .i64 kd, .int .i64 di, .int .i64 it, .int .i64 bx, .int .i64 (q : Int), .slice ga gs.length gc, .int .i64 pay, .slice wa ws.length wc, .int .i64 fee] #[.slice none 0 0, .slice none 0 0, .slice none 0 0, .slice none 0 0, .slice none 0 0, .int .i64 0, .int .i64 0, .int .i64 0, .slice none 0 0, .slice none 0 0, .slice none 0 0] from by (iterate 11 with_reducible refine Tri.far ?_ HN3.out _ _); with_reducible exact CB6.out)
    have D8 := Lib.hid (show Blk (((((((((((wB6.setCell ⟨N, 0, none⟩ (.slice rd.ex x.d.exits.length rd.exc)).setCell ⟨N, 1, none⟩ (.slice rd.pl x.d.players.length rd.plc)).setCell ⟨N, 2, none⟩ (.slice rd.co x.d.coins.length rd.coc)).setCell ⟨N, 3, none⟩ (.slice rd.it x.d.items.length rd.itc)).setCell ⟨N, 4, none⟩ (.slice rd.bo x.d.boxes.length rd.boc)).setCell ⟨N, 5, none⟩ (.int .i64 x.d.room)).setCell ⟨N, 6, none⟩ (.int .i64 x.d.player)).setCell ⟨N, 7, none⟩ (.int .i64 x.d.box)).setCell ⟨N, 8, none⟩ (.slice ra x.at_.length rac)).setCell ⟨N, 9, none⟩ (.slice rk x.coins.length rkc)).setCell ⟨N, 10, none⟩ (.slice rw_ x.wher.length rwc)) N 29 #[.slice rd.ex x.d.exits.length rd.exc, .slice rd.pl x.d.players.length rd.plc, .slice rd.co x.d.coins.length rd.coc, .slice rd.it x.d.items.length rd.itc, .slice rd.bo x.d.boxes.length rd.boc, .int .i64 x.d.room, .int .i64 x.d.player, .int .i64 x.d.box, .slice ra x.at_.length rac, .slice rk x.coins.length rkc, .slice rw_ x.wher.length rwc] from blk_set11 DB6.out)
    have O8 := Lib.hid (show WorldOwn (w.heap.size + 3) (((((((((((wB6.setCell ⟨N, 0, none⟩ (.slice rd.ex x.d.exits.length rd.exc)).setCell ⟨N, 1, none⟩ (.slice rd.pl x.d.players.length rd.plc)).setCell ⟨N, 2, none⟩ (.slice rd.co x.d.coins.length rd.coc)).setCell ⟨N, 3, none⟩ (.slice rd.it x.d.items.length rd.itc)).setCell ⟨N, 4, none⟩ (.slice rd.bo x.d.boxes.length rd.boc)).setCell ⟨N, 5, none⟩ (.int .i64 x.d.room)).setCell ⟨N, 6, none⟩ (.int .i64 x.d.player)).setCell ⟨N, 7, none⟩ (.int .i64 x.d.box)).setCell ⟨N, 8, none⟩ (.slice ra x.at_.length rac)).setCell ⟨N, 9, none⟩ (.slice rk x.coins.length rkc)).setCell ⟨N, 10, none⟩ (.slice rw_ x.wher.length rwc)) ⟨rd, ra, rac, rk, rkc, rw_, rwc⟩ (setLW (coinsW x i q a b) gs ⟨1, (q : Int)⟩) from OB6.out.only DB6.out (by (iterate 11 with_reducible refine OnlyN.set ?_ _ _); exact OnlyN.refl _ _))
    generalize (((((((((((wB6.setCell ⟨N, 0, none⟩ (.slice rd.ex x.d.exits.length rd.exc)).setCell ⟨N, 1, none⟩ (.slice rd.pl x.d.players.length rd.plc)).setCell ⟨N, 2, none⟩ (.slice rd.co x.d.coins.length rd.coc)).setCell ⟨N, 3, none⟩ (.slice rd.it x.d.items.length rd.itc)).setCell ⟨N, 4, none⟩ (.slice rd.bo x.d.boxes.length rd.boc)).setCell ⟨N, 5, none⟩ (.int .i64 x.d.room)).setCell ⟨N, 6, none⟩ (.int .i64 x.d.player)).setCell ⟨N, 7, none⟩ (.int .i64 x.d.box)).setCell ⟨N, 8, none⟩ (.slice ra x.at_.length rac)).setCell ⟨N, 9, none⟩ (.slice rk x.coins.length rkc)).setCell ⟨N, 10, none⟩ (.slice rw_ x.wher.length rwc)) = W8 at *
    go_wp2_with fail
    clear CB6 DB6 OB6 CA6 DA6 C6 D6 O6 BA6
    have C8 := Lib.hid C8.out.drew
    have D8 := Lib.hid D8.out.drew
    have O8 := Lib.hid O8.out.drew_
    refine wp_region_noPanic ?_
    refine wp_region_held_drew (S := (fun w' => Below w.heap.size w w' ∧ (∀ j, w'.cell? ⟨w.heap.size + 1, j, none⟩ = (#[.int .i64 kd, .int .i64 di, .int .i64 it, .int .i64 bx, .int .i64 (q : Int), .slice ga gs.length gc, .int .i64 pay, .slice wa ws.length wc, .int .i64 fee][j]? : Option Value)))) (by kernel_rfl) (by (first | (with_reducible exact tri_S1 C8.out))) (fun hHeld => ?_)
    generalize W8.drew = V8 at *
    refine wpAnyH_take (i := 1) (v := ?_) (by simp only [List.getElem?_toArray, List.getElem?_cons_succ, List.getElem?_cons_zero]; rfl) (by kernel_rfl) (by kernel_rfl) (by kernel_rfl) (fun _ _ _ h => h) (Or.inl ⟨by rfl, ?_⟩) (by assumption) ?_
    rotate_left
    · (intro ww hSw; (try dsimp only at hSw); go_simp; (try with_reducible rfl))
    try simp only [Act.put, List.setIfInBounds_toArray, List.set_cons_zero, List.set_cons_succ]
    refine wpAnyH_take (i := 2) (v := ?_) (by simp only [List.getElem?_toArray, List.getElem?_cons_succ, List.getElem?_cons_zero]; rfl) (by kernel_rfl) (by kernel_rfl) (by kernel_rfl) (fun _ _ _ h => h) (Or.inl ⟨by rfl, ?_⟩) (by assumption) ?_
    rotate_left
    · (intro ww hSw; (try dsimp only at hSw); go_simp; (try with_reducible rfl))
    try simp only [Act.put, List.setIfInBounds_toArray, List.set_cons_zero, List.set_cons_succ]
    refine wpAnyH_take (i := 3) (v := ?_) (by simp only [List.getElem?_toArray, List.getElem?_cons_succ, List.getElem?_cons_zero]; rfl) (by kernel_rfl) (by kernel_rfl) (by kernel_rfl) (fun _ _ _ h => h) (Or.inl ⟨by rfl, ?_⟩) (by assumption) ?_
    rotate_left
    · (intro ww hSw; (try dsimp only at hSw); go_simp; (try with_reducible rfl))
    try simp only [Act.put, List.setIfInBounds_toArray, List.set_cons_zero, List.set_cons_succ]
    have hn := D8.out.cell
    have hnl := D8.out.lt
    refine wpAnyH_ready (rs := [0, 4]) (by kernel_rfl) (by simp) (AllReadyH.cons (by simp only [List.getElem?_toArray, List.getElem?_cons_zero]; rfl) (fun K hK => ?_) (AllReadyH.cons (by simp only [List.getElem?_toArray, List.getElem?_cons_succ, List.getElem?_cons_zero]; rfl) (fun K hK => ?_) AllReadyH.nil))
    ·
      go_simp
      try go_wp2_with fail
      refine hK.out _ _ (by (first | (with_reducible exact tri_S1 C8.out))) (fun hHeld => ?_)
      clear hK K
      try simp only [Act.put, List.setIfInBounds_toArray, List.set_cons_zero, List.set_cons_succ]
      refine wpAnyH_ready (rs := [4]) (by kernel_rfl) (by simp) (AllReadyH.cons (by simp only [List.getElem?_toArray, List.getElem?_cons_succ, List.getElem?_cons_zero]; rfl) (fun K hK => ?_) AllReadyH.nil)
      go_simp
      refine (ghands_any i _).mono ?_; rintro e wA8 ⟨rfl, hbA⟩; have CA8 := Lib.hid (C8.out.call hbA); have DA8 := Lib.hid (D8.out.call hbA); have BA8 := Lib.hid hbA; clear hbA
      try go_wp2_with fail
      refine hK.out _ _ (by (first | (with_reducible exact tri_S1 CA8.out))) (fun hHeld => ?_)
      clear hK K
      try simp only [Act.put, List.setIfInBounds_toArray, List.set_cons_zero, List.set_cons_succ]
      clear hnl
      refine wpAnyH_ready (rs := [5]) (by kernel_rfl) (by simp) (AllReadyH.cons (by simp only [List.getElem?_toArray, List.getElem?_cons_succ, List.getElem?_cons_zero]; rfl) (fun K hK => ?_) AllReadyH.nil)
      go_simp
      refine (gbring_as (Shape.trans' (coinsW_shape x i q a b) (setLW_shape _ gs ⟨1, (q : Int)⟩)) ⟨rd, ra, rac, rk, rkc, rw_, rwc⟩ ws wa wc i _ (w.heap.size + 3) CA8.out.size (O8.out.call BA8.out) (setLW_few (coinsW_few (right_fewW9 HX.out) i q a b) _ _) (HW.out.below CA8.out.b (Nat.le_refl _)) (fun k hk => by rw [(setLW_shape _ gs ⟨1, (q : Int)⟩).w]; exact HWI.out k hk)).mono ?_; rintro e wB8 ⟨⟨ud, ua, uac, uk, ukc, uw, uwc⟩, rfl, ho, hbB⟩; have CB8 := Lib.hid (CA8.out.call hbB); have DB8 := Lib.hid (DA8.out.call hbB); have OB8 := Lib.hid ho; clear hbB ho
      try go_wp2_with fail
      refine hK.out _ _ (by (first | (with_reducible exact tri_S1 CB8.out))) (fun hHeld => ?_)
      clear hK K
      try simp only [Act.put, List.setIfInBounds_toArray, List.set_cons_zero, List.set_cons_succ]
      clear hn
      have hn := DB8.out.cell
      have hnz := DB8.out.frozen
      have hnl := DB8.out.lt
      refine wpAnyH_ready (rs := [6]) (by kernel_rfl) (by simp) (AllReadyH.cons (by simp only [List.getElem?_toArray, List.getElem?_cons_succ, List.getElem?_cons_zero]; rfl) (fun K hK => ?_) AllReadyH.nil)
      go_simp
      try go_wp2_with fail
      refine hK.out _ _ (by (first | (refine tri_S1 (t := 29) (u := 31) (s := 29) (w := w) (cs := #[.slice pd.ex x.d.exits.length pd.exc, .slice pd.pl x.d.players.length pd.plc, .slice pd.co x.d.coins.length pd.coc, .slice pd.it x.d.items.length pd.itc, .slice pd.bo x.d.boxes.length pd.boc, .int .i64 x.d.room, .int .i64 x.d.player, .int .i64 x.d.box, .slice pa x.at_.length pac, .slice (some ⟨kb, ko, none⟩) x.coins.length pkc, .slice pw x.wher.length pwc]) (z := #[.slice none 0 0, .slice none 0 0, .slice none 0 0, .slice none 0 0, .slice none 0 0, .int .i64 0, .int .i64 0, .int .i64 0, .slice none 0 0, .slice none 0 0, .slice none 0 0]) ?_; (iterate 11 with_reducible refine Tri.far ?_ HN3.out _ _); with_reducible exact CB8.out))) (fun hHeld => ?_)
      clear hK K
      try simp only [Act.put, List.setIfInBounds_toArray, List.set_cons_zero, List.set_cons_succ]
      refine wpAnyH_done (by kernel_rfl) ?_ _
      refine NoPanic.normal ?_
      clear hHeld hn hnz hnl
      have CE := Lib.hid (show Tri 29 31 29 w (((((((((((wB8.setCell ⟨N, 0, none⟩ (.slice ud.ex x.d.exits.length ud.exc)).setCell ⟨N, 1, none⟩ (.slice ud.pl x.d.players.length ud.plc)).setCell ⟨N, 2, none⟩ (.slice ud.co x.d.coins.length ud.coc)).setCell ⟨N, 3, none⟩ (.slice ud.it x.d.items.length ud.itc)).setCell ⟨N, 4, none⟩ (.slice ud.bo x.d.boxes.length ud.boc)).setCell ⟨N, 5, none⟩ (.int .i64 x.d.room)).setCell ⟨N, 6, none⟩ (.int .i64 x.d.player)).setCell ⟨N, 7, none⟩ (.int .i64 x.d.box)).setCell ⟨N, 8, none⟩ (.slice ua x.at_.length uac)).setCell ⟨N, 9, none⟩ (.slice uk x.coins.length ukc)).setCell ⟨N, 10, none⟩ (.slice uw x.wher.length uwc)) #[.slice pd.ex x.d.exits.length pd.exc, .slice pd.pl x.d.players.length pd.plc, .slice pd.co x.d.coins.length pd.coc, .slice pd.it x.d.items.length pd.itc, .slice pd.bo x.d.boxes.length pd.boc, .int .i64 x.d.room, .int .i64 x.d.player, .int .i64 x.d.box, .slice pa x.at_.length pac, .slice (some ⟨kb, ko, none⟩) x.coins.length pkc, .slice pw x.wher.length pwc] #[.int .i64 kd, .int .i64 di, .int .i64 it, .int .i64 bx, .int .i64 (q : Int), .slice ga gs.length gc, .int .i64 pay, .slice wa ws.length wc, .int .i64 fee] #[.slice none 0 0, .slice none 0 0, .slice none 0 0, .slice none 0 0, .slice none 0 0, .int .i64 0, .int .i64 0, .int .i64 0, .slice none 0 0, .slice none 0 0, .slice none 0 0] from by (iterate 11 with_reducible refine Tri.far ?_ HN3.out _ _); with_reducible exact CB8.out)
      have DE := Lib.hid (show Blk (((((((((((wB8.setCell ⟨N, 0, none⟩ (.slice ud.ex x.d.exits.length ud.exc)).setCell ⟨N, 1, none⟩ (.slice ud.pl x.d.players.length ud.plc)).setCell ⟨N, 2, none⟩ (.slice ud.co x.d.coins.length ud.coc)).setCell ⟨N, 3, none⟩ (.slice ud.it x.d.items.length ud.itc)).setCell ⟨N, 4, none⟩ (.slice ud.bo x.d.boxes.length ud.boc)).setCell ⟨N, 5, none⟩ (.int .i64 x.d.room)).setCell ⟨N, 6, none⟩ (.int .i64 x.d.player)).setCell ⟨N, 7, none⟩ (.int .i64 x.d.box)).setCell ⟨N, 8, none⟩ (.slice ua x.at_.length uac)).setCell ⟨N, 9, none⟩ (.slice uk x.coins.length ukc)).setCell ⟨N, 10, none⟩ (.slice uw x.wher.length uwc)) N 29 #[.slice ud.ex x.d.exits.length ud.exc, .slice ud.pl x.d.players.length ud.plc, .slice ud.co x.d.coins.length ud.coc, .slice ud.it x.d.items.length ud.itc, .slice ud.bo x.d.boxes.length ud.boc, .int .i64 x.d.room, .int .i64 x.d.player, .int .i64 x.d.box, .slice ua x.at_.length uac, .slice uk x.coins.length ukc, .slice uw x.wher.length uwc] from blk_set11 DB8.out)
      have OE := Lib.hid (show WorldOwn (w.heap.size + 3) (((((((((((wB8.setCell ⟨N, 0, none⟩ (.slice ud.ex x.d.exits.length ud.exc)).setCell ⟨N, 1, none⟩ (.slice ud.pl x.d.players.length ud.plc)).setCell ⟨N, 2, none⟩ (.slice ud.co x.d.coins.length ud.coc)).setCell ⟨N, 3, none⟩ (.slice ud.it x.d.items.length ud.itc)).setCell ⟨N, 4, none⟩ (.slice ud.bo x.d.boxes.length ud.boc)).setCell ⟨N, 5, none⟩ (.int .i64 x.d.room)).setCell ⟨N, 6, none⟩ (.int .i64 x.d.player)).setCell ⟨N, 7, none⟩ (.int .i64 x.d.box)).setCell ⟨N, 8, none⟩ (.slice ua x.at_.length uac)).setCell ⟨N, 9, none⟩ (.slice uk x.coins.length ukc)).setCell ⟨N, 10, none⟩ (.slice uw x.wher.length uwc)) ⟨ud, ua, uac, uk, ukc, uw, uwc⟩ (setLW (setLW (coinsW x i q a b) gs ⟨1, (q : Int)⟩) ws ⟨1, (i : Int)⟩) from OB8.out.only DB8.out (by (iterate 11 with_reducible refine OnlyN.set ?_ _ _); exact OnlyN.refl _ _))
      generalize (((((((((((wB8.setCell ⟨N, 0, none⟩ (.slice ud.ex x.d.exits.length ud.exc)).setCell ⟨N, 1, none⟩ (.slice ud.pl x.d.players.length ud.plc)).setCell ⟨N, 2, none⟩ (.slice ud.co x.d.coins.length ud.coc)).setCell ⟨N, 3, none⟩ (.slice ud.it x.d.items.length ud.itc)).setCell ⟨N, 4, none⟩ (.slice ud.bo x.d.boxes.length ud.boc)).setCell ⟨N, 5, none⟩ (.int .i64 x.d.room)).setCell ⟨N, 6, none⟩ (.int .i64 x.d.player)).setCell ⟨N, 7, none⟩ (.int .i64 x.d.box)).setCell ⟨N, 8, none⟩ (.slice ua x.at_.length uac)).setCell ⟨N, 9, none⟩ (.slice uk x.coins.length ukc)).setCell ⟨N, 10, none⟩ (.slice uw x.wher.length uwc)) = WE at *
      clear CB8 DB8 OB8 CA8 DA8 C8 D8 O8 BA8
      have hn := DE.out.cell
      have hnl := DE.out.lt
      have hcr : ∀ i, World.cell? _ ⟨w.heap.size + 1 + 1, i, none⟩ = _ := CE.out.r.cell
      have hzr : ∀ i, World.frozen? _ ⟨w.heap.size + 1 + 1, i, none⟩ = false := CE.out.r.frozen
      have hlr : w.heap.size + 1 + 1 < _ := CE.out.r.lt
      go_wp2_with fail
      refine bodyPost_ret (v := .tuple #[.agg #[.slice ud.ex x.d.exits.length ud.exc, .slice ud.pl x.d.players.length ud.plc, .slice ud.co x.d.coins.length ud.coc, .slice ud.it x.d.items.length ud.itc, .slice ud.bo x.d.boxes.length ud.boc, .int .i64 x.d.room, .int .i64 x.d.player, .int .i64 x.d.box, .slice ua x.at_.length uac, .slice uk x.coins.length ukc, .slice uw x.wher.length uwc], .int .i64 0]) (by simp [results, Try.results13, go_sem, hcr]) rfl ⟨⟨ud, ua, uac, uk, ukc, uw, uwc⟩, rfl, ?_, ?_⟩
      · rw [← coins_trW]
        refine WorldOwn.less (n := w.heap.size + 3) ?_ (by omega)
        iterate 11 with_reducible refine WorldOwn.set (q := w.heap.size + 2) ?_ (by omega) _ _
        exact OE.out
      · iterate 11 with_reducible refine Below.setCell ?_ (by show w.heap.size ≤ w.heap.size + 2; omega) _
        exact CE.out.b
    ·
      go_simp
      refine (ghands_any i _).mono ?_; rintro e wA8 ⟨rfl, hbA⟩; have CA8 := Lib.hid (C8.out.call hbA); have DA8 := Lib.hid (D8.out.call hbA); have BA8 := Lib.hid hbA; clear hbA
      try go_wp2_with fail
      refine hK.out _ _ (by (first | (with_reducible exact tri_S1 CA8.out))) (fun hHeld => ?_)
      clear hK K
      try simp only [Act.put, List.setIfInBounds_toArray, List.set_cons_zero, List.set_cons_succ]
      clear hn hnl
      have hn := DA8.out.cell
      have hnl := DA8.out.lt
      refine wpAnyH_ready (rs := [0]) (by kernel_rfl) (by simp) (AllReadyH.cons (by simp only [List.getElem?_toArray, List.getElem?_cons_zero]; rfl) (fun K hK => ?_) AllReadyH.nil)
      go_simp
      try go_wp2_with fail
      refine hK.out _ _ (by (first | (with_reducible exact tri_S1 CA8.out))) (fun hHeld => ?_)
      clear hK K
      try simp only [Act.put, List.setIfInBounds_toArray, List.set_cons_zero, List.set_cons_succ]
      clear hnl
      refine wpAnyH_ready (rs := [5]) (by kernel_rfl) (by simp) (AllReadyH.cons (by simp only [List.getElem?_toArray, List.getElem?_cons_succ, List.getElem?_cons_zero]; rfl) (fun K hK => ?_) AllReadyH.nil)
      go_simp
      refine (gbring_as (Shape.trans' (coinsW_shape x i q a b) (setLW_shape _ gs ⟨1, (q : Int)⟩)) ⟨rd, ra, rac, rk, rkc, rw_, rwc⟩ ws wa wc i _ (w.heap.size + 3) CA8.out.size (O8.out.call BA8.out) (setLW_few (coinsW_few (right_fewW9 HX.out) i q a b) _ _) (HW.out.below CA8.out.b (Nat.le_refl _)) (fun k hk => by rw [(setLW_shape _ gs ⟨1, (q : Int)⟩).w]; exact HWI.out k hk)).mono ?_; rintro e wB8 ⟨⟨ud, ua, uac, uk, ukc, uw, uwc⟩, rfl, ho, hbB⟩; have CB8 := Lib.hid (CA8.out.call hbB); have DB8 := Lib.hid (DA8.out.call hbB); have OB8 := Lib.hid ho; clear hbB ho
      try go_wp2_with fail
      refine hK.out _ _ (by (first | (with_reducible exact tri_S1 CB8.out))) (fun hHeld => ?_)
      clear hK K
      try simp only [Act.put, List.setIfInBounds_toArray, List.set_cons_zero, List.set_cons_succ]
      clear hn
      have hn := DB8.out.cell
      have hnz := DB8.out.frozen
      have hnl := DB8.out.lt
      refine wpAnyH_ready (rs := [6]) (by kernel_rfl) (by simp) (AllReadyH.cons (by simp only [List.getElem?_toArray, List.getElem?_cons_succ, List.getElem?_cons_zero]; rfl) (fun K hK => ?_) AllReadyH.nil)
      go_simp
      try go_wp2_with fail
      refine hK.out _ _ (by (first | (refine tri_S1 (t := 29) (u := 31) (s := 29) (w := w) (cs := #[.slice pd.ex x.d.exits.length pd.exc, .slice pd.pl x.d.players.length pd.plc, .slice pd.co x.d.coins.length pd.coc, .slice pd.it x.d.items.length pd.itc, .slice pd.bo x.d.boxes.length pd.boc, .int .i64 x.d.room, .int .i64 x.d.player, .int .i64 x.d.box, .slice pa x.at_.length pac, .slice (some ⟨kb, ko, none⟩) x.coins.length pkc, .slice pw x.wher.length pwc]) (z := #[.slice none 0 0, .slice none 0 0, .slice none 0 0, .slice none 0 0, .slice none 0 0, .int .i64 0, .int .i64 0, .int .i64 0, .slice none 0 0, .slice none 0 0, .slice none 0 0]) ?_; (iterate 11 with_reducible refine Tri.far ?_ HN3.out _ _); with_reducible exact CB8.out))) (fun hHeld => ?_)
      clear hK K
      try simp only [Act.put, List.setIfInBounds_toArray, List.set_cons_zero, List.set_cons_succ]
      refine wpAnyH_done (by kernel_rfl) ?_ _
      refine NoPanic.normal ?_
      clear hHeld hn hnz hnl
      have CE := Lib.hid (show Tri 29 31 29 w (((((((((((wB8.setCell ⟨N, 0, none⟩ (.slice ud.ex x.d.exits.length ud.exc)).setCell ⟨N, 1, none⟩ (.slice ud.pl x.d.players.length ud.plc)).setCell ⟨N, 2, none⟩ (.slice ud.co x.d.coins.length ud.coc)).setCell ⟨N, 3, none⟩ (.slice ud.it x.d.items.length ud.itc)).setCell ⟨N, 4, none⟩ (.slice ud.bo x.d.boxes.length ud.boc)).setCell ⟨N, 5, none⟩ (.int .i64 x.d.room)).setCell ⟨N, 6, none⟩ (.int .i64 x.d.player)).setCell ⟨N, 7, none⟩ (.int .i64 x.d.box)).setCell ⟨N, 8, none⟩ (.slice ua x.at_.length uac)).setCell ⟨N, 9, none⟩ (.slice uk x.coins.length ukc)).setCell ⟨N, 10, none⟩ (.slice uw x.wher.length uwc)) #[.slice pd.ex x.d.exits.length pd.exc, .slice pd.pl x.d.players.length pd.plc, .slice pd.co x.d.coins.length pd.coc, .slice pd.it x.d.items.length pd.itc, .slice pd.bo x.d.boxes.length pd.boc, .int .i64 x.d.room, .int .i64 x.d.player, .int .i64 x.d.box, .slice pa x.at_.length pac, .slice (some ⟨kb, ko, none⟩) x.coins.length pkc, .slice pw x.wher.length pwc] #[.int .i64 kd, .int .i64 di, .int .i64 it, .int .i64 bx, .int .i64 (q : Int), .slice ga gs.length gc, .int .i64 pay, .slice wa ws.length wc, .int .i64 fee] #[.slice none 0 0, .slice none 0 0, .slice none 0 0, .slice none 0 0, .slice none 0 0, .int .i64 0, .int .i64 0, .int .i64 0, .slice none 0 0, .slice none 0 0, .slice none 0 0] from by (iterate 11 with_reducible refine Tri.far ?_ HN3.out _ _); with_reducible exact CB8.out)
      have DE := Lib.hid (show Blk (((((((((((wB8.setCell ⟨N, 0, none⟩ (.slice ud.ex x.d.exits.length ud.exc)).setCell ⟨N, 1, none⟩ (.slice ud.pl x.d.players.length ud.plc)).setCell ⟨N, 2, none⟩ (.slice ud.co x.d.coins.length ud.coc)).setCell ⟨N, 3, none⟩ (.slice ud.it x.d.items.length ud.itc)).setCell ⟨N, 4, none⟩ (.slice ud.bo x.d.boxes.length ud.boc)).setCell ⟨N, 5, none⟩ (.int .i64 x.d.room)).setCell ⟨N, 6, none⟩ (.int .i64 x.d.player)).setCell ⟨N, 7, none⟩ (.int .i64 x.d.box)).setCell ⟨N, 8, none⟩ (.slice ua x.at_.length uac)).setCell ⟨N, 9, none⟩ (.slice uk x.coins.length ukc)).setCell ⟨N, 10, none⟩ (.slice uw x.wher.length uwc)) N 29 #[.slice ud.ex x.d.exits.length ud.exc, .slice ud.pl x.d.players.length ud.plc, .slice ud.co x.d.coins.length ud.coc, .slice ud.it x.d.items.length ud.itc, .slice ud.bo x.d.boxes.length ud.boc, .int .i64 x.d.room, .int .i64 x.d.player, .int .i64 x.d.box, .slice ua x.at_.length uac, .slice uk x.coins.length ukc, .slice uw x.wher.length uwc] from blk_set11 DB8.out)
      have OE := Lib.hid (show WorldOwn (w.heap.size + 3) (((((((((((wB8.setCell ⟨N, 0, none⟩ (.slice ud.ex x.d.exits.length ud.exc)).setCell ⟨N, 1, none⟩ (.slice ud.pl x.d.players.length ud.plc)).setCell ⟨N, 2, none⟩ (.slice ud.co x.d.coins.length ud.coc)).setCell ⟨N, 3, none⟩ (.slice ud.it x.d.items.length ud.itc)).setCell ⟨N, 4, none⟩ (.slice ud.bo x.d.boxes.length ud.boc)).setCell ⟨N, 5, none⟩ (.int .i64 x.d.room)).setCell ⟨N, 6, none⟩ (.int .i64 x.d.player)).setCell ⟨N, 7, none⟩ (.int .i64 x.d.box)).setCell ⟨N, 8, none⟩ (.slice ua x.at_.length uac)).setCell ⟨N, 9, none⟩ (.slice uk x.coins.length ukc)).setCell ⟨N, 10, none⟩ (.slice uw x.wher.length uwc)) ⟨ud, ua, uac, uk, ukc, uw, uwc⟩ (setLW (setLW (coinsW x i q a b) gs ⟨1, (q : Int)⟩) ws ⟨1, (i : Int)⟩) from OB8.out.only DB8.out (by (iterate 11 with_reducible refine OnlyN.set ?_ _ _); exact OnlyN.refl _ _))
      generalize (((((((((((wB8.setCell ⟨N, 0, none⟩ (.slice ud.ex x.d.exits.length ud.exc)).setCell ⟨N, 1, none⟩ (.slice ud.pl x.d.players.length ud.plc)).setCell ⟨N, 2, none⟩ (.slice ud.co x.d.coins.length ud.coc)).setCell ⟨N, 3, none⟩ (.slice ud.it x.d.items.length ud.itc)).setCell ⟨N, 4, none⟩ (.slice ud.bo x.d.boxes.length ud.boc)).setCell ⟨N, 5, none⟩ (.int .i64 x.d.room)).setCell ⟨N, 6, none⟩ (.int .i64 x.d.player)).setCell ⟨N, 7, none⟩ (.int .i64 x.d.box)).setCell ⟨N, 8, none⟩ (.slice ua x.at_.length uac)).setCell ⟨N, 9, none⟩ (.slice uk x.coins.length ukc)).setCell ⟨N, 10, none⟩ (.slice uw x.wher.length uwc)) = WE at *
      clear CB8 DB8 OB8 CA8 DA8 C8 D8 O8 BA8
      have hn := DE.out.cell
      have hnl := DE.out.lt
      have hcr : ∀ i, World.cell? _ ⟨w.heap.size + 1 + 1, i, none⟩ = _ := CE.out.r.cell
      have hzr : ∀ i, World.frozen? _ ⟨w.heap.size + 1 + 1, i, none⟩ = false := CE.out.r.frozen
      have hlr : w.heap.size + 1 + 1 < _ := CE.out.r.lt
      go_wp2_with fail
      refine bodyPost_ret (v := .tuple #[.agg #[.slice ud.ex x.d.exits.length ud.exc, .slice ud.pl x.d.players.length ud.plc, .slice ud.co x.d.coins.length ud.coc, .slice ud.it x.d.items.length ud.itc, .slice ud.bo x.d.boxes.length ud.boc, .int .i64 x.d.room, .int .i64 x.d.player, .int .i64 x.d.box, .slice ua x.at_.length uac, .slice uk x.coins.length ukc, .slice uw x.wher.length uwc], .int .i64 0]) (by simp [results, Try.results13, go_sem, hcr]) rfl ⟨⟨ud, ua, uac, uk, ukc, uw, uwc⟩, rfl, ?_, ?_⟩
      · rw [← coins_trW]
        refine WorldOwn.less (n := w.heap.size + 3) ?_ (by omega)
        iterate 11 with_reducible refine WorldOwn.set (q := w.heap.size + 2) ?_ (by omega) _ _
        exact OE.out
      · iterate 11 with_reducible refine Below.setCell ?_ (by show w.heap.size ≤ w.heap.size + 2; omega) _
        exact CE.out.b
end
/-- What is traded, whole. -/
theorem gtrade_any (x : Wd) (p : Wp) (i : Nat) (kd di it bx who pay fee : Int) (gl wl : List Int) (ga wa : Option Addr) (gc wc : Nat) (w : World) (hx : rightW x = true) (h : WorldAt w p x) (hi : i < x.at_.length) (hg : IntsAt w ga gl) (hw : IntsAt w wa wl) (hgl : gl.length ≤ 16) (hwl : wl.length ≤ 16) :
    Calls Try.prog 13 #[.agg #[.slice p.d.ex x.d.exits.length p.d.exc, .slice p.d.pl x.d.players.length p.d.plc, .slice p.d.co x.d.coins.length p.d.coc, .slice p.d.it x.d.items.length p.d.itc, .slice p.d.bo x.d.boxes.length p.d.boc, .int .i64 x.d.room, .int .i64 x.d.player, .int .i64 x.d.box, .slice p.at_ x.at_.length p.atc, .slice p.co x.coins.length p.coc, .slice p.wh x.wher.length p.whc], .int .i64 (i : Int), .agg #[.int .i64 kd, .int .i64 di, .int .i64 it, .int .i64 bx, .int .i64 who, .slice ga gl.length gc, .int .i64 pay, .slice wa wl.length wc, .int .i64 fee]] w fun e w' => ∃ q : Wp, e = .returned (.tuple #[.agg #[.slice q.d.ex x.d.exits.length q.d.exc, .slice q.d.pl x.d.players.length q.d.plc, .slice q.d.co x.d.coins.length q.d.coc, .slice q.d.it x.d.items.length q.d.itc, .slice q.d.bo x.d.boxes.length q.d.boc, .int .i64 x.d.room, .int .i64 x.d.player, .int .i64 x.d.box, .slice q.at_ x.at_.length q.atc, .slice q.co x.coins.length q.coc, .slice q.wh x.wher.length q.whc], .int .i64 (tradeW x i who gl wl pay fee).2]) ∧ Took w.heap.size w' p q x (tradeW x i who gl wl pay fee) ∧ Below w.heap.size w w' := by
  rcases trade_by x i who gl wl pay fee with ⟨h1, e⟩ | ⟨k, gs, ws, rfl, rfl, rfl, hk, hgi, hwi, hne, hP, hr⟩
  · rw [e]
    exact (gtrade_part x p i kd di it bx who pay fee gl wl ga wa gc wc w hx h hi hg hw _ rfl h1).mono fun e' w' ⟨h2, h3⟩ => ⟨_, h2, .inl ⟨h1, rfl, rfl⟩, h3⟩
  · obtain ⟨li, ei, -, -⟩ := coin_at hx hi
    obtain ⟨lq, eq, -, -⟩ := coin_at hx hk
    obtain ⟨kb, ko, ea, hkb, hc⟩ := h.co.at_ li
    have k1 := hc i li
    have k2 := hc k lq
    rw [ei] at k1
    rw [eq] at k2
    obtain ⟨pd, pa, pac, pk, pkc, pw, pwc⟩ := p
    simp only at ea
    subst ea
    simp only [List.length_map] at hgl hwl ⊢
    rcases hr with ⟨h1, e⟩ | ⟨h0, ⟨h1, e⟩ | ⟨h1, e⟩⟩
    all_goals rw [e]
    · exact (gtrade_ware x pd pa pac kb ko pkc pw pwc i k kd di it bx pay fee gs ws ga wa gc wc w hx h hi hk hg hw hgi hwi hgl hwl hP _ rfl h1).mono fun e' w' ⟨h2, h3⟩ => ⟨⟨pd, pa, pac, _, pkc, pw, pwc⟩, h2, .inl ⟨h1, rfl, rfl⟩, h3⟩
    · exact (gtrade_swap x pd pa pac kb ko pkc pw pwc i k kd di it bx pay fee gs ws ga wa gc wc w hx h hi hk hg hw hgi hwi hgl hwl hP _ rfl k1 k2 h0 _ rfl h1).mono fun e' w' ⟨h2, h3⟩ => ⟨⟨pd, pa, pac, _, pkc, pw, pwc⟩, h2, .inl ⟨h1, rfl, rfl⟩, h3⟩
    · exact (gtrade_go x pd pa pac kb ko pkc pw pwc i k kd di it bx pay fee gs ws ga wa gc wc w hx h hi hk hg hw hgi hwi hgl hwl hP _ rfl k1 k2 h0 _ rfl h1 _ _ rfl rfl).mono fun e' w' ⟨q, h2, h3, h4⟩ => ⟨q, h2, .inr ⟨rfl, h3⟩, h4⟩
end Go.Proofs.Ytcigbliilmonfaa
