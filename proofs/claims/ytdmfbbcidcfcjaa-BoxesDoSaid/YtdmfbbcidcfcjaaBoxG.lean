/- The document's own Take: what is taken out of a box; and its Put, whole. -/
import Derived.Test.YtdmfbbcidcfcjaaRows
import Derived.Test.YtdmfbbcidcfcjaaKit
import Derived.Test.YtdmfbbcidcfcjaaGMem
import Derived.Test.YtdmfbbcidcfcjaaCoin
import Derived.Test.YtdmfbbcidcfcjaaGWorld
import Derived.Test.YtdmfbbcidcfcjaaDescMay
import Derived.Test.YtdmfbbcidcfcjaaGDescN
import Derived.Test.YtdmfbbcidcfcjaaGRight
import Derived.Test.YtdmfbbcidcfcjaaGCopy
import Derived.Test.YtdmfbbcidcfcjaaGRefD
import Derived.Test.YtdmfbbcidcfcjaaGEq
import Derived.Test.YtdmfbbcidcfcjaaGAs
import Derived.Test.YtdmfbbcidcfcjaaGNew
import Derived.Test.YtdmfbbcidcfcjaaGTreeL
import Derived.Test.YtdmfbbcidcfcjaaTreeRefA
import Derived.Test.YtdmfbbcidcfcjaaGHoldA
import Derived.Test.YtdmfbbcidcfcjaaHoldD
import Derived.Test.YtdmfbbcidcfcjaaHoldE
import Derived.Test.YtdmfbbcidcfcjaaGBoxM
import Derived.Test.YtdmfbbcidcfcjaaBoxE
import Derived.Test.YtdmfbbcidcfcjaaBoxF
import Derived.Test.YtdmfbbcidcfcjaaBoxF2
import Derived.Deep.QuietTactic
import Derived.BigQuiet
import Derived.Deep.RegionHeld3
import Derived.WalkKit
import Derived.ProofKit
import Derived.OpenShut
import Derived.IntWalk
namespace Go.Proofs.Ytdmfbbcidcfcjaa
open Go.ChangeShapes Go.WideShapes Go.ChangeAt Go.RowKit
set_option linter.unusedVariables false
open Go.RowKit
set_option maxRecDepth 100000 in
theorem rbtake_none1 (x : Wd) (p : Wp) (i : Nat) (k c : Int) (w : World) (h1 : inB k x.wher.length = false) : Calls Try.prog 13 #[.agg #[.slice p.d.ex x.d.exits.length p.d.exc, .slice p.d.pl x.d.players.length p.d.plc, .slice p.d.co x.d.coins.length p.d.coc, .slice p.d.it x.d.items.length p.d.itc, .slice p.d.bo x.d.boxes.length p.d.boc, .int .i64 x.d.room, .int .i64 x.d.player, .int .i64 x.d.box, .slice p.at_ x.at_.length p.atc, .slice p.co x.coins.length p.coc, .slice p.wh x.wher.length p.whc], .int .i64 (i : Int), .int .i64 k, .int .i64 c] w fun e w' => e = .returned (.tuple #[.agg #[.slice p.d.ex x.d.exits.length p.d.exc, .slice p.d.pl x.d.players.length p.d.plc, .slice p.d.co x.d.coins.length p.d.coc, .slice p.d.it x.d.items.length p.d.itc, .slice p.d.bo x.d.boxes.length p.d.boc, .int .i64 x.d.room, .int .i64 x.d.player, .int .i64 x.d.box, .slice p.at_ x.at_.length p.atc, .slice p.co x.coins.length p.coc, .slice p.wh x.wher.length p.whc], .int .i64 3]) ∧ Below w.heap.size w w' := by
  have C0 := Lib.hid (Two.start 29 29 w #[.slice p.d.ex x.d.exits.length p.d.exc, .slice p.d.pl x.d.players.length p.d.plc, .slice p.d.co x.d.coins.length p.d.coc, .slice p.d.it x.d.items.length p.d.itc, .slice p.d.bo x.d.boxes.length p.d.boc, .int .i64 x.d.room, .int .i64 x.d.player, .int .i64 x.d.box, .slice p.at_ x.at_.length p.atc, .slice p.co x.coins.length p.coc, .slice p.wh x.wher.length p.whc] #[.slice none 0 0, .slice none 0 0, .slice none 0 0, .slice none 0 0, .slice none 0 0, .int .i64 0, .int .i64 0, .int .i64 0, .slice none 0 0, .slice none 0 0, .slice none 0 0])
  have H1 := Lib.hid h1
  clear h1
  go_enter Try.func13, Try.ntmps13
  go_wp2_with fail
  refine (is10_any x p k _).mono ?_
  rintro e w1 ⟨rfl, b1⟩
  rw [H1.out]
  have C1 := Lib.hid (C0.out.call b1)
  clear b1
  have hca := C1.out.a.cell
  have hla := C1.out.a.lt
  have hcr : ∀ i, World.cell? _ ⟨w.heap.size + 1, i, none⟩ = _ := C1.out.r.cell
  have hzr : ∀ i, World.frozen? _ ⟨w.heap.size + 1, i, none⟩ = false := C1.out.r.frozen
  have hlr : w.heap.size + 1 < _ := C1.out.r.lt
  go_wp2_with fail
  refine bodyPost_ret (v := .tuple #[.agg #[.slice p.d.ex x.d.exits.length p.d.exc, .slice p.d.pl x.d.players.length p.d.plc, .slice p.d.co x.d.coins.length p.d.coc, .slice p.d.it x.d.items.length p.d.itc, .slice p.d.bo x.d.boxes.length p.d.boc, .int .i64 x.d.room, .int .i64 x.d.player, .int .i64 x.d.box, .slice p.at_ x.at_.length p.atc, .slice p.co x.coins.length p.coc, .slice p.wh x.wher.length p.whc], .int .i64 3]) (by simp [results, Try.results13, go_sem, hcr]) rfl ⟨rfl, ?_⟩
  iterate 11 refine Below.setCell ?_ (by show w.heap.size ≤ w.heap.size + 1; omega) _
  exact C1.out.b
set_option maxRecDepth 100000 in
theorem rbtake_none2 (x : Wd) (p : Wp) (i : Nat) (k c : Int) (w : World) (h1 : inB k x.wher.length = true) (h2 : inB c x.wher.length = false) : Calls Try.prog 13 #[.agg #[.slice p.d.ex x.d.exits.length p.d.exc, .slice p.d.pl x.d.players.length p.d.plc, .slice p.d.co x.d.coins.length p.d.coc, .slice p.d.it x.d.items.length p.d.itc, .slice p.d.bo x.d.boxes.length p.d.boc, .int .i64 x.d.room, .int .i64 x.d.player, .int .i64 x.d.box, .slice p.at_ x.at_.length p.atc, .slice p.co x.coins.length p.coc, .slice p.wh x.wher.length p.whc], .int .i64 (i : Int), .int .i64 k, .int .i64 c] w fun e w' => e = .returned (.tuple #[.agg #[.slice p.d.ex x.d.exits.length p.d.exc, .slice p.d.pl x.d.players.length p.d.plc, .slice p.d.co x.d.coins.length p.d.coc, .slice p.d.it x.d.items.length p.d.itc, .slice p.d.bo x.d.boxes.length p.d.boc, .int .i64 x.d.room, .int .i64 x.d.player, .int .i64 x.d.box, .slice p.at_ x.at_.length p.atc, .slice p.co x.coins.length p.coc, .slice p.wh x.wher.length p.whc], .int .i64 3]) ∧ Below w.heap.size w w' := by
  have C0 := Lib.hid (Two.start 29 29 w #[.slice p.d.ex x.d.exits.length p.d.exc, .slice p.d.pl x.d.players.length p.d.plc, .slice p.d.co x.d.coins.length p.d.coc, .slice p.d.it x.d.items.length p.d.itc, .slice p.d.bo x.d.boxes.length p.d.boc, .int .i64 x.d.room, .int .i64 x.d.player, .int .i64 x.d.box, .slice p.at_ x.at_.length p.atc, .slice p.co x.coins.length p.coc, .slice p.wh x.wher.length p.whc] #[.slice none 0 0, .slice none 0 0, .slice none 0 0, .slice none 0 0, .slice none 0 0, .int .i64 0, .int .i64 0, .int .i64 0, .slice none 0 0, .slice none 0 0, .slice none 0 0])
  have H1 := Lib.hid h1
  have H2 := Lib.hid h2
  clear h1 h2
  go_enter Try.func13, Try.ntmps13
  go_wp2_with fail
  refine (is10_any x p k _).mono ?_
  rintro e w1 ⟨rfl, b1⟩
  rw [H1.out]
  have C1 := Lib.hid (C0.out.call b1)
  clear b1
  have hca := C1.out.a.cell
  have hla := C1.out.a.lt
  have hcr : ∀ i, World.cell? _ ⟨w.heap.size + 1, i, none⟩ = _ := C1.out.r.cell
  have hzr : ∀ i, World.frozen? _ ⟨w.heap.size + 1, i, none⟩ = false := C1.out.r.frozen
  have hlr : w.heap.size + 1 < _ := C1.out.r.lt
  go_wp2_with fail
  refine (is10_any x p c _).mono ?_
  rintro e w2 ⟨rfl, b2⟩
  rw [H2.out]
  have C2 := Lib.hid (C1.out.call b2)
  clear b2 hca hla hcr hzr hlr
  have hca := C2.out.a.cell
  have hla := C2.out.a.lt
  have hcr : ∀ i, World.cell? _ ⟨w.heap.size + 1, i, none⟩ = _ := C2.out.r.cell
  have hzr : ∀ i, World.frozen? _ ⟨w.heap.size + 1, i, none⟩ = false := C2.out.r.frozen
  have hlr : w.heap.size + 1 < _ := C2.out.r.lt
  go_wp2_with fail
  refine bodyPost_ret (v := .tuple #[.agg #[.slice p.d.ex x.d.exits.length p.d.exc, .slice p.d.pl x.d.players.length p.d.plc, .slice p.d.co x.d.coins.length p.d.coc, .slice p.d.it x.d.items.length p.d.itc, .slice p.d.bo x.d.boxes.length p.d.boc, .int .i64 x.d.room, .int .i64 x.d.player, .int .i64 x.d.box, .slice p.at_ x.at_.length p.atc, .slice p.co x.coins.length p.coc, .slice p.wh x.wher.length p.whc], .int .i64 3]) (by simp [results, Try.results13, go_sem, hcr]) rfl ⟨rfl, ?_⟩
  iterate 11 refine Below.setCell ?_ (by show w.heap.size ≤ w.heap.size + 1; omega) _
  exact C2.out.b
section
variable (x : Wd) (px pp pc pi pa pk : Option Addr) (pxc ppc pcc pic bb bo pbc pac pkc b o pwc : Nat) (i k c : Nat) (w : World) (hx : rightW x = true) (h : WorldAt w ⟨⟨px, pxc, pp, ppc, pc, pcc, pi, pic, some ⟨bb, bo, none⟩, pbc⟩, pa, pac, pk, pkc, some ⟨b, o, none⟩, pwc⟩ x) (hi : i < x.at_.length) (hk : k < x.wher.length) (hc : c < x.wher.length) (hbb : bb < w.heap.size) (hb : b < w.heap.size)
  (c0 : w.cell? ⟨b, o + k * 2, none⟩ = some (.int .i64 (plOf x.wher k).kind)) (c1 : w.cell? ⟨b, o + k * 2 + 1, none⟩ = some (.int .i64 (plOf x.wher k).id)) (c2 : w.cell? ⟨bb, bo + c, none⟩ = some (.bool (x.d.boxes.getD c false)))
include hx h hi hk hc hbb hb c0 c1 c2
set_option maxRecDepth 100000 in
set_option maxHeartbeats 400000 in
theorem rbtake_far (hn : nearB x i c = false) : Calls Try.prog 13 #[.agg #[.slice px x.d.exits.length pxc, .slice pp x.d.players.length ppc, .slice pc x.d.coins.length pcc, .slice pi x.d.items.length pic, .slice (some ⟨bb, bo, none⟩) x.d.boxes.length pbc, .int .i64 x.d.room, .int .i64 x.d.player, .int .i64 x.d.box, .slice pa x.at_.length pac, .slice pk x.coins.length pkc, .slice (some ⟨b, o, none⟩) x.wher.length pwc], .int .i64 (i : Int), .int .i64 (k : Int), .int .i64 (c : Int)] w fun e w' => e = .returned (.tuple #[.agg #[.slice px x.d.exits.length pxc, .slice pp x.d.players.length ppc, .slice pc x.d.coins.length pcc, .slice pi x.d.items.length pic, .slice (some ⟨bb, bo, none⟩) x.d.boxes.length pbc, .int .i64 x.d.room, .int .i64 x.d.player, .int .i64 x.d.box, .slice pa x.at_.length pac, .slice pk x.coins.length pkc, .slice (some ⟨b, o, none⟩) x.wher.length pwc], .int .i64 5]) ∧ Below w.heap.size w w' := by
  have HN := Lib.hid hn
  clear hn
  have C0 := Lib.hid (Two.start 29 29 w #[.slice px x.d.exits.length pxc, .slice pp x.d.players.length ppc, .slice pc x.d.coins.length pcc, .slice pi x.d.items.length pic, .slice (some ⟨bb, bo, none⟩) x.d.boxes.length pbc, .int .i64 x.d.room, .int .i64 x.d.player, .int .i64 x.d.box, .slice pa x.at_.length pac, .slice pk x.coins.length pkc, .slice (some ⟨b, o, none⟩) x.wher.length pwc] #[.slice none 0 0, .slice none 0 0, .slice none 0 0, .slice none 0 0, .slice none 0 0, .int .i64 0, .int .i64 0, .int .i64 0, .slice none 0 0, .slice none 0 0, .slice none 0 0])
  have H := Lib.hid h
  have HX := Lib.hid hx
  have HT := Lib.hid (right_tr hx)
  have HBL := Lib.hid (show (c : Int) < (x.d.boxes.length : Int) by have := boxes_len10 hx; omega)
  have hlen := h.wh.len
  have hlenb := h.d.bo.len
  have hcb : c < x.d.boxes.length := by have := HBL.out; omega
  have HI := Lib.hid (show inB (k : Int) x.wher.length = true by simp [inB, hk])
  have HJ := Lib.hid (show inB (c : Int) x.wher.length = true by simp [inB, hc])
  have HB := Lib.hid hi
  have HC := Lib.hid hc
  clear h hx hi hc
  generalize plOf x.wher k = z at *
  generalize hgb : x.d.boxes.getD c false = bv at *
  clear hgb
  obtain ⟨zk, zi⟩ := z
  simp only at c0 c1
  go_enter Try.func13, Try.ntmps13
  go_wp2_with fail
  refine (is10_any x ⟨⟨px, pxc, pp, ppc, pc, pcc, pi, pic, some ⟨bb, bo, none⟩, pbc⟩, pa, pac, pk, pkc, some ⟨b, o, none⟩, pwc⟩ k _).mono ?_
  rintro e w1 ⟨rfl, b1⟩
  rw [HI.out]
  have C1 := Lib.hid (C0.out.call b1)
  clear b1
  have hca := C1.out.a.cell
  have hla := C1.out.a.lt
  have hcr : ∀ i, World.cell? _ ⟨w.heap.size + 1, i, none⟩ = _ := C1.out.r.cell
  have hzr : ∀ i, World.frozen? _ ⟨w.heap.size + 1, i, none⟩ = false := C1.out.r.frozen
  have hlr : w.heap.size + 1 < _ := C1.out.r.lt
  go_wp2_with fail
  refine (is10_any x ⟨⟨px, pxc, pp, ppc, pc, pcc, pi, pic, some ⟨bb, bo, none⟩, pbc⟩, pa, pac, pk, pkc, some ⟨b, o, none⟩, pwc⟩ c _).mono ?_
  rintro e w2 ⟨rfl, b2⟩
  rw [HJ.out]
  have C2 := Lib.hid (C1.out.call b2)
  clear b2 hca hla hcr hzr hlr
  have hca := C2.out.a.cell
  have hla := C2.out.a.lt
  have hcr : ∀ i, World.cell? _ ⟨w.heap.size + 1, i, none⟩ = _ := C2.out.r.cell
  have hzr : ∀ i, World.frozen? _ ⟨w.heap.size + 1, i, none⟩ = false := C2.out.r.frozen
  have hlr : w.heap.size + 1 < _ := C2.out.r.lt
  have d0 := cell_call c0 C2.out.b
  have d1 := cell_call c1 C2.out.b
  have d2 := cell_call c2 C2.out.b
  have hbw : b < w2.heap.size := by have := C2.out.b.size; omega
  have hbbw : bb < w2.heap.size := by have := C2.out.b.size; omega
  go_wp2_with fail
  refine (refnear_any x ⟨⟨px, pxc, pp, ppc, pc, pcc, pi, pic, some ⟨bb, bo, none⟩, pbc⟩, pa, pac, pk, pkc, some ⟨b, o, none⟩, pwc⟩ i c _ HX.out (H.out.below C2.out.b (Nat.le_refl _)) HB.out HC.out).mono ?_
  rintro e w3 ⟨rfl, b3⟩
  rw [HN.out]
  have C3 := Lib.hid (C2.out.call b3)
  have d0 := cell_call c0 C3.out.b
  have d1 := cell_call c1 C3.out.b
  have d2 := cell_call c2 C3.out.b
  have hbw : b < w3.heap.size := by have := C3.out.b.size; omega
  have hbbw : bb < w3.heap.size := by have := C3.out.b.size; omega
  clear b3 hca hla hcr hzr hlr
  have hca := C3.out.a.cell
  have hla := C3.out.a.lt
  have hcr : ∀ i, World.cell? _ ⟨w.heap.size + 1, i, none⟩ = _ := C3.out.r.cell
  have hzr : ∀ i, World.frozen? _ ⟨w.heap.size + 1, i, none⟩ = false := C3.out.r.frozen
  have hlr : w.heap.size + 1 < _ := C3.out.r.lt
  go_wp2_with fail
  refine bodyPost_ret (v := .tuple #[.agg #[.slice px x.d.exits.length pxc, .slice pp x.d.players.length ppc, .slice pc x.d.coins.length pcc, .slice pi x.d.items.length pic, .slice (some ⟨bb, bo, none⟩) x.d.boxes.length pbc, .int .i64 x.d.room, .int .i64 x.d.player, .int .i64 x.d.box, .slice pa x.at_.length pac, .slice pk x.coins.length pkc, .slice (some ⟨b, o, none⟩) x.wher.length pwc], .int .i64 5]) (by simp [results, Try.results13, go_sem, hcr]) rfl ⟨rfl, ?_⟩
  iterate 11 refine Below.setCell ?_ (by show w.heap.size ≤ w.heap.size + 1; omega) _
  exact C3.out.b
set_option maxRecDepth 100000 in
set_option maxHeartbeats 400000 in
theorem rbtake_nobox (hn : nearB x i c = true) (hv : x.d.boxes.getD c false = false) : Calls Try.prog 13 #[.agg #[.slice px x.d.exits.length pxc, .slice pp x.d.players.length ppc, .slice pc x.d.coins.length pcc, .slice pi x.d.items.length pic, .slice (some ⟨bb, bo, none⟩) x.d.boxes.length pbc, .int .i64 x.d.room, .int .i64 x.d.player, .int .i64 x.d.box, .slice pa x.at_.length pac, .slice pk x.coins.length pkc, .slice (some ⟨b, o, none⟩) x.wher.length pwc], .int .i64 (i : Int), .int .i64 (k : Int), .int .i64 (c : Int)] w fun e w' => e = .returned (.tuple #[.agg #[.slice px x.d.exits.length pxc, .slice pp x.d.players.length ppc, .slice pc x.d.coins.length pcc, .slice pi x.d.items.length pic, .slice (some ⟨bb, bo, none⟩) x.d.boxes.length pbc, .int .i64 x.d.room, .int .i64 x.d.player, .int .i64 x.d.box, .slice pa x.at_.length pac, .slice pk x.coins.length pkc, .slice (some ⟨b, o, none⟩) x.wher.length pwc], .int .i64 6]) ∧ Below w.heap.size w w' := by
  have HN := Lib.hid hn
  clear hn
  have C0 := Lib.hid (Two.start 29 29 w #[.slice px x.d.exits.length pxc, .slice pp x.d.players.length ppc, .slice pc x.d.coins.length pcc, .slice pi x.d.items.length pic, .slice (some ⟨bb, bo, none⟩) x.d.boxes.length pbc, .int .i64 x.d.room, .int .i64 x.d.player, .int .i64 x.d.box, .slice pa x.at_.length pac, .slice pk x.coins.length pkc, .slice (some ⟨b, o, none⟩) x.wher.length pwc] #[.slice none 0 0, .slice none 0 0, .slice none 0 0, .slice none 0 0, .slice none 0 0, .int .i64 0, .int .i64 0, .int .i64 0, .slice none 0 0, .slice none 0 0, .slice none 0 0])
  have H := Lib.hid h
  have HX := Lib.hid hx
  have HT := Lib.hid (right_tr hx)
  have HBL := Lib.hid (show (c : Int) < (x.d.boxes.length : Int) by have := boxes_len10 hx; omega)
  have hlen := h.wh.len
  have hlenb := h.d.bo.len
  have hcb : c < x.d.boxes.length := by have := HBL.out; omega
  have HI := Lib.hid (show inB (k : Int) x.wher.length = true by simp [inB, hk])
  have HJ := Lib.hid (show inB (c : Int) x.wher.length = true by simp [inB, hc])
  have HB := Lib.hid hi
  have HC := Lib.hid hc
  clear h hx hi hc
  generalize plOf x.wher k = z at *
  generalize hgb : x.d.boxes.getD c false = bv at *
  clear hgb
  obtain ⟨zk, zi⟩ := z
  simp only at c0 c1
  go_enter Try.func13, Try.ntmps13
  go_wp2_with fail
  refine (is10_any x ⟨⟨px, pxc, pp, ppc, pc, pcc, pi, pic, some ⟨bb, bo, none⟩, pbc⟩, pa, pac, pk, pkc, some ⟨b, o, none⟩, pwc⟩ k _).mono ?_
  rintro e w1 ⟨rfl, b1⟩
  rw [HI.out]
  have C1 := Lib.hid (C0.out.call b1)
  clear b1
  have hca := C1.out.a.cell
  have hla := C1.out.a.lt
  have hcr : ∀ i, World.cell? _ ⟨w.heap.size + 1, i, none⟩ = _ := C1.out.r.cell
  have hzr : ∀ i, World.frozen? _ ⟨w.heap.size + 1, i, none⟩ = false := C1.out.r.frozen
  have hlr : w.heap.size + 1 < _ := C1.out.r.lt
  go_wp2_with fail
  refine (is10_any x ⟨⟨px, pxc, pp, ppc, pc, pcc, pi, pic, some ⟨bb, bo, none⟩, pbc⟩, pa, pac, pk, pkc, some ⟨b, o, none⟩, pwc⟩ c _).mono ?_
  rintro e w2 ⟨rfl, b2⟩
  rw [HJ.out]
  have C2 := Lib.hid (C1.out.call b2)
  clear b2 hca hla hcr hzr hlr
  have hca := C2.out.a.cell
  have hla := C2.out.a.lt
  have hcr : ∀ i, World.cell? _ ⟨w.heap.size + 1, i, none⟩ = _ := C2.out.r.cell
  have hzr : ∀ i, World.frozen? _ ⟨w.heap.size + 1, i, none⟩ = false := C2.out.r.frozen
  have hlr : w.heap.size + 1 < _ := C2.out.r.lt
  have d0 := cell_call c0 C2.out.b
  have d1 := cell_call c1 C2.out.b
  have d2 := cell_call c2 C2.out.b
  have hbw : b < w2.heap.size := by have := C2.out.b.size; omega
  have hbbw : bb < w2.heap.size := by have := C2.out.b.size; omega
  go_wp2_with fail
  refine (refnear_any x ⟨⟨px, pxc, pp, ppc, pc, pcc, pi, pic, some ⟨bb, bo, none⟩, pbc⟩, pa, pac, pk, pkc, some ⟨b, o, none⟩, pwc⟩ i c _ HX.out (H.out.below C2.out.b (Nat.le_refl _)) HB.out HC.out).mono ?_
  rintro e w3 ⟨rfl, b3⟩
  rw [HN.out]
  have C3 := Lib.hid (C2.out.call b3)
  have d0 := cell_call c0 C3.out.b
  have d1 := cell_call c1 C3.out.b
  have d2 := cell_call c2 C3.out.b
  have hbw : b < w3.heap.size := by have := C3.out.b.size; omega
  have hbbw : bb < w3.heap.size := by have := C3.out.b.size; omega
  clear b3 hca hla hcr hzr hlr
  have hca := C3.out.a.cell
  have hla := C3.out.a.lt
  have hcr : ∀ i, World.cell? _ ⟨w.heap.size + 1, i, none⟩ = _ := C3.out.r.cell
  have hzr : ∀ i, World.frozen? _ ⟨w.heap.size + 1, i, none⟩ = false := C3.out.r.frozen
  have hlr : w.heap.size + 1 < _ := C3.out.r.lt
  go_wp2_with fail
  refine bodyPost_ret (v := .tuple #[.agg #[.slice px x.d.exits.length pxc, .slice pp x.d.players.length ppc, .slice pc x.d.coins.length pcc, .slice pi x.d.items.length pic, .slice (some ⟨bb, bo, none⟩) x.d.boxes.length pbc, .int .i64 x.d.room, .int .i64 x.d.player, .int .i64 x.d.box, .slice pa x.at_.length pac, .slice pk x.coins.length pkc, .slice (some ⟨b, o, none⟩) x.wher.length pwc], .int .i64 6]) (by simp [results, Try.results13, go_sem, hcr]) rfl ⟨rfl, ?_⟩
  iterate 11 refine Below.setCell ?_ (by show w.heap.size ≤ w.heap.size + 1; omega) _
  exact C3.out.b
set_option maxRecDepth 100000 in
set_option maxHeartbeats 400000 in
theorem rbtake_away (hn : nearB x i c = true) (hv : x.d.boxes.getD c false = true) (hz : ¬ plOf x.wher k = ⟨2, (c : Int)⟩) : Calls Try.prog 13 #[.agg #[.slice px x.d.exits.length pxc, .slice pp x.d.players.length ppc, .slice pc x.d.coins.length pcc, .slice pi x.d.items.length pic, .slice (some ⟨bb, bo, none⟩) x.d.boxes.length pbc, .int .i64 x.d.room, .int .i64 x.d.player, .int .i64 x.d.box, .slice pa x.at_.length pac, .slice pk x.coins.length pkc, .slice (some ⟨b, o, none⟩) x.wher.length pwc], .int .i64 (i : Int), .int .i64 (k : Int), .int .i64 (c : Int)] w fun e w' => e = .returned (.tuple #[.agg #[.slice px x.d.exits.length pxc, .slice pp x.d.players.length ppc, .slice pc x.d.coins.length pcc, .slice pi x.d.items.length pic, .slice (some ⟨bb, bo, none⟩) x.d.boxes.length pbc, .int .i64 x.d.room, .int .i64 x.d.player, .int .i64 x.d.box, .slice pa x.at_.length pac, .slice pk x.coins.length pkc, .slice (some ⟨b, o, none⟩) x.wher.length pwc], .int .i64 5]) ∧ Below w.heap.size w w' := by
  have HN := Lib.hid hn
  clear hn
  have C0 := Lib.hid (Two.start 29 29 w #[.slice px x.d.exits.length pxc, .slice pp x.d.players.length ppc, .slice pc x.d.coins.length pcc, .slice pi x.d.items.length pic, .slice (some ⟨bb, bo, none⟩) x.d.boxes.length pbc, .int .i64 x.d.room, .int .i64 x.d.player, .int .i64 x.d.box, .slice pa x.at_.length pac, .slice pk x.coins.length pkc, .slice (some ⟨b, o, none⟩) x.wher.length pwc] #[.slice none 0 0, .slice none 0 0, .slice none 0 0, .slice none 0 0, .slice none 0 0, .int .i64 0, .int .i64 0, .int .i64 0, .slice none 0 0, .slice none 0 0, .slice none 0 0])
  have H := Lib.hid h
  have HX := Lib.hid hx
  have HT := Lib.hid (right_tr hx)
  have HBL := Lib.hid (show (c : Int) < (x.d.boxes.length : Int) by have := boxes_len10 hx; omega)
  have hlen := h.wh.len
  have hlenb := h.d.bo.len
  have hcb : c < x.d.boxes.length := by have := HBL.out; omega
  have HI := Lib.hid (show inB (k : Int) x.wher.length = true by simp [inB, hk])
  have HJ := Lib.hid (show inB (c : Int) x.wher.length = true by simp [inB, hc])
  have HB := Lib.hid hi
  have HC := Lib.hid hc
  clear h hx hi hc
  generalize plOf x.wher k = z at *
  generalize hgb : x.d.boxes.getD c false = bv at *
  clear hgb
  obtain ⟨zk, zi⟩ := z
  simp only at c0 c1
  have hrun := run_pl zk zi 2 (c : Int)
  simp only [hz, decide_false, Bool.not_false] at hrun
  go_enter Try.func13, Try.ntmps13
  go_wp2_with fail
  refine (is10_any x ⟨⟨px, pxc, pp, ppc, pc, pcc, pi, pic, some ⟨bb, bo, none⟩, pbc⟩, pa, pac, pk, pkc, some ⟨b, o, none⟩, pwc⟩ k _).mono ?_
  rintro e w1 ⟨rfl, b1⟩
  rw [HI.out]
  have C1 := Lib.hid (C0.out.call b1)
  clear b1
  have hca := C1.out.a.cell
  have hla := C1.out.a.lt
  have hcr : ∀ i, World.cell? _ ⟨w.heap.size + 1, i, none⟩ = _ := C1.out.r.cell
  have hzr : ∀ i, World.frozen? _ ⟨w.heap.size + 1, i, none⟩ = false := C1.out.r.frozen
  have hlr : w.heap.size + 1 < _ := C1.out.r.lt
  go_wp2_with fail
  refine (is10_any x ⟨⟨px, pxc, pp, ppc, pc, pcc, pi, pic, some ⟨bb, bo, none⟩, pbc⟩, pa, pac, pk, pkc, some ⟨b, o, none⟩, pwc⟩ c _).mono ?_
  rintro e w2 ⟨rfl, b2⟩
  rw [HJ.out]
  have C2 := Lib.hid (C1.out.call b2)
  clear b2 hca hla hcr hzr hlr
  have hca := C2.out.a.cell
  have hla := C2.out.a.lt
  have hcr : ∀ i, World.cell? _ ⟨w.heap.size + 1, i, none⟩ = _ := C2.out.r.cell
  have hzr : ∀ i, World.frozen? _ ⟨w.heap.size + 1, i, none⟩ = false := C2.out.r.frozen
  have hlr : w.heap.size + 1 < _ := C2.out.r.lt
  have d0 := cell_call c0 C2.out.b
  have d1 := cell_call c1 C2.out.b
  have d2 := cell_call c2 C2.out.b
  have hbw : b < w2.heap.size := by have := C2.out.b.size; omega
  have hbbw : bb < w2.heap.size := by have := C2.out.b.size; omega
  go_wp2_with fail
  refine (refnear_any x ⟨⟨px, pxc, pp, ppc, pc, pcc, pi, pic, some ⟨bb, bo, none⟩, pbc⟩, pa, pac, pk, pkc, some ⟨b, o, none⟩, pwc⟩ i c _ HX.out (H.out.below C2.out.b (Nat.le_refl _)) HB.out HC.out).mono ?_
  rintro e w3 ⟨rfl, b3⟩
  rw [HN.out]
  have C3 := Lib.hid (C2.out.call b3)
  have d0 := cell_call c0 C3.out.b
  have d1 := cell_call c1 C3.out.b
  have d2 := cell_call c2 C3.out.b
  have hbw : b < w3.heap.size := by have := C3.out.b.size; omega
  have hbbw : bb < w3.heap.size := by have := C3.out.b.size; omega
  clear b3 hca hla hcr hzr hlr
  have hca := C3.out.a.cell
  have hla := C3.out.a.lt
  have hcr : ∀ i, World.cell? _ ⟨w.heap.size + 1, i, none⟩ = _ := C3.out.r.cell
  have hzr : ∀ i, World.frozen? _ ⟨w.heap.size + 1, i, none⟩ = false := C3.out.r.frozen
  have hlr : w.heap.size + 1 < _ := C3.out.r.lt
  go_wp2_with fail
  refine bodyPost_ret (v := .tuple #[.agg #[.slice px x.d.exits.length pxc, .slice pp x.d.players.length ppc, .slice pc x.d.coins.length pcc, .slice pi x.d.items.length pic, .slice (some ⟨bb, bo, none⟩) x.d.boxes.length pbc, .int .i64 x.d.room, .int .i64 x.d.player, .int .i64 x.d.box, .slice pa x.at_.length pac, .slice pk x.coins.length pkc, .slice (some ⟨b, o, none⟩) x.wher.length pwc], .int .i64 5]) (by simp [results, Try.results13, go_sem, hcr]) rfl ⟨rfl, ?_⟩
  iterate 11 refine Below.setCell ?_ (by show w.heap.size ≤ w.heap.size + 1; omega) _
  exact C3.out.b
set_option maxRecDepth 100000 in
set_option maxHeartbeats 400000 in
theorem rbtake_full (hn : nearB x i c = true) (hv : x.d.boxes.getD c false = true) (hz : plOf x.wher k = ⟨2, (c : Int)⟩) (hr : roomI x ⟨1, (i : Int)⟩ = 0) : Calls Try.prog 13 #[.agg #[.slice px x.d.exits.length pxc, .slice pp x.d.players.length ppc, .slice pc x.d.coins.length pcc, .slice pi x.d.items.length pic, .slice (some ⟨bb, bo, none⟩) x.d.boxes.length pbc, .int .i64 x.d.room, .int .i64 x.d.player, .int .i64 x.d.box, .slice pa x.at_.length pac, .slice pk x.coins.length pkc, .slice (some ⟨b, o, none⟩) x.wher.length pwc], .int .i64 (i : Int), .int .i64 (k : Int), .int .i64 (c : Int)] w fun e w' => e = .returned (.tuple #[.agg #[.slice px x.d.exits.length pxc, .slice pp x.d.players.length ppc, .slice pc x.d.coins.length pcc, .slice pi x.d.items.length pic, .slice (some ⟨bb, bo, none⟩) x.d.boxes.length pbc, .int .i64 x.d.room, .int .i64 x.d.player, .int .i64 x.d.box, .slice pa x.at_.length pac, .slice pk x.coins.length pkc, .slice (some ⟨b, o, none⟩) x.wher.length pwc], .int .i64 9]) ∧ Below w.heap.size w w' := by
  have HN := Lib.hid hn
  clear hn
  have HR := Lib.hid hr
  clear hr
  have C0 := Lib.hid (Two.start 29 29 w #[.slice px x.d.exits.length pxc, .slice pp x.d.players.length ppc, .slice pc x.d.coins.length pcc, .slice pi x.d.items.length pic, .slice (some ⟨bb, bo, none⟩) x.d.boxes.length pbc, .int .i64 x.d.room, .int .i64 x.d.player, .int .i64 x.d.box, .slice pa x.at_.length pac, .slice pk x.coins.length pkc, .slice (some ⟨b, o, none⟩) x.wher.length pwc] #[.slice none 0 0, .slice none 0 0, .slice none 0 0, .slice none 0 0, .slice none 0 0, .int .i64 0, .int .i64 0, .int .i64 0, .slice none 0 0, .slice none 0 0, .slice none 0 0])
  have H := Lib.hid h
  have HX := Lib.hid hx
  have HT := Lib.hid (right_tr hx)
  have HBL := Lib.hid (show (c : Int) < (x.d.boxes.length : Int) by have := boxes_len10 hx; omega)
  have hlen := h.wh.len
  have hlenb := h.d.bo.len
  have hcb : c < x.d.boxes.length := by have := HBL.out; omega
  have HI := Lib.hid (show inB (k : Int) x.wher.length = true by simp [inB, hk])
  have HJ := Lib.hid (show inB (c : Int) x.wher.length = true by simp [inB, hc])
  have HB := Lib.hid hi
  have HC := Lib.hid hc
  clear h hx hi hc
  generalize plOf x.wher k = z at *
  generalize hgb : x.d.boxes.getD c false = bv at *
  clear hgb
  obtain ⟨zk, zi⟩ := z
  simp only at c0 c1
  have hrun := run_pl zk zi 2 (c : Int)
  simp only [hz, decide_true, Bool.not_true] at hrun
  go_enter Try.func13, Try.ntmps13
  go_wp2_with fail
  refine (is10_any x ⟨⟨px, pxc, pp, ppc, pc, pcc, pi, pic, some ⟨bb, bo, none⟩, pbc⟩, pa, pac, pk, pkc, some ⟨b, o, none⟩, pwc⟩ k _).mono ?_
  rintro e w1 ⟨rfl, b1⟩
  rw [HI.out]
  have C1 := Lib.hid (C0.out.call b1)
  clear b1
  have hca := C1.out.a.cell
  have hla := C1.out.a.lt
  have hcr : ∀ i, World.cell? _ ⟨w.heap.size + 1, i, none⟩ = _ := C1.out.r.cell
  have hzr : ∀ i, World.frozen? _ ⟨w.heap.size + 1, i, none⟩ = false := C1.out.r.frozen
  have hlr : w.heap.size + 1 < _ := C1.out.r.lt
  go_wp2_with fail
  refine (is10_any x ⟨⟨px, pxc, pp, ppc, pc, pcc, pi, pic, some ⟨bb, bo, none⟩, pbc⟩, pa, pac, pk, pkc, some ⟨b, o, none⟩, pwc⟩ c _).mono ?_
  rintro e w2 ⟨rfl, b2⟩
  rw [HJ.out]
  have C2 := Lib.hid (C1.out.call b2)
  clear b2 hca hla hcr hzr hlr
  have hca := C2.out.a.cell
  have hla := C2.out.a.lt
  have hcr : ∀ i, World.cell? _ ⟨w.heap.size + 1, i, none⟩ = _ := C2.out.r.cell
  have hzr : ∀ i, World.frozen? _ ⟨w.heap.size + 1, i, none⟩ = false := C2.out.r.frozen
  have hlr : w.heap.size + 1 < _ := C2.out.r.lt
  have d0 := cell_call c0 C2.out.b
  have d1 := cell_call c1 C2.out.b
  have d2 := cell_call c2 C2.out.b
  have hbw : b < w2.heap.size := by have := C2.out.b.size; omega
  have hbbw : bb < w2.heap.size := by have := C2.out.b.size; omega
  go_wp2_with fail
  refine (refnear_any x ⟨⟨px, pxc, pp, ppc, pc, pcc, pi, pic, some ⟨bb, bo, none⟩, pbc⟩, pa, pac, pk, pkc, some ⟨b, o, none⟩, pwc⟩ i c _ HX.out (H.out.below C2.out.b (Nat.le_refl _)) HB.out HC.out).mono ?_
  rintro e w3 ⟨rfl, b3⟩
  rw [HN.out]
  have C3 := Lib.hid (C2.out.call b3)
  have d0 := cell_call c0 C3.out.b
  have d1 := cell_call c1 C3.out.b
  have d2 := cell_call c2 C3.out.b
  have hbw : b < w3.heap.size := by have := C3.out.b.size; omega
  have hbbw : bb < w3.heap.size := by have := C3.out.b.size; omega
  clear b3 hca hla hcr hzr hlr
  have hca := C3.out.a.cell
  have hla := C3.out.a.lt
  have hcr : ∀ i, World.cell? _ ⟨w.heap.size + 1, i, none⟩ = _ := C3.out.r.cell
  have hzr : ∀ i, World.frozen? _ ⟨w.heap.size + 1, i, none⟩ = false := C3.out.r.frozen
  have hlr : w.heap.size + 1 < _ := C3.out.r.lt
  go_wp2_with fail
  refine (rroom_pl x ⟨⟨px, pxc, pp, ppc, pc, pcc, pi, pic, some ⟨bb, bo, none⟩, pbc⟩, pa, pac, pk, pkc, some ⟨b, o, none⟩, pwc⟩ i _ HX.out (H.out.below C3.out.b (Nat.le_refl _))).mono ?_
  rintro e w4 ⟨rfl, b4⟩
  rw [HR.out]
  have C4 := Lib.hid (C3.out.call b4)
  clear b4 hca hla hcr hzr hlr
  have hca := C4.out.a.cell
  have hla := C4.out.a.lt
  have hcr : ∀ i, World.cell? _ ⟨w.heap.size + 1, i, none⟩ = _ := C4.out.r.cell
  have hzr : ∀ i, World.frozen? _ ⟨w.heap.size + 1, i, none⟩ = false := C4.out.r.frozen
  have hlr : w.heap.size + 1 < _ := C4.out.r.lt
  go_wp2_with fail
  refine bodyPost_ret (v := .tuple #[.agg #[.slice px x.d.exits.length pxc, .slice pp x.d.players.length ppc, .slice pc x.d.coins.length pcc, .slice pi x.d.items.length pic, .slice (some ⟨bb, bo, none⟩) x.d.boxes.length pbc, .int .i64 x.d.room, .int .i64 x.d.player, .int .i64 x.d.box, .slice pa x.at_.length pac, .slice pk x.coins.length pkc, .slice (some ⟨b, o, none⟩) x.wher.length pwc], .int .i64 9]) (by simp [results, Try.results13, go_sem, hcr]) rfl ⟨rfl, ?_⟩
  iterate 11 refine Below.setCell ?_ (by show w.heap.size ≤ w.heap.size + 1; omega) _
  exact C4.out.b
set_option maxRecDepth 100000 in
set_option maxHeartbeats 400000 in
theorem rbtake_go (hn : nearB x i c = true) (hv : x.d.boxes.getD c false = true) (hz : plOf x.wher k = ⟨2, (c : Int)⟩) (r : Int) (hr : roomI x ⟨1, (i : Int)⟩ = r) (hr1 : (r == 0) = false) : Calls Try.prog 13 #[.agg #[.slice px x.d.exits.length pxc, .slice pp x.d.players.length ppc, .slice pc x.d.coins.length pcc, .slice pi x.d.items.length pic, .slice (some ⟨bb, bo, none⟩) x.d.boxes.length pbc, .int .i64 x.d.room, .int .i64 x.d.player, .int .i64 x.d.box, .slice pa x.at_.length pac, .slice pk x.coins.length pkc, .slice (some ⟨b, o, none⟩) x.wher.length pwc], .int .i64 (i : Int), .int .i64 (k : Int), .int .i64 (c : Int)] w fun e w' => ∃ q : Wp, e = .returned (.tuple #[.agg #[.slice q.d.ex x.d.exits.length q.d.exc, .slice q.d.pl x.d.players.length q.d.plc, .slice q.d.co x.d.coins.length q.d.coc, .slice q.d.it x.d.items.length q.d.itc, .slice q.d.bo x.d.boxes.length q.d.boc, .int .i64 x.d.room, .int .i64 x.d.player, .int .i64 x.d.box, .slice q.at_ x.at_.length q.atc, .slice q.co x.coins.length q.coc, .slice q.wh x.wher.length q.whc], .int .i64 0]) ∧ WhOwn w.heap.size w' ⟨px, pxc, pp, ppc, pc, pcc, pi, pic, some ⟨bb, bo, none⟩, pbc⟩ q (putW x k ⟨1, (i : Int)⟩) ∧ Below w.heap.size w w' := by
  have HN := Lib.hid hn
  clear hn
  have HR := Lib.hid hr
  clear hr
  have C0 := Lib.hid (Two.start 29 29 w #[.slice px x.d.exits.length pxc, .slice pp x.d.players.length ppc, .slice pc x.d.coins.length pcc, .slice pi x.d.items.length pic, .slice (some ⟨bb, bo, none⟩) x.d.boxes.length pbc, .int .i64 x.d.room, .int .i64 x.d.player, .int .i64 x.d.box, .slice pa x.at_.length pac, .slice pk x.coins.length pkc, .slice (some ⟨b, o, none⟩) x.wher.length pwc] #[.slice none 0 0, .slice none 0 0, .slice none 0 0, .slice none 0 0, .slice none 0 0, .int .i64 0, .int .i64 0, .int .i64 0, .slice none 0 0, .slice none 0 0, .slice none 0 0])
  have H := Lib.hid h
  have HX := Lib.hid hx
  have HT := Lib.hid (right_tr hx)
  have HBL := Lib.hid (show (c : Int) < (x.d.boxes.length : Int) by have := boxes_len10 hx; omega)
  have hlen := h.wh.len
  have hlenb := h.d.bo.len
  have hcb : c < x.d.boxes.length := by have := HBL.out; omega
  have HI := Lib.hid (show inB (k : Int) x.wher.length = true by simp [inB, hk])
  have HJ := Lib.hid (show inB (c : Int) x.wher.length = true by simp [inB, hc])
  have HB := Lib.hid hi
  have HC := Lib.hid hc
  clear h hx hi hc
  generalize plOf x.wher k = z at *
  generalize hgb : x.d.boxes.getD c false = bv at *
  clear hgb
  obtain ⟨zk, zi⟩ := z
  simp only at c0 c1
  have hrun := run_pl zk zi 2 (c : Int)
  simp only [hz, decide_true, Bool.not_true] at hrun
  go_enter Try.func13, Try.ntmps13
  go_wp2_with fail
  refine (is10_any x ⟨⟨px, pxc, pp, ppc, pc, pcc, pi, pic, some ⟨bb, bo, none⟩, pbc⟩, pa, pac, pk, pkc, some ⟨b, o, none⟩, pwc⟩ k _).mono ?_
  rintro e w1 ⟨rfl, b1⟩
  rw [HI.out]
  have C1 := Lib.hid (C0.out.call b1)
  clear b1
  have hca := C1.out.a.cell
  have hla := C1.out.a.lt
  have hcr : ∀ i, World.cell? _ ⟨w.heap.size + 1, i, none⟩ = _ := C1.out.r.cell
  have hzr : ∀ i, World.frozen? _ ⟨w.heap.size + 1, i, none⟩ = false := C1.out.r.frozen
  have hlr : w.heap.size + 1 < _ := C1.out.r.lt
  go_wp2_with fail
  refine (is10_any x ⟨⟨px, pxc, pp, ppc, pc, pcc, pi, pic, some ⟨bb, bo, none⟩, pbc⟩, pa, pac, pk, pkc, some ⟨b, o, none⟩, pwc⟩ c _).mono ?_
  rintro e w2 ⟨rfl, b2⟩
  rw [HJ.out]
  have C2 := Lib.hid (C1.out.call b2)
  clear b2 hca hla hcr hzr hlr
  have hca := C2.out.a.cell
  have hla := C2.out.a.lt
  have hcr : ∀ i, World.cell? _ ⟨w.heap.size + 1, i, none⟩ = _ := C2.out.r.cell
  have hzr : ∀ i, World.frozen? _ ⟨w.heap.size + 1, i, none⟩ = false := C2.out.r.frozen
  have hlr : w.heap.size + 1 < _ := C2.out.r.lt
  have d0 := cell_call c0 C2.out.b
  have d1 := cell_call c1 C2.out.b
  have d2 := cell_call c2 C2.out.b
  have hbw : b < w2.heap.size := by have := C2.out.b.size; omega
  have hbbw : bb < w2.heap.size := by have := C2.out.b.size; omega
  go_wp2_with fail
  refine (refnear_any x ⟨⟨px, pxc, pp, ppc, pc, pcc, pi, pic, some ⟨bb, bo, none⟩, pbc⟩, pa, pac, pk, pkc, some ⟨b, o, none⟩, pwc⟩ i c _ HX.out (H.out.below C2.out.b (Nat.le_refl _)) HB.out HC.out).mono ?_
  rintro e w3 ⟨rfl, b3⟩
  rw [HN.out]
  have C3 := Lib.hid (C2.out.call b3)
  have d0 := cell_call c0 C3.out.b
  have d1 := cell_call c1 C3.out.b
  have d2 := cell_call c2 C3.out.b
  have hbw : b < w3.heap.size := by have := C3.out.b.size; omega
  have hbbw : bb < w3.heap.size := by have := C3.out.b.size; omega
  clear b3 hca hla hcr hzr hlr
  have hca := C3.out.a.cell
  have hla := C3.out.a.lt
  have hcr : ∀ i, World.cell? _ ⟨w.heap.size + 1, i, none⟩ = _ := C3.out.r.cell
  have hzr : ∀ i, World.frozen? _ ⟨w.heap.size + 1, i, none⟩ = false := C3.out.r.frozen
  have hlr : w.heap.size + 1 < _ := C3.out.r.lt
  go_wp2_with fail
  refine (rroom_pl x ⟨⟨px, pxc, pp, ppc, pc, pcc, pi, pic, some ⟨bb, bo, none⟩, pbc⟩, pa, pac, pk, pkc, some ⟨b, o, none⟩, pwc⟩ i _ HX.out (H.out.below C3.out.b (Nat.le_refl _))).mono ?_
  rintro e w4 ⟨rfl, b4⟩
  rw [HR.out]
  have C4 := Lib.hid (C3.out.call b4)
  clear b4 hca hla hcr hzr hlr
  have hca := C4.out.a.cell
  have hla := C4.out.a.lt
  have hcr : ∀ i, World.cell? _ ⟨w.heap.size + 1, i, none⟩ = _ := C4.out.r.cell
  have hzr : ∀ i, World.frozen? _ ⟨w.heap.size + 1, i, none⟩ = false := C4.out.r.frozen
  have hlr : w.heap.size + 1 < _ := C4.out.r.lt
  go_wp2_with fail
  refine (refto_pl x ⟨⟨px, pxc, pp, ppc, pc, pcc, pi, pic, some ⟨bb, bo, none⟩, pbc⟩, pa, pac, pk, pkc, some ⟨b, o, none⟩, pwc⟩ k i _ (H.out.below C4.out.b (Nat.le_refl _)) (right_fewW9 HX.out) hk).mono ?_
  rintro e w5 ⟨⟨qd, qa, qac, qk, qkc, qw, qwc⟩, rfl, ho, b5⟩
  have C5 := Lib.hid (C4.out.call b5)
  have HO := Lib.hid (ho.less C4.out.size)
  clear b5 ho hca hla hcr hzr hlr
  have hca := C5.out.a.cell
  have hla := C5.out.a.lt
  have hcr : ∀ i, World.cell? _ ⟨w.heap.size + 1, i, none⟩ = _ := C5.out.r.cell
  have hzr : ∀ i, World.frozen? _ ⟨w.heap.size + 1, i, none⟩ = false := C5.out.r.frozen
  have hlr : w.heap.size + 1 < _ := C5.out.r.lt
  go_wp2_with fail
  refine bodyPost_ret (v := .tuple #[.agg #[.slice qd.ex x.d.exits.length qd.exc, .slice qd.pl x.d.players.length qd.plc, .slice qd.co x.d.coins.length qd.coc, .slice qd.it x.d.items.length qd.itc, .slice qd.bo x.d.boxes.length qd.boc, .int .i64 x.d.room, .int .i64 x.d.player, .int .i64 x.d.box, .slice qa x.at_.length qac, .slice qk x.coins.length qkc, .slice qw x.wher.length qwc], .int .i64 0]) (by simp [results, Try.results13, go_sem, hcr]) rfl ⟨⟨qd, qa, qac, qk, qkc, qw, qwc⟩, rfl, ?_, ?_⟩
  · refine WhOwn.less (n := w.heap.size + 2) ?_ (by omega)
    iterate 11 refine WhOwn.set (b := w.heap.size + 1) ?_ (by omega) _ _
    exact HO.out
  · iterate 11 refine Below.setCell ?_ (by show w.heap.size ≤ w.heap.size + 1; omega) _
    exact C5.out.b
end
theorem refbput_any (x : Wd) (p : Wp) (i : Nat) (item b : Int) (w : World) (hx : rightW x = true) (h : WorldAt w p x) (hi : i < x.at_.length) : Calls Try.prog 11 #[.agg #[.slice p.d.ex x.d.exits.length p.d.exc, .slice p.d.pl x.d.players.length p.d.plc, .slice p.d.co x.d.coins.length p.d.coc, .slice p.d.it x.d.items.length p.d.itc, .slice p.d.bo x.d.boxes.length p.d.boc, .int .i64 x.d.room, .int .i64 x.d.player, .int .i64 x.d.box, .slice p.at_ x.at_.length p.atc, .slice p.co x.coins.length p.coc, .slice p.wh x.wher.length p.whc], .int .i64 (i : Int), .int .i64 item, .int .i64 b] w fun e w' => ∃ q : Wp, e = .returned (.tuple #[.agg #[.slice q.d.ex x.d.exits.length q.d.exc, .slice q.d.pl x.d.players.length q.d.plc, .slice q.d.co x.d.coins.length q.d.coc, .slice q.d.it x.d.items.length q.d.itc, .slice q.d.bo x.d.boxes.length q.d.boc, .int .i64 x.d.room, .int .i64 x.d.player, .int .i64 x.d.box, .slice q.at_ x.at_.length q.atc, .slice q.co x.coins.length q.coc, .slice q.wh x.wher.length q.whc], .int .i64 (boxW x i item b).2]) ∧ RTook w.heap.size w' p q x (boxW x i item b) ∧ Below w.heap.size w w' := by
  rcases box_cases x i item b with ⟨h1, e⟩ | ⟨k, c, rfl, rfl, hk, hc, hr⟩
  · rw [e]
    cases h2 : inB item x.wher.length
    · exact (rbput_none1 x p i item b w h2).mono fun e' w' ⟨h2, h3⟩ => ⟨_, h2, .inl ⟨by simp, rfl, rfl⟩, h3⟩
    · exact (rbput_none2 x p i item b w h2 (h1.resolve_left (by rw [h2]; simp))).mono fun e' w' ⟨h2, h3⟩ => ⟨_, h2, .inl ⟨by simp, rfl, rfl⟩, h3⟩
  obtain ⟨b, o, ea, hb, c0, c1⟩ := PlsAt.cells h.wh hk
  obtain ⟨bb, bo, eb, hbb, c2⟩ := BlsAt.cells h.d.bo (k := c) (by have := boxes_len10 hx; omega)
  rw [← plOf_get hk] at c0 c1
  rw [show x.d.boxes[c]'(by have := boxes_len10 hx; omega) = x.d.boxes.getD c false by simp [List.getD, List.getElem?_eq_getElem (show c < x.d.boxes.length by have := boxes_len10 hx; omega)]] at c2
  obtain ⟨⟨px, pxc, pp, ppc, pc, pcc, pi, pic, pb, pbc⟩, pa, pac, pk, pkc, pw, pwc⟩ := p
  simp only at ea eb
  subst ea eb
  rcases hr with ⟨h1, e⟩ | ⟨⟨h1, h2⟩, ⟨h3, e⟩ | ⟨h3, ⟨h4, e⟩ | ⟨h4, hr⟩⟩⟩
  · rw [e]
    by_cases hz : plOf x.wher k = ⟨1, (i : Int)⟩
    · exact (rbput_far x px pp pc pi pa pk pxc ppc pcc pic bb bo pbc pac pkc b o pwc i k c w hx h hi hk hc hbb hb c0 c1 c2 hz (h1.resolve_left (fun h => h hz))).mono fun e' w' ⟨h2, h3⟩ => ⟨_, h2, .inl ⟨by simp, rfl, rfl⟩, h3⟩
    · exact (rbput_away x px pp pc pi pa pk pxc ppc pcc pic bb bo pbc pac pkc b o pwc i k c w hx h hi hk hc hbb hb c0 c1 c2 hz).mono fun e' w' ⟨h2, h3⟩ => ⟨_, h2, .inl ⟨by simp, rfl, rfl⟩, h3⟩
  · rw [e]; exact (rbput_nobox x px pp pc pi pa pk pxc ppc pcc pic bb bo pbc pac pkc b o pwc i k c w hx h hi hk hc hbb hb c0 c1 c2 h1 h2 h3).mono fun e' w' ⟨h2, h3⟩ => ⟨_, h2, .inl ⟨by simp, rfl, rfl⟩, h3⟩
  · rw [e]; exact (rbput_loop x px pp pc pi pa pk pxc ppc pcc pic bb bo pbc pac pkc b o pwc i k c w hx h hi hk hc hbb hb c0 c1 c2 h1 h2 h3 h4).mono fun e' w' ⟨h2, h3⟩ => ⟨_, h2, .inl ⟨by simp, rfl, rfl⟩, h3⟩
  · exact rbput_go x px pp pc pi pa pk pxc ppc pcc pic bb bo pbc pac pkc b o pwc i k c w hx h hi hk hc hbb hb c0 c1 c2 h1 h2 h3 h4
theorem refbtake_any (x : Wd) (p : Wp) (i : Nat) (item b : Int) (w : World) (hx : rightW x = true) (h : WorldAt w p x) (hi : i < x.at_.length) : Calls Try.prog 13 #[.agg #[.slice p.d.ex x.d.exits.length p.d.exc, .slice p.d.pl x.d.players.length p.d.plc, .slice p.d.co x.d.coins.length p.d.coc, .slice p.d.it x.d.items.length p.d.itc, .slice p.d.bo x.d.boxes.length p.d.boc, .int .i64 x.d.room, .int .i64 x.d.player, .int .i64 x.d.box, .slice p.at_ x.at_.length p.atc, .slice p.co x.coins.length p.coc, .slice p.wh x.wher.length p.whc], .int .i64 (i : Int), .int .i64 item, .int .i64 b] w fun e w' => ∃ q : Wp, e = .returned (.tuple #[.agg #[.slice q.d.ex x.d.exits.length q.d.exc, .slice q.d.pl x.d.players.length q.d.plc, .slice q.d.co x.d.coins.length q.d.coc, .slice q.d.it x.d.items.length q.d.itc, .slice q.d.bo x.d.boxes.length q.d.boc, .int .i64 x.d.room, .int .i64 x.d.player, .int .i64 x.d.box, .slice q.at_ x.at_.length q.atc, .slice q.co x.coins.length q.coc, .slice q.wh x.wher.length q.whc], .int .i64 (outW x i item b).2]) ∧ RTook w.heap.size w' p q x (outW x i item b) ∧ Below w.heap.size w w' := by
  rcases out_cases x i item b with ⟨h1, e⟩ | ⟨k, c, rfl, rfl, hk, hc, hr⟩
  · rw [e]
    cases h2 : inB item x.wher.length
    · exact (rbtake_none1 x p i item b w h2).mono fun e' w' ⟨h2, h3⟩ => ⟨_, h2, .inl ⟨by simp, rfl, rfl⟩, h3⟩
    · exact (rbtake_none2 x p i item b w h2 (h1.resolve_left (by rw [h2]; simp))).mono fun e' w' ⟨h2, h3⟩ => ⟨_, h2, .inl ⟨by simp, rfl, rfl⟩, h3⟩
  obtain ⟨b, o, ea, hb, c0, c1⟩ := PlsAt.cells h.wh hk
  obtain ⟨bb, bo, eb, hbb, c2⟩ := BlsAt.cells h.d.bo (k := c) (by have := boxes_len10 hx; omega)
  rw [← plOf_get hk] at c0 c1
  rw [show x.d.boxes[c]'(by have := boxes_len10 hx; omega) = x.d.boxes.getD c false by simp [List.getD, List.getElem?_eq_getElem (show c < x.d.boxes.length by have := boxes_len10 hx; omega)]] at c2
  obtain ⟨⟨px, pxc, pp, ppc, pc, pcc, pi, pic, pb, pbc⟩, pa, pac, pk, pkc, pw, pwc⟩ := p
  simp only at ea eb
  subst ea eb
  rcases hr with ⟨h1, e⟩ | ⟨h1, ⟨h2, e⟩ | ⟨h2, ⟨h3, e⟩ | ⟨h3, ⟨h4, e⟩ | ⟨h4, e⟩⟩⟩⟩
  all_goals rw [e]
  · exact (rbtake_far x px pp pc pi pa pk pxc ppc pcc pic bb bo pbc pac pkc b o pwc i k c w hx h hi hk hc hbb hb c0 c1 c2 h1).mono fun e' w' ⟨h2, h3⟩ => ⟨_, h2, .inl ⟨by simp, rfl, rfl⟩, h3⟩
  · exact (rbtake_nobox x px pp pc pi pa pk pxc ppc pcc pic bb bo pbc pac pkc b o pwc i k c w hx h hi hk hc hbb hb c0 c1 c2 h1 h2).mono fun e' w' ⟨h2, h3⟩ => ⟨_, h2, .inl ⟨by simp, rfl, rfl⟩, h3⟩
  · exact (rbtake_away x px pp pc pi pa pk pxc ppc pcc pic bb bo pbc pac pkc b o pwc i k c w hx h hi hk hc hbb hb c0 c1 c2 h1 h2 h3).mono fun e' w' ⟨h2, h3⟩ => ⟨_, h2, .inl ⟨by simp, rfl, rfl⟩, h3⟩
  · exact (rbtake_full x px pp pc pi pa pk pxc ppc pcc pic bb bo pbc pac pkc b o pwc i k c w hx h hi hk hc hbb hb c0 c1 c2 h1 h2 h3 h4).mono fun e' w' ⟨h2, h3⟩ => ⟨_, h2, .inl ⟨by simp, rfl, rfl⟩, h3⟩
  · exact (rbtake_go x px pp pc pi pa pk pxc ppc pcc pic bb bo pbc pac pkc b o pwc i k c w hx h hi hk hc hbb hb c0 c1 c2 h1 h2 h3 _ rfl (by simpa using h4)).mono fun e' w' ⟨q, h5, h6, h7⟩ => ⟨q, h5, .inr ⟨rfl, rfl, h6⟩, h7⟩
end Go.Proofs.Ytdmfbbcidcfcjaa
