/- The document's own Put: what isn't put into a box. -/
import Derived.Test.YtdmfbbcidcfcjaaRows
import Derived.Test.YtdmfbbcidcfcjaaKit
import Derived.Test.YtdmfbbcidcfcjaaGMem
import Derived.Test.YtdmfbbcidcfcjaaCoin
import Derived.Test.YtdmfbbcidcfcjaaGWorld
import Derived.Test.YtdmfbbcidcfcjaaDescMay
import Derived.Test.YtdmfbbcidcfcjaaGDescN
import Derived.Test.YtdmfbbcidcfcjaaGRight
import Derived.Test.YtdmfbbcidcfcjaaGCopy
import Derived.Test.YtdmfbbcidcfcjaaGRefD
import Derived.Test.YtdmfbbcidcfcjaaGEq
import Derived.Test.YtdmfbbcidcfcjaaGAs
import Derived.Test.YtdmfbbcidcfcjaaGNew
import Derived.Test.YtdmfbbcidcfcjaaGTreeL
import Derived.Test.YtdmfbbcidcfcjaaTreeRefA
import Derived.Test.YtdmfbbcidcfcjaaGHoldA
import Derived.Test.YtdmfbbcidcfcjaaHoldD
import Derived.Test.YtdmfbbcidcfcjaaHoldE
import Derived.Test.YtdmfbbcidcfcjaaGBoxM
import Derived.Test.YtdmfbbcidcfcjaaBoxE
import Derived.Deep.QuietTactic
import Derived.BigQuiet
import Derived.Deep.RegionHeld3
import Derived.WalkKit
import Derived.ProofKit
import Derived.OpenShut
import Derived.IntWalk
namespace Go.Proofs.Ytdmfbbcidcfcjaa
open Go.ChangeShapes Go.WideShapes Go.ChangeAt Go.RowKit
set_option linter.unusedVariables false
open Go.RowKit
theorem boxes_len10 {x : Wd} (h : rightW x = true) : x.d.boxes.length = x.wher.length := by
  have hm := (right_lens h).2.2.2.2
  have h2 := hm.2
  simp only [mayD, mayItB, Bool.and_eq_true, decide_eq_true_eq] at h2
  have := h2.2.2.2.2.1
  omega
theorem depth10_as {x y : Wd} (hs : Shape x y) (p : Wp) (q : Pl) (w : World) (h : PlsAt w p.wh y.wher) (hid : BoxesIn y.wher) (hy : q.kind = 2 → 0 ≤ q.id ∧ q.id < y.wher.length) :
    Calls Try.prog 37 #[.agg #[.slice p.d.ex x.d.exits.length p.d.exc, .slice p.d.pl x.d.players.length p.d.plc, .slice p.d.co x.d.coins.length p.d.coc, .slice p.d.it x.d.items.length p.d.itc, .slice p.d.bo x.d.boxes.length p.d.boc, .int .i64 x.d.room, .int .i64 x.d.player, .int .i64 x.d.box, .slice p.at_ x.at_.length p.atc, .slice p.co x.coins.length p.coc, .slice p.wh x.wher.length p.whc], .agg #[.int .i64 q.kind, .int .i64 q.id]] w fun e w' => e = .returned (.int .i64 (depthR y.wher q : Nat)) ∧ Below w.heap.size w w' := by
  have := depth_any y p q w h hid hy
  rwa [hs.val] at this
theorem boxesin_put {ps : List Pl} (hT : Tr ps) {k b : Nat} (hb : b < ps.length) : BoxesIn (ps.set k (box b)) := by
  intro p hp h2
  rw [List.length_set]
  rcases List.mem_or_eq_of_mem_set hp with hp | rfl
  · exact hT.ids p hp h2
  · simp only [box]; omega
theorem refto_bx (x : Wd) (p : Wp) (k c : Nat) (w : World) (h : WorldAt w p x) (hf : FewW x) (hk : k < x.wher.length) : Calls Try.prog 36 #[.agg #[.slice p.d.ex x.d.exits.length p.d.exc, .slice p.d.pl x.d.players.length p.d.plc, .slice p.d.co x.d.coins.length p.d.coc, .slice p.d.it x.d.items.length p.d.itc, .slice p.d.bo x.d.boxes.length p.d.boc, .int .i64 x.d.room, .int .i64 x.d.player, .int .i64 x.d.box, .slice p.at_ x.at_.length p.atc, .slice p.co x.coins.length p.coc, .slice p.wh x.wher.length p.whc], .int .i64 (k : Int), .agg #[.int .i64 2, .int .i64 (c : Int)]] w fun e w' => ∃ q : Wp, e = .returned (.agg #[.slice q.d.ex x.d.exits.length q.d.exc, .slice q.d.pl x.d.players.length q.d.plc, .slice q.d.co x.d.coins.length q.d.coc, .slice q.d.it x.d.items.length q.d.itc, .slice q.d.bo x.d.boxes.length q.d.boc, .int .i64 x.d.room, .int .i64 x.d.player, .int .i64 x.d.box, .slice q.at_ x.at_.length q.atc, .slice q.co x.coins.length q.coc, .slice q.wh x.wher.length q.whc]) ∧ WhOwn w.heap.size w' p.d q (putW x k (box c)) ∧ Below w.heap.size w w' :=
  refto_any x p k (box c) w h hf hk
theorem rroom_bx (x : Wd) (p : Wp) (i : Nat) (w : World) (hx : rightW x = true) (h : WorldAt w p x) : Calls Try.prog 22 #[.agg #[.slice p.d.ex x.d.exits.length p.d.exc, .slice p.d.pl x.d.players.length p.d.plc, .slice p.d.co x.d.coins.length p.d.coc, .slice p.d.it x.d.items.length p.d.itc, .slice p.d.bo x.d.boxes.length p.d.boc, .int .i64 x.d.room, .int .i64 x.d.player, .int .i64 x.d.box, .slice p.at_ x.at_.length p.atc, .slice p.co x.coins.length p.coc, .slice p.wh x.wher.length p.whc], .agg #[.int .i64 2, .int .i64 (i : Int)]] w fun e w' => e = .returned (.int .i64 (roomI x (box i))) ∧ Below w.heap.size w w' :=
  refroom_any x p 2 i (by decide) (cap_in hx (by decide)) w h.wh (by have := (right_lens hx).2.2.2.1; omega)
set_option maxRecDepth 100000 in
theorem rbput_none1 (x : Wd) (p : Wp) (i : Nat) (k c : Int) (w : World) (h1 : inB k x.wher.length = false) : Calls Try.prog 11 #[.agg #[.slice p.d.ex x.d.exits.length p.d.exc, .slice p.d.pl x.d.players.length p.d.plc, .slice p.d.co x.d.coins.length p.d.coc, .slice p.d.it x.d.items.length p.d.itc, .slice p.d.bo x.d.boxes.length p.d.boc, .int .i64 x.d.room, .int .i64 x.d.player, .int .i64 x.d.box, .slice p.at_ x.at_.length p.atc, .slice p.co x.coins.length p.coc, .slice p.wh x.wher.length p.whc], .int .i64 (i : Int), .int .i64 k, .int .i64 c] w fun e w' => e = .returned (.tuple #[.agg #[.slice p.d.ex x.d.exits.length p.d.exc, .slice p.d.pl x.d.players.length p.d.plc, .slice p.d.co x.d.coins.length p.d.coc, .slice p.d.it x.d.items.length p.d.itc, .slice p.d.bo x.d.boxes.length p.d.boc, .int .i64 x.d.room, .int .i64 x.d.player, .int .i64 x.d.box, .slice p.at_ x.at_.length p.atc, .slice p.co x.coins.length p.coc, .slice p.wh x.wher.length p.whc], .int .i64 3]) ∧ Below w.heap.size w w' := by
  have C0 := Lib.hid (Two.start 29 29 w #[.slice p.d.ex x.d.exits.length p.d.exc, .slice p.d.pl x.d.players.length p.d.plc, .slice p.d.co x.d.coins.length p.d.coc, .slice p.d.it x.d.items.length p.d.itc, .slice p.d.bo x.d.boxes.length p.d.boc, .int .i64 x.d.room, .int .i64 x.d.player, .int .i64 x.d.box, .slice p.at_ x.at_.length p.atc, .slice p.co x.coins.length p.coc, .slice p.wh x.wher.length p.whc] #[.slice none 0 0, .slice none 0 0, .slice none 0 0, .slice none 0 0, .slice none 0 0, .int .i64 0, .int .i64 0, .int .i64 0, .slice none 0 0, .slice none 0 0, .slice none 0 0])
  have H1 := Lib.hid h1
  clear h1
  go_enter Try.func11, Try.ntmps11
  go_wp2_with fail
  refine (is10_any x p k _).mono ?_
  rintro e w1 ⟨rfl, b1⟩
  rw [H1.out]
  have C1 := Lib.hid (C0.out.call b1)
  clear b1
  have hca := C1.out.a.cell
  have hla := C1.out.a.lt
  have hcr : ∀ i, World.cell? _ ⟨w.heap.size + 1, i, none⟩ = _ := C1.out.r.cell
  have hzr : ∀ i, World.frozen? _ ⟨w.heap.size + 1, i, none⟩ = false := C1.out.r.frozen
  have hlr : w.heap.size + 1 < _ := C1.out.r.lt
  go_wp2_with fail
  refine bodyPost_ret (v := .tuple #[.agg #[.slice p.d.ex x.d.exits.length p.d.exc, .slice p.d.pl x.d.players.length p.d.plc, .slice p.d.co x.d.coins.length p.d.coc, .slice p.d.it x.d.items.length p.d.itc, .slice p.d.bo x.d.boxes.length p.d.boc, .int .i64 x.d.room, .int .i64 x.d.player, .int .i64 x.d.box, .slice p.at_ x.at_.length p.atc, .slice p.co x.coins.length p.coc, .slice p.wh x.wher.length p.whc], .int .i64 3]) (by simp [results, Try.results11, go_sem, hcr]) rfl ⟨rfl, ?_⟩
  iterate 11 refine Below.setCell ?_ (by show w.heap.size ≤ w.heap.size + 1; omega) _
  exact C1.out.b
set_option maxRecDepth 100000 in
theorem rbput_none2 (x : Wd) (p : Wp) (i : Nat) (k c : Int) (w : World) (h1 : inB k x.wher.length = true) (h2 : inB c x.wher.length = false) : Calls Try.prog 11 #[.agg #[.slice p.d.ex x.d.exits.length p.d.exc, .slice p.d.pl x.d.players.length p.d.plc, .slice p.d.co x.d.coins.length p.d.coc, .slice p.d.it x.d.items.length p.d.itc, .slice p.d.bo x.d.boxes.length p.d.boc, .int .i64 x.d.room, .int .i64 x.d.player, .int .i64 x.d.box, .slice p.at_ x.at_.length p.atc, .slice p.co x.coins.length p.coc, .slice p.wh x.wher.length p.whc], .int .i64 (i : Int), .int .i64 k, .int .i64 c] w fun e w' => e = .returned (.tuple #[.agg #[.slice p.d.ex x.d.exits.length p.d.exc, .slice p.d.pl x.d.players.length p.d.plc, .slice p.d.co x.d.coins.length p.d.coc, .slice p.d.it x.d.items.length p.d.itc, .slice p.d.bo x.d.boxes.length p.d.boc, .int .i64 x.d.room, .int .i64 x.d.player, .int .i64 x.d.box, .slice p.at_ x.at_.length p.atc, .slice p.co x.coins.length p.coc, .slice p.wh x.wher.length p.whc], .int .i64 3]) ∧ Below w.heap.size w w' := by
  have C0 := Lib.hid (Two.start 29 29 w #[.slice p.d.ex x.d.exits.length p.d.exc, .slice p.d.pl x.d.players.length p.d.plc, .slice p.d.co x.d.coins.length p.d.coc, .slice p.d.it x.d.items.length p.d.itc, .slice p.d.bo x.d.boxes.length p.d.boc, .int .i64 x.d.room, .int .i64 x.d.player, .int .i64 x.d.box, .slice p.at_ x.at_.length p.atc, .slice p.co x.coins.length p.coc, .slice p.wh x.wher.length p.whc] #[.slice none 0 0, .slice none 0 0, .slice none 0 0, .slice none 0 0, .slice none 0 0, .int .i64 0, .int .i64 0, .int .i64 0, .slice none 0 0, .slice none 0 0, .slice none 0 0])
  have H1 := Lib.hid h1
  have H2 := Lib.hid h2
  clear h1 h2
  go_enter Try.func11, Try.ntmps11
  go_wp2_with fail
  refine (is10_any x p k _).mono ?_
  rintro e w1 ⟨rfl, b1⟩
  rw [H1.out]
  have C1 := Lib.hid (C0.out.call b1)
  clear b1
  have hca := C1.out.a.cell
  have hla := C1.out.a.lt
  have hcr : ∀ i, World.cell? _ ⟨w.heap.size + 1, i, none⟩ = _ := C1.out.r.cell
  have hzr : ∀ i, World.frozen? _ ⟨w.heap.size + 1, i, none⟩ = false := C1.out.r.frozen
  have hlr : w.heap.size + 1 < _ := C1.out.r.lt
  go_wp2_with fail
  refine (is10_any x p c _).mono ?_
  rintro e w2 ⟨rfl, b2⟩
  rw [H2.out]
  have C2 := Lib.hid (C1.out.call b2)
  clear b2 hca hla hcr hzr hlr
  have hca := C2.out.a.cell
  have hla := C2.out.a.lt
  have hcr : ∀ i, World.cell? _ ⟨w.heap.size + 1, i, none⟩ = _ := C2.out.r.cell
  have hzr : ∀ i, World.frozen? _ ⟨w.heap.size + 1, i, none⟩ = false := C2.out.r.frozen
  have hlr : w.heap.size + 1 < _ := C2.out.r.lt
  go_wp2_with fail
  refine bodyPost_ret (v := .tuple #[.agg #[.slice p.d.ex x.d.exits.length p.d.exc, .slice p.d.pl x.d.players.length p.d.plc, .slice p.d.co x.d.coins.length p.d.coc, .slice p.d.it x.d.items.length p.d.itc, .slice p.d.bo x.d.boxes.length p.d.boc, .int .i64 x.d.room, .int .i64 x.d.player, .int .i64 x.d.box, .slice p.at_ x.at_.length p.atc, .slice p.co x.coins.length p.coc, .slice p.wh x.wher.length p.whc], .int .i64 3]) (by simp [results, Try.results11, go_sem, hcr]) rfl ⟨rfl, ?_⟩
  iterate 11 refine Below.setCell ?_ (by show w.heap.size ≤ w.heap.size + 1; omega) _
  exact C2.out.b
section
variable (x : Wd) (px pp pc pi pa pk : Option Addr) (pxc ppc pcc pic bb bo pbc pac pkc b o pwc : Nat) (i k c : Nat) (w : World) (hx : rightW x = true) (h : WorldAt w ⟨⟨px, pxc, pp, ppc, pc, pcc, pi, pic, some ⟨bb, bo, none⟩, pbc⟩, pa, pac, pk, pkc, some ⟨b, o, none⟩, pwc⟩ x) (hi : i < x.at_.length) (hk : k < x.wher.length) (hc : c < x.wher.length) (hbb : bb < w.heap.size) (hb : b < w.heap.size)
  (c0 : w.cell? ⟨b, o + k * 2, none⟩ = some (.int .i64 (plOf x.wher k).kind)) (c1 : w.cell? ⟨b, o + k * 2 + 1, none⟩ = some (.int .i64 (plOf x.wher k).id)) (c2 : w.cell? ⟨bb, bo + c, none⟩ = some (.bool (x.d.boxes.getD c false)))
include hx h hi hk hc hbb hb c0 c1 c2
set_option maxRecDepth 100000 in
set_option maxHeartbeats 400000 in
theorem rbput_away (hz : ¬ plOf x.wher k = ⟨1, (i : Int)⟩) : Calls Try.prog 11 #[.agg #[.slice px x.d.exits.length pxc, .slice pp x.d.players.length ppc, .slice pc x.d.coins.length pcc, .slice pi x.d.items.length pic, .slice (some ⟨bb, bo, none⟩) x.d.boxes.length pbc, .int .i64 x.d.room, .int .i64 x.d.player, .int .i64 x.d.box, .slice pa x.at_.length pac, .slice pk x.coins.length pkc, .slice (some ⟨b, o, none⟩) x.wher.length pwc], .int .i64 (i : Int), .int .i64 (k : Int), .int .i64 (c : Int)] w fun e w' => e = .returned (.tuple #[.agg #[.slice px x.d.exits.length pxc, .slice pp x.d.players.length ppc, .slice pc x.d.coins.length pcc, .slice pi x.d.items.length pic, .slice (some ⟨bb, bo, none⟩) x.d.boxes.length pbc, .int .i64 x.d.room, .int .i64 x.d.player, .int .i64 x.d.box, .slice pa x.at_.length pac, .slice pk x.coins.length pkc, .slice (some ⟨b, o, none⟩) x.wher.length pwc], .int .i64 5]) ∧ Below w.heap.size w w' := by
  have C0 := Lib.hid (Two.start 29 29 w #[.slice px x.d.exits.length pxc, .slice pp x.d.players.length ppc, .slice pc x.d.coins.length pcc, .slice pi x.d.items.length pic, .slice (some ⟨bb, bo, none⟩) x.d.boxes.length pbc, .int .i64 x.d.room, .int .i64 x.d.player, .int .i64 x.d.box, .slice pa x.at_.length pac, .slice pk x.coins.length pkc, .slice (some ⟨b, o, none⟩) x.wher.length pwc] #[.slice none 0 0, .slice none 0 0, .slice none 0 0, .slice none 0 0, .slice none 0 0, .int .i64 0, .int .i64 0, .int .i64 0, .slice none 0 0, .slice none 0 0, .slice none 0 0])
  have H := Lib.hid h
  have HX := Lib.hid hx
  have HT := Lib.hid (right_tr hx)
  have HBL := Lib.hid (show (c : Int) < (x.d.boxes.length : Int) by have := boxes_len10 hx; omega)
  have hlen := h.wh.len
  have hlenb := h.d.bo.len
  have hcb : c < x.d.boxes.length := by have := HBL.out; omega
  have HI := Lib.hid (show inB (k : Int) x.wher.length = true by simp [inB, hk])
  have HJ := Lib.hid (show inB (c : Int) x.wher.length = true by simp [inB, hc])
  have HB := Lib.hid hi
  have HC := Lib.hid hc
  clear h hx hi hc
  generalize plOf x.wher k = z at *
  generalize hgb : x.d.boxes.getD c false = bv at *
  clear hgb
  obtain ⟨zk, zi⟩ := z
  simp only at c0 c1
  have hrun := run_pl zk zi 1 (i : Int)
  simp only [hz, decide_false, Bool.not_false] at hrun
  go_enter Try.func11, Try.ntmps11
  go_wp2_with fail
  refine (is10_any x ⟨⟨px, pxc, pp, ppc, pc, pcc, pi, pic, some ⟨bb, bo, none⟩, pbc⟩, pa, pac, pk, pkc, some ⟨b, o, none⟩, pwc⟩ k _).mono ?_
  rintro e w1 ⟨rfl, b1⟩
  rw [HI.out]
  have C1 := Lib.hid (C0.out.call b1)
  clear b1
  have hca := C1.out.a.cell
  have hla := C1.out.a.lt
  have hcr : ∀ i, World.cell? _ ⟨w.heap.size + 1, i, none⟩ = _ := C1.out.r.cell
  have hzr : ∀ i, World.frozen? _ ⟨w.heap.size + 1, i, none⟩ = false := C1.out.r.frozen
  have hlr : w.heap.size + 1 < _ := C1.out.r.lt
  go_wp2_with fail
  refine (is10_any x ⟨⟨px, pxc, pp, ppc, pc, pcc, pi, pic, some ⟨bb, bo, none⟩, pbc⟩, pa, pac, pk, pkc, some ⟨b, o, none⟩, pwc⟩ c _).mono ?_
  rintro e w2 ⟨rfl, b2⟩
  rw [HJ.out]
  have C2 := Lib.hid (C1.out.call b2)
  clear b2 hca hla hcr hzr hlr
  have hca := C2.out.a.cell
  have hla := C2.out.a.lt
  have hcr : ∀ i, World.cell? _ ⟨w.heap.size + 1, i, none⟩ = _ := C2.out.r.cell
  have hzr : ∀ i, World.frozen? _ ⟨w.heap.size + 1, i, none⟩ = false := C2.out.r.frozen
  have hlr : w.heap.size + 1 < _ := C2.out.r.lt
  have d0 := cell_call c0 C2.out.b
  have d1 := cell_call c1 C2.out.b
  have d2 := cell_call c2 C2.out.b
  have hbw : b < w2.heap.size := by have := C2.out.b.size; omega
  have hbbw : bb < w2.heap.size := by have := C2.out.b.size; omega
  go_wp2_with fail
  refine bodyPost_ret (v := .tuple #[.agg #[.slice px x.d.exits.length pxc, .slice pp x.d.players.length ppc, .slice pc x.d.coins.length pcc, .slice pi x.d.items.length pic, .slice (some ⟨bb, bo, none⟩) x.d.boxes.length pbc, .int .i64 x.d.room, .int .i64 x.d.player, .int .i64 x.d.box, .slice pa x.at_.length pac, .slice pk x.coins.length pkc, .slice (some ⟨b, o, none⟩) x.wher.length pwc], .int .i64 5]) (by simp [results, Try.results11, go_sem, hcr]) rfl ⟨rfl, ?_⟩
  iterate 11 refine Below.setCell ?_ (by show w.heap.size ≤ w.heap.size + 1; omega) _
  exact C2.out.b
set_option maxRecDepth 100000 in
set_option maxHeartbeats 400000 in
theorem rbput_far (hz : plOf x.wher k = ⟨1, (i : Int)⟩) (hn : nearB x i c = false) : Calls Try.prog 11 #[.agg #[.slice px x.d.exits.length pxc, .slice pp x.d.players.length ppc, .slice pc x.d.coins.length pcc, .slice pi x.d.items.length pic, .slice (some ⟨bb, bo, none⟩) x.d.boxes.length pbc, .int .i64 x.d.room, .int .i64 x.d.player, .int .i64 x.d.box, .slice pa x.at_.length pac, .slice pk x.coins.length pkc, .slice (some ⟨b, o, none⟩) x.wher.length pwc], .int .i64 (i : Int), .int .i64 (k : Int), .int .i64 (c : Int)] w fun e w' => e = .returned (.tuple #[.agg #[.slice px x.d.exits.length pxc, .slice pp x.d.players.length ppc, .slice pc x.d.coins.length pcc, .slice pi x.d.items.length pic, .slice (some ⟨bb, bo, none⟩) x.d.boxes.length pbc, .int .i64 x.d.room, .int .i64 x.d.player, .int .i64 x.d.box, .slice pa x.at_.length pac, .slice pk x.coins.length pkc, .slice (some ⟨b, o, none⟩) x.wher.length pwc], .int .i64 5]) ∧ Below w.heap.size w w' := by
  have HN := Lib.hid hn
  clear hn
  have C0 := Lib.hid (Two.start 29 29 w #[.slice px x.d.exits.length pxc, .slice pp x.d.players.length ppc, .slice pc x.d.coins.length pcc, .slice pi x.d.items.length pic, .slice (some ⟨bb, bo, none⟩) x.d.boxes.length pbc, .int .i64 x.d.room, .int .i64 x.d.player, .int .i64 x.d.box, .slice pa x.at_.length pac, .slice pk x.coins.length pkc, .slice (some ⟨b, o, none⟩) x.wher.length pwc] #[.slice none 0 0, .slice none 0 0, .slice none 0 0, .slice none 0 0, .slice none 0 0, .int .i64 0, .int .i64 0, .int .i64 0, .slice none 0 0, .slice none 0 0, .slice none 0 0])
  have H := Lib.hid h
  have HX := Lib.hid hx
  have HT := Lib.hid (right_tr hx)
  have HBL := Lib.hid (show (c : Int) < (x.d.boxes.length : Int) by have := boxes_len10 hx; omega)
  have hlen := h.wh.len
  have hlenb := h.d.bo.len
  have hcb : c < x.d.boxes.length := by have := HBL.out; omega
  have HI := Lib.hid (show inB (k : Int) x.wher.length = true by simp [inB, hk])
  have HJ := Lib.hid (show inB (c : Int) x.wher.length = true by simp [inB, hc])
  have HB := Lib.hid hi
  have HC := Lib.hid hc
  clear h hx hi hc
  generalize plOf x.wher k = z at *
  generalize hgb : x.d.boxes.getD c false = bv at *
  clear hgb
  obtain ⟨zk, zi⟩ := z
  simp only at c0 c1
  have hrun := run_pl zk zi 1 (i : Int)
  simp only [hz, decide_true, Bool.not_true] at hrun
  go_enter Try.func11, Try.ntmps11
  go_wp2_with fail
  refine (is10_any x ⟨⟨px, pxc, pp, ppc, pc, pcc, pi, pic, some ⟨bb, bo, none⟩, pbc⟩, pa, pac, pk, pkc, some ⟨b, o, none⟩, pwc⟩ k _).mono ?_
  rintro e w1 ⟨rfl, b1⟩
  rw [HI.out]
  have C1 := Lib.hid (C0.out.call b1)
  clear b1
  have hca := C1.out.a.cell
  have hla := C1.out.a.lt
  have hcr : ∀ i, World.cell? _ ⟨w.heap.size + 1, i, none⟩ = _ := C1.out.r.cell
  have hzr : ∀ i, World.frozen? _ ⟨w.heap.size + 1, i, none⟩ = false := C1.out.r.frozen
  have hlr : w.heap.size + 1 < _ := C1.out.r.lt
  go_wp2_with fail
  refine (is10_any x ⟨⟨px, pxc, pp, ppc, pc, pcc, pi, pic, some ⟨bb, bo, none⟩, pbc⟩, pa, pac, pk, pkc, some ⟨b, o, none⟩, pwc⟩ c _).mono ?_
  rintro e w2 ⟨rfl, b2⟩
  rw [HJ.out]
  have C2 := Lib.hid (C1.out.call b2)
  clear b2 hca hla hcr hzr hlr
  have hca := C2.out.a.cell
  have hla := C2.out.a.lt
  have hcr : ∀ i, World.cell? _ ⟨w.heap.size + 1, i, none⟩ = _ := C2.out.r.cell
  have hzr : ∀ i, World.frozen? _ ⟨w.heap.size + 1, i, none⟩ = false := C2.out.r.frozen
  have hlr : w.heap.size + 1 < _ := C2.out.r.lt
  have d0 := cell_call c0 C2.out.b
  have d1 := cell_call c1 C2.out.b
  have d2 := cell_call c2 C2.out.b
  have hbw : b < w2.heap.size := by have := C2.out.b.size; omega
  have hbbw : bb < w2.heap.size := by have := C2.out.b.size; omega
  go_wp2_with fail
  refine (refnear_any x ⟨⟨px, pxc, pp, ppc, pc, pcc, pi, pic, some ⟨bb, bo, none⟩, pbc⟩, pa, pac, pk, pkc, some ⟨b, o, none⟩, pwc⟩ i c _ HX.out (H.out.below C2.out.b (Nat.le_refl _)) HB.out HC.out).mono ?_
  rintro e w3 ⟨rfl, b3⟩
  rw [HN.out]
  have C3 := Lib.hid (C2.out.call b3)
  have d0 := cell_call c0 C3.out.b
  have d1 := cell_call c1 C3.out.b
  have d2 := cell_call c2 C3.out.b
  have hbw : b < w3.heap.size := by have := C3.out.b.size; omega
  have hbbw : bb < w3.heap.size := by have := C3.out.b.size; omega
  clear b3 hca hla hcr hzr hlr
  have hca := C3.out.a.cell
  have hla := C3.out.a.lt
  have hcr : ∀ i, World.cell? _ ⟨w.heap.size + 1, i, none⟩ = _ := C3.out.r.cell
  have hzr : ∀ i, World.frozen? _ ⟨w.heap.size + 1, i, none⟩ = false := C3.out.r.frozen
  have hlr : w.heap.size + 1 < _ := C3.out.r.lt
  go_wp2_with fail
  refine bodyPost_ret (v := .tuple #[.agg #[.slice px x.d.exits.length pxc, .slice pp x.d.players.length ppc, .slice pc x.d.coins.length pcc, .slice pi x.d.items.length pic, .slice (some ⟨bb, bo, none⟩) x.d.boxes.length pbc, .int .i64 x.d.room, .int .i64 x.d.player, .int .i64 x.d.box, .slice pa x.at_.length pac, .slice pk x.coins.length pkc, .slice (some ⟨b, o, none⟩) x.wher.length pwc], .int .i64 5]) (by simp [results, Try.results11, go_sem, hcr]) rfl ⟨rfl, ?_⟩
  iterate 11 refine Below.setCell ?_ (by show w.heap.size ≤ w.heap.size + 1; omega) _
  exact C3.out.b
set_option maxRecDepth 100000 in
set_option maxHeartbeats 400000 in
theorem rbput_nobox (hz : plOf x.wher k = ⟨1, (i : Int)⟩) (hn : nearB x i c = true) (hv : x.d.boxes.getD c false = false) : Calls Try.prog 11 #[.agg #[.slice px x.d.exits.length pxc, .slice pp x.d.players.length ppc, .slice pc x.d.coins.length pcc, .slice pi x.d.items.length pic, .slice (some ⟨bb, bo, none⟩) x.d.boxes.length pbc, .int .i64 x.d.room, .int .i64 x.d.player, .int .i64 x.d.box, .slice pa x.at_.length pac, .slice pk x.coins.length pkc, .slice (some ⟨b, o, none⟩) x.wher.length pwc], .int .i64 (i : Int), .int .i64 (k : Int), .int .i64 (c : Int)] w fun e w' => e = .returned (.tuple #[.agg #[.slice px x.d.exits.length pxc, .slice pp x.d.players.length ppc, .slice pc x.d.coins.length pcc, .slice pi x.d.items.length pic, .slice (some ⟨bb, bo, none⟩) x.d.boxes.length pbc, .int .i64 x.d.room, .int .i64 x.d.player, .int .i64 x.d.box, .slice pa x.at_.length pac, .slice pk x.coins.length pkc, .slice (some ⟨b, o, none⟩) x.wher.length pwc], .int .i64 6]) ∧ Below w.heap.size w w' := by
  have HN := Lib.hid hn
  clear hn
  have C0 := Lib.hid (Two.start 29 29 w #[.slice px x.d.exits.length pxc, .slice pp x.d.players.length ppc, .slice pc x.d.coins.length pcc, .slice pi x.d.items.length pic, .slice (some ⟨bb, bo, none⟩) x.d.boxes.length pbc, .int .i64 x.d.room, .int .i64 x.d.player, .int .i64 x.d.box, .slice pa x.at_.length pac, .slice pk x.coins.length pkc, .slice (some ⟨b, o, none⟩) x.wher.length pwc] #[.slice none 0 0, .slice none 0 0, .slice none 0 0, .slice none 0 0, .slice none 0 0, .int .i64 0, .int .i64 0, .int .i64 0, .slice none 0 0, .slice none 0 0, .slice none 0 0])
  have H := Lib.hid h
  have HX := Lib.hid hx
  have HT := Lib.hid (right_tr hx)
  have HBL := Lib.hid (show (c : Int) < (x.d.boxes.length : Int) by have := boxes_len10 hx; omega)
  have hlen := h.wh.len
  have hlenb := h.d.bo.len
  have hcb : c < x.d.boxes.length := by have := HBL.out; omega
  have HI := Lib.hid (show inB (k : Int) x.wher.length = true by simp [inB, hk])
  have HJ := Lib.hid (show inB (c : Int) x.wher.length = true by simp [inB, hc])
  have HB := Lib.hid hi
  have HC := Lib.hid hc
  clear h hx hi hc
  generalize plOf x.wher k = z at *
  generalize hgb : x.d.boxes.getD c false = bv at *
  clear hgb
  obtain ⟨zk, zi⟩ := z
  simp only at c0 c1
  have hrun := run_pl zk zi 1 (i : Int)
  simp only [hz, decide_true, Bool.not_true] at hrun
  go_enter Try.func11, Try.ntmps11
  go_wp2_with fail
  refine (is10_any x ⟨⟨px, pxc, pp, ppc, pc, pcc, pi, pic, some ⟨bb, bo, none⟩, pbc⟩, pa, pac, pk, pkc, some ⟨b, o, none⟩, pwc⟩ k _).mono ?_
  rintro e w1 ⟨rfl, b1⟩
  rw [HI.out]
  have C1 := Lib.hid (C0.out.call b1)
  clear b1
  have hca := C1.out.a.cell
  have hla := C1.out.a.lt
  have hcr : ∀ i, World.cell? _ ⟨w.heap.size + 1, i, none⟩ = _ := C1.out.r.cell
  have hzr : ∀ i, World.frozen? _ ⟨w.heap.size + 1, i, none⟩ = false := C1.out.r.frozen
  have hlr : w.heap.size + 1 < _ := C1.out.r.lt
  go_wp2_with fail
  refine (is10_any x ⟨⟨px, pxc, pp, ppc, pc, pcc, pi, pic, some ⟨bb, bo, none⟩, pbc⟩, pa, pac, pk, pkc, some ⟨b, o, none⟩, pwc⟩ c _).mono ?_
  rintro e w2 ⟨rfl, b2⟩
  rw [HJ.out]
  have C2 := Lib.hid (C1.out.call b2)
  clear b2 hca hla hcr hzr hlr
  have hca := C2.out.a.cell
  have hla := C2.out.a.lt
  have hcr : ∀ i, World.cell? _ ⟨w.heap.size + 1, i, none⟩ = _ := C2.out.r.cell
  have hzr : ∀ i, World.frozen? _ ⟨w.heap.size + 1, i, none⟩ = false := C2.out.r.frozen
  have hlr : w.heap.size + 1 < _ := C2.out.r.lt
  have d0 := cell_call c0 C2.out.b
  have d1 := cell_call c1 C2.out.b
  have d2 := cell_call c2 C2.out.b
  have hbw : b < w2.heap.size := by have := C2.out.b.size; omega
  have hbbw : bb < w2.heap.size := by have := C2.out.b.size; omega
  go_wp2_with fail
  refine (refnear_any x ⟨⟨px, pxc, pp, ppc, pc, pcc, pi, pic, some ⟨bb, bo, none⟩, pbc⟩, pa, pac, pk, pkc, some ⟨b, o, none⟩, pwc⟩ i c _ HX.out (H.out.below C2.out.b (Nat.le_refl _)) HB.out HC.out).mono ?_
  rintro e w3 ⟨rfl, b3⟩
  rw [HN.out]
  have C3 := Lib.hid (C2.out.call b3)
  have d0 := cell_call c0 C3.out.b
  have d1 := cell_call c1 C3.out.b
  have d2 := cell_call c2 C3.out.b
  have hbw : b < w3.heap.size := by have := C3.out.b.size; omega
  have hbbw : bb < w3.heap.size := by have := C3.out.b.size; omega
  clear b3 hca hla hcr hzr hlr
  have hca := C3.out.a.cell
  have hla := C3.out.a.lt
  have hcr : ∀ i, World.cell? _ ⟨w.heap.size + 1, i, none⟩ = _ := C3.out.r.cell
  have hzr : ∀ i, World.frozen? _ ⟨w.heap.size + 1, i, none⟩ = false := C3.out.r.frozen
  have hlr : w.heap.size + 1 < _ := C3.out.r.lt
  go_wp2_with fail
  refine bodyPost_ret (v := .tuple #[.agg #[.slice px x.d.exits.length pxc, .slice pp x.d.players.length ppc, .slice pc x.d.coins.length pcc, .slice pi x.d.items.length pic, .slice (some ⟨bb, bo, none⟩) x.d.boxes.length pbc, .int .i64 x.d.room, .int .i64 x.d.player, .int .i64 x.d.box, .slice pa x.at_.length pac, .slice pk x.coins.length pkc, .slice (some ⟨b, o, none⟩) x.wher.length pwc], .int .i64 6]) (by simp [results, Try.results11, go_sem, hcr]) rfl ⟨rfl, ?_⟩
  iterate 11 refine Below.setCell ?_ (by show w.heap.size ≤ w.heap.size + 1; omega) _
  exact C3.out.b
set_option maxRecDepth 100000 in
set_option maxHeartbeats 400000 in
theorem rbput_loop (hz : plOf x.wher k = ⟨1, (i : Int)⟩) (hn : nearB x i c = true) (hv : x.d.boxes.getD c false = true) (hw : wB x.wher c k = true) : Calls Try.prog 11 #[.agg #[.slice px x.d.exits.length pxc, .slice pp x.d.players.length ppc, .slice pc x.d.coins.length pcc, .slice pi x.d.items.length pic, .slice (some ⟨bb, bo, none⟩) x.d.boxes.length pbc, .int .i64 x.d.room, .int .i64 x.d.player, .int .i64 x.d.box, .slice pa x.at_.length pac, .slice pk x.coins.length pkc, .slice (some ⟨b, o, none⟩) x.wher.length pwc], .int .i64 (i : Int), .int .i64 (k : Int), .int .i64 (c : Int)] w fun e w' => e = .returned (.tuple #[.agg #[.slice px x.d.exits.length pxc, .slice pp x.d.players.length ppc, .slice pc x.d.coins.length pcc, .slice pi x.d.items.length pic, .slice (some ⟨bb, bo, none⟩) x.d.boxes.length pbc, .int .i64 x.d.room, .int .i64 x.d.player, .int .i64 x.d.box, .slice pa x.at_.length pac, .slice pk x.coins.length pkc, .slice (some ⟨b, o, none⟩) x.wher.length pwc], .int .i64 7]) ∧ Below w.heap.size w w' := by
  have HN := Lib.hid hn
  clear hn
  have HW := Lib.hid hw
  clear hw
  have C0 := Lib.hid (Two.start 29 29 w #[.slice px x.d.exits.length pxc, .slice pp x.d.players.length ppc, .slice pc x.d.coins.length pcc, .slice pi x.d.items.length pic, .slice (some ⟨bb, bo, none⟩) x.d.boxes.length pbc, .int .i64 x.d.room, .int .i64 x.d.player, .int .i64 x.d.box, .slice pa x.at_.length pac, .slice pk x.coins.length pkc, .slice (some ⟨b, o, none⟩) x.wher.length pwc] #[.slice none 0 0, .slice none 0 0, .slice none 0 0, .slice none 0 0, .slice none 0 0, .int .i64 0, .int .i64 0, .int .i64 0, .slice none 0 0, .slice none 0 0, .slice none 0 0])
  have H := Lib.hid h
  have HX := Lib.hid hx
  have HT := Lib.hid (right_tr hx)
  have HBL := Lib.hid (show (c : Int) < (x.d.boxes.length : Int) by have := boxes_len10 hx; omega)
  have hlen := h.wh.len
  have hlenb := h.d.bo.len
  have hcb : c < x.d.boxes.length := by have := HBL.out; omega
  have HI := Lib.hid (show inB (k : Int) x.wher.length = true by simp [inB, hk])
  have HJ := Lib.hid (show inB (c : Int) x.wher.length = true by simp [inB, hc])
  have HB := Lib.hid hi
  have HC := Lib.hid hc
  clear h hx hi hc
  generalize plOf x.wher k = z at *
  generalize hgb : x.d.boxes.getD c false = bv at *
  clear hgb
  obtain ⟨zk, zi⟩ := z
  simp only at c0 c1
  have hrun := run_pl zk zi 1 (i : Int)
  simp only [hz, decide_true, Bool.not_true] at hrun
  go_enter Try.func11, Try.ntmps11
  go_wp2_with fail
  refine (is10_any x ⟨⟨px, pxc, pp, ppc, pc, pcc, pi, pic, some ⟨bb, bo, none⟩, pbc⟩, pa, pac, pk, pkc, some ⟨b, o, none⟩, pwc⟩ k _).mono ?_
  rintro e w1 ⟨rfl, b1⟩
  rw [HI.out]
  have C1 := Lib.hid (C0.out.call b1)
  clear b1
  have hca := C1.out.a.cell
  have hla := C1.out.a.lt
  have hcr : ∀ i, World.cell? _ ⟨w.heap.size + 1, i, none⟩ = _ := C1.out.r.cell
  have hzr : ∀ i, World.frozen? _ ⟨w.heap.size + 1, i, none⟩ = false := C1.out.r.frozen
  have hlr : w.heap.size + 1 < _ := C1.out.r.lt
  go_wp2_with fail
  refine (is10_any x ⟨⟨px, pxc, pp, ppc, pc, pcc, pi, pic, some ⟨bb, bo, none⟩, pbc⟩, pa, pac, pk, pkc, some ⟨b, o, none⟩, pwc⟩ c _).mono ?_
  rintro e w2 ⟨rfl, b2⟩
  rw [HJ.out]
  have C2 := Lib.hid (C1.out.call b2)
  clear b2 hca hla hcr hzr hlr
  have hca := C2.out.a.cell
  have hla := C2.out.a.lt
  have hcr : ∀ i, World.cell? _ ⟨w.heap.size + 1, i, none⟩ = _ := C2.out.r.cell
  have hzr : ∀ i, World.frozen? _ ⟨w.heap.size + 1, i, none⟩ = false := C2.out.r.frozen
  have hlr : w.heap.size + 1 < _ := C2.out.r.lt
  have d0 := cell_call c0 C2.out.b
  have d1 := cell_call c1 C2.out.b
  have d2 := cell_call c2 C2.out.b
  have hbw : b < w2.heap.size := by have := C2.out.b.size; omega
  have hbbw : bb < w2.heap.size := by have := C2.out.b.size; omega
  go_wp2_with fail
  refine (refnear_any x ⟨⟨px, pxc, pp, ppc, pc, pcc, pi, pic, some ⟨bb, bo, none⟩, pbc⟩, pa, pac, pk, pkc, some ⟨b, o, none⟩, pwc⟩ i c _ HX.out (H.out.below C2.out.b (Nat.le_refl _)) HB.out HC.out).mono ?_
  rintro e w3 ⟨rfl, b3⟩
  rw [HN.out]
  have C3 := Lib.hid (C2.out.call b3)
  have d0 := cell_call c0 C3.out.b
  have d1 := cell_call c1 C3.out.b
  have d2 := cell_call c2 C3.out.b
  have hbw : b < w3.heap.size := by have := C3.out.b.size; omega
  have hbbw : bb < w3.heap.size := by have := C3.out.b.size; omega
  clear b3 hca hla hcr hzr hlr
  have hca := C3.out.a.cell
  have hla := C3.out.a.lt
  have hcr : ∀ i, World.cell? _ ⟨w.heap.size + 1, i, none⟩ = _ := C3.out.r.cell
  have hzr : ∀ i, World.frozen? _ ⟨w.heap.size + 1, i, none⟩ = false := C3.out.r.frozen
  have hlr : w.heap.size + 1 < _ := C3.out.r.lt
  go_wp2_with fail
  refine (refwithin_any x ⟨⟨px, pxc, pp, ppc, pc, pcc, pi, pic, some ⟨bb, bo, none⟩, pbc⟩, pa, pac, pk, pkc, some ⟨b, o, none⟩, pwc⟩ HT.out c k HC.out _ (H.out.below C3.out.b (Nat.le_refl _)).wh).mono ?_
  rintro e w4 ⟨rfl, b4⟩
  rw [HW.out]
  have C4 := Lib.hid (C3.out.call b4)
  clear b4 hca hla hcr hzr hlr
  have hca := C4.out.a.cell
  have hla := C4.out.a.lt
  have hcr : ∀ i, World.cell? _ ⟨w.heap.size + 1, i, none⟩ = _ := C4.out.r.cell
  have hzr : ∀ i, World.frozen? _ ⟨w.heap.size + 1, i, none⟩ = false := C4.out.r.frozen
  have hlr : w.heap.size + 1 < _ := C4.out.r.lt
  go_wp2_with fail
  refine bodyPost_ret (v := .tuple #[.agg #[.slice px x.d.exits.length pxc, .slice pp x.d.players.length ppc, .slice pc x.d.coins.length pcc, .slice pi x.d.items.length pic, .slice (some ⟨bb, bo, none⟩) x.d.boxes.length pbc, .int .i64 x.d.room, .int .i64 x.d.player, .int .i64 x.d.box, .slice pa x.at_.length pac, .slice pk x.coins.length pkc, .slice (some ⟨b, o, none⟩) x.wher.length pwc], .int .i64 7]) (by simp [results, Try.results11, go_sem, hcr]) rfl ⟨rfl, ?_⟩
  iterate 11 refine Below.setCell ?_ (by show w.heap.size ≤ w.heap.size + 1; omega) _
  exact C4.out.b
end
end Go.Proofs.Ytdmfbbcidcfcjaa
