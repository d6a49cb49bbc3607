/- The document's own Put: what is put into a box, too deep, too full, or there. -/
import Derived.Test.YtdmfbbcidcfcjaaRows
import Derived.Test.YtdmfbbcidcfcjaaKit
import Derived.Test.YtdmfbbcidcfcjaaGMem
import Derived.Test.YtdmfbbcidcfcjaaCoin
import Derived.Test.YtdmfbbcidcfcjaaGWorld
import Derived.Test.YtdmfbbcidcfcjaaDescMay
import Derived.Test.YtdmfbbcidcfcjaaGDescN
import Derived.Test.YtdmfbbcidcfcjaaGRight
import Derived.Test.YtdmfbbcidcfcjaaGCopy
import Derived.Test.YtdmfbbcidcfcjaaGRefD
import Derived.Test.YtdmfbbcidcfcjaaGEq
import Derived.Test.YtdmfbbcidcfcjaaGAs
import Derived.Test.YtdmfbbcidcfcjaaGNew
import Derived.Test.YtdmfbbcidcfcjaaGTreeL
import Derived.Test.YtdmfbbcidcfcjaaTreeRefA
import Derived.Test.YtdmfbbcidcfcjaaGHoldA
import Derived.Test.YtdmfbbcidcfcjaaHoldD
import Derived.Test.YtdmfbbcidcfcjaaHoldE
import Derived.Test.YtdmfbbcidcfcjaaGBoxM
import Derived.Test.YtdmfbbcidcfcjaaBoxE
import Derived.Test.YtdmfbbcidcfcjaaBoxF
import Derived.Deep.QuietTactic
import Derived.BigQuiet
import Derived.Deep.RegionHeld3
import Derived.WalkKit
import Derived.ProofKit
import Derived.OpenShut
import Derived.IntWalk
namespace Go.Proofs.Ytdmfbbcidcfcjaa
open Go.ChangeShapes Go.WideShapes Go.ChangeAt Go.RowKit
set_option linter.unusedVariables false
open Go.RowKit
section
variable (x : Wd) (px pp pc pi pa pk : Option Addr) (pxc ppc pcc pic bb bo pbc pac pkc b o pwc : Nat) (i k c : Nat) (w : World) (hx : rightW x = true) (h : WorldAt w ⟨⟨px, pxc, pp, ppc, pc, pcc, pi, pic, some ⟨bb, bo, none⟩, pbc⟩, pa, pac, pk, pkc, some ⟨b, o, none⟩, pwc⟩ x) (hi : i < x.at_.length) (hk : k < x.wher.length) (hc : c < x.wher.length) (hbb : bb < w.heap.size) (hb : b < w.heap.size)
  (c0 : w.cell? ⟨b, o + k * 2, none⟩ = some (.int .i64 (plOf x.wher k).kind)) (c1 : w.cell? ⟨b, o + k * 2 + 1, none⟩ = some (.int .i64 (plOf x.wher k).id)) (c2 : w.cell? ⟨bb, bo + c, none⟩ = some (.bool (x.d.boxes.getD c false)))
include hx h hi hk hc hbb hb c0 c1 c2
set_option maxRecDepth 100000 in
set_option maxHeartbeats 1000000 in
theorem rbput_go (hz : plOf x.wher k = ⟨1, (i : Int)⟩) (hn : nearB x i c = true) (hv : x.d.boxes.getD c false = true) (hw : wB x.wher c k = false) : Calls Try.prog 11 #[.agg #[.slice px x.d.exits.length pxc, .slice pp x.d.players.length ppc, .slice pc x.d.coins.length pcc, .slice pi x.d.items.length pic, .slice (some ⟨bb, bo, none⟩) x.d.boxes.length pbc, .int .i64 x.d.room, .int .i64 x.d.player, .int .i64 x.d.box, .slice pa x.at_.length pac, .slice pk x.coins.length pkc, .slice (some ⟨b, o, none⟩) x.wher.length pwc], .int .i64 (i : Int), .int .i64 (k : Int), .int .i64 (c : Int)] w fun e w' => ∃ q : Wp, e = .returned (.tuple #[.agg #[.slice q.d.ex x.d.exits.length q.d.exc, .slice q.d.pl x.d.players.length q.d.plc, .slice q.d.co x.d.coins.length q.d.coc, .slice q.d.it x.d.items.length q.d.itc, .slice q.d.bo x.d.boxes.length q.d.boc, .int .i64 x.d.room, .int .i64 x.d.player, .int .i64 x.d.box, .slice q.at_ x.at_.length q.atc, .slice q.co x.coins.length q.coc, .slice q.wh x.wher.length q.whc], .int .i64 (boxW x i k c).2]) ∧ RTook w.heap.size w' ⟨⟨px, pxc, pp, ppc, pc, pcc, pi, pic, some ⟨bb, bo, none⟩, pbc⟩, pa, pac, pk, pkc, some ⟨b, o, none⟩, pwc⟩ q x (boxW x i k c) ∧ Below w.heap.size w w' := by
  have HEQ := Lib.hid (show boxW x i k c = if 4 < dep x.wher c + 1 + hgt x.wher k then (x, 8) else if roomI x (box c) = 0 then (x, 9) else (putW x k (box c), 0) by
    unfold boxW
    simp only [Int.toNat_natCast]
    rw [if_neg (by simp [inB, hk, hc]), if_neg (by simp [hz, hn]), if_neg (by rw [hv]; simp), if_neg (by rw [hw]; simp)])
  have HDI := Lib.hid (deep_iff (ps := x.wher) (k := k) (b := c) (right_tr hx) hk)
  have HDP := Lib.hid (fun n (hn : n < x.wher.length) => depth_put (ps := x.wher) (k := k) (b := c) (right_tr hx) hk hc hw hn)
  have HDL := Lib.hid (fun n (hn : n < x.wher.length) => depN_le (ps := x.wher) (k := k) (b := c) (right_tr hx) hc hn)
  have HBI := Lib.hid (boxesin_put (ps := x.wher) (k := k) (b := c) (right_tr hx) hc)
  have HK := Lib.hid hk
  have HN := Lib.hid hn
  clear hn
  have HW := Lib.hid hw
  clear hw
  have C0 := Lib.hid (Two.start 29 29 w #[.slice px x.d.exits.length pxc, .slice pp x.d.players.length ppc, .slice pc x.d.coins.length pcc, .slice pi x.d.items.length pic, .slice (some ⟨bb, bo, none⟩) x.d.boxes.length pbc, .int .i64 x.d.room, .int .i64 x.d.player, .int .i64 x.d.box, .slice pa x.at_.length pac, .slice pk x.coins.length pkc, .slice (some ⟨b, o, none⟩) x.wher.length pwc] #[.slice none 0 0, .slice none 0 0, .slice none 0 0, .slice none 0 0, .slice none 0 0, .int .i64 0, .int .i64 0, .int .i64 0, .slice none 0 0, .slice none 0 0, .slice none 0 0])
  have H := Lib.hid h
  have HX := Lib.hid hx
  have HT := Lib.hid (right_tr hx)
  have HBL := Lib.hid (show (c : Int) < (x.d.boxes.length : Int) by have := boxes_len10 hx; omega)
  have hlen := h.wh.len
  have hlenb := h.d.bo.len
  have hcb : c < x.d.boxes.length := by have := HBL.out; omega
  have HI := Lib.hid (show inB (k : Int) x.wher.length = true by simp [inB, hk])
  have HJ := Lib.hid (show inB (c : Int) x.wher.length = true by simp [inB, hc])
  have HB := Lib.hid hi
  have HC := Lib.hid hc
  clear h hx hi hc
  generalize plOf x.wher k = z at *
  generalize hgb : x.d.boxes.getD c false = bv at *
  clear hgb
  obtain ⟨zk, zi⟩ := z
  simp only at c0 c1
  have hrun := run_pl zk zi 1 (i : Int)
  simp only [hz, decide_true, Bool.not_true] at hrun
  go_enter Try.func11, Try.ntmps11
  go_wp2_with fail
  refine (is10_any x ⟨⟨px, pxc, pp, ppc, pc, pcc, pi, pic, some ⟨bb, bo, none⟩, pbc⟩, pa, pac, pk, pkc, some ⟨b, o, none⟩, pwc⟩ k _).mono ?_
  rintro e w1 ⟨rfl, b1⟩
  rw [HI.out]
  have C1 := Lib.hid (C0.out.call b1)
  clear b1
  have hca := C1.out.a.cell
  have hla := C1.out.a.lt
  have hcr : ∀ i, World.cell? _ ⟨w.heap.size + 1, i, none⟩ = _ := C1.out.r.cell
  have hzr : ∀ i, World.frozen? _ ⟨w.heap.size + 1, i, none⟩ = false := C1.out.r.frozen
  have hlr : w.heap.size + 1 < _ := C1.out.r.lt
  go_wp2_with fail
  refine (is10_any x ⟨⟨px, pxc, pp, ppc, pc, pcc, pi, pic, some ⟨bb, bo, none⟩, pbc⟩, pa, pac, pk, pkc, some ⟨b, o, none⟩, pwc⟩ c _).mono ?_
  rintro e w2 ⟨rfl, b2⟩
  rw [HJ.out]
  have C2 := Lib.hid (C1.out.call b2)
  clear b2 hca hla hcr hzr hlr
  have hca := C2.out.a.cell
  have hla := C2.out.a.lt
  have hcr : ∀ i, World.cell? _ ⟨w.heap.size + 1, i, none⟩ = _ := C2.out.r.cell
  have hzr : ∀ i, World.frozen? _ ⟨w.heap.size + 1, i, none⟩ = false := C2.out.r.frozen
  have hlr : w.heap.size + 1 < _ := C2.out.r.lt
  have d0 := cell_call c0 C2.out.b
  have d1 := cell_call c1 C2.out.b
  have d2 := cell_call c2 C2.out.b
  have hbw : b < w2.heap.size := by have := C2.out.b.size; omega
  have hbbw : bb < w2.heap.size := by have := C2.out.b.size; omega
  go_wp2_with fail
  refine (refnear_any x ⟨⟨px, pxc, pp, ppc, pc, pcc, pi, pic, some ⟨bb, bo, none⟩, pbc⟩, pa, pac, pk, pkc, some ⟨b, o, none⟩, pwc⟩ i c _ HX.out (H.out.below C2.out.b (Nat.le_refl _)) HB.out HC.out).mono ?_
  rintro e w3 ⟨rfl, b3⟩
  rw [HN.out]
  have C3 := Lib.hid (C2.out.call b3)
  have d0 := cell_call c0 C3.out.b
  have d1 := cell_call c1 C3.out.b
  have d2 := cell_call c2 C3.out.b
  have hbw : b < w3.heap.size := by have := C3.out.b.size; omega
  have hbbw : bb < w3.heap.size := by have := C3.out.b.size; omega
  clear b3 hca hla hcr hzr hlr
  have hca := C3.out.a.cell
  have hla := C3.out.a.lt
  have hcr : ∀ i, World.cell? _ ⟨w.heap.size + 1, i, none⟩ = _ := C3.out.r.cell
  have hzr : ∀ i, World.frozen? _ ⟨w.heap.size + 1, i, none⟩ = false := C3.out.r.frozen
  have hlr : w.heap.size + 1 < _ := C3.out.r.lt
  go_wp2_with fail
  refine (refwithin_any x ⟨⟨px, pxc, pp, ppc, pc, pcc, pi, pic, some ⟨bb, bo, none⟩, pbc⟩, pa, pac, pk, pkc, some ⟨b, o, none⟩, pwc⟩ HT.out c k HC.out _ (H.out.below C3.out.b (Nat.le_refl _)).wh).mono ?_
  rintro e w4 ⟨rfl, b4⟩
  rw [HW.out]
  have C4 := Lib.hid (C3.out.call b4)
  clear b4 hca hla hcr hzr hlr
  have hca := C4.out.a.cell
  have hla := C4.out.a.lt
  have hcr : ∀ i, World.cell? _ ⟨w.heap.size + 1, i, none⟩ = _ := C4.out.r.cell
  have hzr : ∀ i, World.frozen? _ ⟨w.heap.size + 1, i, none⟩ = false := C4.out.r.frozen
  have hlr : w.heap.size + 1 < _ := C4.out.r.lt
  go_wp2_with fail
  refine (refto_bx x ⟨⟨px, pxc, pp, ppc, pc, pcc, pi, pic, some ⟨bb, bo, none⟩, pbc⟩, pa, pac, pk, pkc, some ⟨b, o, none⟩, pwc⟩ k c _ (H.out.below C4.out.b (Nat.le_refl _)) (right_fewW9 HX.out) hk).mono ?_
  rintro e w5 ⟨⟨qd, qa, qac, qk, qkc, qw, qwc⟩, rfl, ho, b5⟩
  have hqd := ho.1
  simp only at hqd
  subst hqd
  obtain ⟨g, hqw, hg0, hg1, -⟩ := ho.putPlace (k := k) (by show k < (x.wher.set k _).length; simpa using hk)
  simp only at hqw
  subst hqw
  have C5 := Lib.hid (C4.out.call b5)
  have HO5 := Lib.hid (ho.less C4.out.size)
  clear b5 ho hca hla hcr hzr hlr hg0 hg1 hz c0 c1 c2 d0 d1 d2 hbw hbbw hrun hv
  have D6 := Lib.hid (Blk.newn w5 29 #[.slice px x.d.exits.length pxc, .slice pp x.d.players.length ppc, .slice pc x.d.coins.length pcc, .slice pi x.d.items.length pic, .slice (some ⟨bb, bo, none⟩) x.d.boxes.length pbc, .int .i64 x.d.room, .int .i64 x.d.player, .int .i64 x.d.box, .slice qa x.at_.length qac, .slice qk x.coins.length qkc, .slice (some ⟨g, 0, none⟩) x.wher.length qwc] (n := w5.heap.size) rfl)
  have C6 := Lib.hid (C5.out.alloc (.cells #[.slice px x.d.exits.length pxc, .slice pp x.d.players.length ppc, .slice pc x.d.coins.length pcc, .slice pi x.d.items.length pic, .slice (some ⟨bb, bo, none⟩) x.d.boxes.length pbc, .int .i64 x.d.room, .int .i64 x.d.player, .int .i64 x.d.box, .slice qa x.at_.length qac, .slice qk x.coins.length qkc, .slice (some ⟨g, 0, none⟩) x.wher.length qwc] 29))
  have HO6 := Lib.hid (HO5.out.alloc (.cells #[.slice px x.d.exits.length pxc, .slice pp x.d.players.length ppc, .slice pc x.d.coins.length pcc, .slice pi x.d.items.length pic, .slice (some ⟨bb, bo, none⟩) x.d.boxes.length pbc, .int .i64 x.d.room, .int .i64 x.d.player, .int .i64 x.d.box, .slice qa x.at_.length qac, .slice qk x.coins.length qkc, .slice (some ⟨g, 0, none⟩) x.wher.length qwc] 29))
  clear C0 C1 C2 C3 C4 HO5
  go_wp2_with fail
  generalize w5.alloc (.cells #[.slice px x.d.exits.length pxc, .slice pp x.d.players.length ppc, .slice pc x.d.coins.length pcc, .slice pi x.d.items.length pic, .slice (some ⟨bb, bo, none⟩) x.d.boxes.length pbc, .int .i64 x.d.room, .int .i64 x.d.player, .int .i64 x.d.box, .slice qa x.at_.length qac, .slice qk x.coins.length qkc, .slice (some ⟨g, 0, none⟩) x.wher.length qwc] 29) = W0 at *
  have hlx : x.wher.length ≤ 40 := by have := (right_lens HX.out).2.2.2.1; omega
  go_loopw [11] (fun n wr => ∃ m : Nat, m ≤ x.wher.length ∧ n = .int .i64 m ∧ (∀ l, l < m → depN x.wher k c l ≤ 4) ∧ Below W0.heap.size W0 wr) (fun n _ => x.wher.length - (intOf n).toNat)
  case atStart => exact ⟨0, by omega, rfl, fun l hl => by omega, Below.refl _ _⟩
  case round =>
    obtain ⟨m, hm, rfl, hall, hB⟩ := hrel
    have HA := Lib.hid hall
    have HBB := Lib.hid hB
    have C7 := Lib.hid (C6.out.call hB)
    have D7 := Lib.hid (D6.out.call hB)
    have HO7 := Lib.hid (HO6.out.call hB)
    clear hall hB
    have hcd := D7.out.cell
    have hld := D7.out.lt
    by_cases hml : m < x.wher.length
    · have HY := Lib.hid (HO7.out.new.world' (x := putW x k (box c)) H.out.d C7.out.b)
      have hml2 : m < (putW x k (box c)).wher.length := by show m < (x.wher.set k _).length; simpa using hml
      obtain ⟨g2, o2, ea, hg2, e0, e1⟩ := PlsAt.cells HY.out.wh hml2
      simp only [Option.some.injEq, Addr.mk.injEq, and_true] at ea
      obtain ⟨rfl, rfl⟩ := ea
      have HV := Lib.hid (HBI.out _ (List.getElem_mem hml2))
      have HP := Lib.hid (HDP.out m hml)
      have HL := Lib.hid (HDL.out m hml)
      rw [show (putW x k (box c)).wher[m] = plOf (x.wher.set k (box c)) m from (plOf_get hml2).symm] at e0 e1
      have HV2 := Lib.hid (show (plOf (x.wher.set k (box c)) m).kind = 2 → 0 ≤ (plOf (x.wher.set k (box c)) m).id ∧ (plOf (x.wher.set k (box c)) m).id < (putW x k (box c)).wher.length by have h := HV.out; rw [show (putW x k (box c)).wher[m] = plOf (x.wher.set k (box c)) m from (plOf_get hml2).symm] at h; exact h)
      clear HV hml2
      generalize plOf (x.wher.set k (box c)) m = v at *
      obtain ⟨vk, vi⟩ := v
      simp only [Nat.zero_add] at e0 e1
      obtain ⟨de, hde⟩ : ∃ de, de = depN x.wher k c m := ⟨_, rfl⟩
      have HDE := Lib.hid hde
      rw [← hde] at HP HL
      clear hde
      have HYD := Lib.hid (HY.out.call (bdrew1 (Below.refl _ _)))
      have CD := Lib.hid C7.out.drew
      by_cases hd4 : 4 < de
      · have hd5 : (4 : Int) < (de : Int) := by omega
        go_wp2_with fail
        refine wp_region_noPanic ?_
        refine wp_region_held_drew (S := (fun w' => (∀ j, w'.cell? ⟨w5.heap.size, j, none⟩ = (#[.slice px x.d.exits.length pxc, .slice pp x.d.players.length ppc, .slice pc x.d.coins.length pcc, .slice pi x.d.items.length pic, .slice (some ⟨bb, bo, none⟩) x.d.boxes.length pbc, .int .i64 x.d.room, .int .i64 x.d.player, .int .i64 x.d.box, .slice qa x.at_.length qac, .slice qk x.coins.length qkc, .slice (some ⟨g, 0, none⟩) x.wher.length qwc][j]? : Option Value)) ∧ w'.cell? ⟨g, m * 2, none⟩ = some (.int .i64 vk) ∧ w'.cell? ⟨g, m * 2 + 1, none⟩ = some (.int .i64 vi))) (by kernel_rfl) (by (first | (exact ⟨hcd, e0, e1⟩) | (with_reducible exact ⟨(D7.out.drew.call hb8).cell, cell_call hHeld.2.1 hb8, cell_call hHeld.2.2 hb8⟩))) (fun hHeld => ?_)
        refine wpAnyH_take (i := 0) (v := ?_) (by simp only [List.getElem?_toArray, List.getElem?_cons_zero]; rfl) (by kernel_rfl) (by kernel_rfl) (by kernel_rfl) (fun _ _ _ h => h) (Or.inl ⟨by rfl, ?_⟩) (by assumption) ?_
        rotate_left
        · (intro ww hSw; (try dsimp only at hSw); go_simp; (try with_reducible rfl))
        try simp only [Act.put, List.setIfInBounds_toArray, List.set_cons_zero, List.set_cons_succ]
        refine wpAnyH_take (i := 1) (v := ?_) (by simp only [List.getElem?_toArray, List.getElem?_cons_succ, List.getElem?_cons_zero]; rfl) (by kernel_rfl) (by kernel_rfl) (by kernel_rfl) (fun _ _ _ h => h) (Or.inl ⟨by rfl, ?_⟩) (by assumption) ?_
        rotate_left
        · (intro ww hSw; (try dsimp only at hSw); go_simp; (try with_reducible rfl))
        try simp only [Act.put, List.setIfInBounds_toArray, List.set_cons_zero, List.set_cons_succ]
        refine wpAnyH_take (i := 2) (v := ?_) (by simp only [List.getElem?_toArray, List.getElem?_cons_succ, List.getElem?_cons_zero]; rfl) (by kernel_rfl) (by kernel_rfl) (by kernel_rfl) (fun _ _ _ h => h) (Or.inl ⟨by rfl, ?_⟩) (by assumption) ?_
        rotate_left
        · (intro ww hSw; (try dsimp only at hSw); go_simp; (try with_reducible rfl))
        try simp only [Act.put, List.setIfInBounds_toArray, List.set_cons_zero, List.set_cons_succ]
        refine wpAnyH_take (i := 3) (v := ?_) (by simp only [List.getElem?_toArray, List.getElem?_cons_succ, List.getElem?_cons_zero]; rfl) (by kernel_rfl) (by kernel_rfl) (by kernel_rfl) (fun _ _ _ h => h) (Or.inl ⟨by rfl, ?_⟩) (by assumption) ?_
        rotate_left
        · (intro ww hSw; (try dsimp only at hSw); go_simp; (try with_reducible rfl))
        try simp only [Act.put, List.setIfInBounds_toArray, List.set_cons_zero, List.set_cons_succ]
        refine wpAnyH_take (i := 4) (v := ?_) (by simp only [List.getElem?_toArray, List.getElem?_cons_succ, List.getElem?_cons_zero]; rfl) (by kernel_rfl) (by kernel_rfl) (by kernel_rfl) (fun _ _ _ h => h) (Or.inl ⟨by rfl, ?_⟩) (by assumption) ?_
        rotate_left
        · (intro ww hSw; (try dsimp only at hSw); go_simp; (try with_reducible rfl))
        try simp only [Act.put, List.setIfInBounds_toArray, List.set_cons_zero, List.set_cons_succ]
        refine wpAnyH_take (i := 5) (v := ?_) (by simp only [List.getElem?_toArray, List.getElem?_cons_succ, List.getElem?_cons_zero]; rfl) (by kernel_rfl) (by kernel_rfl) (by kernel_rfl) (fun _ _ _ h => h) (Or.inl ⟨by rfl, ?_⟩) (by assumption) ?_
        rotate_left
        · (intro ww hSw; (try dsimp only at hSw); go_simp; (try with_reducible rfl))
        try simp only [Act.put, List.setIfInBounds_toArray, List.set_cons_zero, List.set_cons_succ]
        refine wpAnyH_ready (rs := [6]) (by kernel_rfl) (by simp) (AllReadyH.cons (by simp only [List.getElem?_toArray, List.getElem?_cons_succ, List.getElem?_cons_zero]; rfl) (fun K hK => ?_) AllReadyH.nil)
        go_simp
        refine (depth10_as (putW_shape x k (box c)) ⟨⟨px, pxc, pp, ppc, pc, pcc, pi, pic, some ⟨bb, bo, none⟩, pbc⟩, qa, qac, qk, qkc, some ⟨g, 0, none⟩, qwc⟩ ⟨vk, vi⟩ _ HYD.out.wh HBI.out HV2.out).mono ?_; rintro e w8 ⟨rfl, hb8⟩; rw [show depthR (putW x k (box c)).wher ⟨vk, vi⟩ = de from HP.out]
        try go_wp2_with fail
        refine hK.out _ _ (by (first | (exact ⟨hcd, e0, e1⟩) | (with_reducible exact ⟨(D7.out.drew.call hb8).cell, cell_call hHeld.2.1 hb8, cell_call hHeld.2.2 hb8⟩))) (fun hHeld => ?_)
        clear hK K
        try simp only [Act.put, List.setIfInBounds_toArray, List.set_cons_zero, List.set_cons_succ]
        have C8 := Lib.hid (CD.out.call hb8)
        have HB8 := Lib.hid (below_call (bdrew1 HBB.out) HBB.out.size hb8)
        refine wpAnyH_take (i := 7) (v := ?_) (by simp only [List.getElem?_toArray, List.getElem?_cons_succ, List.getElem?_cons_zero]; rfl) (by kernel_rfl) (by kernel_rfl) (by kernel_rfl) (fun _ _ _ h => h) (Or.inl ⟨by rfl, ?_⟩) (by assumption) ?_
        rotate_left
        · (intro ww hSw; (try dsimp only at hSw); go_simp; (try with_reducible rfl))
        try simp only [Act.put, List.setIfInBounds_toArray, List.set_cons_zero, List.set_cons_succ]
        refine wpAnyH_done (by kernel_rfl) ?_ _
        refine NoPanic.normal ?_
        have hca := C8.out.a.cell
        have hla := C8.out.a.lt
        have hcr : ∀ i, World.cell? _ ⟨w.heap.size + 1, i, none⟩ = _ := C8.out.r.cell
        have hzr : ∀ i, World.frozen? _ ⟨w.heap.size + 1, i, none⟩ = false := C8.out.r.frozen
        have hlr : w.heap.size + 1 < _ := C8.out.r.lt
        go_wp2_with fail
        have HQ := Lib.hid (show boxW x i k c = (x, 8) by rw [HEQ.out, if_pos (HDI.out.1 ⟨m, hml, by rw [← HDE.out]; exact hd4⟩)])
        rw [HQ.out]
        refine bodyPost_ret (v := .tuple #[.agg #[.slice px x.d.exits.length pxc, .slice pp x.d.players.length ppc, .slice pc x.d.coins.length pcc, .slice pi x.d.items.length pic, .slice (some ⟨bb, bo, none⟩) x.d.boxes.length pbc, .int .i64 x.d.room, .int .i64 x.d.player, .int .i64 x.d.box, .slice pa x.at_.length pac, .slice pk x.coins.length pkc, .slice (some ⟨b, o, none⟩) x.wher.length pwc], .int .i64 8]) (by simp [results, Try.results11, go_sem, hcr]) rfl ⟨⟨⟨px, pxc, pp, ppc, pc, pcc, pi, pic, some ⟨bb, bo, none⟩, pbc⟩, pa, pac, pk, pkc, some ⟨b, o, none⟩, pwc⟩, rfl, .inl ⟨by simp, rfl, rfl⟩, ?_⟩
        iterate 11 refine Below.setCell ?_ (by show w.heap.size ≤ w.heap.size + 1; omega) _
        exact C8.out.b
      · have hd5 : ¬ (4 : Int) < (de : Int) := by omega
        go_wp2_with fail
        refine wp_region_noPanic ?_
        refine wp_region_held_drew (S := (fun w' => (∀ j, w'.cell? ⟨w5.heap.size, j, none⟩ = (#[.slice px x.d.exits.length pxc, .slice pp x.d.players.length ppc, .slice pc x.d.coins.length pcc, .slice pi x.d.items.length pic, .slice (some ⟨bb, bo, none⟩) x.d.boxes.length pbc, .int .i64 x.d.room, .int .i64 x.d.player, .int .i64 x.d.box, .slice qa x.at_.length qac, .slice qk x.coins.length qkc, .slice (some ⟨g, 0, none⟩) x.wher.length qwc][j]? : Option Value)) ∧ w'.cell? ⟨g, m * 2, none⟩ = some (.int .i64 vk) ∧ w'.cell? ⟨g, m * 2 + 1, none⟩ = some (.int .i64 vi))) (by kernel_rfl) (by (first | (exact ⟨hcd, e0, e1⟩) | (with_reducible exact ⟨(D7.out.drew.call hb8).cell, cell_call hHeld.2.1 hb8, cell_call hHeld.2.2 hb8⟩))) (fun hHeld => ?_)
        refine wpAnyH_take (i := 0) (v := ?_) (by simp only [List.getElem?_toArray, List.getElem?_cons_zero]; rfl) (by kernel_rfl) (by kernel_rfl) (by kernel_rfl) (fun _ _ _ h => h) (Or.inl ⟨by rfl, ?_⟩) (by assumption) ?_
        rotate_left
        · (intro ww hSw; (try dsimp only at hSw); go_simp; (try with_reducible rfl))
        try simp only [Act.put, List.setIfInBounds_toArray, List.set_cons_zero, List.set_cons_succ]
        refine wpAnyH_take (i := 1) (v := ?_) (by simp only [List.getElem?_toArray, List.getElem?_cons_succ, List.getElem?_cons_zero]; rfl) (by kernel_rfl) (by kernel_rfl) (by kernel_rfl) (fun _ _ _ h => h) (Or.inl ⟨by rfl, ?_⟩) (by assumption) ?_
        rotate_left
        · (intro ww hSw; (try dsimp only at hSw); go_simp; (try with_reducible rfl))
        try simp only [Act.put, List.setIfInBounds_toArray, List.set_cons_zero, List.set_cons_succ]
        refine wpAnyH_take (i := 2) (v := ?_) (by simp only [List.getElem?_toArray, List.getElem?_cons_succ, List.getElem?_cons_zero]; rfl) (by kernel_rfl) (by kernel_rfl) (by kernel_rfl) (fun _ _ _ h => h) (Or.inl ⟨by rfl, ?_⟩) (by assumption) ?_
        rotate_left
        · (intro ww hSw; (try dsimp only at hSw); go_simp; (try with_reducible rfl))
        try simp only [Act.put, List.setIfInBounds_toArray, List.set_cons_zero, List.set_cons_succ]
        refine wpAnyH_take (i := 3) (v := ?_) (by simp only [List.getElem?_toArray, List.getElem?_cons_succ, List.getElem?_cons_zero]; rfl) (by kernel_rfl) (by kernel_rfl) (by kernel_rfl) (fun _ _ _ h => h) (Or.inl ⟨by rfl, ?_⟩) (by assumption) ?_
        rotate_left
        · (intro ww hSw; (try dsimp only at hSw); go_simp; (try with_reducible rfl))
        try simp only [Act.put, List.setIfInBounds_toArray, List.set_cons_zero, List.set_cons_succ]
        refine wpAnyH_take (i := 4) (v := ?_) (by simp only [List.getElem?_toArray, List.getElem?_cons_succ, List.getElem?_cons_zero]; rfl) (by kernel_rfl) (by kernel_rfl) (by kernel_rfl) (fun _ _ _ h => h) (Or.inl ⟨by rfl, ?_⟩) (by assumption) ?_
        rotate_left
        · (intro ww hSw; (try dsimp only at hSw); go_simp; (try with_reducible rfl))
        try simp only [Act.put, List.setIfInBounds_toArray, List.set_cons_zero, List.set_cons_succ]
        refine wpAnyH_take (i := 5) (v := ?_) (by simp only [List.getElem?_toArray, List.getElem?_cons_succ, List.getElem?_cons_zero]; rfl) (by kernel_rfl) (by kernel_rfl) (by kernel_rfl) (fun _ _ _ h => h) (Or.inl ⟨by rfl, ?_⟩) (by assumption) ?_
        rotate_left
        · (intro ww hSw; (try dsimp only at hSw); go_simp; (try with_reducible rfl))
        try simp only [Act.put, List.setIfInBounds_toArray, List.set_cons_zero, List.set_cons_succ]
        refine wpAnyH_ready (rs := [6]) (by kernel_rfl) (by simp) (AllReadyH.cons (by simp only [List.getElem?_toArray, List.getElem?_cons_succ, List.getElem?_cons_zero]; rfl) (fun K hK => ?_) AllReadyH.nil)
        go_simp
        refine (depth10_as (putW_shape x k (box c)) ⟨⟨px, pxc, pp, ppc, pc, pcc, pi, pic, some ⟨bb, bo, none⟩, pbc⟩, qa, qac, qk, qkc, some ⟨g, 0, none⟩, qwc⟩ ⟨vk, vi⟩ _ HYD.out.wh HBI.out HV2.out).mono ?_; rintro e w8 ⟨rfl, hb8⟩; rw [show depthR (putW x k (box c)).wher ⟨vk, vi⟩ = de from HP.out]
        try go_wp2_with fail
        refine hK.out _ _ (by (first | (exact ⟨hcd, e0, e1⟩) | (with_reducible exact ⟨(D7.out.drew.call hb8).cell, cell_call hHeld.2.1 hb8, cell_call hHeld.2.2 hb8⟩))) (fun hHeld => ?_)
        clear hK K
        try simp only [Act.put, List.setIfInBounds_toArray, List.set_cons_zero, List.set_cons_succ]
        have C8 := Lib.hid (CD.out.call hb8)
        have HB8 := Lib.hid (below_call (bdrew1 HBB.out) HBB.out.size hb8)
        refine wpAnyH_take (i := 7) (v := ?_) (by simp only [List.getElem?_toArray, List.getElem?_cons_succ, List.getElem?_cons_zero]; rfl) (by kernel_rfl) (by kernel_rfl) (by kernel_rfl) (fun _ _ _ h => h) (Or.inl ⟨by rfl, ?_⟩) (by assumption) ?_
        rotate_left
        · (intro ww hSw; (try dsimp only at hSw); go_simp; (try with_reducible rfl))
        try simp only [Act.put, List.setIfInBounds_toArray, List.set_cons_zero, List.set_cons_succ]
        refine wpAnyH_done (by kernel_rfl) ?_ _
        refine NoPanic.normal ?_
        go_wp2_with fail
        go_roundw
        case rel =>
          refine ⟨m + 1, by omega, by go_num, fun l hl => ?_, HB8.out⟩
          by_cases e : l = m
          · subst e; rw [← HDE.out]; omega
          · exact HA.out l (by omega)
        case measure => simp [intOf]; omega
    · have hnd : ¬ 4 < dep x.wher c + 1 + hgt x.wher k := fun h => by
        obtain ⟨n, hn, h4⟩ := HDI.out.2 h
        have := HA.out n (by omega)
        omega
      have HE2 := Lib.hid (HEQ.out.trans (if_neg hnd))
      clear hnd
      have hca := C7.out.a.cell
      have hla := C7.out.a.lt
      have hcr : ∀ i, World.cell? _ ⟨w.heap.size + 1, i, none⟩ = _ := C7.out.r.cell
      have hzr : ∀ i, World.frozen? _ ⟨w.heap.size + 1, i, none⟩ = false := C7.out.r.frozen
      have hlr : w.heap.size + 1 < _ := C7.out.r.lt
      go_wp2_with fail
      refine (rroom_bx x ⟨⟨px, pxc, pp, ppc, pc, pcc, pi, pic, some ⟨bb, bo, none⟩, pbc⟩, pa, pac, pk, pkc, some ⟨b, o, none⟩, pwc⟩ c _ HX.out (H.out.below C7.out.b (Nat.le_refl _))).mono ?_
      rintro e w9 ⟨rfl, b9⟩
      have C9 := Lib.hid (C7.out.call b9)
      have D9 := Lib.hid (D7.out.call b9)
      have HO9 := Lib.hid (HO7.out.call b9)
      clear b9 hca hla hcr hzr hlr hcd hld
      generalize roomI x (box c) = r at *
      have hca := C9.out.a.cell
      have hla := C9.out.a.lt
      have hcr : ∀ i, World.cell? _ ⟨w.heap.size + 1, i, none⟩ = _ := C9.out.r.cell
      have hzr : ∀ i, World.frozen? _ ⟨w.heap.size + 1, i, none⟩ = false := C9.out.r.frozen
      have hlr : w.heap.size + 1 < _ := C9.out.r.lt
      have hcd := D9.out.cell
      have hld := D9.out.lt
      by_cases hr : r = 0
      · have HQ := Lib.hid (HE2.out.trans (if_pos hr))
        subst hr
        go_wp2_with fail
        rw [HQ.out]
        refine bodyPost_ret (v := .tuple #[.agg #[.slice px x.d.exits.length pxc, .slice pp x.d.players.length ppc, .slice pc x.d.coins.length pcc, .slice pi x.d.items.length pic, .slice (some ⟨bb, bo, none⟩) x.d.boxes.length pbc, .int .i64 x.d.room, .int .i64 x.d.player, .int .i64 x.d.box, .slice pa x.at_.length pac, .slice pk x.coins.length pkc, .slice (some ⟨b, o, none⟩) x.wher.length pwc], .int .i64 9]) (by simp [results, Try.results11, go_sem, hcr]) rfl ⟨⟨⟨px, pxc, pp, ppc, pc, pcc, pi, pic, some ⟨bb, bo, none⟩, pbc⟩, pa, pac, pk, pkc, some ⟨b, o, none⟩, pwc⟩, rfl, .inl ⟨by simp, rfl, rfl⟩, ?_⟩
        iterate 11 refine Below.setCell ?_ (by show w.heap.size ≤ w.heap.size + 1; omega) _
        exact C9.out.b
      · have HQ := Lib.hid (HE2.out.trans (if_neg hr))
        have hr2 : (r == 0) = false := by simpa using hr
        clear hr
        go_wp2_with fail
        rw [HQ.out]
        refine bodyPost_ret (v := .tuple #[.agg #[.slice px x.d.exits.length pxc, .slice pp x.d.players.length ppc, .slice pc x.d.coins.length pcc, .slice pi x.d.items.length pic, .slice (some ⟨bb, bo, none⟩) x.d.boxes.length pbc, .int .i64 x.d.room, .int .i64 x.d.player, .int .i64 x.d.box, .slice qa x.at_.length qac, .slice qk x.coins.length qkc, .slice (some ⟨g, 0, none⟩) x.wher.length qwc], .int .i64 0]) (by simp [results, Try.results11, go_sem, hcr]) rfl ⟨⟨⟨px, pxc, pp, ppc, pc, pcc, pi, pic, some ⟨bb, bo, none⟩, pbc⟩, qa, qac, qk, qkc, some ⟨g, 0, none⟩, qwc⟩, rfl, .inr ⟨rfl, rfl, ?_⟩, ?_⟩
        · refine WhOwn.less (n := w.heap.size + 2) ?_ (by omega)
          iterate 11 refine WhOwn.set (b := w.heap.size + 1) ?_ (by omega) _ _
          exact HO9.out
        · iterate 11 refine Below.setCell ?_ (by show w.heap.size ≤ w.heap.size + 1; omega) _
          exact C9.out.b
end
end Go.Proofs.Ytdmfbbcidcfcjaa
