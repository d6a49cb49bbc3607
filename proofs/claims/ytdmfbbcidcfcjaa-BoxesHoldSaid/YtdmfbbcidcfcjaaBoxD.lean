/- boxes: what is put in, and taken out. -/
import Derived.Test.YtdmfbbcidcfcjaaRows
import Derived.Test.YtdmfbbcidcfcjaaKit
import Derived.Test.YtdmfbbcidcfcjaaGMem
import Derived.Test.YtdmfbbcidcfcjaaCoin
import Derived.Test.YtdmfbbcidcfcjaaGWorld
import Derived.Test.YtdmfbbcidcfcjaaGDescN
import Derived.Test.YtdmfbbcidcfcjaaGRight
import Derived.Test.YtdmfbbcidcfcjaaGCopy
import Derived.Test.YtdmfbbcidcfcjaaGRefD
import Derived.Test.YtdmfbbcidcfcjaaGEq
import Derived.Test.YtdmfbbcidcfcjaaGAs
import Derived.Test.YtdmfbbcidcfcjaaGTreeL
import Derived.Test.YtdmfbbcidcfcjaaGHoldA
import Derived.Test.YtdmfbbcidcfcjaaGBoxM
import Derived.Test.YtdmfbbcidcfcjaaBoxA
import Derived.Test.YtdmfbbcidcfcjaaBoxB
import Derived.Test.YtdmfbbcidcfcjaaBoxB2
import Derived.Test.YtdmfbbcidcfcjaaBoxC
import Derived.Deep.QuietTactic
import Derived.BigQuiet
import Derived.Deep.RegionHeld3
import Derived.WalkKit
import Derived.ProofKit
import Derived.OpenShut
import Derived.IntWalk
namespace Go.Proofs.Ytdmfbbcidcfcjaa
open Go.ChangeShapes Go.WideShapes Go.ChangeAt Go.RowKit
set_option linter.unusedVariables false
open Go.RowKit
theorem FaultAt.imp {W : World} {v : Value} {P Q : Prop} {B : Bool} {err : Int} (h : FaultAt W v P B err) (hq : Q → P) : FaultAt W v Q B err := by
  obtain ⟨F, fs, h1, h2, h3⟩ := h
  exact ⟨F, fs, h1, h2, fun q => h3 (hq q)⟩
/-- What is asked ahead of a thing's being put into a box. -/
def putL (x : Wd) (i : Nat) (item b : Int) : List (Bool × Int) := [(!inB item x.wher.length, 3), (!inB b x.wher.length, 3), (!decide (plOf x.wher item.toNat = ⟨1, (i : Int)⟩), 5), (!nearB x i b.toNat, 5), (!x.d.boxes.getD b.toNat false, 6), (wB x.wher b.toNat item.toNat, 7), (decide (4 < dep x.wher b.toNat + 1 + hgt x.wher item.toNat), 8), (decide (roomI x ⟨2, b⟩ < 1), 9)]
def takeL (x : Wd) (i : Nat) (item b : Int) : List (Bool × Int) := [(!inB item x.wher.length, 3), (!inB b x.wher.length, 3), (!nearB x i b.toNat, 5), (!x.d.boxes.getD b.toNat false, 6), (!decide (plOf x.wher item.toNat = ⟨2, b⟩), 5), (decide (roomI x ⟨1, (i : Int)⟩ < 1), 9)]
theorem put_of {x : Wd} (h : rightW x = true) (i : Nat) (item b : Int) : bringW x item ⟨2, b⟩ (putL x i item b) = boxW x i item b := by
  unfold boxW bringW putL
  simp only [firstE]
  by_cases h1 : inB item x.wher.length = true
  · by_cases h2 : inB b x.wher.length = true
    · have hb0 := (inB_iff _ _).1 h2
      obtain ⟨c, rfl⟩ : ∃ c : Nat, b = c := ⟨b.toNat, by omega⟩
      have hr := room_nn_box h c
      have e : box c = ⟨2, (c : Int)⟩ := rfl
      rw [e] at hr
      have hlt : roomI x ⟨2, (c : Int)⟩ < 1 ↔ roomI x ⟨2, (c : Int)⟩ = 0 := by omega
      simp only [h1, h2, Int.toNat_natCast, Bool.not_true, Bool.false_eq_true, if_false, or_self, hlt, e]
      by_cases h3 : plOf x.wher item.toNat = ⟨1, (i : Int)⟩
      · simp only [h3, decide_true, Bool.not_true, Bool.false_eq_true, if_false, not_true, false_or]
        cases h4 : nearB x i c
        · simp
        · cases h5 : x.d.boxes.getD c false
          · simp
          · cases h6 : wB x.wher c item.toNat
            · by_cases h7 : 4 < dep x.wher c + 1 + hgt x.wher item.toNat
              · simp [h7]
              · by_cases h8 : roomI x ⟨2, (c : Int)⟩ = 0
                · simp [h7, h8]
                · simp [h7, h8]
            · simp
      · simp [h3]
    · simp [h1, h2]
  · simp [h1]
theorem take_of {x : Wd} (h : rightW x = true) (i : Nat) (item b : Int) : bringW x item ⟨1, (i : Int)⟩ (takeL x i item b) = outW x i item b := by
  unfold outW bringW takeL
  simp only [firstE]
  have hr := room_nn h (f := ⟨1, (i : Int)⟩) (by simp)
  have hlt : roomI x ⟨1, (i : Int)⟩ < 1 ↔ roomI x ⟨1, (i : Int)⟩ = 0 := by omega
  by_cases h1 : inB item x.wher.length = true
  · by_cases h2 : inB b x.wher.length = true
    · have hb0 := (inB_iff _ _).1 h2
      obtain ⟨c, rfl⟩ : ∃ c : Nat, b = c := ⟨b.toNat, by omega⟩
      have e : box c = ⟨2, (c : Int)⟩ := rfl
      simp only [h1, h2, Int.toNat_natCast, Bool.not_true, Bool.false_eq_true, if_false, or_self, hlt, e]
      cases h4 : nearB x i c
      · simp
      · cases h5 : x.d.boxes.getD c false
        · simp
        · by_cases h3 : plOf x.wher item.toNat = ⟨2, (c : Int)⟩
          · by_cases h8 : roomI x ⟨1, (i : Int)⟩ = 0
            · simp [h3, h8]
            · simp [h3, h8]
          · simp [h3]
    · simp [h1, h2]
  · simp [h1]
theorem row_put {V : World} {bs : Nat} {t : TypeId} {f0 f1 f2 f3 f4 f5 f6 f7 : Value} {B0 B1 B2 B3 B4 B5 B6 B7 : Bool} {P0 P1 P2 P3 P4 P5 P6 P7 : Prop} (hV : Blk V bs t #[f0, .int .i64 3, f1, .int .i64 3, f2, .int .i64 5, f3, .int .i64 5, f4, .int .i64 6, f5, .int .i64 7, f6, .int .i64 8, f7, .int .i64 9]) (G0 : FaultAt V (.agg #[f0, .int .i64 3]) P0 B0 3) (G1 : FaultAt V (.agg #[f1, .int .i64 3]) P1 B1 3) (G2 : FaultAt V (.agg #[f2, .int .i64 5]) P2 B2 5) (G3 : FaultAt V (.agg #[f3, .int .i64 5]) P3 B3 5) (G4 : FaultAt V (.agg #[f4, .int .i64 6]) P4 B4 6) (G5 : FaultAt V (.agg #[f5, .int .i64 7]) P5 B5 7) (G6 : FaultAt V (.agg #[f6, .int .i64 8]) P6 B6 8) (G7 : FaultAt V (.agg #[f7, .int .i64 9]) P7 B7 9) (i0 : P0) (i1 : B0 = false → P1) (i2 : B0 = false → B1 = false → P2) (i3 : B0 = false → B1 = false → B2 = false → P3) (i4 : B0 = false → B1 = false → B2 = false → B3 = false → P4) (i5 : B0 = false → B1 = false → B2 = false → B3 = false → B4 = false → P5) (i6 : B0 = false → B1 = false → B2 = false → B3 = false → B4 = false → B5 = false → P6) (i7 : B0 = false → B1 = false → B2 = false → B3 = false → B4 = false → B5 = false → B6 = false → P7) : RowF V bs [(B0, 3), (B1, 3), (B2, 5), (B3, 5), (B4, 6), (B5, 7), (B6, 8), (B7, 9)] := by
  intro j hj
  rcases j with _ | _ | _ | _ | _ | _ | _ | _ | j
  · exact ⟨f0, G0.imp (fun h => i0), hV.cell 0, hV.cell 1⟩
  · exact ⟨f1, G1.imp (fun h => i1 (h 0 (by simp) (by omega))), hV.cell 2, hV.cell 3⟩
  · exact ⟨f2, G2.imp (fun h => i2 (h 0 (by simp) (by omega)) (h 1 (by simp) (by omega))), hV.cell 4, hV.cell 5⟩
  · exact ⟨f3, G3.imp (fun h => i3 (h 0 (by simp) (by omega)) (h 1 (by simp) (by omega)) (h 2 (by simp) (by omega))), hV.cell 6, hV.cell 7⟩
  · exact ⟨f4, G4.imp (fun h => i4 (h 0 (by simp) (by omega)) (h 1 (by simp) (by omega)) (h 2 (by simp) (by omega)) (h 3 (by simp) (by omega))), hV.cell 8, hV.cell 9⟩
  · exact ⟨f5, G5.imp (fun h => i5 (h 0 (by simp) (by omega)) (h 1 (by simp) (by omega)) (h 2 (by simp) (by omega)) (h 3 (by simp) (by omega)) (h 4 (by simp) (by omega))), hV.cell 10, hV.cell 11⟩
  · exact ⟨f6, G6.imp (fun h => i6 (h 0 (by simp) (by omega)) (h 1 (by simp) (by omega)) (h 2 (by simp) (by omega)) (h 3 (by simp) (by omega)) (h 4 (by simp) (by omega)) (h 5 (by simp) (by omega))), hV.cell 12, hV.cell 13⟩
  · exact ⟨f7, G7.imp (fun h => i7 (h 0 (by simp) (by omega)) (h 1 (by simp) (by omega)) (h 2 (by simp) (by omega)) (h 3 (by simp) (by omega)) (h 4 (by simp) (by omega)) (h 5 (by simp) (by omega)) (h 6 (by simp) (by omega))), hV.cell 14, hV.cell 15⟩
  · simp at hj; omega
theorem row_take {V : World} {bs : Nat} {t : TypeId} {f0 f1 f2 f3 f4 f5 : Value} {B0 B1 B2 B3 B4 B5 : Bool} {P0 P1 P2 P3 P4 P5 : Prop} (hV : Blk V bs t #[f0, .int .i64 3, f1, .int .i64 3, f2, .int .i64 5, f3, .int .i64 6, f4, .int .i64 5, f5, .int .i64 9]) (G0 : FaultAt V (.agg #[f0, .int .i64 3]) P0 B0 3) (G1 : FaultAt V (.agg #[f1, .int .i64 3]) P1 B1 3) (G2 : FaultAt V (.agg #[f2, .int .i64 5]) P2 B2 5) (G3 : FaultAt V (.agg #[f3, .int .i64 6]) P3 B3 6) (G4 : FaultAt V (.agg #[f4, .int .i64 5]) P4 B4 5) (G5 : FaultAt V (.agg #[f5, .int .i64 9]) P5 B5 9) (i0 : P0) (i1 : B0 = false → P1) (i2 : B0 = false → B1 = false → P2) (i3 : B0 = false → B1 = false → B2 = false → P3) (i4 : B0 = false → B1 = false → B2 = false → B3 = false → P4) (i5 : B0 = false → B1 = false → B2 = false → B3 = false → B4 = false → P5) : RowF V bs [(B0, 3), (B1, 3), (B2, 5), (B3, 6), (B4, 5), (B5, 9)] := by
  intro j hj
  rcases j with _ | _ | _ | _ | _ | _ | j
  · exact ⟨f0, G0.imp (fun h => i0), hV.cell 0, hV.cell 1⟩
  · exact ⟨f1, G1.imp (fun h => i1 (h 0 (by simp) (by omega))), hV.cell 2, hV.cell 3⟩
  · exact ⟨f2, G2.imp (fun h => i2 (h 0 (by simp) (by omega)) (h 1 (by simp) (by omega))), hV.cell 4, hV.cell 5⟩
  · exact ⟨f3, G3.imp (fun h => i3 (h 0 (by simp) (by omega)) (h 1 (by simp) (by omega)) (h 2 (by simp) (by omega))), hV.cell 6, hV.cell 7⟩
  · exact ⟨f4, G4.imp (fun h => i4 (h 0 (by simp) (by omega)) (h 1 (by simp) (by omega)) (h 2 (by simp) (by omega)) (h 3 (by simp) (by omega))), hV.cell 8, hV.cell 9⟩
  · exact ⟨f5, G5.imp (fun h => i5 (h 0 (by simp) (by omega)) (h 1 (by simp) (by omega)) (h 2 (by simp) (by omega)) (h 3 (by simp) (by omega)) (h 4 (by simp) (by omega))), hV.cell 10, hV.cell 11⟩
  · simp at hj; omega
theorem boxes_len {x : Wd} (h : rightW x = true) : x.d.boxes.length = x.wher.length := by
  have hm := (right_lens h).2.2.2.2
  have h2 := hm.2
  simp only [mayD, mayItB, Bool.and_eq_true, decide_eq_true_eq] at h2
  have := h2.2.2.2.2.1
  omega
theorem not_no {b : Bool} (h : (!b) = false) : b = true := by simpa using h
theorem putL_ne (x : Wd) (i : Nat) (item b : Int) : ∀ j (hj : j < (putL x i item b).length), ¬ (putL x i item b)[j].2 = 0 := by
  intro j hj
  rcases j with _ | _ | _ | _ | _ | _ | _ | _ | j
  all_goals try (simp [putL]; done)
  simp [putL] at hj; omega
theorem takeL_ne (x : Wd) (i : Nat) (item b : Int) : ∀ j (hj : j < (takeL x i item b).length), ¬ (takeL x i item b)[j].2 = 0 := by
  intro j hj
  rcases j with _ | _ | _ | _ | _ | _ | j
  all_goals try (simp [takeL]; done)
  simp [takeL] at hj; omega
set_option maxRecDepth 100000 in
set_option maxHeartbeats 1000000 in
theorem bput_any (x : Wd) (p : Wp) (i : Nat) (item b : Int) (w : World) (hx : rightW x = true) (h : WorldAt w p x) (hi : i < x.at_.length) : Calls Try.prog 10 #[.agg #[.slice p.d.ex x.d.exits.length p.d.exc, .slice p.d.pl x.d.players.length p.d.plc, .slice p.d.co x.d.coins.length p.d.coc, .slice p.d.it x.d.items.length p.d.itc, .slice p.d.bo x.d.boxes.length p.d.boc, .int .i64 x.d.room, .int .i64 x.d.player, .int .i64 x.d.box, .slice p.at_ x.at_.length p.atc, .slice p.co x.coins.length p.coc, .slice p.wh x.wher.length p.whc], .int .i64 (i : Int), .int .i64 item, .int .i64 b] w fun e w' => ∃ q : Wp, e = .returned (.tuple #[.agg #[.slice q.d.ex x.d.exits.length q.d.exc, .slice q.d.pl x.d.players.length q.d.plc, .slice q.d.co x.d.coins.length q.d.coc, .slice q.d.it x.d.items.length q.d.itc, .slice q.d.bo x.d.boxes.length q.d.boc, .int .i64 x.d.room, .int .i64 x.d.player, .int .i64 x.d.box, .slice q.at_ x.at_.length q.atc, .slice q.co x.coins.length q.coc, .slice q.wh x.wher.length q.whc], .int .i64 (boxW x i item b).2]) ∧ Took w.heap.size w' p q x (boxW x i item b) ∧ Below w.heap.size w w' := by
  have H := Lib.hid h
  have HX := Lib.hid hx
  have HT := Lib.hid (right_tr hx)
  have HBL := Lib.hid (boxes_len hx)
  clear h hx
  have C0 := Lib.hid (Two.start 29 29 w #[.slice p.d.ex x.d.exits.length p.d.exc, .slice p.d.pl x.d.players.length p.d.plc, .slice p.d.co x.d.coins.length p.d.coc, .slice p.d.it x.d.items.length p.d.itc, .slice p.d.bo x.d.boxes.length p.d.boc, .int .i64 x.d.room, .int .i64 x.d.player, .int .i64 x.d.box, .slice p.at_ x.at_.length p.atc, .slice p.co x.coins.length p.coc, .slice p.wh x.wher.length p.whc] #[.slice none 0 0, .slice none 0 0, .slice none 0 0, .slice none 0 0, .slice none 0 0, .int .i64 0, .int .i64 0, .int .i64 0, .slice none 0 0, .slice none 0 0, .slice none 0 0])
  obtain ⟨y, hy⟩ : ∃ y, y = boxW x i item b := ⟨_, rfl⟩
  have HY := Lib.hid hy
  rw [← hy]
  clear hy
  have HNE : Hid (∀ j (hj : j < (putL x i item b).length), ¬ (putL x i item b)[j].2 = 0) := Lib.hid (putL_ne x i item b)
  have HTO : Hid ((∀ l (hl : l < (putL x i item b).length), (putL x i item b)[l].1 = false) → ∃ k : Nat, item = k ∧ k < x.wher.length) := Lib.hid (fun h => by have h0 := not_no (h 0 (by simp [putL])); have := (inB_iff _ _).1 h0; exact ⟨item.toNat, by omega, by omega⟩)
  go_enter Try.func10, Try.ntmps10
  go_wp2_with fail
  refine (inside_any b _).mono ?_
  rintro e w0 ⟨rfl, b0⟩
  have C1 := Lib.hid (C0.out.call b0)
  clear b0 C0
  go_wp2_with fail
  have B1 := Lib.hid ((Below.refl w0.heap.size w0).alloc (Nat.le_refl _) (.cells #[.int .i64 2, .int .i64 b] 42))
  have D1 := Lib.hid (Blk.newn w0 42 #[.int .i64 2, .int .i64 b] (n := w0.heap.size) rfl)
  have C2 := Lib.hid (C1.out.call B1.out)
  generalize w0.alloc (.cells #[.int .i64 2, .int .i64 b] 42) = V0 at *
  have CD := Lib.hid C2.out.drew
  have DD := Lib.hid D1.out.drew
  refine wp_region_noPanic ?_
  refine wp_region_held_drew (S := (fun w' => (∀ j, w'.cell? ⟨w.heap.size, j, none⟩ = (#[.slice p.d.ex x.d.exits.length p.d.exc, .slice p.d.pl x.d.players.length p.d.plc, .slice p.d.co x.d.coins.length p.d.coc, .slice p.d.it x.d.items.length p.d.itc, .slice p.d.bo x.d.boxes.length p.d.boc, .int .i64 x.d.room, .int .i64 x.d.player, .int .i64 x.d.box, .slice p.at_ x.at_.length p.atc, .slice p.co x.coins.length p.coc, .slice p.wh x.wher.length p.whc][j]? : Option Value)) ∧ (∀ j, w'.cell? ⟨w0.heap.size, j, none⟩ = (#[.int .i64 2, .int .i64 b][j]? : Option Value)))) (by kernel_rfl) (by (first | (with_reducible exact ⟨CD.out.a.cell, DD.out.cell⟩) | (with_reducible exact ⟨C_0.out.a.cell, D_0.out.cell⟩) | (with_reducible exact ⟨C_1.out.a.cell, D_1.out.cell⟩) | (with_reducible exact ⟨C_2.out.a.cell, D_2.out.cell⟩) | (with_reducible exact ⟨C_3.out.a.cell, D_3.out.cell⟩) | (with_reducible exact ⟨C_4.out.a.cell, D_4.out.cell⟩) | (with_reducible exact ⟨C_5.out.a.cell, D_5.out.cell⟩) | (with_reducible exact ⟨C_6.out.a.cell, D_6.out.cell⟩) | (with_reducible exact ⟨C_7.out.a.cell, D_7.out.cell⟩) | (with_reducible exact ⟨C_8.out.a.cell, D_8.out.cell⟩) | (with_reducible exact ⟨CB.out.a.cell, DB.out.cell⟩) | (with_reducible exact ⟨CC.out.a.cell, DC.out.cell⟩) | (refine off2_S (a := w.heap.size) (b := w0.heap.size) (A := #[.slice p.d.ex x.d.exits.length p.d.exc, .slice p.d.pl x.d.players.length p.d.plc, .slice p.d.co x.d.coins.length p.d.coc, .slice p.d.it x.d.items.length p.d.itc, .slice p.d.bo x.d.boxes.length p.d.boc, .int .i64 x.d.room, .int .i64 x.d.player, .int .i64 x.d.box, .slice p.at_ x.at_.length p.atc, .slice p.co x.coins.length p.coc, .slice p.wh x.wher.length p.whc]) (B := #[.int .i64 2, .int .i64 b]) ?_; (iterate 11 with_reducible refine Off2.set n1 n2 ?_ _ _); with_reducible exact OC.out))) (fun hHeld => ?_)
  have CX := Lib.hid CD.out
  have DX := Lib.hid DD.out
  refine wpAnyH_take (i := 0) (v := ?_) (by simp only [List.getElem?_toArray, List.getElem?_cons_zero]; rfl) (by kernel_rfl) (by kernel_rfl) (by kernel_rfl) (fun _ _ _ h => h) (Or.inl ⟨by rfl, ?_⟩) (by assumption) ?_
  rotate_left
  · (intro ww hSw; (try dsimp only at hSw); go_simp; (try with_reducible rfl))
  try simp only [Act.put, List.setIfInBounds_toArray, List.set_cons_zero, List.set_cons_succ]
  refine wpAnyH_take (i := 1) (v := ?_) (by simp only [List.getElem?_toArray, List.getElem?_cons_succ, List.getElem?_cons_zero]; rfl) (by kernel_rfl) (by kernel_rfl) (by kernel_rfl) (fun _ _ _ h => h) (Or.inl ⟨by rfl, ?_⟩) (by assumption) ?_
  rotate_left
  · (intro ww hSw; (try dsimp only at hSw); go_simp; (try with_reducible rfl))
  try simp only [Act.put, List.setIfInBounds_toArray, List.set_cons_zero, List.set_cons_succ]
  refine wpAnyH_take (i := 2) (v := ?_) (by simp only [List.getElem?_toArray, List.getElem?_cons_succ, List.getElem?_cons_zero]; rfl) (by kernel_rfl) (by kernel_rfl) (by kernel_rfl) (fun _ _ _ h => h) (Or.inl ⟨by rfl, ?_⟩) (by assumption) ?_
  rotate_left
  · (intro ww hSw; (try dsimp only at hSw); go_simp; (try with_reducible rfl))
  try simp only [Act.put, List.setIfInBounds_toArray, List.set_cons_zero, List.set_cons_succ]
  refine wpAnyH_take (i := 3) (v := ?_) (by simp only [List.getElem?_toArray, List.getElem?_cons_succ, List.getElem?_cons_zero]; rfl) (by kernel_rfl) (by kernel_rfl) (by kernel_rfl) (fun _ _ _ h => h) (Or.inl ⟨by rfl, ?_⟩) (by assumption) ?_
  rotate_left
  · (intro ww hSw; (try dsimp only at hSw); go_simp; (try with_reducible rfl))
  try simp only [Act.put, List.setIfInBounds_toArray, List.set_cons_zero, List.set_cons_succ]
  refine wpAnyH_take (i := 4) (v := ?_) (by simp only [List.getElem?_toArray, List.getElem?_cons_succ, List.getElem?_cons_zero]; rfl) (by kernel_rfl) (by kernel_rfl) (by kernel_rfl) (fun _ _ _ h => h) (Or.inl ⟨by rfl, ?_⟩) (by assumption) ?_
  rotate_left
  · (intro ww hSw; (try dsimp only at hSw); go_simp; (try with_reducible rfl))
  try simp only [Act.put, List.setIfInBounds_toArray, List.set_cons_zero, List.set_cons_succ]
  refine wpAnyH_take (i := 6) (v := ?_) (by simp only [List.getElem?_toArray, List.getElem?_cons_succ, List.getElem?_cons_zero]; rfl) (by kernel_rfl) (by kernel_rfl) (by kernel_rfl) (fun _ _ _ h => h) (Or.inl ⟨by rfl, ?_⟩) (by assumption) ?_
  rotate_left
  · (intro ww hSw; (try dsimp only at hSw); go_simp; (try with_reducible rfl))
  try simp only [Act.put, List.setIfInBounds_toArray, List.set_cons_zero, List.set_cons_succ]
  refine wpAnyH_take (i := 7) (v := ?_) (by simp only [List.getElem?_toArray, List.getElem?_cons_succ, List.getElem?_cons_zero]; rfl) (by kernel_rfl) (by kernel_rfl) (by kernel_rfl) (fun _ _ _ h => h) (Or.inl ⟨by rfl, ?_⟩) (by assumption) ?_
  rotate_left
  · (intro ww hSw; (try dsimp only at hSw); go_simp; (try with_reducible rfl))
  try simp only [Act.put, List.setIfInBounds_toArray, List.set_cons_zero, List.set_cons_succ]
  refine wpAnyH_take (i := 9) (v := ?_) (by simp only [List.getElem?_toArray, List.getElem?_cons_succ, List.getElem?_cons_zero]; rfl) (by kernel_rfl) (by kernel_rfl) (by kernel_rfl) (fun _ _ _ h => h) (Or.inl ⟨by rfl, ?_⟩) (by assumption) ?_
  rotate_left
  · (intro ww hSw; (try dsimp only at hSw); go_simp; (try with_reducible rfl))
  try simp only [Act.put, List.setIfInBounds_toArray, List.set_cons_zero, List.set_cons_succ]
  refine wpAnyH_take (i := 10) (v := ?_) (by simp only [List.getElem?_toArray, List.getElem?_cons_succ, List.getElem?_cons_zero]; rfl) (by kernel_rfl) (by kernel_rfl) (by kernel_rfl) (fun _ _ _ h => h) (Or.inl ⟨by rfl, ?_⟩) (by assumption) ?_
  rotate_left
  · (intro ww hSw; (try dsimp only at hSw); go_simp; (try with_reducible rfl))
  try simp only [Act.put, List.setIfInBounds_toArray, List.set_cons_zero, List.set_cons_succ]
  refine wpAnyH_take (i := 11) (v := ?_) (by simp only [List.getElem?_toArray, List.getElem?_cons_succ, List.getElem?_cons_zero]; rfl) (by kernel_rfl) (by kernel_rfl) (by kernel_rfl) (fun _ _ _ h => h) (Or.inl ⟨by rfl, ?_⟩) (by assumption) ?_
  rotate_left
  · (intro ww hSw; (try dsimp only at hSw); go_simp; (try with_reducible rfl))
  try simp only [Act.put, List.setIfInBounds_toArray, List.set_cons_zero, List.set_cons_succ]
  refine wpAnyH_take (i := 14) (v := ?_) (by simp only [List.getElem?_toArray, List.getElem?_cons_succ, List.getElem?_cons_zero]; rfl) (by kernel_rfl) (by kernel_rfl) (by kernel_rfl) (fun _ _ _ h => h) (Or.inl ⟨by rfl, ?_⟩) (by assumption) ?_
  rotate_left
  · (intro ww hSw; (try dsimp only at hSw); go_simp; (try with_reducible rfl))
  try simp only [Act.put, List.setIfInBounds_toArray, List.set_cons_zero, List.set_cons_succ]
  refine wpAnyH_take (i := 15) (v := ?_) (by simp only [List.getElem?_toArray, List.getElem?_cons_succ, List.getElem?_cons_zero]; rfl) (by kernel_rfl) (by kernel_rfl) (by kernel_rfl) (fun _ _ _ h => h) (Or.inl ⟨by rfl, ?_⟩) (by assumption) ?_
  rotate_left
  · (intro ww hSw; (try dsimp only at hSw); go_simp; (try with_reducible rfl))
  try simp only [Act.put, List.setIfInBounds_toArray, List.set_cons_zero, List.set_cons_succ]
  refine wpAnyH_take (i := 16) (v := ?_) (by simp only [List.getElem?_toArray, List.getElem?_cons_succ, List.getElem?_cons_zero]; rfl) (by kernel_rfl) (by kernel_rfl) (by kernel_rfl) (fun _ _ _ h => h) (Or.inl ⟨by rfl, ?_⟩) (by assumption) ?_
  rotate_left
  · (intro ww hSw; (try dsimp only at hSw); go_simp; (try with_reducible rfl))
  try simp only [Act.put, List.setIfInBounds_toArray, List.set_cons_zero, List.set_cons_succ]
  refine wpAnyH_take (i := 18) (v := ?_) (by simp only [List.getElem?_toArray, List.getElem?_cons_succ, List.getElem?_cons_zero]; rfl) (by kernel_rfl) (by kernel_rfl) (by kernel_rfl) (fun _ _ _ h => h) (Or.inl ⟨by rfl, ?_⟩) (by assumption) ?_
  rotate_left
  · (intro ww hSw; (try dsimp only at hSw); go_simp; (try with_reducible rfl))
  try simp only [Act.put, List.setIfInBounds_toArray, List.set_cons_zero, List.set_cons_succ]
  refine wpAnyH_take (i := 19) (v := ?_) (by simp only [List.getElem?_toArray, List.getElem?_cons_succ, List.getElem?_cons_zero]; rfl) (by kernel_rfl) (by kernel_rfl) (by kernel_rfl) (fun _ _ _ h => h) (Or.inl ⟨by rfl, ?_⟩) (by assumption) ?_
  rotate_left
  · (intro ww hSw; (try dsimp only at hSw); go_simp; (try with_reducible rfl))
  try simp only [Act.put, List.setIfInBounds_toArray, List.set_cons_zero, List.set_cons_succ]
  refine wpAnyH_take (i := 21) (v := ?_) (by simp only [List.getElem?_toArray, List.getElem?_cons_succ, List.getElem?_cons_zero]; rfl) (by kernel_rfl) (by kernel_rfl) (by kernel_rfl) (fun _ _ _ h => h) (Or.inl ⟨by rfl, ?_⟩) (by assumption) ?_
  rotate_left
  · (intro ww hSw; (try dsimp only at hSw); go_simp; (try with_reducible rfl))
  try simp only [Act.put, List.setIfInBounds_toArray, List.set_cons_zero, List.set_cons_succ]
  refine wpAnyH_take (i := 22) (v := ?_) (by simp only [List.getElem?_toArray, List.getElem?_cons_succ, List.getElem?_cons_zero]; rfl) (by kernel_rfl) (by kernel_rfl) (by kernel_rfl) (fun _ _ _ h => h) (Or.inl ⟨by rfl, ?_⟩) (by assumption) ?_
  rotate_left
  · (intro ww hSw; (try dsimp only at hSw); go_simp; (try with_reducible rfl))
  try simp only [Act.put, List.setIfInBounds_toArray, List.set_cons_zero, List.set_cons_succ]
  refine wpAnyH_take (i := 23) (v := ?_) (by simp only [List.getElem?_toArray, List.getElem?_cons_succ, List.getElem?_cons_zero]; rfl) (by kernel_rfl) (by kernel_rfl) (by kernel_rfl) (fun _ _ _ h => h) (Or.inl ⟨by rfl, ?_⟩) (by assumption) ?_
  rotate_left
  · (intro ww hSw; (try dsimp only at hSw); go_simp; (try with_reducible rfl))
  try simp only [Act.put, List.setIfInBounds_toArray, List.set_cons_zero, List.set_cons_succ]
  refine wpAnyH_take (i := 25) (v := ?_) (by simp only [List.getElem?_toArray, List.getElem?_cons_succ, List.getElem?_cons_zero]; rfl) (by kernel_rfl) (by kernel_rfl) (by kernel_rfl) (fun _ _ _ h => h) (Or.inl ⟨by rfl, ?_⟩) (by assumption) ?_
  rotate_left
  · (intro ww hSw; (try dsimp only at hSw); go_simp; (try with_reducible rfl))
  try simp only [Act.put, List.setIfInBounds_toArray, List.set_cons_zero, List.set_cons_succ]
  refine wpAnyH_take (i := 26) (v := ?_) (by simp only [List.getElem?_toArray, List.getElem?_cons_succ, List.getElem?_cons_zero]; rfl) (by kernel_rfl) (by kernel_rfl) (by kernel_rfl) (fun _ _ _ h => h) (Or.inl ⟨by rfl, ?_⟩) (by assumption) ?_
  rotate_left
  · (intro ww hSw; (try dsimp only at hSw); go_simp; (try with_reducible rfl))
  try simp only [Act.put, List.setIfInBounds_toArray, List.set_cons_zero, List.set_cons_succ]
  refine wpAnyH_take (i := 27) (v := ?_) (by simp only [List.getElem?_toArray, List.getElem?_cons_succ, List.getElem?_cons_zero]; rfl) (by kernel_rfl) (by kernel_rfl) (by kernel_rfl) (fun _ _ _ h => h) (Or.inl ⟨by rfl, ?_⟩) (by assumption) ?_
  rotate_left
  · (intro ww hSw; (try dsimp only at hSw); go_simp; (try with_reducible rfl))
  try simp only [Act.put, List.setIfInBounds_toArray, List.set_cons_zero, List.set_cons_succ]
  refine wpAnyH_take (i := 29) (v := ?_) (by simp only [List.getElem?_toArray, List.getElem?_cons_succ, List.getElem?_cons_zero]; rfl) (by kernel_rfl) (by kernel_rfl) (by kernel_rfl) (fun _ _ _ h => h) (Or.inl ⟨by rfl, ?_⟩) (by assumption) ?_
  rotate_left
  · (intro ww hSw; (try dsimp only at hSw); go_simp; (try with_reducible rfl))
  try simp only [Act.put, List.setIfInBounds_toArray, List.set_cons_zero, List.set_cons_succ]
  refine wpAnyH_take (i := 30) (v := ?_) (by simp only [List.getElem?_toArray, List.getElem?_cons_succ, List.getElem?_cons_zero]; rfl) (by kernel_rfl) (by kernel_rfl) (by kernel_rfl) (fun _ _ _ h => h) (Or.inl ⟨by rfl, ?_⟩) (by assumption) ?_
  rotate_left
  · (intro ww hSw; (try dsimp only at hSw); go_simp; (try with_reducible rfl))
  try simp only [Act.put, List.setIfInBounds_toArray, List.set_cons_zero, List.set_cons_succ]
  refine wpAnyH_ready (rs := [5]) (by kernel_rfl) (by simp) (AllReadyH.cons (by simp only [List.getElem?_toArray, List.getElem?_cons_succ, List.getElem?_cons_zero]; rfl) (fun K hK => ?_) AllReadyH.nil)
  go_simp
  refine (missing_any x p item _).mono ?_; rintro e v0 ⟨_, rfl, f0, b0⟩; obtain ⟨F0, fs0, rfl, -, -⟩ := id f0; have C_0 := Lib.hid (CX.out.call b0); have D_0 := Lib.hid (DX.out.call b0); have G0 := Lib.hid f0; clear b0 f0
  try go_wp2_with fail
  refine hK.out _ _ (by (first | (with_reducible exact ⟨CD.out.a.cell, DD.out.cell⟩) | (with_reducible exact ⟨C_0.out.a.cell, D_0.out.cell⟩) | (with_reducible exact ⟨C_1.out.a.cell, D_1.out.cell⟩) | (with_reducible exact ⟨C_2.out.a.cell, D_2.out.cell⟩) | (with_reducible exact ⟨C_3.out.a.cell, D_3.out.cell⟩) | (with_reducible exact ⟨C_4.out.a.cell, D_4.out.cell⟩) | (with_reducible exact ⟨C_5.out.a.cell, D_5.out.cell⟩) | (with_reducible exact ⟨C_6.out.a.cell, D_6.out.cell⟩) | (with_reducible exact ⟨C_7.out.a.cell, D_7.out.cell⟩) | (with_reducible exact ⟨C_8.out.a.cell, D_8.out.cell⟩) | (with_reducible exact ⟨CB.out.a.cell, DB.out.cell⟩) | (with_reducible exact ⟨CC.out.a.cell, DC.out.cell⟩) | (refine off2_S (a := w.heap.size) (b := w0.heap.size) (A := #[.slice p.d.ex x.d.exits.length p.d.exc, .slice p.d.pl x.d.players.length p.d.plc, .slice p.d.co x.d.coins.length p.d.coc, .slice p.d.it x.d.items.length p.d.itc, .slice p.d.bo x.d.boxes.length p.d.boc, .int .i64 x.d.room, .int .i64 x.d.player, .int .i64 x.d.box, .slice p.at_ x.at_.length p.atc, .slice p.co x.coins.length p.coc, .slice p.wh x.wher.length p.whc]) (B := #[.int .i64 2, .int .i64 b]) ?_; (iterate 11 with_reducible refine Off2.set n1 n2 ?_ _ _); with_reducible exact OC.out))) (fun hHeld => ?_)
  clear hK K
  try simp only [Act.put, List.setIfInBounds_toArray, List.set_cons_zero, List.set_cons_succ]
  refine wpAnyH_ready (rs := [8]) (by kernel_rfl) (by simp) (AllReadyH.cons (by simp only [List.getElem?_toArray, List.getElem?_cons_succ, List.getElem?_cons_zero]; rfl) (fun K hK => ?_) AllReadyH.nil)
  go_simp
  refine (missing_any x p b _).mono ?_; rintro e v1 ⟨_, rfl, f1, b1⟩; obtain ⟨F1, fs1, rfl, -, -⟩ := id f1; have C_1 := Lib.hid (C_0.out.call b1); have D_1 := Lib.hid (D_0.out.call b1); replace G0 := Lib.hid (G0.out.call b1); have G1 := Lib.hid f1; clear b1 f1
  try go_wp2_with fail
  refine hK.out _ _ (by (first | (with_reducible exact ⟨CD.out.a.cell, DD.out.cell⟩) | (with_reducible exact ⟨C_0.out.a.cell, D_0.out.cell⟩) | (with_reducible exact ⟨C_1.out.a.cell, D_1.out.cell⟩) | (with_reducible exact ⟨C_2.out.a.cell, D_2.out.cell⟩) | (with_reducible exact ⟨C_3.out.a.cell, D_3.out.cell⟩) | (with_reducible exact ⟨C_4.out.a.cell, D_4.out.cell⟩) | (with_reducible exact ⟨C_5.out.a.cell, D_5.out.cell⟩) | (with_reducible exact ⟨C_6.out.a.cell, D_6.out.cell⟩) | (with_reducible exact ⟨C_7.out.a.cell, D_7.out.cell⟩) | (with_reducible exact ⟨C_8.out.a.cell, D_8.out.cell⟩) | (with_reducible exact ⟨CB.out.a.cell, DB.out.cell⟩) | (with_reducible exact ⟨CC.out.a.cell, DC.out.cell⟩) | (refine off2_S (a := w.heap.size) (b := w0.heap.size) (A := #[.slice p.d.ex x.d.exits.length p.d.exc, .slice p.d.pl x.d.players.length p.d.plc, .slice p.d.co x.d.coins.length p.d.coc, .slice p.d.it x.d.items.length p.d.itc, .slice p.d.bo x.d.boxes.length p.d.boc, .int .i64 x.d.room, .int .i64 x.d.player, .int .i64 x.d.box, .slice p.at_ x.at_.length p.atc, .slice p.co x.coins.length p.coc, .slice p.wh x.wher.length p.whc]) (B := #[.int .i64 2, .int .i64 b]) ?_; (iterate 11 with_reducible refine Off2.set n1 n2 ?_ _ _); with_reducible exact OC.out))) (fun hHeld => ?_)
  clear hK K
  try simp only [Act.put, List.setIfInBounds_toArray, List.set_cons_zero, List.set_cons_succ]
  refine wpAnyH_ready (rs := [12]) (by kernel_rfl) (by simp) (AllReadyH.cons (by simp only [List.getElem?_toArray, List.getElem?_cons_succ, List.getElem?_cons_zero]; rfl) (fun K hK => ?_) AllReadyH.nil)
  go_simp
  refine (bhands_any (i : Int) _).mono ?_; rintro e v2 ⟨rfl, b2⟩; have C_2 := Lib.hid (C_1.out.call b2); have D_2 := Lib.hid (D_1.out.call b2); replace G0 := Lib.hid (G0.out.call b2); replace G1 := Lib.hid (G1.out.call b2); clear b2
  try go_wp2_with fail
  refine hK.out _ _ (by (first | (with_reducible exact ⟨CD.out.a.cell, DD.out.cell⟩) | (with_reducible exact ⟨C_0.out.a.cell, D_0.out.cell⟩) | (with_reducible exact ⟨C_1.out.a.cell, D_1.out.cell⟩) | (with_reducible exact ⟨C_2.out.a.cell, D_2.out.cell⟩) | (with_reducible exact ⟨C_3.out.a.cell, D_3.out.cell⟩) | (with_reducible exact ⟨C_4.out.a.cell, D_4.out.cell⟩) | (with_reducible exact ⟨C_5.out.a.cell, D_5.out.cell⟩) | (with_reducible exact ⟨C_6.out.a.cell, D_6.out.cell⟩) | (with_reducible exact ⟨C_7.out.a.cell, D_7.out.cell⟩) | (with_reducible exact ⟨C_8.out.a.cell, D_8.out.cell⟩) | (with_reducible exact ⟨CB.out.a.cell, DB.out.cell⟩) | (with_reducible exact ⟨CC.out.a.cell, DC.out.cell⟩) | (refine off2_S (a := w.heap.size) (b := w0.heap.size) (A := #[.slice p.d.ex x.d.exits.length p.d.exc, .slice p.d.pl x.d.players.length p.d.plc, .slice p.d.co x.d.coins.length p.d.coc, .slice p.d.it x.d.items.length p.d.itc, .slice p.d.bo x.d.boxes.length p.d.boc, .int .i64 x.d.room, .int .i64 x.d.player, .int .i64 x.d.box, .slice p.at_ x.at_.length p.atc, .slice p.co x.coins.length p.coc, .slice p.wh x.wher.length p.whc]) (B := #[.int .i64 2, .int .i64 b]) ?_; (iterate 11 with_reducible refine Off2.set n1 n2 ?_ _ _); with_reducible exact OC.out))) (fun hHeld => ?_)
  clear hK K
  try simp only [Act.put, List.setIfInBounds_toArray, List.set_cons_zero, List.set_cons_succ]
  refine wpAnyH_ready (rs := [13]) (by kernel_rfl) (by simp) (AllReadyH.cons (by simp only [List.getElem?_toArray, List.getElem?_cons_succ, List.getElem?_cons_zero]; rfl) (fun K hK => ?_) AllReadyH.nil)
  go_simp
  refine (elsewhere_any x p item ⟨1, (i : Int)⟩ _ (H.out.below C_2.out.b (Nat.le_refl _))).mono ?_; rintro e v3 ⟨_, rfl, f3, b3⟩; obtain ⟨F3, fs3, rfl, -, -⟩ := id f3; have C_3 := Lib.hid (C_2.out.call b3); have D_3 := Lib.hid (D_2.out.call b3); replace G0 := Lib.hid (G0.out.call b3); replace G1 := Lib.hid (G1.out.call b3); have G3 := Lib.hid f3; clear b3 f3
  try go_wp2_with fail
  refine hK.out _ _ (by (first | (with_reducible exact ⟨CD.out.a.cell, DD.out.cell⟩) | (with_reducible exact ⟨C_0.out.a.cell, D_0.out.cell⟩) | (with_reducible exact ⟨C_1.out.a.cell, D_1.out.cell⟩) | (with_reducible exact ⟨C_2.out.a.cell, D_2.out.cell⟩) | (with_reducible exact ⟨C_3.out.a.cell, D_3.out.cell⟩) | (with_reducible exact ⟨C_4.out.a.cell, D_4.out.cell⟩) | (with_reducible exact ⟨C_5.out.a.cell, D_5.out.cell⟩) | (with_reducible exact ⟨C_6.out.a.cell, D_6.out.cell⟩) | (with_reducible exact ⟨C_7.out.a.cell, D_7.out.cell⟩) | (with_reducible exact ⟨C_8.out.a.cell, D_8.out.cell⟩) | (with_reducible exact ⟨CB.out.a.cell, DB.out.cell⟩) | (with_reducible exact ⟨CC.out.a.cell, DC.out.cell⟩) | (refine off2_S (a := w.heap.size) (b := w0.heap.size) (A := #[.slice p.d.ex x.d.exits.length p.d.exc, .slice p.d.pl x.d.players.length p.d.plc, .slice p.d.co x.d.coins.length p.d.coc, .slice p.d.it x.d.items.length p.d.itc, .slice p.d.bo x.d.boxes.length p.d.boc, .int .i64 x.d.room, .int .i64 x.d.player, .int .i64 x.d.box, .slice p.at_ x.at_.length p.atc, .slice p.co x.coins.length p.coc, .slice p.wh x.wher.length p.whc]) (B := #[.int .i64 2, .int .i64 b]) ?_; (iterate 11 with_reducible refine Off2.set n1 n2 ?_ _ _); with_reducible exact OC.out))) (fun hHeld => ?_)
  clear hK K
  try simp only [Act.put, List.setIfInBounds_toArray, List.set_cons_zero, List.set_cons_succ]
  refine wpAnyH_ready (rs := [17]) (by kernel_rfl) (by simp) (AllReadyH.cons (by simp only [List.getElem?_toArray, List.getElem?_cons_succ, List.getElem?_cons_zero]; rfl) (fun K hK => ?_) AllReadyH.nil)
  go_simp
  refine (far_any x p i b _ HX.out (H.out.below C_3.out.b (Nat.le_refl _)) hi).mono ?_; rintro e v4 ⟨_, rfl, f4, b4⟩; obtain ⟨F4, fs4, rfl, -, -⟩ := id f4; have C_4 := Lib.hid (C_3.out.call b4); have D_4 := Lib.hid (D_3.out.call b4); replace G0 := Lib.hid (G0.out.call b4); replace G1 := Lib.hid (G1.out.call b4); replace G3 := Lib.hid (G3.out.call b4); have G4 := Lib.hid f4; clear b4 f4
  try go_wp2_with fail
  refine hK.out _ _ (by (first | (with_reducible exact ⟨CD.out.a.cell, DD.out.cell⟩) | (with_reducible exact ⟨C_0.out.a.cell, D_0.out.cell⟩) | (with_reducible exact ⟨C_1.out.a.cell, D_1.out.cell⟩) | (with_reducible exact ⟨C_2.out.a.cell, D_2.out.cell⟩) | (with_reducible exact ⟨C_3.out.a.cell, D_3.out.cell⟩) | (with_reducible exact ⟨C_4.out.a.cell, D_4.out.cell⟩) | (with_reducible exact ⟨C_5.out.a.cell, D_5.out.cell⟩) | (with_reducible exact ⟨C_6.out.a.cell, D_6.out.cell⟩) | (with_reducible exact ⟨C_7.out.a.cell, D_7.out.cell⟩) | (with_reducible exact ⟨C_8.out.a.cell, D_8.out.cell⟩) | (with_reducible exact ⟨CB.out.a.cell, DB.out.cell⟩) | (with_reducible exact ⟨CC.out.a.cell, DC.out.cell⟩) | (refine off2_S (a := w.heap.size) (b := w0.heap.size) (A := #[.slice p.d.ex x.d.exits.length p.d.exc, .slice p.d.pl x.d.players.length p.d.plc, .slice p.d.co x.d.coins.length p.d.coc, .slice p.d.it x.d.items.length p.d.itc, .slice p.d.bo x.d.boxes.length p.d.boc, .int .i64 x.d.room, .int .i64 x.d.player, .int .i64 x.d.box, .slice p.at_ x.at_.length p.atc, .slice p.co x.coins.length p.coc, .slice p.wh x.wher.length p.whc]) (B := #[.int .i64 2, .int .i64 b]) ?_; (iterate 11 with_reducible refine Off2.set n1 n2 ?_ _ _); with_reducible exact OC.out))) (fun hHeld => ?_)
  clear hK K
  try simp only [Act.put, List.setIfInBounds_toArray, List.set_cons_zero, List.set_cons_succ]
  refine wpAnyH_ready (rs := [20]) (by kernel_rfl) (by simp) (AllReadyH.cons (by simp only [List.getElem?_toArray, List.getElem?_cons_succ, List.getElem?_cons_zero]; rfl) (fun K hK => ?_) AllReadyH.nil)
  go_simp
  refine (noBox_any x p b _ (H.out.below C_4.out.b (Nat.le_refl _)) HBL.out).mono ?_; rintro e v5 ⟨_, rfl, f5, b5⟩; obtain ⟨F5, fs5, rfl, -, -⟩ := id f5; have C_5 := Lib.hid (C_4.out.call b5); have D_5 := Lib.hid (D_4.out.call b5); replace G0 := Lib.hid (G0.out.call b5); replace G1 := Lib.hid (G1.out.call b5); replace G3 := Lib.hid (G3.out.call b5); replace G4 := Lib.hid (G4.out.call b5); have G5 := Lib.hid f5; clear b5 f5
  try go_wp2_with fail
  refine hK.out _ _ (by (first | (with_reducible exact ⟨CD.out.a.cell, DD.out.cell⟩) | (with_reducible exact ⟨C_0.out.a.cell, D_0.out.cell⟩) | (with_reducible exact ⟨C_1.out.a.cell, D_1.out.cell⟩) | (with_reducible exact ⟨C_2.out.a.cell, D_2.out.cell⟩) | (with_reducible exact ⟨C_3.out.a.cell, D_3.out.cell⟩) | (with_reducible exact ⟨C_4.out.a.cell, D_4.out.cell⟩) | (with_reducible exact ⟨C_5.out.a.cell, D_5.out.cell⟩) | (with_reducible exact ⟨C_6.out.a.cell, D_6.out.cell⟩) | (with_reducible exact ⟨C_7.out.a.cell, D_7.out.cell⟩) | (with_reducible exact ⟨C_8.out.a.cell, D_8.out.cell⟩) | (with_reducible exact ⟨CB.out.a.cell, DB.out.cell⟩) | (with_reducible exact ⟨CC.out.a.cell, DC.out.cell⟩) | (refine off2_S (a := w.heap.size) (b := w0.heap.size) (A := #[.slice p.d.ex x.d.exits.length p.d.exc, .slice p.d.pl x.d.players.length p.d.plc, .slice p.d.co x.d.coins.length p.d.coc, .slice p.d.it x.d.items.length p.d.itc, .slice p.d.bo x.d.boxes.length p.d.boc, .int .i64 x.d.room, .int .i64 x.d.player, .int .i64 x.d.box, .slice p.at_ x.at_.length p.atc, .slice p.co x.coins.length p.coc, .slice p.wh x.wher.length p.whc]) (B := #[.int .i64 2, .int .i64 b]) ?_; (iterate 11 with_reducible refine Off2.set n1 n2 ?_ _ _); with_reducible exact OC.out))) (fun hHeld => ?_)
  clear hK K
  try simp only [Act.put, List.setIfInBounds_toArray, List.set_cons_zero, List.set_cons_succ]
  refine wpAnyH_ready (rs := [24]) (by kernel_rfl) (by simp) (AllReadyH.cons (by simp only [List.getElem?_toArray, List.getElem?_cons_succ, List.getElem?_cons_zero]; rfl) (fun K hK => ?_) AllReadyH.nil)
  go_simp
  refine (loop_any x p item b _ HT.out (H.out.below C_5.out.b (Nat.le_refl _))).mono ?_; rintro e v6 ⟨_, rfl, f6, b6⟩; obtain ⟨F6, fs6, rfl, -, -⟩ := id f6; have C_6 := Lib.hid (C_5.out.call b6); have D_6 := Lib.hid (D_5.out.call b6); replace G0 := Lib.hid (G0.out.call b6); replace G1 := Lib.hid (G1.out.call b6); replace G3 := Lib.hid (G3.out.call b6); replace G4 := Lib.hid (G4.out.call b6); replace G5 := Lib.hid (G5.out.call b6); have G6 := Lib.hid f6; clear b6 f6
  try go_wp2_with fail
  refine hK.out _ _ (by (first | (with_reducible exact ⟨CD.out.a.cell, DD.out.cell⟩) | (with_reducible exact ⟨C_0.out.a.cell, D_0.out.cell⟩) | (with_reducible exact ⟨C_1.out.a.cell, D_1.out.cell⟩) | (with_reducible exact ⟨C_2.out.a.cell, D_2.out.cell⟩) | (with_reducible exact ⟨C_3.out.a.cell, D_3.out.cell⟩) | (with_reducible exact ⟨C_4.out.a.cell, D_4.out.cell⟩) | (with_reducible exact ⟨C_5.out.a.cell, D_5.out.cell⟩) | (with_reducible exact ⟨C_6.out.a.cell, D_6.out.cell⟩) | (with_reducible exact ⟨C_7.out.a.cell, D_7.out.cell⟩) | (with_reducible exact ⟨C_8.out.a.cell, D_8.out.cell⟩) | (with_reducible exact ⟨CB.out.a.cell, DB.out.cell⟩) | (with_reducible exact ⟨CC.out.a.cell, DC.out.cell⟩) | (refine off2_S (a := w.heap.size) (b := w0.heap.size) (A := #[.slice p.d.ex x.d.exits.length p.d.exc, .slice p.d.pl x.d.players.length p.d.plc, .slice p.d.co x.d.coins.length p.d.coc, .slice p.d.it x.d.items.length p.d.itc, .slice p.d.bo x.d.boxes.length p.d.boc, .int .i64 x.d.room, .int .i64 x.d.player, .int .i64 x.d.box, .slice p.at_ x.at_.length p.atc, .slice p.co x.coins.length p.coc, .slice p.wh x.wher.length p.whc]) (B := #[.int .i64 2, .int .i64 b]) ?_; (iterate 11 with_reducible refine Off2.set n1 n2 ?_ _ _); with_reducible exact OC.out))) (fun hHeld => ?_)
  clear hK K
  try simp only [Act.put, List.setIfInBounds_toArray, List.set_cons_zero, List.set_cons_succ]
  refine wpAnyH_ready (rs := [28]) (by kernel_rfl) (by simp) (AllReadyH.cons (by simp only [List.getElem?_toArray, List.getElem?_cons_succ, List.getElem?_cons_zero]; rfl) (fun K hK => ?_) AllReadyH.nil)
  go_simp
  refine (deep_any x p item b _ HT.out (H.out.below C_6.out.b (Nat.le_refl _))).mono ?_; rintro e v7 ⟨_, rfl, f7, b7⟩; obtain ⟨F7, fs7, rfl, -, -⟩ := id f7; have C_7 := Lib.hid (C_6.out.call b7); have D_7 := Lib.hid (D_6.out.call b7); replace G0 := Lib.hid (G0.out.call b7); replace G1 := Lib.hid (G1.out.call b7); replace G3 := Lib.hid (G3.out.call b7); replace G4 := Lib.hid (G4.out.call b7); replace G5 := Lib.hid (G5.out.call b7); replace G6 := Lib.hid (G6.out.call b7); have G7 := Lib.hid f7; clear b7 f7
  try go_wp2_with fail
  refine hK.out _ _ (by (first | (with_reducible exact ⟨CD.out.a.cell, DD.out.cell⟩) | (with_reducible exact ⟨C_0.out.a.cell, D_0.out.cell⟩) | (with_reducible exact ⟨C_1.out.a.cell, D_1.out.cell⟩) | (with_reducible exact ⟨C_2.out.a.cell, D_2.out.cell⟩) | (with_reducible exact ⟨C_3.out.a.cell, D_3.out.cell⟩) | (with_reducible exact ⟨C_4.out.a.cell, D_4.out.cell⟩) | (with_reducible exact ⟨C_5.out.a.cell, D_5.out.cell⟩) | (with_reducible exact ⟨C_6.out.a.cell, D_6.out.cell⟩) | (with_reducible exact ⟨C_7.out.a.cell, D_7.out.cell⟩) | (with_reducible exact ⟨C_8.out.a.cell, D_8.out.cell⟩) | (with_reducible exact ⟨CB.out.a.cell, DB.out.cell⟩) | (with_reducible exact ⟨CC.out.a.cell, DC.out.cell⟩) | (refine off2_S (a := w.heap.size) (b := w0.heap.size) (A := #[.slice p.d.ex x.d.exits.length p.d.exc, .slice p.d.pl x.d.players.length p.d.plc, .slice p.d.co x.d.coins.length p.d.coc, .slice p.d.it x.d.items.length p.d.itc, .slice p.d.bo x.d.boxes.length p.d.boc, .int .i64 x.d.room, .int .i64 x.d.player, .int .i64 x.d.box, .slice p.at_ x.at_.length p.atc, .slice p.co x.coins.length p.coc, .slice p.wh x.wher.length p.whc]) (B := #[.int .i64 2, .int .i64 b]) ?_; (iterate 11 with_reducible refine Off2.set n1 n2 ?_ _ _); with_reducible exact OC.out))) (fun hHeld => ?_)
  clear hK K
  try simp only [Act.put, List.setIfInBounds_toArray, List.set_cons_zero, List.set_cons_succ]
  refine wpAnyH_ready (rs := [31]) (by kernel_rfl) (by simp) (AllReadyH.cons (by simp only [List.getElem?_toArray, List.getElem?_cons_succ, List.getElem?_cons_zero]; rfl) (fun K hK => ?_) AllReadyH.nil)
  go_simp
  refine (full_any x p 2 b _ HX.out (H.out.below C_7.out.b (Nat.le_refl _)) (by omega)).mono ?_; rintro e v8 ⟨_, rfl, f8, b8⟩; obtain ⟨F8, fs8, rfl, -, -⟩ := id f8; have C_8 := Lib.hid (C_7.out.call b8); have D_8 := Lib.hid (D_7.out.call b8); replace G0 := Lib.hid (G0.out.call b8); replace G1 := Lib.hid (G1.out.call b8); replace G3 := Lib.hid (G3.out.call b8); replace G4 := Lib.hid (G4.out.call b8); replace G5 := Lib.hid (G5.out.call b8); replace G6 := Lib.hid (G6.out.call b8); replace G7 := Lib.hid (G7.out.call b8); have G8 := Lib.hid f8; clear b8 f8
  try go_wp2_with fail
  refine hK.out _ _ (by (first | (with_reducible exact ⟨CD.out.a.cell, DD.out.cell⟩) | (with_reducible exact ⟨C_0.out.a.cell, D_0.out.cell⟩) | (with_reducible exact ⟨C_1.out.a.cell, D_1.out.cell⟩) | (with_reducible exact ⟨C_2.out.a.cell, D_2.out.cell⟩) | (with_reducible exact ⟨C_3.out.a.cell, D_3.out.cell⟩) | (with_reducible exact ⟨C_4.out.a.cell, D_4.out.cell⟩) | (with_reducible exact ⟨C_5.out.a.cell, D_5.out.cell⟩) | (with_reducible exact ⟨C_6.out.a.cell, D_6.out.cell⟩) | (with_reducible exact ⟨C_7.out.a.cell, D_7.out.cell⟩) | (with_reducible exact ⟨C_8.out.a.cell, D_8.out.cell⟩) | (with_reducible exact ⟨CB.out.a.cell, DB.out.cell⟩) | (with_reducible exact ⟨CC.out.a.cell, DC.out.cell⟩) | (refine off2_S (a := w.heap.size) (b := w0.heap.size) (A := #[.slice p.d.ex x.d.exits.length p.d.exc, .slice p.d.pl x.d.players.length p.d.plc, .slice p.d.co x.d.coins.length p.d.coc, .slice p.d.it x.d.items.length p.d.itc, .slice p.d.bo x.d.boxes.length p.d.boc, .int .i64 x.d.room, .int .i64 x.d.player, .int .i64 x.d.box, .slice p.at_ x.at_.length p.atc, .slice p.co x.coins.length p.coc, .slice p.wh x.wher.length p.whc]) (B := #[.int .i64 2, .int .i64 b]) ?_; (iterate 11 with_reducible refine Off2.set n1 n2 ?_ _ _); with_reducible exact OC.out))) (fun hHeld => ?_)
  clear hK K
  try simp only [Act.put, List.setIfInBounds_toArray, List.set_cons_zero, List.set_cons_succ]
  have BB := Lib.hid ((Below.refl v8.heap.size v8).alloc (Nat.le_refl _) (.cells #[.func (.func F0) #[] fs0, .int .i64 3, .func (.func F1) #[] fs1, .int .i64 3, .func (.func F3) #[] fs3, .int .i64 5, .func (.func F4) #[] fs4, .int .i64 5, .func (.func F5) #[] fs5, .int .i64 6, .func (.func F6) #[] fs6, .int .i64 7, .func (.func F7) #[] fs7, .int .i64 8, .func (.func F8) #[] fs8, .int .i64 9] 51))
  have BR := Lib.hid (Blk.newn v8 51 #[.func (.func F0) #[] fs0, .int .i64 3, .func (.func F1) #[] fs1, .int .i64 3, .func (.func F3) #[] fs3, .int .i64 5, .func (.func F4) #[] fs4, .int .i64 5, .func (.func F5) #[] fs5, .int .i64 6, .func (.func F6) #[] fs6, .int .i64 7, .func (.func F7) #[] fs7, .int .i64 8, .func (.func F8) #[] fs8, .int .i64 9] (n := v8.heap.size) rfl)
  have CB := Lib.hid (C_8.out.call BB.out)
  have DB := Lib.hid (D_8.out.call BB.out)
  replace G0 := Lib.hid (G0.out.call BB.out)
  replace G1 := Lib.hid (G1.out.call BB.out)
  replace G3 := Lib.hid (G3.out.call BB.out)
  replace G4 := Lib.hid (G4.out.call BB.out)
  replace G5 := Lib.hid (G5.out.call BB.out)
  replace G6 := Lib.hid (G6.out.call BB.out)
  replace G7 := Lib.hid (G7.out.call BB.out)
  replace G8 := Lib.hid (G8.out.call BB.out)
  refine wpAnyH_ready (rs := [32]) (by kernel_rfl) (by simp) (AllReadyH.cons (by simp only [List.getElem?_toArray, List.getElem?_cons_succ, List.getElem?_cons_zero]; rfl) (fun K hK => ?_) AllReadyH.nil)
  go_simp
  try go_wp2_with fail
  refine hK.out _ _ (by (first | (with_reducible exact ⟨CD.out.a.cell, DD.out.cell⟩) | (with_reducible exact ⟨C_0.out.a.cell, D_0.out.cell⟩) | (with_reducible exact ⟨C_1.out.a.cell, D_1.out.cell⟩) | (with_reducible exact ⟨C_2.out.a.cell, D_2.out.cell⟩) | (with_reducible exact ⟨C_3.out.a.cell, D_3.out.cell⟩) | (with_reducible exact ⟨C_4.out.a.cell, D_4.out.cell⟩) | (with_reducible exact ⟨C_5.out.a.cell, D_5.out.cell⟩) | (with_reducible exact ⟨C_6.out.a.cell, D_6.out.cell⟩) | (with_reducible exact ⟨C_7.out.a.cell, D_7.out.cell⟩) | (with_reducible exact ⟨C_8.out.a.cell, D_8.out.cell⟩) | (with_reducible exact ⟨CB.out.a.cell, DB.out.cell⟩) | (with_reducible exact ⟨CC.out.a.cell, DC.out.cell⟩) | (refine off2_S (a := w.heap.size) (b := w0.heap.size) (A := #[.slice p.d.ex x.d.exits.length p.d.exc, .slice p.d.pl x.d.players.length p.d.plc, .slice p.d.co x.d.coins.length p.d.coc, .slice p.d.it x.d.items.length p.d.itc, .slice p.d.bo x.d.boxes.length p.d.boc, .int .i64 x.d.room, .int .i64 x.d.player, .int .i64 x.d.box, .slice p.at_ x.at_.length p.atc, .slice p.co x.coins.length p.coc, .slice p.wh x.wher.length p.whc]) (B := #[.int .i64 2, .int .i64 b]) ?_; (iterate 11 with_reducible refine Off2.set n1 n2 ?_ _ _); with_reducible exact OC.out))) (fun hHeld => ?_)
  clear hK K
  try simp only [Act.put, List.setIfInBounds_toArray, List.set_cons_zero, List.set_cons_succ]
  have RR := Lib.hid (row_put BR.out G0.out G1.out G3.out G4.out G5.out G6.out G7.out G8.out trivial (fun _ => trivial) (fun h0 _ => not_no h0) (fun _ h1 _ => not_no h1) (fun _ h1 _ _ => not_no h1) (fun h0 h1 _ _ _ => ⟨not_no h0, not_no h1⟩) (fun h0 h1 _ _ _ _ => ⟨not_no h0, not_no h1⟩) (fun _ _ _ _ _ _ _ => trivial))
  generalize v8.alloc (.cells #[.func (.func F0) #[] fs0, .int .i64 3, .func (.func F1) #[] fs1, .int .i64 3, .func (.func F3) #[] fs3, .int .i64 5, .func (.func F4) #[] fs4, .int .i64 5, .func (.func F5) #[] fs5, .int .i64 6, .func (.func F6) #[] fs6, .int .i64 7, .func (.func F7) #[] fs7, .int .i64 8, .func (.func F8) #[] fs8, .int .i64 9] 51) = VB at *
  refine wpAnyH_ready (rs := [33]) (by kernel_rfl) (by simp) (AllReadyH.cons (by simp only [List.getElem?_toArray, List.getElem?_cons_succ, List.getElem?_cons_zero]; rfl) (fun K hK => ?_) AllReadyH.nil)
  go_simp
  refine (bring_any x p item ⟨2, b⟩ v8.heap.size 8 (putL x i item b) _ HX.out (H.out.below CB.out.b (Nat.le_refl _)) (by simp [putL]) BR.out.lt RR.out HNE.out HTO.out).mono ?_; rintro e w9 ⟨⟨qd, qa, qac, qk, qkc, qw, qwc⟩, rfl, wn, hb9⟩; rw [put_of HX.out, ← HY.out] at wn ⊢; have CC := Lib.hid (CB.out.call hb9); have DC := Lib.hid (DB.out.call hb9)
  try go_wp2_with fail
  refine hK.out _ _ (by (first | (with_reducible exact ⟨CD.out.a.cell, DD.out.cell⟩) | (with_reducible exact ⟨C_0.out.a.cell, D_0.out.cell⟩) | (with_reducible exact ⟨C_1.out.a.cell, D_1.out.cell⟩) | (with_reducible exact ⟨C_2.out.a.cell, D_2.out.cell⟩) | (with_reducible exact ⟨C_3.out.a.cell, D_3.out.cell⟩) | (with_reducible exact ⟨C_4.out.a.cell, D_4.out.cell⟩) | (with_reducible exact ⟨C_5.out.a.cell, D_5.out.cell⟩) | (with_reducible exact ⟨C_6.out.a.cell, D_6.out.cell⟩) | (with_reducible exact ⟨C_7.out.a.cell, D_7.out.cell⟩) | (with_reducible exact ⟨C_8.out.a.cell, D_8.out.cell⟩) | (with_reducible exact ⟨CB.out.a.cell, DB.out.cell⟩) | (with_reducible exact ⟨CC.out.a.cell, DC.out.cell⟩) | (refine off2_S (a := w.heap.size) (b := w0.heap.size) (A := #[.slice p.d.ex x.d.exits.length p.d.exc, .slice p.d.pl x.d.players.length p.d.plc, .slice p.d.co x.d.coins.length p.d.coc, .slice p.d.it x.d.items.length p.d.itc, .slice p.d.bo x.d.boxes.length p.d.boc, .int .i64 x.d.room, .int .i64 x.d.player, .int .i64 x.d.box, .slice p.at_ x.at_.length p.atc, .slice p.co x.coins.length p.coc, .slice p.wh x.wher.length p.whc]) (B := #[.int .i64 2, .int .i64 b]) ?_; (iterate 11 with_reducible refine Off2.set n1 n2 ?_ _ _); with_reducible exact OC.out))) (fun hHeld => ?_)
  clear hK K
  try simp only [Act.put, List.setIfInBounds_toArray, List.set_cons_zero, List.set_cons_succ]
  have WN := Lib.hid wn
  have hc2 := CC.out.r.cell
  have hz2 := CC.out.r.frozen
  have hs2 := CC.out.r.lt
  have OC := Lib.hid (show Off2 w.heap.size w0.heap.size #[.slice p.d.ex x.d.exits.length p.d.exc, .slice p.d.pl x.d.players.length p.d.plc, .slice p.d.co x.d.coins.length p.d.coc, .slice p.d.it x.d.items.length p.d.itc, .slice p.d.bo x.d.boxes.length p.d.boc, .int .i64 x.d.room, .int .i64 x.d.player, .int .i64 x.d.box, .slice p.at_ x.at_.length p.atc, .slice p.co x.coins.length p.coc, .slice p.wh x.wher.length p.whc] #[.int .i64 2, .int .i64 b] w9 from ⟨CC.out.a.cell, DC.out.cell⟩)
  have n1 : w.heap.size ≠ w.heap.size + 1 := by omega
  have n2 : w0.heap.size ≠ w.heap.size + 1 := by have := C1.out.r.lt; omega
  clear wn hb9
  refine wpAnyH_take (i := 34) (v := ?_) (by simp only [List.getElem?_toArray, List.getElem?_cons_succ, List.getElem?_cons_zero]; rfl) (by kernel_rfl) (by kernel_rfl) (by kernel_rfl) (fun _ _ _ h => h) (Or.inl ⟨by rfl, ?_⟩) (by assumption) ?_
  rotate_left
  · (intro ww hSw; (try dsimp only at hSw); go_simp; (try with_reducible rfl))
  try simp only [Act.put, List.setIfInBounds_toArray, List.set_cons_zero, List.set_cons_succ]
  refine wpAnyH_take (i := 35) (v := ?_) (by simp only [List.getElem?_toArray, List.getElem?_cons_succ, List.getElem?_cons_zero]; rfl) (by kernel_rfl) (by kernel_rfl) (by kernel_rfl) (fun _ _ _ h => h) (Or.inl ⟨by rfl, ?_⟩) (by assumption) ?_
  rotate_left
  · (intro ww hSw; (try dsimp only at hSw); go_simp; (try with_reducible rfl))
  try simp only [Act.put, List.setIfInBounds_toArray, List.set_cons_zero, List.set_cons_succ]
  refine wpAnyH_ready (rs := [36]) (by kernel_rfl) (by simp) (AllReadyH.cons (by simp only [List.getElem?_toArray, List.getElem?_cons_succ, List.getElem?_cons_zero]; rfl) (fun K hK => ?_) AllReadyH.nil)
  go_simp
  try go_wp2_with fail
  refine hK.out _ _ (by (first | (with_reducible exact ⟨CD.out.a.cell, DD.out.cell⟩) | (with_reducible exact ⟨C_0.out.a.cell, D_0.out.cell⟩) | (with_reducible exact ⟨C_1.out.a.cell, D_1.out.cell⟩) | (with_reducible exact ⟨C_2.out.a.cell, D_2.out.cell⟩) | (with_reducible exact ⟨C_3.out.a.cell, D_3.out.cell⟩) | (with_reducible exact ⟨C_4.out.a.cell, D_4.out.cell⟩) | (with_reducible exact ⟨C_5.out.a.cell, D_5.out.cell⟩) | (with_reducible exact ⟨C_6.out.a.cell, D_6.out.cell⟩) | (with_reducible exact ⟨C_7.out.a.cell, D_7.out.cell⟩) | (with_reducible exact ⟨C_8.out.a.cell, D_8.out.cell⟩) | (with_reducible exact ⟨CB.out.a.cell, DB.out.cell⟩) | (with_reducible exact ⟨CC.out.a.cell, DC.out.cell⟩) | (refine off2_S (a := w.heap.size) (b := w0.heap.size) (A := #[.slice p.d.ex x.d.exits.length p.d.exc, .slice p.d.pl x.d.players.length p.d.plc, .slice p.d.co x.d.coins.length p.d.coc, .slice p.d.it x.d.items.length p.d.itc, .slice p.d.bo x.d.boxes.length p.d.boc, .int .i64 x.d.room, .int .i64 x.d.player, .int .i64 x.d.box, .slice p.at_ x.at_.length p.atc, .slice p.co x.coins.length p.coc, .slice p.wh x.wher.length p.whc]) (B := #[.int .i64 2, .int .i64 b]) ?_; (iterate 11 with_reducible refine Off2.set n1 n2 ?_ _ _); with_reducible exact OC.out))) (fun hHeld => ?_)
  clear hK K
  try simp only [Act.put, List.setIfInBounds_toArray, List.set_cons_zero, List.set_cons_succ]
  refine wpAnyH_take (i := 37) (v := ?_) (by simp only [List.getElem?_toArray, List.getElem?_cons_succ, List.getElem?_cons_zero]; rfl) (by kernel_rfl) (by kernel_rfl) (by kernel_rfl) (fun _ _ _ h => h) (Or.inl ⟨by rfl, ?_⟩) (by assumption) ?_
  rotate_left
  · (intro ww hSw; (try dsimp only at hSw); go_simp; (try with_reducible rfl))
  try simp only [Act.put, List.setIfInBounds_toArray, List.set_cons_zero, List.set_cons_succ]
  refine wpAnyH_done (by kernel_rfl) ?_ _
  refine NoPanic.normal ?_
  go_wp2_with fail
  refine bodyPost_ret (v := .tuple #[.agg #[.slice qd.ex x.d.exits.length qd.exc, .slice qd.pl x.d.players.length qd.plc, .slice qd.co x.d.coins.length qd.coc, .slice qd.it x.d.items.length qd.itc, .slice qd.bo x.d.boxes.length qd.boc, .int .i64 x.d.room, .int .i64 x.d.player, .int .i64 x.d.box, .slice qa x.at_.length qac, .slice qk x.coins.length qkc, .slice qw x.wher.length qwc], .int .i64 y.2]) (by simp [results, Try.results10, go_sem, hc2]) rfl ⟨⟨qd, qa, qac, qk, qkc, qw, qwc⟩, rfl, ?_, ?_⟩
  · refine Took.less (n := VB.heap.size) ?_ (by have := CB.out.r.lt; omega)
    iterate 11 refine Took.set (b := w.heap.size + 1) ?_ CB.out.r.lt _ _
    exact WN.out
  · iterate 11 refine Below.setCell ?_ (by show w.heap.size ≤ w.heap.size + 1; omega) _
    exact CC.out.b
set_option maxRecDepth 100000 in
set_option maxHeartbeats 1000000 in
theorem btake_any (x : Wd) (p : Wp) (i : Nat) (item b : Int) (w : World) (hx : rightW x = true) (h : WorldAt w p x) (hi : i < x.at_.length) : Calls Try.prog 12 #[.agg #[.slice p.d.ex x.d.exits.length p.d.exc, .slice p.d.pl x.d.players.length p.d.plc, .slice p.d.co x.d.coins.length p.d.coc, .slice p.d.it x.d.items.length p.d.itc, .slice p.d.bo x.d.boxes.length p.d.boc, .int .i64 x.d.room, .int .i64 x.d.player, .int .i64 x.d.box, .slice p.at_ x.at_.length p.atc, .slice p.co x.coins.length p.coc, .slice p.wh x.wher.length p.whc], .int .i64 (i : Int), .int .i64 item, .int .i64 b] w fun e w' => ∃ q : Wp, e = .returned (.tuple #[.agg #[.slice q.d.ex x.d.exits.length q.d.exc, .slice q.d.pl x.d.players.length q.d.plc, .slice q.d.co x.d.coins.length q.d.coc, .slice q.d.it x.d.items.length q.d.itc, .slice q.d.bo x.d.boxes.length q.d.boc, .int .i64 x.d.room, .int .i64 x.d.player, .int .i64 x.d.box, .slice q.at_ x.at_.length q.atc, .slice q.co x.coins.length q.coc, .slice q.wh x.wher.length q.whc], .int .i64 (outW x i item b).2]) ∧ Took w.heap.size w' p q x (outW x i item b) ∧ Below w.heap.size w w' := by
  have H := Lib.hid h
  have HX := Lib.hid hx
  have HT := Lib.hid (right_tr hx)
  have HBL := Lib.hid (boxes_len hx)
  clear h hx
  have C0 := Lib.hid (Two.start 29 29 w #[.slice p.d.ex x.d.exits.length p.d.exc, .slice p.d.pl x.d.players.length p.d.plc, .slice p.d.co x.d.coins.length p.d.coc, .slice p.d.it x.d.items.length p.d.itc, .slice p.d.bo x.d.boxes.length p.d.boc, .int .i64 x.d.room, .int .i64 x.d.player, .int .i64 x.d.box, .slice p.at_ x.at_.length p.atc, .slice p.co x.coins.length p.coc, .slice p.wh x.wher.length p.whc] #[.slice none 0 0, .slice none 0 0, .slice none 0 0, .slice none 0 0, .slice none 0 0, .int .i64 0, .int .i64 0, .int .i64 0, .slice none 0 0, .slice none 0 0, .slice none 0 0])
  obtain ⟨y, hy⟩ : ∃ y, y = outW x i item b := ⟨_, rfl⟩
  have HY := Lib.hid hy
  rw [← hy]
  clear hy
  have HNE : Hid (∀ j (hj : j < (takeL x i item b).length), ¬ (takeL x i item b)[j].2 = 0) := Lib.hid (takeL_ne x i item b)
  have HTO : Hid ((∀ l (hl : l < (takeL x i item b).length), (takeL x i item b)[l].1 = false) → ∃ k : Nat, item = k ∧ k < x.wher.length) := Lib.hid (fun h => by have h0 := not_no (h 0 (by simp [takeL])); have := (inB_iff _ _).1 h0; exact ⟨item.toNat, by omega, by omega⟩)
  go_enter Try.func12, Try.ntmps12
  go_wp2_with fail
  refine (bhands_any (i : Int) _).mono ?_
  rintro e w0 ⟨rfl, b0⟩
  have C1 := Lib.hid (C0.out.call b0)
  clear b0 C0
  go_wp2_with fail
  have B1 := Lib.hid ((Below.refl w0.heap.size w0).alloc (Nat.le_refl _) (.cells #[.int .i64 1, .int .i64 (i : Int)] 42))
  have D1 := Lib.hid (Blk.newn w0 42 #[.int .i64 1, .int .i64 (i : Int)] (n := w0.heap.size) rfl)
  have C2 := Lib.hid (C1.out.call B1.out)
  generalize w0.alloc (.cells #[.int .i64 1, .int .i64 (i : Int)] 42) = V0 at *
  have CD := Lib.hid C2.out.drew
  have DD := Lib.hid D1.out.drew
  refine wp_region_noPanic ?_
  refine wp_region_held_drew (S := (fun w' => (∀ j, w'.cell? ⟨w.heap.size, j, none⟩ = (#[.slice p.d.ex x.d.exits.length p.d.exc, .slice p.d.pl x.d.players.length p.d.plc, .slice p.d.co x.d.coins.length p.d.coc, .slice p.d.it x.d.items.length p.d.itc, .slice p.d.bo x.d.boxes.length p.d.boc, .int .i64 x.d.room, .int .i64 x.d.player, .int .i64 x.d.box, .slice p.at_ x.at_.length p.atc, .slice p.co x.coins.length p.coc, .slice p.wh x.wher.length p.whc][j]? : Option Value)) ∧ (∀ j, w'.cell? ⟨w0.heap.size, j, none⟩ = (#[.int .i64 1, .int .i64 (i : Int)][j]? : Option Value)))) (by kernel_rfl) (by (first | (with_reducible exact ⟨CD.out.a.cell, DD.out.cell⟩) | (with_reducible exact ⟨C_0.out.a.cell, D_0.out.cell⟩) | (with_reducible exact ⟨C_1.out.a.cell, D_1.out.cell⟩) | (with_reducible exact ⟨C_2.out.a.cell, D_2.out.cell⟩) | (with_reducible exact ⟨C_3.out.a.cell, D_3.out.cell⟩) | (with_reducible exact ⟨C_4.out.a.cell, D_4.out.cell⟩) | (with_reducible exact ⟨C_5.out.a.cell, D_5.out.cell⟩) | (with_reducible exact ⟨C_6.out.a.cell, D_6.out.cell⟩) | (with_reducible exact ⟨CB.out.a.cell, DB.out.cell⟩) | (with_reducible exact ⟨CC.out.a.cell, DC.out.cell⟩) | (refine off2_S (a := w.heap.size) (b := w0.heap.size) (A := #[.slice p.d.ex x.d.exits.length p.d.exc, .slice p.d.pl x.d.players.length p.d.plc, .slice p.d.co x.d.coins.length p.d.coc, .slice p.d.it x.d.items.length p.d.itc, .slice p.d.bo x.d.boxes.length p.d.boc, .int .i64 x.d.room, .int .i64 x.d.player, .int .i64 x.d.box, .slice p.at_ x.at_.length p.atc, .slice p.co x.coins.length p.coc, .slice p.wh x.wher.length p.whc]) (B := #[.int .i64 1, .int .i64 (i : Int)]) ?_; (iterate 11 with_reducible refine Off2.set n1 n2 ?_ _ _); with_reducible exact OC.out))) (fun hHeld => ?_)
  have CX := Lib.hid CD.out
  have DX := Lib.hid DD.out
  refine wpAnyH_take (i := 0) (v := ?_) (by simp only [List.getElem?_toArray, List.getElem?_cons_zero]; rfl) (by kernel_rfl) (by kernel_rfl) (by kernel_rfl) (fun _ _ _ h => h) (Or.inl ⟨by rfl, ?_⟩) (by assumption) ?_
  rotate_left
  · (intro ww hSw; (try dsimp only at hSw); go_simp; (try with_reducible rfl))
  try simp only [Act.put, List.setIfInBounds_toArray, List.set_cons_zero, List.set_cons_succ]
  refine wpAnyH_take (i := 1) (v := ?_) (by simp only [List.getElem?_toArray, List.getElem?_cons_succ, List.getElem?_cons_zero]; rfl) (by kernel_rfl) (by kernel_rfl) (by kernel_rfl) (fun _ _ _ h => h) (Or.inl ⟨by rfl, ?_⟩) (by assumption) ?_
  rotate_left
  · (intro ww hSw; (try dsimp only at hSw); go_simp; (try with_reducible rfl))
  try simp only [Act.put, List.setIfInBounds_toArray, List.set_cons_zero, List.set_cons_succ]
  refine wpAnyH_take (i := 2) (v := ?_) (by simp only [List.getElem?_toArray, List.getElem?_cons_succ, List.getElem?_cons_zero]; rfl) (by kernel_rfl) (by kernel_rfl) (by kernel_rfl) (fun _ _ _ h => h) (Or.inl ⟨by rfl, ?_⟩) (by assumption) ?_
  rotate_left
  · (intro ww hSw; (try dsimp only at hSw); go_simp; (try with_reducible rfl))
  try simp only [Act.put, List.setIfInBounds_toArray, List.set_cons_zero, List.set_cons_succ]
  refine wpAnyH_take (i := 3) (v := ?_) (by simp only [List.getElem?_toArray, List.getElem?_cons_succ, List.getElem?_cons_zero]; rfl) (by kernel_rfl) (by kernel_rfl) (by kernel_rfl) (fun _ _ _ h => h) (Or.inl ⟨by rfl, ?_⟩) (by assumption) ?_
  rotate_left
  · (intro ww hSw; (try dsimp only at hSw); go_simp; (try with_reducible rfl))
  try simp only [Act.put, List.setIfInBounds_toArray, List.set_cons_zero, List.set_cons_succ]
  refine wpAnyH_take (i := 4) (v := ?_) (by simp only [List.getElem?_toArray, List.getElem?_cons_succ, List.getElem?_cons_zero]; rfl) (by kernel_rfl) (by kernel_rfl) (by kernel_rfl) (fun _ _ _ h => h) (Or.inl ⟨by rfl, ?_⟩) (by assumption) ?_
  rotate_left
  · (intro ww hSw; (try dsimp only at hSw); go_simp; (try with_reducible rfl))
  try simp only [Act.put, List.setIfInBounds_toArray, List.set_cons_zero, List.set_cons_succ]
  refine wpAnyH_take (i := 6) (v := ?_) (by simp only [List.getElem?_toArray, List.getElem?_cons_succ, List.getElem?_cons_zero]; rfl) (by kernel_rfl) (by kernel_rfl) (by kernel_rfl) (fun _ _ _ h => h) (Or.inl ⟨by rfl, ?_⟩) (by assumption) ?_
  rotate_left
  · (intro ww hSw; (try dsimp only at hSw); go_simp; (try with_reducible rfl))
  try simp only [Act.put, List.setIfInBounds_toArray, List.set_cons_zero, List.set_cons_succ]
  refine wpAnyH_take (i := 7) (v := ?_) (by simp only [List.getElem?_toArray, List.getElem?_cons_succ, List.getElem?_cons_zero]; rfl) (by kernel_rfl) (by kernel_rfl) (by kernel_rfl) (fun _ _ _ h => h) (Or.inl ⟨by rfl, ?_⟩) (by assumption) ?_
  rotate_left
  · (intro ww hSw; (try dsimp only at hSw); go_simp; (try with_reducible rfl))
  try simp only [Act.put, List.setIfInBounds_toArray, List.set_cons_zero, List.set_cons_succ]
  refine wpAnyH_take (i := 9) (v := ?_) (by simp only [List.getElem?_toArray, List.getElem?_cons_succ, List.getElem?_cons_zero]; rfl) (by kernel_rfl) (by kernel_rfl) (by kernel_rfl) (fun _ _ _ h => h) (Or.inl ⟨by rfl, ?_⟩) (by assumption) ?_
  rotate_left
  · (intro ww hSw; (try dsimp only at hSw); go_simp; (try with_reducible rfl))
  try simp only [Act.put, List.setIfInBounds_toArray, List.set_cons_zero, List.set_cons_succ]
  refine wpAnyH_take (i := 10) (v := ?_) (by simp only [List.getElem?_toArray, List.getElem?_cons_succ, List.getElem?_cons_zero]; rfl) (by kernel_rfl) (by kernel_rfl) (by kernel_rfl) (fun _ _ _ h => h) (Or.inl ⟨by rfl, ?_⟩) (by assumption) ?_
  rotate_left
  · (intro ww hSw; (try dsimp only at hSw); go_simp; (try with_reducible rfl))
  try simp only [Act.put, List.setIfInBounds_toArray, List.set_cons_zero, List.set_cons_succ]
  refine wpAnyH_take (i := 11) (v := ?_) (by simp only [List.getElem?_toArray, List.getElem?_cons_succ, List.getElem?_cons_zero]; rfl) (by kernel_rfl) (by kernel_rfl) (by kernel_rfl) (fun _ _ _ h => h) (Or.inl ⟨by rfl, ?_⟩) (by assumption) ?_
  rotate_left
  · (intro ww hSw; (try dsimp only at hSw); go_simp; (try with_reducible rfl))
  try simp only [Act.put, List.setIfInBounds_toArray, List.set_cons_zero, List.set_cons_succ]
  refine wpAnyH_take (i := 13) (v := ?_) (by simp only [List.getElem?_toArray, List.getElem?_cons_succ, List.getElem?_cons_zero]; rfl) (by kernel_rfl) (by kernel_rfl) (by kernel_rfl) (fun _ _ _ h => h) (Or.inl ⟨by rfl, ?_⟩) (by assumption) ?_
  rotate_left
  · (intro ww hSw; (try dsimp only at hSw); go_simp; (try with_reducible rfl))
  try simp only [Act.put, List.setIfInBounds_toArray, List.set_cons_zero, List.set_cons_succ]
  refine wpAnyH_take (i := 14) (v := ?_) (by simp only [List.getElem?_toArray, List.getElem?_cons_succ, List.getElem?_cons_zero]; rfl) (by kernel_rfl) (by kernel_rfl) (by kernel_rfl) (fun _ _ _ h => h) (Or.inl ⟨by rfl, ?_⟩) (by assumption) ?_
  rotate_left
  · (intro ww hSw; (try dsimp only at hSw); go_simp; (try with_reducible rfl))
  try simp only [Act.put, List.setIfInBounds_toArray, List.set_cons_zero, List.set_cons_succ]
  refine wpAnyH_take (i := 16) (v := ?_) (by simp only [List.getElem?_toArray, List.getElem?_cons_succ, List.getElem?_cons_zero]; rfl) (by kernel_rfl) (by kernel_rfl) (by kernel_rfl) (fun _ _ _ h => h) (Or.inl ⟨by rfl, ?_⟩) (by assumption) ?_
  rotate_left
  · (intro ww hSw; (try dsimp only at hSw); go_simp; (try with_reducible rfl))
  try simp only [Act.put, List.setIfInBounds_toArray, List.set_cons_zero, List.set_cons_succ]
  refine wpAnyH_take (i := 17) (v := ?_) (by simp only [List.getElem?_toArray, List.getElem?_cons_succ, List.getElem?_cons_zero]; rfl) (by kernel_rfl) (by kernel_rfl) (by kernel_rfl) (fun _ _ _ h => h) (Or.inl ⟨by rfl, ?_⟩) (by assumption) ?_
  rotate_left
  · (intro ww hSw; (try dsimp only at hSw); go_simp; (try with_reducible rfl))
  try simp only [Act.put, List.setIfInBounds_toArray, List.set_cons_zero, List.set_cons_succ]
  refine wpAnyH_take (i := 18) (v := ?_) (by simp only [List.getElem?_toArray, List.getElem?_cons_succ, List.getElem?_cons_zero]; rfl) (by kernel_rfl) (by kernel_rfl) (by kernel_rfl) (fun _ _ _ h => h) (Or.inl ⟨by rfl, ?_⟩) (by assumption) ?_
  rotate_left
  · (intro ww hSw; (try dsimp only at hSw); go_simp; (try with_reducible rfl))
  try simp only [Act.put, List.setIfInBounds_toArray, List.set_cons_zero, List.set_cons_succ]
  refine wpAnyH_take (i := 21) (v := ?_) (by simp only [List.getElem?_toArray, List.getElem?_cons_succ, List.getElem?_cons_zero]; rfl) (by kernel_rfl) (by kernel_rfl) (by kernel_rfl) (fun _ _ _ h => h) (Or.inl ⟨by rfl, ?_⟩) (by assumption) ?_
  rotate_left
  · (intro ww hSw; (try dsimp only at hSw); go_simp; (try with_reducible rfl))
  try simp only [Act.put, List.setIfInBounds_toArray, List.set_cons_zero, List.set_cons_succ]
  refine wpAnyH_take (i := 22) (v := ?_) (by simp only [List.getElem?_toArray, List.getElem?_cons_succ, List.getElem?_cons_zero]; rfl) (by kernel_rfl) (by kernel_rfl) (by kernel_rfl) (fun _ _ _ h => h) (Or.inl ⟨by rfl, ?_⟩) (by assumption) ?_
  rotate_left
  · (intro ww hSw; (try dsimp only at hSw); go_simp; (try with_reducible rfl))
  try simp only [Act.put, List.setIfInBounds_toArray, List.set_cons_zero, List.set_cons_succ]
  refine wpAnyH_ready (rs := [5]) (by kernel_rfl) (by simp) (AllReadyH.cons (by simp only [List.getElem?_toArray, List.getElem?_cons_succ, List.getElem?_cons_zero]; rfl) (fun K hK => ?_) AllReadyH.nil)
  go_simp
  refine (missing_any x p item _).mono ?_; rintro e v0 ⟨_, rfl, f0, b0⟩; obtain ⟨F0, fs0, rfl, -, -⟩ := id f0; have C_0 := Lib.hid (CX.out.call b0); have D_0 := Lib.hid (DX.out.call b0); have G0 := Lib.hid f0; clear b0 f0
  try go_wp2_with fail
  refine hK.out _ _ (by (first | (with_reducible exact ⟨CD.out.a.cell, DD.out.cell⟩) | (with_reducible exact ⟨C_0.out.a.cell, D_0.out.cell⟩) | (with_reducible exact ⟨C_1.out.a.cell, D_1.out.cell⟩) | (with_reducible exact ⟨C_2.out.a.cell, D_2.out.cell⟩) | (with_reducible exact ⟨C_3.out.a.cell, D_3.out.cell⟩) | (with_reducible exact ⟨C_4.out.a.cell, D_4.out.cell⟩) | (with_reducible exact ⟨C_5.out.a.cell, D_5.out.cell⟩) | (with_reducible exact ⟨C_6.out.a.cell, D_6.out.cell⟩) | (with_reducible exact ⟨CB.out.a.cell, DB.out.cell⟩) | (with_reducible exact ⟨CC.out.a.cell, DC.out.cell⟩) | (refine off2_S (a := w.heap.size) (b := w0.heap.size) (A := #[.slice p.d.ex x.d.exits.length p.d.exc, .slice p.d.pl x.d.players.length p.d.plc, .slice p.d.co x.d.coins.length p.d.coc, .slice p.d.it x.d.items.length p.d.itc, .slice p.d.bo x.d.boxes.length p.d.boc, .int .i64 x.d.room, .int .i64 x.d.player, .int .i64 x.d.box, .slice p.at_ x.at_.length p.atc, .slice p.co x.coins.length p.coc, .slice p.wh x.wher.length p.whc]) (B := #[.int .i64 1, .int .i64 (i : Int)]) ?_; (iterate 11 with_reducible refine Off2.set n1 n2 ?_ _ _); with_reducible exact OC.out))) (fun hHeld => ?_)
  clear hK K
  try simp only [Act.put, List.setIfInBounds_toArray, List.set_cons_zero, List.set_cons_succ]
  refine wpAnyH_ready (rs := [8]) (by kernel_rfl) (by simp) (AllReadyH.cons (by simp only [List.getElem?_toArray, List.getElem?_cons_succ, List.getElem?_cons_zero]; rfl) (fun K hK => ?_) AllReadyH.nil)
  go_simp
  refine (missing_any x p b _).mono ?_; rintro e v1 ⟨_, rfl, f1, b1⟩; obtain ⟨F1, fs1, rfl, -, -⟩ := id f1; have C_1 := Lib.hid (C_0.out.call b1); have D_1 := Lib.hid (D_0.out.call b1); replace G0 := Lib.hid (G0.out.call b1); have G1 := Lib.hid f1; clear b1 f1
  try go_wp2_with fail
  refine hK.out _ _ (by (first | (with_reducible exact ⟨CD.out.a.cell, DD.out.cell⟩) | (with_reducible exact ⟨C_0.out.a.cell, D_0.out.cell⟩) | (with_reducible exact ⟨C_1.out.a.cell, D_1.out.cell⟩) | (with_reducible exact ⟨C_2.out.a.cell, D_2.out.cell⟩) | (with_reducible exact ⟨C_3.out.a.cell, D_3.out.cell⟩) | (with_reducible exact ⟨C_4.out.a.cell, D_4.out.cell⟩) | (with_reducible exact ⟨C_5.out.a.cell, D_5.out.cell⟩) | (with_reducible exact ⟨C_6.out.a.cell, D_6.out.cell⟩) | (with_reducible exact ⟨CB.out.a.cell, DB.out.cell⟩) | (with_reducible exact ⟨CC.out.a.cell, DC.out.cell⟩) | (refine off2_S (a := w.heap.size) (b := w0.heap.size) (A := #[.slice p.d.ex x.d.exits.length p.d.exc, .slice p.d.pl x.d.players.length p.d.plc, .slice p.d.co x.d.coins.length p.d.coc, .slice p.d.it x.d.items.length p.d.itc, .slice p.d.bo x.d.boxes.length p.d.boc, .int .i64 x.d.room, .int .i64 x.d.player, .int .i64 x.d.box, .slice p.at_ x.at_.length p.atc, .slice p.co x.coins.length p.coc, .slice p.wh x.wher.length p.whc]) (B := #[.int .i64 1, .int .i64 (i : Int)]) ?_; (iterate 11 with_reducible refine Off2.set n1 n2 ?_ _ _); with_reducible exact OC.out))) (fun hHeld => ?_)
  clear hK K
  try simp only [Act.put, List.setIfInBounds_toArray, List.set_cons_zero, List.set_cons_succ]
  refine wpAnyH_ready (rs := [12]) (by kernel_rfl) (by simp) (AllReadyH.cons (by simp only [List.getElem?_toArray, List.getElem?_cons_succ, List.getElem?_cons_zero]; rfl) (fun K hK => ?_) AllReadyH.nil)
  go_simp
  refine (far_any x p i b _ HX.out (H.out.below C_1.out.b (Nat.le_refl _)) hi).mono ?_; rintro e v2 ⟨_, rfl, f2, b2⟩; obtain ⟨F2, fs2, rfl, -, -⟩ := id f2; have C_2 := Lib.hid (C_1.out.call b2); have D_2 := Lib.hid (D_1.out.call b2); replace G0 := Lib.hid (G0.out.call b2); replace G1 := Lib.hid (G1.out.call b2); have G2 := Lib.hid f2; clear b2 f2
  try go_wp2_with fail
  refine hK.out _ _ (by (first | (with_reducible exact ⟨CD.out.a.cell, DD.out.cell⟩) | (with_reducible exact ⟨C_0.out.a.cell, D_0.out.cell⟩) | (with_reducible exact ⟨C_1.out.a.cell, D_1.out.cell⟩) | (with_reducible exact ⟨C_2.out.a.cell, D_2.out.cell⟩) | (with_reducible exact ⟨C_3.out.a.cell, D_3.out.cell⟩) | (with_reducible exact ⟨C_4.out.a.cell, D_4.out.cell⟩) | (with_reducible exact ⟨C_5.out.a.cell, D_5.out.cell⟩) | (with_reducible exact ⟨C_6.out.a.cell, D_6.out.cell⟩) | (with_reducible exact ⟨CB.out.a.cell, DB.out.cell⟩) | (with_reducible exact ⟨CC.out.a.cell, DC.out.cell⟩) | (refine off2_S (a := w.heap.size) (b := w0.heap.size) (A := #[.slice p.d.ex x.d.exits.length p.d.exc, .slice p.d.pl x.d.players.length p.d.plc, .slice p.d.co x.d.coins.length p.d.coc, .slice p.d.it x.d.items.length p.d.itc, .slice p.d.bo x.d.boxes.length p.d.boc, .int .i64 x.d.room, .int .i64 x.d.player, .int .i64 x.d.box, .slice p.at_ x.at_.length p.atc, .slice p.co x.coins.length p.coc, .slice p.wh x.wher.length p.whc]) (B := #[.int .i64 1, .int .i64 (i : Int)]) ?_; (iterate 11 with_reducible refine Off2.set n1 n2 ?_ _ _); with_reducible exact OC.out))) (fun hHeld => ?_)
  clear hK K
  try simp only [Act.put, List.setIfInBounds_toArray, List.set_cons_zero, List.set_cons_succ]
  refine wpAnyH_ready (rs := [15]) (by kernel_rfl) (by simp) (AllReadyH.cons (by simp only [List.getElem?_toArray, List.getElem?_cons_succ, List.getElem?_cons_zero]; rfl) (fun K hK => ?_) AllReadyH.nil)
  go_simp
  refine (noBox_any x p b _ (H.out.below C_2.out.b (Nat.le_refl _)) HBL.out).mono ?_; rintro e v3 ⟨_, rfl, f3, b3⟩; obtain ⟨F3, fs3, rfl, -, -⟩ := id f3; have C_3 := Lib.hid (C_2.out.call b3); have D_3 := Lib.hid (D_2.out.call b3); replace G0 := Lib.hid (G0.out.call b3); replace G1 := Lib.hid (G1.out.call b3); replace G2 := Lib.hid (G2.out.call b3); have G3 := Lib.hid f3; clear b3 f3
  try go_wp2_with fail
  refine hK.out _ _ (by (first | (with_reducible exact ⟨CD.out.a.cell, DD.out.cell⟩) | (with_reducible exact ⟨C_0.out.a.cell, D_0.out.cell⟩) | (with_reducible exact ⟨C_1.out.a.cell, D_1.out.cell⟩) | (with_reducible exact ⟨C_2.out.a.cell, D_2.out.cell⟩) | (with_reducible exact ⟨C_3.out.a.cell, D_3.out.cell⟩) | (with_reducible exact ⟨C_4.out.a.cell, D_4.out.cell⟩) | (with_reducible exact ⟨C_5.out.a.cell, D_5.out.cell⟩) | (with_reducible exact ⟨C_6.out.a.cell, D_6.out.cell⟩) | (with_reducible exact ⟨CB.out.a.cell, DB.out.cell⟩) | (with_reducible exact ⟨CC.out.a.cell, DC.out.cell⟩) | (refine off2_S (a := w.heap.size) (b := w0.heap.size) (A := #[.slice p.d.ex x.d.exits.length p.d.exc, .slice p.d.pl x.d.players.length p.d.plc, .slice p.d.co x.d.coins.length p.d.coc, .slice p.d.it x.d.items.length p.d.itc, .slice p.d.bo x.d.boxes.length p.d.boc, .int .i64 x.d.room, .int .i64 x.d.player, .int .i64 x.d.box, .slice p.at_ x.at_.length p.atc, .slice p.co x.coins.length p.coc, .slice p.wh x.wher.length p.whc]) (B := #[.int .i64 1, .int .i64 (i : Int)]) ?_; (iterate 11 with_reducible refine Off2.set n1 n2 ?_ _ _); with_reducible exact OC.out))) (fun hHeld => ?_)
  clear hK K
  try simp only [Act.put, List.setIfInBounds_toArray, List.set_cons_zero, List.set_cons_succ]
  refine wpAnyH_ready (rs := [19]) (by kernel_rfl) (by simp) (AllReadyH.cons (by simp only [List.getElem?_toArray, List.getElem?_cons_succ, List.getElem?_cons_zero]; rfl) (fun K hK => ?_) AllReadyH.nil)
  go_simp
  refine (inside_any b _).mono ?_; rintro e v4 ⟨rfl, b4⟩; have C_4 := Lib.hid (C_3.out.call b4); have D_4 := Lib.hid (D_3.out.call b4); replace G0 := Lib.hid (G0.out.call b4); replace G1 := Lib.hid (G1.out.call b4); replace G2 := Lib.hid (G2.out.call b4); replace G3 := Lib.hid (G3.out.call b4); clear b4
  try go_wp2_with fail
  refine hK.out _ _ (by (first | (with_reducible exact ⟨CD.out.a.cell, DD.out.cell⟩) | (with_reducible exact ⟨C_0.out.a.cell, D_0.out.cell⟩) | (with_reducible exact ⟨C_1.out.a.cell, D_1.out.cell⟩) | (with_reducible exact ⟨C_2.out.a.cell, D_2.out.cell⟩) | (with_reducible exact ⟨C_3.out.a.cell, D_3.out.cell⟩) | (with_reducible exact ⟨C_4.out.a.cell, D_4.out.cell⟩) | (with_reducible exact ⟨C_5.out.a.cell, D_5.out.cell⟩) | (with_reducible exact ⟨C_6.out.a.cell, D_6.out.cell⟩) | (with_reducible exact ⟨CB.out.a.cell, DB.out.cell⟩) | (with_reducible exact ⟨CC.out.a.cell, DC.out.cell⟩) | (refine off2_S (a := w.heap.size) (b := w0.heap.size) (A := #[.slice p.d.ex x.d.exits.length p.d.exc, .slice p.d.pl x.d.players.length p.d.plc, .slice p.d.co x.d.coins.length p.d.coc, .slice p.d.it x.d.items.length p.d.itc, .slice p.d.bo x.d.boxes.length p.d.boc, .int .i64 x.d.room, .int .i64 x.d.player, .int .i64 x.d.box, .slice p.at_ x.at_.length p.atc, .slice p.co x.coins.length p.coc, .slice p.wh x.wher.length p.whc]) (B := #[.int .i64 1, .int .i64 (i : Int)]) ?_; (iterate 11 with_reducible refine Off2.set n1 n2 ?_ _ _); with_reducible exact OC.out))) (fun hHeld => ?_)
  clear hK K
  try simp only [Act.put, List.setIfInBounds_toArray, List.set_cons_zero, List.set_cons_succ]
  refine wpAnyH_ready (rs := [20]) (by kernel_rfl) (by simp) (AllReadyH.cons (by simp only [List.getElem?_toArray, List.getElem?_cons_succ, List.getElem?_cons_zero]; rfl) (fun K hK => ?_) AllReadyH.nil)
  go_simp
  refine (elsewhere_any x p item ⟨2, b⟩ _ (H.out.below C_4.out.b (Nat.le_refl _))).mono ?_; rintro e v5 ⟨_, rfl, f5, b5⟩; obtain ⟨F5, fs5, rfl, -, -⟩ := id f5; have C_5 := Lib.hid (C_4.out.call b5); have D_5 := Lib.hid (D_4.out.call b5); replace G0 := Lib.hid (G0.out.call b5); replace G1 := Lib.hid (G1.out.call b5); replace G2 := Lib.hid (G2.out.call b5); replace G3 := Lib.hid (G3.out.call b5); have G5 := Lib.hid f5; clear b5 f5
  try go_wp2_with fail
  refine hK.out _ _ (by (first | (with_reducible exact ⟨CD.out.a.cell, DD.out.cell⟩) | (with_reducible exact ⟨C_0.out.a.cell, D_0.out.cell⟩) | (with_reducible exact ⟨C_1.out.a.cell, D_1.out.cell⟩) | (with_reducible exact ⟨C_2.out.a.cell, D_2.out.cell⟩) | (with_reducible exact ⟨C_3.out.a.cell, D_3.out.cell⟩) | (with_reducible exact ⟨C_4.out.a.cell, D_4.out.cell⟩) | (with_reducible exact ⟨C_5.out.a.cell, D_5.out.cell⟩) | (with_reducible exact ⟨C_6.out.a.cell, D_6.out.cell⟩) | (with_reducible exact ⟨CB.out.a.cell, DB.out.cell⟩) | (with_reducible exact ⟨CC.out.a.cell, DC.out.cell⟩) | (refine off2_S (a := w.heap.size) (b := w0.heap.size) (A := #[.slice p.d.ex x.d.exits.length p.d.exc, .slice p.d.pl x.d.players.length p.d.plc, .slice p.d.co x.d.coins.length p.d.coc, .slice p.d.it x.d.items.length p.d.itc, .slice p.d.bo x.d.boxes.length p.d.boc, .int .i64 x.d.room, .int .i64 x.d.player, .int .i64 x.d.box, .slice p.at_ x.at_.length p.atc, .slice p.co x.coins.length p.coc, .slice p.wh x.wher.length p.whc]) (B := #[.int .i64 1, .int .i64 (i : Int)]) ?_; (iterate 11 with_reducible refine Off2.set n1 n2 ?_ _ _); with_reducible exact OC.out))) (fun hHeld => ?_)
  clear hK K
  try simp only [Act.put, List.setIfInBounds_toArray, List.set_cons_zero, List.set_cons_succ]
  refine wpAnyH_ready (rs := [23]) (by kernel_rfl) (by simp) (AllReadyH.cons (by simp only [List.getElem?_toArray, List.getElem?_cons_succ, List.getElem?_cons_zero]; rfl) (fun K hK => ?_) AllReadyH.nil)
  go_simp
  refine (full_any x p 1 i _ HX.out (H.out.below C_5.out.b (Nat.le_refl _)) (by omega)).mono ?_; rintro e v6 ⟨_, rfl, f6, b6⟩; obtain ⟨F6, fs6, rfl, -, -⟩ := id f6; have C_6 := Lib.hid (C_5.out.call b6); have D_6 := Lib.hid (D_5.out.call b6); replace G0 := Lib.hid (G0.out.call b6); replace G1 := Lib.hid (G1.out.call b6); replace G2 := Lib.hid (G2.out.call b6); replace G3 := Lib.hid (G3.out.call b6); replace G5 := Lib.hid (G5.out.call b6); have G6 := Lib.hid f6; clear b6 f6
  try go_wp2_with fail
  refine hK.out _ _ (by (first | (with_reducible exact ⟨CD.out.a.cell, DD.out.cell⟩) | (with_reducible exact ⟨C_0.out.a.cell, D_0.out.cell⟩) | (with_reducible exact ⟨C_1.out.a.cell, D_1.out.cell⟩) | (with_reducible exact ⟨C_2.out.a.cell, D_2.out.cell⟩) | (with_reducible exact ⟨C_3.out.a.cell, D_3.out.cell⟩) | (with_reducible exact ⟨C_4.out.a.cell, D_4.out.cell⟩) | (with_reducible exact ⟨C_5.out.a.cell, D_5.out.cell⟩) | (with_reducible exact ⟨C_6.out.a.cell, D_6.out.cell⟩) | (with_reducible exact ⟨CB.out.a.cell, DB.out.cell⟩) | (with_reducible exact ⟨CC.out.a.cell, DC.out.cell⟩) | (refine off2_S (a := w.heap.size) (b := w0.heap.size) (A := #[.slice p.d.ex x.d.exits.length p.d.exc, .slice p.d.pl x.d.players.length p.d.plc, .slice p.d.co x.d.coins.length p.d.coc, .slice p.d.it x.d.items.length p.d.itc, .slice p.d.bo x.d.boxes.length p.d.boc, .int .i64 x.d.room, .int .i64 x.d.player, .int .i64 x.d.box, .slice p.at_ x.at_.length p.atc, .slice p.co x.coins.length p.coc, .slice p.wh x.wher.length p.whc]) (B := #[.int .i64 1, .int .i64 (i : Int)]) ?_; (iterate 11 with_reducible refine Off2.set n1 n2 ?_ _ _); with_reducible exact OC.out))) (fun hHeld => ?_)
  clear hK K
  try simp only [Act.put, List.setIfInBounds_toArray, List.set_cons_zero, List.set_cons_succ]
  have BB := Lib.hid ((Below.refl v6.heap.size v6).alloc (Nat.le_refl _) (.cells #[.func (.func F0) #[] fs0, .int .i64 3, .func (.func F1) #[] fs1, .int .i64 3, .func (.func F2) #[] fs2, .int .i64 5, .func (.func F3) #[] fs3, .int .i64 6, .func (.func F5) #[] fs5, .int .i64 5, .func (.func F6) #[] fs6, .int .i64 9] 51))
  have BR := Lib.hid (Blk.newn v6 51 #[.func (.func F0) #[] fs0, .int .i64 3, .func (.func F1) #[] fs1, .int .i64 3, .func (.func F2) #[] fs2, .int .i64 5, .func (.func F3) #[] fs3, .int .i64 6, .func (.func F5) #[] fs5, .int .i64 5, .func (.func F6) #[] fs6, .int .i64 9] (n := v6.heap.size) rfl)
  have CB := Lib.hid (C_6.out.call BB.out)
  have DB := Lib.hid (D_6.out.call BB.out)
  replace G0 := Lib.hid (G0.out.call BB.out)
  replace G1 := Lib.hid (G1.out.call BB.out)
  replace G2 := Lib.hid (G2.out.call BB.out)
  replace G3 := Lib.hid (G3.out.call BB.out)
  replace G5 := Lib.hid (G5.out.call BB.out)
  replace G6 := Lib.hid (G6.out.call BB.out)
  refine wpAnyH_ready (rs := [24]) (by kernel_rfl) (by simp) (AllReadyH.cons (by simp only [List.getElem?_toArray, List.getElem?_cons_succ, List.getElem?_cons_zero]; rfl) (fun K hK => ?_) AllReadyH.nil)
  go_simp
  try go_wp2_with fail
  refine hK.out _ _ (by (first | (with_reducible exact ⟨CD.out.a.cell, DD.out.cell⟩) | (with_reducible exact ⟨C_0.out.a.cell, D_0.out.cell⟩) | (with_reducible exact ⟨C_1.out.a.cell, D_1.out.cell⟩) | (with_reducible exact ⟨C_2.out.a.cell, D_2.out.cell⟩) | (with_reducible exact ⟨C_3.out.a.cell, D_3.out.cell⟩) | (with_reducible exact ⟨C_4.out.a.cell, D_4.out.cell⟩) | (with_reducible exact ⟨C_5.out.a.cell, D_5.out.cell⟩) | (with_reducible exact ⟨C_6.out.a.cell, D_6.out.cell⟩) | (with_reducible exact ⟨CB.out.a.cell, DB.out.cell⟩) | (with_reducible exact ⟨CC.out.a.cell, DC.out.cell⟩) | (refine off2_S (a := w.heap.size) (b := w0.heap.size) (A := #[.slice p.d.ex x.d.exits.length p.d.exc, .slice p.d.pl x.d.players.length p.d.plc, .slice p.d.co x.d.coins.length p.d.coc, .slice p.d.it x.d.items.length p.d.itc, .slice p.d.bo x.d.boxes.length p.d.boc, .int .i64 x.d.room, .int .i64 x.d.player, .int .i64 x.d.box, .slice p.at_ x.at_.length p.atc, .slice p.co x.coins.length p.coc, .slice p.wh x.wher.length p.whc]) (B := #[.int .i64 1, .int .i64 (i : Int)]) ?_; (iterate 11 with_reducible refine Off2.set n1 n2 ?_ _ _); with_reducible exact OC.out))) (fun hHeld => ?_)
  clear hK K
  try simp only [Act.put, List.setIfInBounds_toArray, List.set_cons_zero, List.set_cons_succ]
  have RR := Lib.hid (row_take BR.out G0.out G1.out G2.out G3.out G5.out G6.out trivial (fun _ => trivial) (fun _ h1 => not_no h1) (fun _ h1 _ => not_no h1) (fun h0 _ _ _ => not_no h0) (fun _ _ _ _ _ => trivial))
  generalize v6.alloc (.cells #[.func (.func F0) #[] fs0, .int .i64 3, .func (.func F1) #[] fs1, .int .i64 3, .func (.func F2) #[] fs2, .int .i64 5, .func (.func F3) #[] fs3, .int .i64 6, .func (.func F5) #[] fs5, .int .i64 5, .func (.func F6) #[] fs6, .int .i64 9] 51) = VB at *
  refine wpAnyH_ready (rs := [25]) (by kernel_rfl) (by simp) (AllReadyH.cons (by simp only [List.getElem?_toArray, List.getElem?_cons_succ, List.getElem?_cons_zero]; rfl) (fun K hK => ?_) AllReadyH.nil)
  go_simp
  refine (bring_any x p item ⟨1, (i : Int)⟩ v6.heap.size 6 (takeL x i item b) _ HX.out (H.out.below CB.out.b (Nat.le_refl _)) (by simp [takeL]) BR.out.lt RR.out HNE.out HTO.out).mono ?_; rintro e w9 ⟨⟨qd, qa, qac, qk, qkc, qw, qwc⟩, rfl, wn, hb9⟩; rw [take_of HX.out, ← HY.out] at wn ⊢; have CC := Lib.hid (CB.out.call hb9); have DC := Lib.hid (DB.out.call hb9)
  try go_wp2_with fail
  refine hK.out _ _ (by (first | (with_reducible exact ⟨CD.out.a.cell, DD.out.cell⟩) | (with_reducible exact ⟨C_0.out.a.cell, D_0.out.cell⟩) | (with_reducible exact ⟨C_1.out.a.cell, D_1.out.cell⟩) | (with_reducible exact ⟨C_2.out.a.cell, D_2.out.cell⟩) | (with_reducible exact ⟨C_3.out.a.cell, D_3.out.cell⟩) | (with_reducible exact ⟨C_4.out.a.cell, D_4.out.cell⟩) | (with_reducible exact ⟨C_5.out.a.cell, D_5.out.cell⟩) | (with_reducible exact ⟨C_6.out.a.cell, D_6.out.cell⟩) | (with_reducible exact ⟨CB.out.a.cell, DB.out.cell⟩) | (with_reducible exact ⟨CC.out.a.cell, DC.out.cell⟩) | (refine off2_S (a := w.heap.size) (b := w0.heap.size) (A := #[.slice p.d.ex x.d.exits.length p.d.exc, .slice p.d.pl x.d.players.length p.d.plc, .slice p.d.co x.d.coins.length p.d.coc, .slice p.d.it x.d.items.length p.d.itc, .slice p.d.bo x.d.boxes.length p.d.boc, .int .i64 x.d.room, .int .i64 x.d.player, .int .i64 x.d.box, .slice p.at_ x.at_.length p.atc, .slice p.co x.coins.length p.coc, .slice p.wh x.wher.length p.whc]) (B := #[.int .i64 1, .int .i64 (i : Int)]) ?_; (iterate 11 with_reducible refine Off2.set n1 n2 ?_ _ _); with_reducible exact OC.out))) (fun hHeld => ?_)
  clear hK K
  try simp only [Act.put, List.setIfInBounds_toArray, List.set_cons_zero, List.set_cons_succ]
  have WN := Lib.hid wn
  have hc2 := CC.out.r.cell
  have hz2 := CC.out.r.frozen
  have hs2 := CC.out.r.lt
  have OC := Lib.hid (show Off2 w.heap.size w0.heap.size #[.slice p.d.ex x.d.exits.length p.d.exc, .slice p.d.pl x.d.players.length p.d.plc, .slice p.d.co x.d.coins.length p.d.coc, .slice p.d.it x.d.items.length p.d.itc, .slice p.d.bo x.d.boxes.length p.d.boc, .int .i64 x.d.room, .int .i64 x.d.player, .int .i64 x.d.box, .slice p.at_ x.at_.length p.atc, .slice p.co x.coins.length p.coc, .slice p.wh x.wher.length p.whc] #[.int .i64 1, .int .i64 (i : Int)] w9 from ⟨CC.out.a.cell, DC.out.cell⟩)
  have n1 : w.heap.size ≠ w.heap.size + 1 := by omega
  have n2 : w0.heap.size ≠ w.heap.size + 1 := by have := C1.out.r.lt; omega
  clear wn hb9
  refine wpAnyH_take (i := 26) (v := ?_) (by simp only [List.getElem?_toArray, List.getElem?_cons_succ, List.getElem?_cons_zero]; rfl) (by kernel_rfl) (by kernel_rfl) (by kernel_rfl) (fun _ _ _ h => h) (Or.inl ⟨by rfl, ?_⟩) (by assumption) ?_
  rotate_left
  · (intro ww hSw; (try dsimp only at hSw); go_simp; (try with_reducible rfl))
  try simp only [Act.put, List.setIfInBounds_toArray, List.set_cons_zero, List.set_cons_succ]
  refine wpAnyH_take (i := 27) (v := ?_) (by simp only [List.getElem?_toArray, List.getElem?_cons_succ, List.getElem?_cons_zero]; rfl) (by kernel_rfl) (by kernel_rfl) (by kernel_rfl) (fun _ _ _ h => h) (Or.inl ⟨by rfl, ?_⟩) (by assumption) ?_
  rotate_left
  · (intro ww hSw; (try dsimp only at hSw); go_simp; (try with_reducible rfl))
  try simp only [Act.put, List.setIfInBounds_toArray, List.set_cons_zero, List.set_cons_succ]
  refine wpAnyH_ready (rs := [28]) (by kernel_rfl) (by simp) (AllReadyH.cons (by simp only [List.getElem?_toArray, List.getElem?_cons_succ, List.getElem?_cons_zero]; rfl) (fun K hK => ?_) AllReadyH.nil)
  go_simp
  try go_wp2_with fail
  refine hK.out _ _ (by (first | (with_reducible exact ⟨CD.out.a.cell, DD.out.cell⟩) | (with_reducible exact ⟨C_0.out.a.cell, D_0.out.cell⟩) | (with_reducible exact ⟨C_1.out.a.cell, D_1.out.cell⟩) | (with_reducible exact ⟨C_2.out.a.cell, D_2.out.cell⟩) | (with_reducible exact ⟨C_3.out.a.cell, D_3.out.cell⟩) | (with_reducible exact ⟨C_4.out.a.cell, D_4.out.cell⟩) | (with_reducible exact ⟨C_5.out.a.cell, D_5.out.cell⟩) | (with_reducible exact ⟨C_6.out.a.cell, D_6.out.cell⟩) | (with_reducible exact ⟨CB.out.a.cell, DB.out.cell⟩) | (with_reducible exact ⟨CC.out.a.cell, DC.out.cell⟩) | (refine off2_S (a := w.heap.size) (b := w0.heap.size) (A := #[.slice p.d.ex x.d.exits.length p.d.exc, .slice p.d.pl x.d.players.length p.d.plc, .slice p.d.co x.d.coins.length p.d.coc, .slice p.d.it x.d.items.length p.d.itc, .slice p.d.bo x.d.boxes.length p.d.boc, .int .i64 x.d.room, .int .i64 x.d.player, .int .i64 x.d.box, .slice p.at_ x.at_.length p.atc, .slice p.co x.coins.length p.coc, .slice p.wh x.wher.length p.whc]) (B := #[.int .i64 1, .int .i64 (i : Int)]) ?_; (iterate 11 with_reducible refine Off2.set n1 n2 ?_ _ _); with_reducible exact OC.out))) (fun hHeld => ?_)
  clear hK K
  try simp only [Act.put, List.setIfInBounds_toArray, List.set_cons_zero, List.set_cons_succ]
  refine wpAnyH_take (i := 29) (v := ?_) (by simp only [List.getElem?_toArray, List.getElem?_cons_succ, List.getElem?_cons_zero]; rfl) (by kernel_rfl) (by kernel_rfl) (by kernel_rfl) (fun _ _ _ h => h) (Or.inl ⟨by rfl, ?_⟩) (by assumption) ?_
  rotate_left
  · (intro ww hSw; (try dsimp only at hSw); go_simp; (try with_reducible rfl))
  try simp only [Act.put, List.setIfInBounds_toArray, List.set_cons_zero, List.set_cons_succ]
  refine wpAnyH_done (by kernel_rfl) ?_ _
  refine NoPanic.normal ?_
  go_wp2_with fail
  refine bodyPost_ret (v := .tuple #[.agg #[.slice qd.ex x.d.exits.length qd.exc, .slice qd.pl x.d.players.length qd.plc, .slice qd.co x.d.coins.length qd.coc, .slice qd.it x.d.items.length qd.itc, .slice qd.bo x.d.boxes.length qd.boc, .int .i64 x.d.room, .int .i64 x.d.player, .int .i64 x.d.box, .slice qa x.at_.length qac, .slice qk x.coins.length qkc, .slice qw x.wher.length qwc], .int .i64 y.2]) (by simp [results, Try.results12, go_sem, hc2]) rfl ⟨⟨qd, qa, qac, qk, qkc, qw, qwc⟩, rfl, ?_, ?_⟩
  · refine Took.less (n := VB.heap.size) ?_ (by have := CB.out.r.lt; omega)
    iterate 11 refine Took.set (b := w.heap.size + 1) ?_ CB.out.r.lt _ _
    exact WN.out
  · iterate 11 refine Below.setCell ?_ (by show w.heap.size ≤ w.heap.size + 1; omega) _
    exact CC.out.b
end Go.Proofs.Ytdmfbbcidcfcjaa
