/- boxes: what may be wrong is asked in its order; else the item is brought there. -/
import Derived.Test.YtdmfbbcidcfcjaaRows
import Derived.Test.YtdmfbbcidcfcjaaKit
import Derived.Test.YtdmfbbcidcfcjaaGMem
import Derived.Test.YtdmfbbcidcfcjaaCoin
import Derived.Test.YtdmfbbcidcfcjaaGWorld
import Derived.Test.YtdmfbbcidcfcjaaGDescN
import Derived.Test.YtdmfbbcidcfcjaaGRight
import Derived.Test.YtdmfbbcidcfcjaaGCopy
import Derived.Test.YtdmfbbcidcfcjaaGRefD
import Derived.Test.YtdmfbbcidcfcjaaGEq
import Derived.Test.YtdmfbbcidcfcjaaGAs
import Derived.Test.YtdmfbbcidcfcjaaGTreeL
import Derived.Test.YtdmfbbcidcfcjaaGHoldA
import Derived.Test.YtdmfbbcidcfcjaaGBoxM
import Derived.Test.YtdmfbbcidcfcjaaBoxA
import Derived.Test.YtdmfbbcidcfcjaaBoxB
import Derived.Deep.QuietTactic
import Derived.BigQuiet
import Derived.Deep.RegionHeld3
import Derived.WalkKit
import Derived.ProofKit
import Derived.OpenShut
import Derived.IntWalk
namespace Go.Proofs.Ytdmfbbcidcfcjaa
open Go.ChangeShapes Go.WideShapes Go.ChangeAt Go.RowKit
set_option linter.unusedVariables false
open Go.RowKit
def Off2 (a b : Nat) (A B : Array Value) (W : World) : Prop := (∀ j, W.cell? ⟨a, j, none⟩ = (A[j]? : Option Value)) ∧ (∀ j, W.cell? ⟨b, j, none⟩ = (B[j]? : Option Value))
theorem Off2.set {a b r : Nat} {A B : Array Value} {W : World} (ha : a ≠ r) (hb : b ≠ r) (h : Off2 a b A B W) (i : Nat) (u : Value) : Off2 a b A B (W.setCell ⟨r, i, none⟩ u) :=
  ⟨fun j => (World.cell?_setCell_far _ _ _ _ (by simpa using Ne.symm ha)).trans (h.1 j), fun j => (World.cell?_setCell_far _ _ _ _ (by simpa using Ne.symm hb)).trans (h.2 j)⟩
theorem Off2.drew {a b : Nat} {A B : Array Value} {W : World} (h : Off2 a b A B W) : Off2 a b A B W.drew := h
theorem off2_S {a b : Nat} {A B : Array Value} {W : World} (h : Off2 a b A B W) : (∀ j, W.cell? ⟨a, j, none⟩ = (A[j]? : Option Value)) ∧ (∀ j, W.cell? ⟨b, j, none⟩ = (B[j]? : Option Value)) := h
/-- The first error. -/
def firstE : List (Bool × Int) → Int
  | [] => 0
  | (b, e) :: r => if b = true then e else firstE r
theorem firstE_at : ∀ (L : List (Bool × Int)) (j : Nat) (hj : j < L.length), (∀ l (hl : l < L.length), l < j → L[l].1 = false) → L[j].1 = true → firstE L = L[j].2
  | (b, e) :: r, 0, _, _, h => by simp only [List.getElem_cons_zero] at h ⊢; simp [firstE, h]
  | (b, e) :: r, j + 1, hj, h0, h => by
    have hb : b = false := h0 0 (by simp) (by omega)
    simp only [List.getElem_cons_succ] at h ⊢
    simp only [firstE, hb, Bool.false_eq_true, if_false]
    exact firstE_at r j _ (fun l hl hlj => by have := h0 (l + 1) (by simp; omega) (by omega); simpa using this) h
theorem firstE_none : ∀ (L : List (Bool × Int)), (∀ l (hl : l < L.length), L[l].1 = false) → firstE L = 0
  | [], _ => rfl
  | (b, e) :: r, h0 => by
    have hb : b = false := h0 0 (by simp)
    simp only [firstE, hb, Bool.false_eq_true, if_false]
    exact firstE_none r (fun l hl => by have := h0 (l + 1) (by simp; omega); simpa using this)
/-- What comes of it. -/
def bringW (x : Wd) (item : Int) (g : Pl) (L : List (Bool × Int)) : Wd × Int := if firstE L = 0 then (putW x item.toNat g, 0) else (x, firstE L)
/-- A row of faults: each may be asked where none of those ahead of it was. -/
def RowF (W : World) (bs : Nat) (L : List (Bool × Int)) : Prop :=
  ∀ j (hj : j < L.length), ∃ f, FaultAt W (.agg #[f, .int .i64 L[j].2]) (∀ l (hl : l < L.length), l < j → L[l].1 = false) L[j].1 L[j].2 ∧ W.cell? ⟨bs, j * 2, none⟩ = some f ∧ W.cell? ⟨bs, j * 2 + 1, none⟩ = some (.int .i64 L[j].2)
theorem RowF.get {W W1 : World} {bs : Nat} {L : List (Bool × Int)} (h : RowF W bs L) (hb : Below W.heap.size W W1) {j : Nat} (hj : j < L.length) (h0 : ∀ l (hl : l < L.length), l < j → L[l].1 = false) :
    ∃ F fs, (∀ (args : Array Value) (w : World), (callFunc F args).run Try.prog w = .ok (.enter F args) w) ∧ W1.cell? ⟨bs, j * 2, none⟩ = some (.func (.func F) #[] fs) ∧ W1.cell? ⟨bs, j * 2 + 1, none⟩ = some (.int .i64 L[j].2) ∧ ∀ W', Below W1.heap.size W1 W' → Calls Try.prog F fs W' fun e w' => e = .returned (.bool L[j].1) ∧ Below W'.heap.size W' w' := by
  obtain ⟨f, hf, c0, c1⟩ := h j hj
  obtain ⟨F, fs, e, h1, h2⟩ := hf.call hb
  have e1 : f = .func (.func F) #[] fs := by simpa using e
  subst e1
  exact ⟨F, fs, h1, cell_call c0 hb, cell_call c1 hb, h2 h0⟩
set_option maxRecDepth 100000 in
set_option maxHeartbeats 400000 in
theorem bring_any (x : Wd) (p : Wp) (item : Int) (g : Pl) (bs : Nat) (cap : Nat) (L : List (Bool × Int)) (w : World) (hx : rightW x = true) (h : WorldAt w p x) (hL : L.length ≤ 100) (hbs : bs < w.heap.size) (hr : RowF w bs L) (hne : ∀ j (hj : j < L.length), ¬ L[j].2 = 0) (hto : (∀ l (hl : l < L.length), L[l].1 = false) → ∃ k : Nat, item = k ∧ k < x.wher.length) :
    Calls Try.prog 26 #[.agg #[.slice p.d.ex x.d.exits.length p.d.exc, .slice p.d.pl x.d.players.length p.d.plc, .slice p.d.co x.d.coins.length p.d.coc, .slice p.d.it x.d.items.length p.d.itc, .slice p.d.bo x.d.boxes.length p.d.boc, .int .i64 x.d.room, .int .i64 x.d.player, .int .i64 x.d.box, .slice p.at_ x.at_.length p.atc, .slice p.co x.coins.length p.coc, .slice p.wh x.wher.length p.whc], .int .i64 item, .agg #[.int .i64 g.kind, .int .i64 g.id], .slice (some ⟨bs, 0, none⟩) L.length cap] w fun e w' => ∃ q : Wp, e = .returned (.tuple #[.agg #[.slice q.d.ex x.d.exits.length q.d.exc, .slice q.d.pl x.d.players.length q.d.plc, .slice q.d.co x.d.coins.length q.d.coc, .slice q.d.it x.d.items.length q.d.itc, .slice q.d.bo x.d.boxes.length q.d.boc, .int .i64 x.d.room, .int .i64 x.d.player, .int .i64 x.d.box, .slice q.at_ x.at_.length q.atc, .slice q.co x.coins.length q.coc, .slice q.wh x.wher.length q.whc], .int .i64 (bringW x item g L).2]) ∧ Took w.heap.size w' p q x (bringW x item g L) ∧ Below w.heap.size w w' := by
  have C0 := Lib.hid (Tri.start 29 42 29 w #[.slice p.d.ex x.d.exits.length p.d.exc, .slice p.d.pl x.d.players.length p.d.plc, .slice p.d.co x.d.coins.length p.d.coc, .slice p.d.it x.d.items.length p.d.itc, .slice p.d.bo x.d.boxes.length p.d.boc, .int .i64 x.d.room, .int .i64 x.d.player, .int .i64 x.d.box, .slice p.at_ x.at_.length p.atc, .slice p.co x.coins.length p.coc, .slice p.wh x.wher.length p.whc] #[.int .i64 g.kind, .int .i64 g.id] #[.slice none 0 0, .slice none 0 0, .slice none 0 0, .slice none 0 0, .slice none 0 0, .int .i64 0, .int .i64 0, .int .i64 0, .slice none 0 0, .slice none 0 0, .slice none 0 0])
  have H := Lib.hid h
  have HX := Lib.hid hx
  have HR := Lib.hid hr
  have HNE := Lib.hid hne
  have HTO := Lib.hid hto
  obtain ⟨N, hN⟩ : ∃ N, N = L.length := ⟨_, rfl⟩
  rw [← hN] at hL
  have HN := Lib.hid hN
  clear h hx hr hne hto
  have hsf : ∀ (W : World) (p : Addr) (fn : Fn) (x y : Array Value), (store p (.func fn x y)).run Try.prog W = stored Try.prog W p (.func fn x y) .plain := fun W p fn x y => run_store _ _ _ _ _ rfl
  go_enter Try.func26, Try.ntmps26
  go_wp2_with fail
  go_loopw [14] (fun n wr => ∃ j : Nat, j ≤ L.length ∧ n = .int .i64 j ∧ (∀ l (hl : l < L.length), l < j → L[l].1 = false) ∧ Tri 29 42 29 w wr #[.slice p.d.ex x.d.exits.length p.d.exc, .slice p.d.pl x.d.players.length p.d.plc, .slice p.d.co x.d.coins.length p.d.coc, .slice p.d.it x.d.items.length p.d.itc, .slice p.d.bo x.d.boxes.length p.d.boc, .int .i64 x.d.room, .int .i64 x.d.player, .int .i64 x.d.box, .slice p.at_ x.at_.length p.atc, .slice p.co x.coins.length p.coc, .slice p.wh x.wher.length p.whc] #[.int .i64 g.kind, .int .i64 g.id] #[.slice none 0 0, .slice none 0 0, .slice none 0 0, .slice none 0 0, .slice none 0 0, .int .i64 0, .int .i64 0, .int .i64 0, .slice none 0 0, .slice none 0 0, .slice none 0 0]) (fun n _ => L.length - (intOf n).toNat)
  case atStart => exact ⟨0, by omega, rfl, fun l hl h => by omega, C0.out⟩
  case round =>
    obtain ⟨j, hj, rfl, hall, hT⟩ := hrel
    have HA := Lib.hid hall
    have HT := Lib.hid hT
    have hca := hT.a.cell
    have hla := hT.a.lt
    clear hall hT
    by_cases hjl : j < L.length
    · obtain ⟨F, fs, he, c0, c1, hc⟩ := HR.out.get HT.out.b hjl HA.out
      have HC := Lib.hid hc
      have hbw : bs < wr.heap.size := by have := HT.out.b.size; omega
      generalize hev : L[j].2 = ev at *
      clear hc
      have D1 := Lib.hid (Blk.newn wr 51 #[.func (.func F) #[] fs, .int .i64 ev] (n := wr.heap.size) rfl)
      have B1 := Lib.hid ((Below.refl wr.heap.size wr).alloc (Nat.le_refl _) (.cells #[.func (.func F) #[] fs, .int .i64 ev] 51))
      go_wp2_with fail
      refine (HC.out _ B1.out).mono ?_
      rintro e w2 ⟨rfl, b2⟩
      have D2 := Lib.hid (D1.out.call b2)
      have C2 := Lib.hid ((HT.out.call B1.out).call b2)
      clear b2 hca hla c0 c1 he hsf
      cases hv : L[j].1
      · have HV := Lib.hid hv
        clear hv
        go_wp2_with fail
        go_roundw
        case rel =>
          refine ⟨j + 1, by omega, by go_num, fun l hl hlj => ?_, C2.out⟩
          by_cases e : l = j
          · subst e; exact HV.out
          · exact HA.out l hl (by omega)
        case measure => simp [intOf]; omega
      · have HE := Lib.hid (show bringW x item g L = (x, ev) by have e := firstE_at L j hjl HA.out hv; have h := HNE.out j hjl; rw [hev] at e h; unfold bringW; rw [e, if_neg h])
        have HNZ := Lib.hid (show ¬ ev = 0 by have h := HNE.out j hjl; rw [hev] at h; exact h)
        clear hv
        have O3 := Lib.hid (show Off2 w.heap.size wr.heap.size #[.slice p.d.ex x.d.exits.length p.d.exc, .slice p.d.pl x.d.players.length p.d.plc, .slice p.d.co x.d.coins.length p.d.coc, .slice p.d.it x.d.items.length p.d.itc, .slice p.d.bo x.d.boxes.length p.d.boc, .int .i64 x.d.room, .int .i64 x.d.player, .int .i64 x.d.box, .slice p.at_ x.at_.length p.atc, .slice p.co x.coins.length p.coc, .slice p.wh x.wher.length p.whc] #[.func (.func F) #[] fs, .int .i64 ev] w2 from ⟨C2.out.a.cell, D2.out.cell⟩)
        have n1 : w.heap.size ≠ w.heap.size + 1 + 1 := by omega
        have n2 : wr.heap.size ≠ w.heap.size + 1 + 1 := by have := HT.out.size; omega
        have n3 : w.heap.size + 1 + 1 ≠ wr.heap.size := by omega
        have hca := C2.out.a.cell
        have hla := C2.out.a.lt
        have hcd := D2.out.cell
        have hld := D2.out.lt
        go_wp2_with fail
        refine wp_region_noPanic ?_
        refine wp_region_held_drew (S := (fun w' => (∀ j, w'.cell? ⟨w.heap.size, j, none⟩ = (#[.slice p.d.ex x.d.exits.length p.d.exc, .slice p.d.pl x.d.players.length p.d.plc, .slice p.d.co x.d.coins.length p.d.coc, .slice p.d.it x.d.items.length p.d.itc, .slice p.d.bo x.d.boxes.length p.d.boc, .int .i64 x.d.room, .int .i64 x.d.player, .int .i64 x.d.box, .slice p.at_ x.at_.length p.atc, .slice p.co x.coins.length p.coc, .slice p.wh x.wher.length p.whc][j]? : Option Value)) ∧ (∀ j, w'.cell? ⟨wr.heap.size, j, none⟩ = (#[.func (.func F) #[] fs, .int .i64 ev][j]? : Option Value)))) (by kernel_rfl) (by (first | (exact ⟨hca, hcd⟩) | (refine off2_S (a := w.heap.size) (b := wr.heap.size) (A := #[.slice p.d.ex x.d.exits.length p.d.exc, .slice p.d.pl x.d.players.length p.d.plc, .slice p.d.co x.d.coins.length p.d.coc, .slice p.d.it x.d.items.length p.d.itc, .slice p.d.bo x.d.boxes.length p.d.boc, .int .i64 x.d.room, .int .i64 x.d.player, .int .i64 x.d.box, .slice p.at_ x.at_.length p.atc, .slice p.co x.coins.length p.coc, .slice p.wh x.wher.length p.whc]) (B := #[.func (.func F) #[] fs, .int .i64 ev]) ?_; (with_reducible refine Off2.drew ?_); (iterate 11 with_reducible refine Off2.set n1 n2 ?_ _ _); with_reducible exact O3.out))) (fun hHeld => ?_)
        clear hca hla hcd hld
        have hcr : ∀ i, World.cell? w2 ⟨w.heap.size + 1 + 1, i, none⟩ = _ := C2.out.r.cell
        have hzr : ∀ i, World.frozen? w2 ⟨w.heap.size + 1 + 1, i, none⟩ = false := C2.out.r.frozen
        have hlr : w.heap.size + 1 + 1 < w2.heap.size := C2.out.r.lt
        refine wpAnyH_take (i := 0) (v := ?_) (by simp only [List.getElem?_toArray, List.getElem?_cons_zero]; rfl) (by kernel_rfl) (by kernel_rfl) (by kernel_rfl) (fun _ _ _ h => h) (Or.inl ⟨by rfl, ?_⟩) (by assumption) ?_
        rotate_left
        · (intro ww hSw; (try dsimp only at hSw); go_simp; (try with_reducible rfl))
        try simp only [Act.put, List.setIfInBounds_toArray, List.set_cons_zero, List.set_cons_succ]
        refine wpAnyH_take (i := 1) (v := ?_) (by simp only [List.getElem?_toArray, List.getElem?_cons_succ, List.getElem?_cons_zero]; rfl) (by kernel_rfl) (by kernel_rfl) (by kernel_rfl) (fun _ _ _ h => h) (Or.inl ⟨by rfl, ?_⟩) (by assumption) ?_
        rotate_left
        · (intro ww hSw; (try dsimp only at hSw); go_simp; (try with_reducible rfl))
        try simp only [Act.put, List.setIfInBounds_toArray, List.set_cons_zero, List.set_cons_succ]
        refine wpAnyH_take (i := 2) (v := ?_) (by simp only [List.getElem?_toArray, List.getElem?_cons_succ, List.getElem?_cons_zero]; rfl) (by kernel_rfl) (by kernel_rfl) (by kernel_rfl) (fun _ _ _ h => h) (Or.inl ⟨by rfl, ?_⟩) (by assumption) ?_
        rotate_left
        · (intro ww hSw; (try dsimp only at hSw); go_simp; (try with_reducible rfl))
        try simp only [Act.put, List.setIfInBounds_toArray, List.set_cons_zero, List.set_cons_succ]
        refine wpAnyH_ready (rs := [3]) (by kernel_rfl) (by simp) (AllReadyH.cons (by simp only [List.getElem?_toArray, List.getElem?_cons_succ, List.getElem?_cons_zero]; rfl) (fun K hK => ?_) AllReadyH.nil)
        go_simp
        try go_wp2_with fail
        refine hK.out _ _ (by (first | (exact ⟨hca, hcd⟩) | (refine off2_S (a := w.heap.size) (b := wr.heap.size) (A := #[.slice p.d.ex x.d.exits.length p.d.exc, .slice p.d.pl x.d.players.length p.d.plc, .slice p.d.co x.d.coins.length p.d.coc, .slice p.d.it x.d.items.length p.d.itc, .slice p.d.bo x.d.boxes.length p.d.boc, .int .i64 x.d.room, .int .i64 x.d.player, .int .i64 x.d.box, .slice p.at_ x.at_.length p.atc, .slice p.co x.coins.length p.coc, .slice p.wh x.wher.length p.whc]) (B := #[.func (.func F) #[] fs, .int .i64 ev]) ?_; (with_reducible refine Off2.drew ?_); (iterate 11 with_reducible refine Off2.set n1 n2 ?_ _ _); with_reducible exact O3.out))) (fun hHeld => ?_)
        clear hK K
        try simp only [Act.put, List.setIfInBounds_toArray, List.set_cons_zero, List.set_cons_succ]
        refine wpAnyH_take (i := 4) (v := ?_) (by simp only [List.getElem?_toArray, List.getElem?_cons_succ, List.getElem?_cons_zero]; rfl) (by kernel_rfl) (by kernel_rfl) (by kernel_rfl) (fun _ _ _ h => h) (Or.inl ⟨by rfl, ?_⟩) (by assumption) ?_
        rotate_left
        · (intro ww hSw; (try dsimp only at hSw); go_simp; (try with_reducible rfl))
        try simp only [Act.put, List.setIfInBounds_toArray, List.set_cons_zero, List.set_cons_succ]
        refine wpAnyH_done (by kernel_rfl) ?_ _
        refine NoPanic.normal ?_
        go_wp2_with fail
        rw [HE.out]
        refine bodyPost_ret (v := .tuple #[.agg #[.slice p.d.ex x.d.exits.length p.d.exc, .slice p.d.pl x.d.players.length p.d.plc, .slice p.d.co x.d.coins.length p.d.coc, .slice p.d.it x.d.items.length p.d.itc, .slice p.d.bo x.d.boxes.length p.d.boc, .int .i64 x.d.room, .int .i64 x.d.player, .int .i64 x.d.box, .slice p.at_ x.at_.length p.atc, .slice p.co x.coins.length p.coc, .slice p.wh x.wher.length p.whc], .int .i64 ev]) (by simp [results, Try.results26, go_sem, hcr]) rfl ⟨p, rfl, .inl ⟨HNZ.out, rfl, rfl⟩, ?_⟩
        refine bdrew1 ?_
        iterate 11 refine Below.setCell ?_ (by show w.heap.size ≤ w.heap.size + 2; omega) _
        exact C2.out.b
    · have hall : ∀ l (hl : l < L.length), L[l].1 = false := fun l hl => HA.out l hl (by omega)
      obtain ⟨k, rfl, hk⟩ := HTO.out hall
      have HE := Lib.hid (show bringW x (k : Int) g L = (putW x k g, 0) by unfold bringW; rw [firstE_none L hall, if_pos rfl]; rfl)
      clear hall
      have hcm := HT.out.m.cell
      have hlm := HT.out.m.lt
      go_wp2_with fail
      refine (to_any x p k g _ (H.out.below HT.out.b (Nat.le_refl _)) (right_fewW9 HX.out) hk).mono ?_
      rintro e w4 ⟨⟨qd, qa, qac, qk, qkc, qw, qwc⟩, rfl, ho, b4⟩
      have C4 := Lib.hid (HT.out.call b4)
      have HO := Lib.hid (ho.less HT.out.size)
      clear b4 ho hca hla hcm hlm
      have hcr : ∀ i, World.cell? _ ⟨w.heap.size + 1 + 1, i, none⟩ = _ := C4.out.r.cell
      have hzr : ∀ i, World.frozen? _ ⟨w.heap.size + 1 + 1, i, none⟩ = false := C4.out.r.frozen
      have hlr : w.heap.size + 1 + 1 < _ := C4.out.r.lt
      go_wp2_with fail
      rw [HE.out]
      refine bodyPost_ret (v := .tuple #[.agg #[.slice qd.ex x.d.exits.length qd.exc, .slice qd.pl x.d.players.length qd.plc, .slice qd.co x.d.coins.length qd.coc, .slice qd.it x.d.items.length qd.itc, .slice qd.bo x.d.boxes.length qd.boc, .int .i64 x.d.room, .int .i64 x.d.player, .int .i64 x.d.box, .slice qa x.at_.length qac, .slice qk x.coins.length qkc, .slice qw x.wher.length qwc], .int .i64 0]) (by simp [results, Try.results26, go_sem, hcr]) rfl ⟨⟨qd, qa, qac, qk, qkc, qw, qwc⟩, rfl, .inr ⟨rfl, ?_⟩, ?_⟩
      · refine WorldOwn.less (n := w.heap.size + 3) ?_ (by omega)
        iterate 11 refine WorldOwn.set (q := w.heap.size + 2) ?_ (by omega) _ _
        exact HO.out
      · iterate 11 refine Below.setCell ?_ (by show w.heap.size ≤ w.heap.size + 2; omega) _
        exact C4.out.b
end Go.Proofs.Ytdmfbbcidcfcjaa
