/- ways: is it one of so many; the exit; who goes. -/
import Derived.Test.YtgmkcddgkgcbbaaGreatGAs
namespace Go.Proofs.YtgmkcddgkgcbbaaGreat
open Go.ChangeShapes Go.WideShapes Go.ChangeAt Go.RowKit
open Lib (hid)
set_option linter.unusedVariables false
set_option maxRecDepth 100000
section
theorem wisof_any (n m : Int) (w : World) : Calls Tryz.prog 113 #[.int .i64 n, .int .i64 m] w fun e w' => e = .returned (.bool (inB n m)) ∧ w = w' := by
 unfold inB
 by_cases h1 : 0 ≤ n
 ·by_cases h2 : n < m
  ·
   have hWC := @wC.eq_1
   go_enter Tryz.func113, Tryz.ntmps113
   go_wp2_with fail
   go_ret
   exact ⟨ret_bool (by simp), rfl⟩
  ·
   have hWC := @wC.eq_1
   go_enter Tryz.func113, Tryz.ntmps113
   go_wp2_with fail
   go_ret
   exact ⟨ret_bool (by simp [h2]), rfl⟩
 ·
  have hWC := @wC.eq_1
  go_enter Tryz.func113, Tryz.ntmps113
  go_wp2_with fail
  go_ret
  exact ⟨ret_bool (by simp; omega), rfl⟩
def exA (t : Int) : Int := if t = -1 then 0 else t
theorem exit_any (x : Wd) (p : Wp) (r d : Nat) (hr : r < x.d.exits.length) (hd : d < 4) (w : World) (h : ExsAt w p.d.ex x.d.exits) : Calls Tryz.prog 110 #[.agg (wC x p), .int .i64 (r : Int), .int .i64 (d : Int)] w fun e w' => e = .returned (.tuple #[.int .i64 (exA (toW x r d)), .bool (toW x r d != -1)]) ∧ Below w.heap.size w w' := by
 have hl := h.len
 obtain ⟨b, o, hx, hb, hc⟩ := h.at_ hr
 have c0 := hc r hr d hd
 rw [exC_at _ hd, exits_to hr] at c0
 have hd2 : (d : Int) < 4 := by omega
 have i1 := hid (show inB (r : Int) (x.d.exits.length : Int) = true by simp [inB, hr])
 have i2 := hid (show inB (d : Int) 4 = true by simp [inB, hd2])
 generalize toW x r d = t at *
 clear hc h
 by_cases ht : t = -1
 ·rw [show exA t = 0 by subst ht; rfl, show (t != -1) = false by subst ht; rfl]
  have hWC := @wC.eq_1
  go_enter Tryz.func110, Tryz.ntmps110
  go_wp2_with fail
  refine (wisof_any _ _ _).mono ?_
  rintro e w' ⟨rfl, rfl⟩
  rw [i1.out]
  go_wp2_with fail
  refine (wisof_any _ _ _).mono ?_
  rintro e w' ⟨rfl, rfl⟩
  rw [i2.out]
  go_wp2_with fail
  go_ret2
  exact ⟨rfl, (Below.refl _ _).alloc (Nat.le_refl _) _⟩
 ·rw [show exA t = t by simp [exA, ht], show (t != -1) = true by simpa using ht]
  have ht2 : (t == -1) = false := by simpa using ht
  clear ht
  have hWC := @wC.eq_1
  go_enter Tryz.func110, Tryz.ntmps110
  go_wp2_with fail
  refine (wisof_any _ _ _).mono ?_
  rintro e w' ⟨rfl, rfl⟩
  rw [i1.out]
  go_wp2_with fail
  refine (wisof_any _ _ _).mono ?_
  rintro e w' ⟨rfl, rfl⟩
  rw [i2.out]
  go_wp2_with fail
  go_ret2
  exact ⟨rfl, (Below.refl _ _).alloc (Nat.le_refl _) _⟩
structure GoerAt (W : World) (n : Nat) (x : Wd) (p : Wp) (i : Nat) (q : Int) : Prop where
 lt : n + 2 < W.heap.size
 w : ∀ j, W.cell? ⟨n, j, none⟩ = ((wC x p)[j]? : Option Value)
 p : W.cell? ⟨n + 1, 0, none⟩ = some (.int .i64 i)
 q : W.cell? ⟨n + 2, 0, none⟩ = some (.int .i64 q)
theorem GoerAt.call {W W' : World} {n : Nat} {x : Wd} {p : Wp} {i : Nat} {q : Int} (h : GoerAt W n x p i q) (hb : Below W.heap.size W W') : GoerAt W' n x p i q :=
 ⟨by have := hb.size; have := h.lt; omega, fun j => (hb.cell (p := ⟨n, j, none⟩) (by show n < W.heap.size; have := h.lt; omega)).trans (h.w j), cell_call h.p hb, cell_call h.q hb⟩
theorem goer_any (x : Wd) (p : Wp) (i : Nat) (q : Int) (n : Nat) (w : World) (hn : w.heap.size = n) : Calls Tryz.prog 82 #[.agg (wC x p), .int .i64 (i : Int), .int .i64 q] w fun e w' => e = .returned (.func (.func 112) #[] #[.pointer (some ⟨n + 2, 0, none⟩), .pointer (some ⟨n, 0, none⟩), .pointer (some ⟨n + 1, 0, none⟩)]) ∧ GoerAt w' n x p i q ∧ Below w.heap.size w w' := by
 subst hn
 have h1 := (Holds.new w (wC x p) 29)
 have hWC := @wC.eq_1
 go_enter Tryz.func82, Tryz.ntmps82
 go_wp2_with fail
 go_ret
 refine ⟨rfl, ⟨by simp, fun j => ?_, ?_, ?_⟩, (((Below.refl _ w).alloc (Nat.le_refl _) _).alloc (by simp) _).alloc (by simp; omega) _⟩
 ·exact ((h1.call ((Below.refl _ _).alloc (Nat.le_refl _) _)).call ((Below.refl _ _).alloc (Nat.le_refl _) _)).2.2 j
 ·exact ((Blk.newn (w.alloc (.cells (wC x p) 29)) 3 #[.int .i64 (i : Int)] (n := w.heap.size + 1) (by simp)).alloc _).cell 0
 ·exact World.cell?_alloc_at _ _ _ _ (by simp)
/-- What the closure answers. -/
def whoW (x : Wd) (i : Nat) (q : Int) : Int × Int := if inB q x.at_.length = false then (0, 3) else if roomOf x i = roomOf x q.toNat then (q, 0) else (0, 5)
theorem goer1_any (x : Wd) (p : Wp) (i : Nat) (q : Int) (n : Nat) (w : World) (hx : rightW x = true) (hi : i < x.at_.length) (h : GoerAt w n x p i q) (ha : IntsAt w p.at_ x.at_) : Calls Tryz.prog 112 #[.pointer (some ⟨n + 2, 0, none⟩), .pointer (some ⟨n, 0, none⟩), .pointer (some ⟨n + 1, 0, none⟩)] w fun e w' => e = .returned (.tuple #[.int .i64 (whoW x i q).1, .int .i64 (whoW x i q).2]) ∧ Below w.heap.size w w' := by
 have hl := ha.len
 obtain ⟨hlt, hw, hp, hq⟩ := h
 have HI := hid (show inB (i : Int) x.at_.length = true by simp [inB, hi])
 cases hb : inB q x.at_.length
 ·have HB := hid hb
  rw [show whoW x i q = (0, 3) by simp [whoW, hb]]
  clear hb
  have hWC := @wC.eq_1
  go_enter Tryz.func112, Tryz.ntmps112
  go_wp2_with fail
  refine (wisof_any _ _ _).mono ?_
  rintro e w' ⟨rfl, rfl⟩
  rw [HB.out]
  go_wp2_with fail
  go_ret2
  exact ⟨rfl, Below.refl _ _⟩
 ·have HB := hid hb
  obtain ⟨k, rfl⟩ : ∃ k : Nat, q = k := ⟨q.toNat, by have := (inB_iff _ _).1 hb; omega⟩
  have hk : k < x.at_.length := by have := (inB_iff _ _).1 hb; omega
  obtain ⟨b, o, ea, hb2, hc⟩ := ha.at_ hi
  have c1 := hc i hi
  have c2 := hc k hk
  rw [(room_at hx hi).1] at c1
  rw [(room_at hx hk).1] at c2
  have HW := hid (show whoW x i k = if ((roomOf x i : Nat) : Int) = ((roomOf x k : Nat) : Int) then ((k : Int), 0) else (0, 5) by have e : ∀ a b : Nat, ((a : Int) = b) = (a = b) := fun a b => propext Int.ofNat_inj; simp only [whoW, hb, e]; simp)
  generalize ((roomOf x i : Nat) : Int) = r1 at *
  generalize ((roomOf x k : Nat) : Int) = r2 at *
  clear hb hc ha hx
  by_cases hr : r1 = r2
  ·have hne : (r1 != r2) = false := by simpa using hr
   rw [show whoW x i k = ((k : Int), 0) by rw [HW.out, if_pos hr]]
   clear hr
   have hWC := @wC.eq_1
   go_enter Tryz.func112, Tryz.ntmps112
   go_wp2_with fail
   refine (wisof_any _ _ _).mono ?_
   rintro e w' ⟨rfl, rfl⟩
   rw [HB.out]
   go_wp2_with fail
   refine tkS (S := (fun w' => Below w.heap.size w w' ∧ (∀ j, w'.cell? ⟨n, j, none⟩ = ((wC x p)[j]? : Option Value)) ∧ w'.cell? ⟨n + 1, 0, none⟩ = some (.int .i64 i) ∧ w'.cell? ⟨n + 2, 0, none⟩ = some (.int .i64 k) ∧ w'.cell? ⟨b, o + i, none⟩ = some (.int .i64 r1) ∧ w'.cell? ⟨b, o + k, none⟩ = some (.int .i64 r2))) (by (exact ⟨bdrew1 (Below.refl _ _), hw, hp, hq, c1, c2⟩)) (fun hHeld => ?_)
   refine tkl [0, 1, 2, 3, 4, 5, 6, 7, 8, 9, 10, 11, 12, 13, 14, 15, 16, 17, 18] ?_
   iterate 19
    first
     | refine tW ?_ | refine tN ?_
     | (refine rT (fun K hK => ?_)
        go_simp
        first
         | (go_at_call 113; refine (wisof_any _ _ _).mono ?_; rintro e w9 ⟨rfl, rfl⟩; rw [HI.out])
        try go_wp2_with fail
        refine hK.out _ _ (by (exact ⟨bdrew1 (Below.refl _ _), hw, hp, hq, c1, c2⟩)) (fun hHeld => ?_)
        clear hK K)
    try go_frame
   refine tkD ?_
   have hB := hid (show Below w.heap.size w _ from hHeld.1)
   clear hHeld
   go_wp2_with fail
   go_ret2
   exact ⟨rfl, hB.out⟩
  ·have hne : (r1 != r2) = true := by simpa using hr
   rw [show whoW x i k = (0, 5) by rw [HW.out, if_neg hr]]
   clear hr
   have hWC := @wC.eq_1
   go_enter Tryz.func112, Tryz.ntmps112
   go_wp2_with fail
   refine (wisof_any _ _ _).mono ?_
   rintro e w' ⟨rfl, rfl⟩
   rw [HB.out]
   go_wp2_with fail
   refine tkS (S := (fun w' => Below w.heap.size w w' ∧ (∀ j, w'.cell? ⟨n, j, none⟩ = ((wC x p)[j]? : Option Value)) ∧ w'.cell? ⟨n + 1, 0, none⟩ = some (.int .i64 i) ∧ w'.cell? ⟨n + 2, 0, none⟩ = some (.int .i64 k) ∧ w'.cell? ⟨b, o + i, none⟩ = some (.int .i64 r1) ∧ w'.cell? ⟨b, o + k, none⟩ = some (.int .i64 r2))) (by (exact ⟨bdrew1 (Below.refl _ _), hw, hp, hq, c1, c2⟩)) (fun hHeld => ?_)
   refine tkl [0, 1, 2, 3, 4, 5, 6, 7, 8, 9, 10, 11, 12, 13, 14, 15, 16, 17, 18] ?_
   iterate 19
    first
     | refine tW ?_ | refine tN ?_
     | (refine rT (fun K hK => ?_)
        go_simp
        first
         | (go_at_call 113; refine (wisof_any _ _ _).mono ?_; rintro e w9 ⟨rfl, rfl⟩; rw [HI.out])
        try go_wp2_with fail
        refine hK.out _ _ (by (exact ⟨bdrew1 (Below.refl _ _), hw, hp, hq, c1, c2⟩)) (fun hHeld => ?_)
        clear hK K)
    try go_frame
   refine tkD ?_
   have hB := hid (show Below w.heap.size w _ from hHeld.1)
   clear hHeld
   go_wp2_with fail
   go_ret2
   exact ⟨rfl, hB.out⟩
end
section
theorem right_fewW {x : Wd} (h : rightW x = true) : FewW x := by
 have h1 := right_lens h
 have h2 := may_few h1.2.2.2.2.2
 exact ⟨⟨by omega, by omega, by omega, by omega, by omega⟩, by omega, by omega, by omega⟩
theorem send_no (x : Wd) (p : Wp) (d : Nat) (n i : Nat) (q : Int) (w : World) (hx : rightW x = true) (h : WorldAt w p x) (hi : i < x.at_.length) (hg : GoerAt w n x p i q) (he : ¬ (whoW x i q).2 = 0) : Calls Tryz.prog 81 #[.agg (wC x p), .int .i64 (d : Int), .func (.func 112) #[] #[.pointer (some ⟨n + 2, 0, none⟩), .pointer (some ⟨n, 0, none⟩), .pointer (some ⟨n + 1, 0, none⟩)]] w fun e w' => e = .returned (.tuple #[.agg (wC x p), .int .i64 0, .int .i64 (whoW x i q).2]) ∧ Below w.heap.size w w' := by
 have C0 := hid (Two.start 29 29 w (wC x p) #[.slice none 0 0, .slice none 0 0, .slice none 0 0, .slice none 0 0, .slice none 0 0, .int .i64 0, .int .i64 0, .int .i64 0, .slice none 0 0, .slice none 0 0, .slice none 0 0])
 have H := hid h
 have HX := hid hx
 have HG := hid hg
 have hne : ((whoW x i q).2 != 0) = true := by simpa using he
 clear hx h hg he
 have hWC := @wC.eq_1
 go_enter Tryz.func81, Tryz.ntmps81
 go_wp2_with fail
 refine (goer1_any x p i q n _ HX.out hi (HG.out.call C0.out.b) (H.out.at_.below C0.out.b (Nat.le_refl _))).mono ?_
 rintro e w1 ⟨rfl, b1⟩
 have D1 := hid (C0.out.call b1)
 have hc1 := D1.out.a.cell
 have hl1 := D1.out.a.lt
 have hc2 := D1.out.r.cell
 have hz2 := D1.out.r.frozen
 have hs2 := D1.out.r.lt
 clear b1
 go_wp2_with fail
 refine bodyPost_ret (v := .tuple #[.agg (wC x p), .int .i64 0, .int .i64 (whoW x i q).2]) (by simp [results, Tryz.results81, go_sem, hc2]) rfl ⟨rfl, ?_⟩
 iterate 11 refine Below.setCell ?_ (by show w.heap.size ≤ w.heap.size + 1; omega) _
 exact D1.out.b
theorem send_shut (x : Wd) (pd : Dp) (b o pac : Nat) (pk pw : Option Addr) (pkc pwc : Nat) (d : Nat) (hd : d < 4) (n i k : Nat) (w : World) (hx : rightW x = true) (h : WorldAt w ⟨pd, some ⟨b, o, none⟩, pac, pk, pkc, pw, pwc⟩ x) (c0 : w.cell? ⟨b, o + k, none⟩ = some (.int .i64 (roomOf x k : Int))) (hi : i < x.at_.length) (hk : k < x.at_.length) (hg : GoerAt w n x ⟨pd, some ⟨b, o, none⟩, pac, pk, pkc, pw, pwc⟩ i k) (he : whoW x i k = ((k : Int), 0)) (ht : toW x (roomOf x k) d = -1) : Calls Tryz.prog 81 #[.agg (wC x ⟨pd, some ⟨b, o, none⟩, pac, pk, pkc, pw, pwc⟩), .int .i64 (d : Int), .func (.func 112) #[] #[.pointer (some ⟨n + 2, 0, none⟩), .pointer (some ⟨n, 0, none⟩), .pointer (some ⟨n + 1, 0, none⟩)]] w fun e w' => e = .returned (.tuple #[.agg (wC x ⟨pd, some ⟨b, o, none⟩, pac, pk, pkc, pw, pwc⟩), .int .i64 0, .int .i64 4]) ∧ Below w.heap.size w w' := by
 have C0 := hid (Two.start 29 29 w (wC x ⟨pd, some ⟨b, o, none⟩, pac, pk, pkc, pw, pwc⟩) #[.slice none 0 0, .slice none 0 0, .slice none 0 0, .slice none 0 0, .slice none 0 0, .int .i64 0, .int .i64 0, .int .i64 0, .slice none 0 0, .slice none 0 0, .slice none 0 0])
 have H := hid h
 have HX := hid hx
 have HG := hid hg
 have HE := hid he
 have HT := hid ht
 have HR := hid (room_at hx hk)
 have hlen := h.at_.len
 clear hx h hg he ht
 have hWC := @wC.eq_1
 go_enter Tryz.func81, Tryz.ntmps81
 go_wp2_with fail
 refine (goer1_any x _ i k n _ HX.out hi (HG.out.call C0.out.b) (H.out.at_.below C0.out.b (Nat.le_refl _))).mono ?_
 rintro e w1 ⟨rfl, b1⟩
 rw [HE.out]
 have D1 := hid (C0.out.call b1)
 have c1 := cell_call c0 D1.out.b
 have hl1 := D1.out.a.lt
 clear b1 c0
 go_wp2_with fail
 refine tkS (S := (fun w' => Below w1.heap.size w1 w' ∧ (∀ j, w'.cell? ⟨w.heap.size, j, none⟩ = ((wC x ⟨pd, some ⟨b, o, none⟩, pac, pk, pkc, pw, pwc⟩)[j]? : Option Value)) ∧ w'.cell? ⟨b, o + k, none⟩ = some (.int .i64 (roomOf x k : Int)))) (by (exact ⟨bdrew1 (Below.refl _ _), D1.out.a.cell, c1⟩)) (fun hHeld => ?_)
 refine tkl [0, 1, 2, 3, 4, 5, 6, 7, 8, 9, 10, 11, 12] ?_
 iterate 13
  first
   | refine tW ?_ | refine tN ?_
   | (refine rT (fun K hK => ?_)
      go_simp
      first
       | (go_at_call 110; refine (exit_any x ⟨pd, some ⟨b, o, none⟩, pac, pk, pkc, pw, pwc⟩ (roomOf x k) d HR.out.2 hd _ (H.out.d.ex.below (D1.out.b.trans (hHeld.1.mono D1.out.b.size)) (Nat.le_refl _))).mono ?_; rintro e w9 ⟨rfl, hb2⟩; rw [HT.out])
      try go_wp2_with fail
      refine hK.out _ _ (by (exact ⟨below_call hHeld.1 hHeld.1.size hb2, fun j => ((below_call hHeld.1 hHeld.1.size hb2).cell (p := ⟨w.heap.size, j, none⟩) hl1).trans (D1.out.a.cell j), cell_call hHeld.2.2 hb2⟩)) (fun hHeld => ?_)
      clear hK K)
  try go_frame
 refine tkD ?_
 have D2 := hid (D1.out.call hHeld.1)
 clear hHeld hl1 c1
 have hc1 := D2.out.a.cell
 have hl1 := D2.out.a.lt
 have hc2 := D2.out.r.cell
 have hz2 := D2.out.r.frozen
 have hs2 := D2.out.r.lt
 go_wp2_with fail
 refine bodyPost_ret (v := .tuple #[.agg (wC x ⟨pd, some ⟨b, o, none⟩, pac, pk, pkc, pw, pwc⟩), .int .i64 0, .int .i64 4]) (by simp [results, Tryz.results81, go_sem, hc2]) rfl ⟨rfl, ?_⟩
 iterate 11 refine Below.setCell ?_ (by show w.heap.size ≤ w.heap.size + 1; omega) _
 exact D2.out.b
theorem send_go (x : Wd) (pd : Dp) (b o pac : Nat) (pk pw : Option Addr) (pkc pwc : Nat) (d : Nat) (hd : d < 4) (n i k : Nat) (t : Int) (w : World) (hx : rightW x = true) (h : WorldAt w ⟨pd, some ⟨b, o, none⟩, pac, pk, pkc, pw, pwc⟩ x) (c0 : w.cell? ⟨b, o + k, none⟩ = some (.int .i64 (roomOf x k : Int))) (hi : i < x.at_.length) (hk : k < x.at_.length) (hg : GoerAt w n x ⟨pd, some ⟨b, o, none⟩, pac, pk, pkc, pw, pwc⟩ i k) (he : whoW x i k = ((k : Int), 0)) (ht : toW x (roomOf x k) d = t) (h1 : ¬ t = -1) : Calls Tryz.prog 81 #[.agg (wC x ⟨pd, some ⟨b, o, none⟩, pac, pk, pkc, pw, pwc⟩), .int .i64 (d : Int), .func (.func 112) #[] #[.pointer (some ⟨n + 2, 0, none⟩), .pointer (some ⟨n, 0, none⟩), .pointer (some ⟨n + 1, 0, none⟩)]] w fun e w' => ∃ q : Wp, e = .returned (.tuple #[.agg (wC x q), .int .i64 t, .int .i64 0]) ∧ WorldOwn w.heap.size w' q (goW x k t) ∧ Below w.heap.size w w' := by
 have C0 := hid (Two.start 29 29 w (wC x ⟨pd, some ⟨b, o, none⟩, pac, pk, pkc, pw, pwc⟩) #[.slice none 0 0, .slice none 0 0, .slice none 0 0, .slice none 0 0, .slice none 0 0, .int .i64 0, .int .i64 0, .int .i64 0, .slice none 0 0, .slice none 0 0, .slice none 0 0])
 have H := hid h
 have HX := hid hx
 have HG := hid hg
 have HE := hid he
 have HT := hid (show toW x (roomOf x k) d = t ∧ exA t = t ∧ (t != -1) = true from ⟨ht, by simp [exA, h1], by simpa using h1⟩)
 have HR := hid (room_at hx hk)
 have hlen := h.at_.len
 clear hx h hg he ht h1
 have hWC := @wC.eq_1
 go_enter Tryz.func81, Tryz.ntmps81
 go_wp2_with fail
 refine (goer1_any x _ i k n _ HX.out hi (HG.out.call C0.out.b) (H.out.at_.below C0.out.b (Nat.le_refl _))).mono ?_
 rintro e w1 ⟨rfl, b1⟩
 rw [HE.out]
 have D1 := hid (C0.out.call b1)
 have c1 := cell_call c0 D1.out.b
 have hl1 := D1.out.a.lt
 clear b1 c0
 go_wp2_with fail
 refine tkS (S := (fun w' => Below w1.heap.size w1 w' ∧ (∀ j, w'.cell? ⟨w.heap.size, j, none⟩ = ((wC x ⟨pd, some ⟨b, o, none⟩, pac, pk, pkc, pw, pwc⟩)[j]? : Option Value)) ∧ w'.cell? ⟨b, o + k, none⟩ = some (.int .i64 (roomOf x k : Int)))) (by (exact ⟨bdrew1 (Below.refl _ _), D1.out.a.cell, c1⟩)) (fun hHeld => ?_)
 refine tkl [0, 1, 2, 3, 4, 5, 6, 7, 8, 9, 10, 11, 12] ?_
 iterate 13
  first
   | refine tW ?_ | refine tN ?_
   | (refine rT (fun K hK => ?_)
      go_simp
      first
       | (go_at_call 110; refine (exit_any x ⟨pd, some ⟨b, o, none⟩, pac, pk, pkc, pw, pwc⟩ (roomOf x k) d HR.out.2 hd _ (H.out.d.ex.below (D1.out.b.trans (hHeld.1.mono D1.out.b.size)) (Nat.le_refl _))).mono ?_; rintro e w9 ⟨rfl, hb2⟩; rw [HT.out.1, HT.out.2.1, HT.out.2.2])
      try go_wp2_with fail
      refine hK.out _ _ (by (exact ⟨below_call hHeld.1 hHeld.1.size hb2, fun j => ((below_call hHeld.1 hHeld.1.size hb2).cell (p := ⟨w.heap.size, j, none⟩) hl1).trans (D1.out.a.cell j), cell_call hHeld.2.2 hb2⟩)) (fun hHeld => ?_)
      clear hK K)
  try go_frame
 refine tkD ?_
 have D2 := hid (D1.out.call hHeld.1)
 clear hHeld hl1 c1
 have hc1 := D2.out.a.cell
 have hl1 := D2.out.a.lt
 go_wp2_with fail
 refine (copy_any x ⟨pd, some ⟨b, o, none⟩, pac, pk, pkc, pw, pwc⟩ _ (H.out.below D2.out.b (Nat.le_refl _)) (right_fewW HX.out)).mono ?_
 rintro e w3 ⟨⟨qd, qa, qac, qk, qkc, qw, qwc⟩, rfl, ho, b3⟩
 obtain ⟨g, hqa, hb1, hb2, cA, fA, hput⟩ := ho.putAt hk
 simp only at hqa
 subst hqa
 have D3 := hid (D2.out.call b3)
 have hs1 := D2.out.size
 have n1 : w.heap.size + 1 ≠ g := by omega
 have n2 : g ≠ w.heap.size + 1 := by omega
 have HB3 := hid hb1
 have HP := hid (hput t)
 clear hc1 hl1 ho hput b3
 have hc2 := D3.out.r.cell
 have hz2 := D3.out.r.frozen
 have hs2 := D3.out.r.lt
 have hlg := hb2
 go_wp2_with fail
 refine bodyPost_ret (v := .tuple #[.agg (wC x ⟨qd, some ⟨g, 0, none⟩, qac, qk, qkc, qw, qwc⟩), .int .i64 t, .int .i64 0]) (by simp [results, Tryz.results81, go_sem, hc2, hs2]) rfl ⟨⟨qd, some ⟨g, 0, none⟩, qac, qk, qkc, qw, qwc⟩, rfl, ?_, ?_⟩
 ·refine WorldOwn.alloc' (WorldOwn.less (n := w9.heap.size) ?_ (by omega)) _
  iterate 11 refine WorldOwn.set (q := w.heap.size + 1) ?_ (by omega) _ _
  exact HP.out
 ·refine Below.alloc ?_ (by simp [World.setCell]; omega) _
  iterate 11 refine Below.setCell ?_ (by show w.heap.size ≤ w.heap.size + 1; omega) _
  refine Below.setCell ?_ (by show w.heap.size ≤ g; omega) _
  exact D3.out.b
end
section
/-- What is answered: a world that stays, or a new one. -/
def Went (n : Nat) (W : World) (p q : Wp) (x : Wd) (R : Wd × Int × Int) : Prop := (¬ R.2.2 = 0 ∧ R.1 = x ∧ q = p) ∨ (R.2.2 = 0 ∧ WorldOwn n W q R.1)
theorem Went.call {n : Nat} {W W' : World} {p q : Wp} {x : Wd} {R : Wd × Int × Int} (h : Went n W p q x R) (hb : Below W.heap.size W W') : Went n W' p q x R := h.imp id (fun ⟨h1, h2⟩ => ⟨h1, h2.call hb⟩)
theorem Went.set {n : Nat} {W : World} {p q : Wp} {x : Wd} {R : Wd × Int × Int} (h : Went n W p q x R) {b : Nat} (hb : b < n) (i : Nat) (u : Value) : Went n (W.setCell ⟨b, i, none⟩ u) p q x R := h.imp id (fun ⟨h1, h2⟩ => ⟨h1, h2.set hb i u⟩)
theorem Went.less {n m : Nat} {W : World} {p q : Wp} {x : Wd} {R : Wd × Int × Int} (h : Went n W p q x R) (hm : m ≤ n) : Went m W p q x R := h.imp id (fun ⟨h1, h2⟩ => ⟨h1, h2.less hm⟩)
theorem Went.world {n : Nat} {W : World} {p q : Wp} {x : Wd} {R : Wd × Int × Int} (h : Went n W p q x R) (hw : WorldAt W p x) : WorldAt W q R.1 := by
 rcases h with ⟨_, h1, h2⟩ | ⟨_, h2⟩
 ·rw [h1, h2]; exact hw
 ·exact h2.world
/-- Who is sent by whom. -/
def sendW (x : Wd) (i : Nat) (q : Int) (d : Nat) : Wd × Int × Int := if (whoW x i q).2 = 0 then moveW x q.toNat d else (x, 0, (whoW x i q).2)
theorem who_yes {x : Wd} {i : Nat} {q : Int} (h : (whoW x i q).2 = 0) : ∃ k : Nat, q = k ∧ k < x.at_.length ∧ whoW x i q = ((k : Int), 0) := by
 unfold whoW at h ⊢
 split at h
 ·simp at h
 ·rename_i hb
  simp only [Bool.not_eq_false, inB_iff] at hb
  split at h
  ·rename_i h2
   refine ⟨q.toNat, by omega, by omega, ?_⟩
   rw [if_neg (by simp only [Bool.not_eq_false, inB_iff]; exact hb), if_pos h2]
   simp; omega
  ·simp at h
theorem send_any (x : Wd) (p : Wp) (d : Nat) (hd : d < 4) (n i : Nat) (q : Int) (w : World) (hx : rightW x = true) (h : WorldAt w p x) (hi : i < x.at_.length) (hg : GoerAt w n x p i q) : Calls Tryz.prog 81 #[.agg (wC x p), .int .i64 (d : Int), .func (.func 112) #[] #[.pointer (some ⟨n + 2, 0, none⟩), .pointer (some ⟨n, 0, none⟩), .pointer (some ⟨n + 1, 0, none⟩)]] w fun e w' => ∃ q' : Wp, e = .returned (.tuple #[.agg (wC x q'), .int .i64 (sendW x i q d).2.1, .int .i64 (sendW x i q d).2.2]) ∧ Went w.heap.size w' p q' x (sendW x i q d) ∧ Below w.heap.size w w' := by
 by_cases h0 : (whoW x i q).2 = 0
 ·obtain ⟨k, rfl, hk, he⟩ := who_yes h0
  have hr := room_at hx hk
  obtain ⟨b, o, ea, hb, hc⟩ := h.at_.at_ hk
  have c0 := hc k hk
  rw [hr.1] at c0
  obtain ⟨pd, pa, pac, pk, pkc, pw, pwc⟩ := p
  simp only at ea
  subst ea
  have hs : sendW x i k d = moveW x k d := by unfold sendW; rw [if_pos h0]; rfl
  rw [hs]
  by_cases ht : toW x (roomOf x k) d = -1
  ·have hm : moveW x k d = (x, 0, 4) := by unfold moveW; rw [if_pos ht]
   rw [hm]
   exact (send_shut x pd b o pac pk pw pkc pwc d hd n i k w hx h c0 hi hk hg he ht).mono fun e w' ⟨h1, h2⟩ => ⟨_, h1, .inl ⟨by simp, rfl, rfl⟩, h2⟩
  ·have hm : moveW x k d = (goW x k (toW x (roomOf x k) d), toW x (roomOf x k) d, 0) := by unfold moveW; rw [if_neg ht]
   rw [hm]
   exact (send_go x pd b o pac pk pw pkc pwc d hd n i k _ w hx h c0 hi hk hg he rfl ht).mono fun e w' ⟨q', h1, h2, h3⟩ => ⟨q', h1, .inr ⟨rfl, h2⟩, h3⟩
 ·have hs : sendW x i q d = (x, 0, (whoW x i q).2) := by unfold sendW; rw [if_neg h0]
  rw [hs]
  exact (send_no x p d n i q w hx h hi hg h0).mono fun e w' ⟨h1, h2⟩ => ⟨p, h1, .inl ⟨h0, rfl, rfl⟩, h2⟩
theorem two_keep {w W : World} {A : Array Value} {t u : TypeId} {Z : Array Value} (h : Two t u w W A Z) : Below w.heap.size w W ∧ w.heap.size < W.heap.size ∧ (∀ i, W.cell? ⟨w.heap.size, i, none⟩ = A[i]?) ∧ w.heap.size + 1 < W.heap.size := ⟨h.b, h.a.lt, h.a.cell, h.r.lt⟩
theorem send_self {x : Wd} {i : Nat} (hi : i < x.at_.length) (d : Nat) : sendW x i i d = moveW x i d := by
 unfold sendW whoW
 rw [if_neg (show ¬ inB (i : Int) x.at_.length = false by simp [inB, hi]), if_pos (by simp)]
 simp
set_option maxHeartbeats 1000000 in
theorem move_any (x : Wd) (p : Wp) (i d : Nat) (hd : d < 4) (w : World) (hx : rightW x = true) (h : WorldAt w p x) (hi : i < x.at_.length) : Calls Tryz.prog 47 #[.agg (wC x p), .int .i64 (i : Int), .int .i64 (d : Int)] w fun e w' => ∃ q : Wp, e = .returned (.tuple #[.agg (wC x q), .int .i64 (moveW x i d).2.1, .int .i64 (moveW x i d).2.2]) ∧ Went w.heap.size w' p q x (moveW x i d) ∧ Below w.heap.size w w' := by
 have H := hid h
 have HX := hid hx
 have HS := hid (send_self hi d)
 clear h hx
 have C0 := hid (Two.start 29 29 w (wC x p) #[.slice none 0 0, .slice none 0 0, .slice none 0 0, .slice none 0 0, .slice none 0 0, .int .i64 0, .int .i64 0, .int .i64 0, .slice none 0 0, .slice none 0 0, .slice none 0 0])
 obtain ⟨y, hy⟩ : ∃ y, y = moveW x i d := ⟨_, rfl⟩
 have HY := hid hy
 rw [← hy]
 clear hy
 have hWC := @wC.eq_1
 go_enter Tryz.func47, Tryz.ntmps47
 go_wp2_with fail
 obtain ⟨n, hn⟩ : ∃ n, ((w.alloc (.cells (wC x p) 29)).alloc (.cells #[.slice none 0 0, .slice none 0 0, .slice none 0 0, .slice none 0 0, .slice none 0 0, .int .i64 0, .int .i64 0, .int .i64 0, .slice none 0 0, .slice none 0 0, .slice none 0 0] 29)).drew.heap.size = n := ⟨_, rfl⟩
 have HN := hid hn
 clear hn
 refine tkS (S := (fun w' => Below w.heap.size w w' ∧ w.heap.size < w'.heap.size ∧ (∀ i, w'.cell? ⟨w.heap.size, i, none⟩ = ((wC x p)[i]? : Option Value)) ∧ w.heap.size + 1 < w'.heap.size)) (by (with_reducible exact ⟨C0.out.drew.b, C0.out.drew.a.lt, C0.out.drew.a.cell, C0.out.drew.r.lt⟩)) (fun hHeld => ?_)
 refine tkl [0, 1, 2, 3, 4] ?_
 iterate 5
  refine tW ?_
  try go_frame
 refine rdy1 5 (fun K hK => ?_)
 go_simp
 refine (goer_any x p i i n _ HN.out).mono ?_; rintro e w1 ⟨rfl, hg, hb1⟩; have D1 := hid (C0.out.drew.call hb1); have HG := hid hg; have B1 := hid hb1; clear hb1 hg
 try go_wp2_with fail
 refine hK.out _ _ (by (with_reducible exact ⟨D1.out.b, D1.out.a.lt, D1.out.a.cell, D1.out.r.lt⟩)) (fun hHeld => ?_)
 clear hK K
 try go_frame
 refine rdy1 6 (fun K hK => ?_)
 go_simp
 refine (send_any x p d hd _ i i _ HX.out (H.out.below D1.out.b (Nat.le_refl _)) hi HG.out).mono ?_; rintro e w2 ⟨⟨qd, qa, qac, qk, qkc, qw, qwc⟩, rfl, wn, hb2⟩; rw [HS.out, ← HY.out] at wn ⊢; have D2 := hid (D1.out.call hb2)
 try go_wp2_with fail
 refine hK.out _ _ (by (with_reducible exact ⟨D2.out.b, D2.out.a.lt, D2.out.a.cell, D2.out.r.lt⟩)) (fun hHeld => ?_)
 clear hK K
 try go_frame
 have WN := hid wn
 have hc2 := D2.out.r.cell
 have hz2 := D2.out.r.frozen
 have hs2 := D2.out.r.lt
 clear wn hb2
 refine tkl [7, 8, 9] ?_
 iterate 3
  refine tW ?_
  try go_frame
 refine rdy1 10 (fun K hK => ?_)
 go_simp
 try go_wp2_with fail
 refine hK.out _ _ (by (refine two_S (t := 29) (s := 29) (w := w) ?_; (iterate 11 with_reducible refine TwoE.set2 ?_ _ _); with_reducible exact TwoE.mk D2.out)) (fun hHeld => ?_)
 clear hK K
 try go_frame
 refine tkl [11, 12] ?_
 iterate 2
  refine tW ?_
  try go_frame
 refine tkD ?_
 go_wp2_with fail
 refine bodyPost_ret (v := .tuple #[.agg (wC x ⟨qd, qa, qac, qk, qkc, qw, qwc⟩), .int .i64 y.2.1, .int .i64 y.2.2]) (by simp [results, Tryz.results47, go_sem, hc2]) rfl ⟨⟨qd, qa, qac, qk, qkc, qw, qwc⟩, rfl, ?_, ?_⟩
 ·refine Went.less (n := w1.heap.size) ?_ (by have := D1.out.r.lt; omega)
  iterate 11 refine Went.set (b := w.heap.size + 1) ?_ D1.out.r.lt _ _
  exact WN.out
 ·iterate 11 refine Below.setCell ?_ (by show w.heap.size ≤ w.heap.size + 1; omega) _
  exact D2.out.b
theorem push_send {x : Wd} {i : Nat} {q : Int} (hi : i < x.at_.length) (hq : ¬ q = i) (d : Nat) : sendW x i q d = pushW x i q d := by
 unfold sendW pushW whoW
 by_cases h1 : inB q x.at_.length = false
 ·simp [h1]
 ·simp only [if_neg h1, if_neg hq]
  by_cases h2 : roomOf x i = roomOf x q.toNat
  ·simp [h2]
  ·simp [h2]
theorem push_self {x : Wd} {i : Nat} (hi : i < x.at_.length) (d : Nat) : pushW x i i d = (x, 0, 12) := by
 unfold pushW
 rw [if_neg (by simp [inB, hi]), if_pos rfl]
theorem push_same (x : Wd) (p : Wp) (i d : Nat) (w : World) : Calls Tryz.prog 49 #[.agg (wC x p), .int .i64 (i : Int), .int .i64 (i : Int), .int .i64 (d : Int)] w fun e w' => e = .returned (.tuple #[.agg (wC x p), .int .i64 0, .int .i64 12]) ∧ Below w.heap.size w w' := by
 have C0 := hid (Two.start 29 29 w (wC x p) #[.slice none 0 0, .slice none 0 0, .slice none 0 0, .slice none 0 0, .slice none 0 0, .int .i64 0, .int .i64 0, .int .i64 0, .slice none 0 0, .slice none 0 0, .slice none 0 0])
 have hc2 := C0.out.r.cell
 have hz2 := C0.out.r.frozen
 have hs2 := C0.out.r.lt
 have hWC := @wC.eq_1
 go_enter Tryz.func49, Tryz.ntmps49
 go_wp2_with fail
 refine bodyPost_ret (v := .tuple #[.agg (wC x p), .int .i64 0, .int .i64 12]) (by simp [results, Tryz.results49, go_sem]) rfl ⟨rfl, ?_⟩
 exact ((Below.refl _ _).alloc (Nat.le_refl _) _).alloc (by simp) _
set_option maxHeartbeats 1000000 in
theorem push_other (x : Wd) (p : Wp) (i : Nat) (q : Int) (d : Nat) (hd : d < 4) (hq : ¬ q = i) (w : World) (hx : rightW x = true) (h : WorldAt w p x) (hi : i < x.at_.length) : Calls Tryz.prog 49 #[.agg (wC x p), .int .i64 (i : Int), .int .i64 q, .int .i64 (d : Int)] w fun e w' => ∃ q' : Wp, e = .returned (.tuple #[.agg (wC x q'), .int .i64 (pushW x i q d).2.1, .int .i64 (pushW x i q d).2.2]) ∧ Went w.heap.size w' p q' x (pushW x i q d) ∧ Below w.heap.size w w' := by
 have H := hid h
 have HX := hid hx
 have HS := hid (push_send hi hq d)
 have hne : (q == (i : Int)) = false := by simpa using hq
 clear h hx hq
 have C0 := hid (Two.start 29 29 w (wC x p) #[.slice none 0 0, .slice none 0 0, .slice none 0 0, .slice none 0 0, .slice none 0 0, .int .i64 0, .int .i64 0, .int .i64 0, .slice none 0 0, .slice none 0 0, .slice none 0 0])
 obtain ⟨y, hy⟩ : ∃ y, y = pushW x i q d := ⟨_, rfl⟩
 have HY := hid hy
 rw [← hy]
 clear hy
 have hWC := @wC.eq_1
 go_enter Tryz.func49, Tryz.ntmps49
 go_wp2_with fail
 obtain ⟨n, hn⟩ : ∃ n, ((w.alloc (.cells (wC x p) 29)).alloc (.cells #[.slice none 0 0, .slice none 0 0, .slice none 0 0, .slice none 0 0, .slice none 0 0, .int .i64 0, .int .i64 0, .int .i64 0, .slice none 0 0, .slice none 0 0, .slice none 0 0] 29)).drew.heap.size = n := ⟨_, rfl⟩
 have HN := hid hn
 clear hn
 refine tkS (S := (fun w' => Below w.heap.size w w' ∧ w.heap.size < w'.heap.size ∧ (∀ i, w'.cell? ⟨w.heap.size, i, none⟩ = ((wC x p)[i]? : Option Value)) ∧ w.heap.size + 1 < w'.heap.size)) (by (with_reducible exact ⟨C0.out.drew.b, C0.out.drew.a.lt, C0.out.drew.a.cell, C0.out.drew.r.lt⟩)) (fun hHeld => ?_)
 refine tkl [0, 1, 2, 3, 4] ?_
 iterate 5
  refine tW ?_
  try go_frame
 refine rdy1 5 (fun K hK => ?_)
 go_simp
 refine (goer_any x p i q n _ HN.out).mono ?_; rintro e w1 ⟨rfl, hg, hb1⟩; have D1 := hid (C0.out.drew.call hb1); have HG := hid hg; have B1 := hid hb1; clear hb1 hg
 try go_wp2_with fail
 refine hK.out _ _ (by (with_reducible exact ⟨D1.out.b, D1.out.a.lt, D1.out.a.cell, D1.out.r.lt⟩)) (fun hHeld => ?_)
 clear hK K
 try go_frame
 refine rdy1 6 (fun K hK => ?_)
 go_simp
 refine (send_any x p d hd _ i q _ HX.out (H.out.below D1.out.b (Nat.le_refl _)) hi HG.out).mono ?_; rintro e w2 ⟨⟨qd, qa, qac, qk, qkc, qw, qwc⟩, rfl, wn, hb2⟩; rw [HS.out, ← HY.out] at wn ⊢; have D2 := hid (D1.out.call hb2)
 try go_wp2_with fail
 refine hK.out _ _ (by (with_reducible exact ⟨D2.out.b, D2.out.a.lt, D2.out.a.cell, D2.out.r.lt⟩)) (fun hHeld => ?_)
 clear hK K
 try go_frame
 have WN := hid wn
 have hc2 := D2.out.r.cell
 have hz2 := D2.out.r.frozen
 have hs2 := D2.out.r.lt
 clear wn hb2
 refine tkl [7, 8, 9] ?_
 iterate 3
  refine tW ?_
  try go_frame
 refine rdy1 10 (fun K hK => ?_)
 go_simp
 try go_wp2_with fail
 refine hK.out _ _ (by (refine two_S (t := 29) (s := 29) (w := w) ?_; (iterate 11 with_reducible refine TwoE.set2 ?_ _ _); with_reducible exact TwoE.mk D2.out)) (fun hHeld => ?_)
 clear hK K
 try go_frame
 refine tkl [11, 12] ?_
 iterate 2
  refine tW ?_
  try go_frame
 refine tkD ?_
 go_wp2_with fail
 refine bodyPost_ret (v := .tuple #[.agg (wC x ⟨qd, qa, qac, qk, qkc, qw, qwc⟩), .int .i64 y.2.1, .int .i64 y.2.2]) (by simp [results, Tryz.results49, go_sem, hc2]) rfl ⟨⟨qd, qa, qac, qk, qkc, qw, qwc⟩, rfl, ?_, ?_⟩
 ·refine Went.less (n := w1.heap.size) ?_ (by have := D1.out.r.lt; omega)
  iterate 11 refine Went.set (b := w.heap.size + 1) ?_ D1.out.r.lt _ _
  exact WN.out
 ·iterate 11 refine Below.setCell ?_ (by show w.heap.size ≤ w.heap.size + 1; omega) _
  exact D2.out.b
theorem push_any (x : Wd) (p : Wp) (i : Nat) (q : Int) (d : Nat) (hd : d < 4) (w : World) (hx : rightW x = true) (h : WorldAt w p x) (hi : i < x.at_.length) : Calls Tryz.prog 49 #[.agg (wC x p), .int .i64 (i : Int), .int .i64 q, .int .i64 (d : Int)] w fun e w' => ∃ q' : Wp, e = .returned (.tuple #[.agg (wC x q'), .int .i64 (pushW x i q d).2.1, .int .i64 (pushW x i q d).2.2]) ∧ Went w.heap.size w' p q' x (pushW x i q d) ∧ Below w.heap.size w w' := by
 by_cases hq : q = i
 ·subst hq
  rw [push_self hi]
  exact (push_same x p i d w).mono fun e w' ⟨h1, h2⟩ => ⟨_, h1, .inl ⟨by simp, rfl, rfl⟩, h2⟩
 ·exact push_other x p i q d hd hq w hx h hi
end
end Go.Proofs.YtgmkcddgkgcbbaaGreat
