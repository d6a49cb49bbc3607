/- The document's own May, of descriptions: the mathematics; lengths and caps that may not be. -/
import Derived.Test.YtgmkcddgkgcbbaaGreatGRight
import Derived.Test.YtgmkcddgkgcbbaaGreatGRefD
namespace Go.Proofs.YtgmkcddgkgcbbaaGreat
open Go.ChangeShapes Go.WideShapes Go.ChangeAt Go.RowKit
open Lib (hid)
set_option linter.unusedVariables false
set_option maxRecDepth 100000
section
theorem count_floors (xs : List Int) (k : Int) : (floorsL xs).count ⟨0, k⟩ = xs.count k := by
 induction xs with
 | nil => rfl
 | cons x r ih =>
   simp only [floorsL, List.map_cons, List.count_cons] at ih ⊢
   rw [ih]
   congr 1
   simp
/-- The lengths that a description may have. -/
def LensOk (d : Ds) : Prop := 1 ≤ d.exits.length ∧ d.exits.length ≤ 8 ∧ 1 ≤ d.players.length ∧ d.players.length ≤ 6 ∧ d.coins.length = d.players.length ∧ d.items.length ≤ 16 ∧ d.boxes.length = d.items.length
theorem lens_no {d : Ds} (h : ¬ LensOk d) : mayD d = false := by
 rw [Bool.eq_false_iff]; intro hm
 have := may_few hm
 exact h ⟨by omega, by omega, by omega, by omega, by omega, by omega, by omega⟩
theorem in_cap (n : Int) : inB n 65 = capB n := by
 unfold inB capB
 congr 1
 simp; omega
theorem may_split {d : Ds} (h : LensOk d) (hc : capsB [d.room, d.player, d.box] = true) : mayD d = (d.exits.all (exB d.exits.length) && ((ofB d.players d.exits.length && pursesB d.coins) && (ofB d.items d.exits.length && fitB d (floorsL d.items)))) := by
 obtain ⟨h1, h2, h3, h4, h5, h6, h7⟩ := h
 simp only [mayD, roomsB, mayPlB, playersB, mayItB, hc, h5, h7, decide_eq_true h1, decide_eq_true h2, decide_eq_true h3, decide_eq_true h4, decide_eq_true h6, Bool.true_and, decide_true]
theorem caps_no {d : Ds} (hc : capsB [d.room, d.player, d.box] = false) : mayD d = false := by simp [mayD, hc]
/-- No room has more items than it may. -/
def RoomK (d : Ds) (k : Nat) : Prop := ∀ i : Nat, i < k → ((d.items.count (i : Int) : Nat) : Int) ≤ d.room
theorem room_no {d : Ds} {k : Nat} (hr : 0 ≤ d.room) (h : ¬ ((d.items.count (k : Int) : Nat) : Int) ≤ d.room) : fitB d (floorsL d.items) = false := by
 have hm : (⟨0, (k : Int)⟩ : Pl) ∈ floorsL d.items := by
  have : 0 < (floorsL d.items).count ⟨0, k⟩ := by rw [count_floors]; omega
  exact List.count_pos_iff.1 this
 rw [Bool.eq_false_iff]; intro hf
 have := List.all_eq_true.1 hf _ hm
 rw [count_floors] at this
 simp [capOf] at this
 omega
theorem room_yes {d : Ds} (h : RoomK d d.exits.length) (ho : ofB d.items d.exits.length = true) : fitB d (floorsL d.items) = true := by
 simp only [fitB, List.all_eq_true, decide_eq_true_eq]
 intro p hp
 obtain ⟨n, hn, rfl⟩ := List.mem_map.1 hp
 obtain ⟨n0, n1⟩ := (ofB_iff _ _).1 ho n hn
 obtain ⟨m, rfl⟩ : ∃ m : Nat, n = m := ⟨n.toNat, by omega⟩
 rw [count_floors]
 have := h m (by omega)
 simpa [capOf] using this
theorem icnt_yes {xs : List Int} {k : Nat} {p : Int} (hk : k < xs.length) (h : xs[k] = p) : (xs.take (k + 1)).count p = (xs.take k).count p + 1 := by
 rw [List.take_succ_eq_append_getElem hk, List.count_append, h]; simp
theorem icnt_no {xs : List Int} {k : Nat} {p : Int} (hk : k < xs.length) (h : ¬ xs[k] = p) : (xs.take (k + 1)).count p = (xs.take k).count p := by
 rw [List.take_succ_eq_append_getElem hk, List.count_append, show [xs[k]].count p = 0 from List.count_eq_zero.2 (by simpa using fun e => h e.symm)]; rfl
theorem ex_cell (e : Ex) {j : Nat} (hj : j < 4) : (exC e)[j]? = some (.int .i64 (e.get j)) := by
 match j, hj with
 | 0, _ => rfl
 | 1, _ => rfl
 | 2, _ => rfl
 | 3, _ => rfl
theorem refmay_lens (d : Ds) (p : Dp) (w : World) (hn : ¬ LensOk d) : Calls Tryz.prog 34 #[.agg #[.slice p.ex d.exits.length p.exc, .slice p.pl d.players.length p.plc, .slice p.co d.coins.length p.coc, .slice p.it d.items.length p.itc, .slice p.bo d.boxes.length p.boc, .int .i64 d.room, .int .i64 d.player, .int .i64 d.box]] w fun e w' => e = .returned (.bool (mayD d)) ∧ Below w.heap.size w w' := by
 have HR := hid (lens_no hn)
 have HB := hid ((Below.refl w.heap.size w).alloc (Nat.le_refl _) (.cells #[.slice p.ex d.exits.length p.exc, .slice p.pl d.players.length p.plc, .slice p.co d.coins.length p.coc, .slice p.it d.items.length p.itc, .slice p.bo d.boxes.length p.boc, .int .i64 d.room, .int .i64 d.player, .int .i64 d.box] 26))
 by_cases e0 : d.exits.length < 1
 ·have q0 : ((d.exits.length : Int) < 1) := by omega
  clear hn e0
  go_enter Tryz.func34, Tryz.ntmps34
  go_wp2_with fail
  go_ret
  exact ⟨ret_bool HR.out.symm, HB.out⟩
 by_cases e1 : 8 < d.exits.length
 ·have q1 : ((8 : Int) < d.exits.length) := by omega
  have q0 : ¬ ((d.exits.length : Int) < 1) := by omega
  clear hn e0 e1
  go_enter Tryz.func34, Tryz.ntmps34
  go_wp2_with fail
  go_ret
  exact ⟨ret_bool HR.out.symm, HB.out⟩
 by_cases e2 : d.players.length < 1
 ·have q2 : ((d.players.length : Int) < 1) := by omega
  have q0 : ¬ ((d.exits.length : Int) < 1) := by omega
  have q1 : ¬ ((8 : Int) < d.exits.length) := by omega
  clear hn e0 e1 e2
  go_enter Tryz.func34, Tryz.ntmps34
  go_wp2_with fail
  go_ret
  exact ⟨ret_bool HR.out.symm, HB.out⟩
 by_cases e3 : 6 < d.players.length
 ·have q3 : ((6 : Int) < d.players.length) := by omega
  have q0 : ¬ ((d.exits.length : Int) < 1) := by omega
  have q1 : ¬ ((8 : Int) < d.exits.length) := by omega
  have q2 : ¬ ((d.players.length : Int) < 1) := by omega
  clear hn e0 e1 e2 e3
  go_enter Tryz.func34, Tryz.ntmps34
  go_wp2_with fail
  go_ret
  exact ⟨ret_bool HR.out.symm, HB.out⟩
 by_cases e4 : ¬ d.coins.length = d.players.length
 ·have q4 : ((d.coins.length : Int) != (d.players.length : Int)) = true := by simp; omega
  have q0 : ¬ ((d.exits.length : Int) < 1) := by omega
  have q1 : ¬ ((8 : Int) < d.exits.length) := by omega
  have q2 : ¬ ((d.players.length : Int) < 1) := by omega
  have q3 : ¬ ((6 : Int) < d.players.length) := by omega
  clear hn e0 e1 e2 e3 e4
  go_enter Tryz.func34, Tryz.ntmps34
  go_wp2_with fail
  go_ret
  exact ⟨ret_bool HR.out.symm, HB.out⟩
 by_cases e5 : 16 < d.items.length
 ·have q5 : ((16 : Int) < d.items.length) := by omega
  have q0 : ¬ ((d.exits.length : Int) < 1) := by omega
  have q1 : ¬ ((8 : Int) < d.exits.length) := by omega
  have q2 : ¬ ((d.players.length : Int) < 1) := by omega
  have q3 : ¬ ((6 : Int) < d.players.length) := by omega
  have q4 : ((d.coins.length : Int) != (d.players.length : Int)) = false := by simp; omega
  clear hn e0 e1 e2 e3 e4 e5
  go_enter Tryz.func34, Tryz.ntmps34
  go_wp2_with fail
  go_ret
  exact ⟨ret_bool HR.out.symm, HB.out⟩
 by_cases e6 : ¬ d.boxes.length = d.items.length
 ·have q6 : ((d.boxes.length : Int) != (d.items.length : Int)) = true := by simp; omega
  have q0 : ¬ ((d.exits.length : Int) < 1) := by omega
  have q1 : ¬ ((8 : Int) < d.exits.length) := by omega
  have q2 : ¬ ((d.players.length : Int) < 1) := by omega
  have q3 : ¬ ((6 : Int) < d.players.length) := by omega
  have q4 : ((d.coins.length : Int) != (d.players.length : Int)) = false := by simp; omega
  have q5 : ¬ ((16 : Int) < d.items.length) := by omega
  clear hn e0 e1 e2 e3 e4 e5 e6
  go_enter Tryz.func34, Tryz.ntmps34
  go_wp2_with fail
  go_ret
  exact ⟨ret_bool HR.out.symm, HB.out⟩
 exact absurd ⟨by omega, by omega, by omega, by omega, by omega, by omega, by omega⟩ hn
theorem refmay_caps (d : Ds) (p : Dp) (w : World) (hn : LensOk d) (hc : capsB [d.room, d.player, d.box] = false) : Calls Tryz.prog 34 #[.agg #[.slice p.ex d.exits.length p.exc, .slice p.pl d.players.length p.plc, .slice p.co d.coins.length p.coc, .slice p.it d.items.length p.itc, .slice p.bo d.boxes.length p.boc, .int .i64 d.room, .int .i64 d.player, .int .i64 d.box]] w fun e w' => e = .returned (.bool (mayD d)) ∧ Below w.heap.size w w' := by
 have HR := hid (caps_no hc)
 have HB := hid ((Below.refl w.heap.size w).alloc (Nat.le_refl _) (.cells #[.slice p.ex d.exits.length p.exc, .slice p.pl d.players.length p.plc, .slice p.co d.coins.length p.coc, .slice p.it d.items.length p.itc, .slice p.bo d.boxes.length p.boc, .int .i64 d.room, .int .i64 d.player, .int .i64 d.box] 26))
 obtain ⟨h1, h2, h3, h4, h5, h6, h7⟩ := hn
 have q0 : ¬ ((d.exits.length : Int) < 1) := by omega
 have q1 : ¬ ((8 : Int) < d.exits.length) := by omega
 have q2 : ¬ ((d.players.length : Int) < 1) := by omega
 have q3 : ¬ ((6 : Int) < d.players.length) := by omega
 have q4 : ((d.coins.length : Int) != (d.players.length : Int)) = false := by simp; omega
 have q5 : ¬ ((16 : Int) < d.items.length) := by omega
 have q6 : ((d.boxes.length : Int) != (d.items.length : Int)) = false := by simp; omega
 clear h1 h2 h3 h4 h5 h6 h7
 simp only [capsB, List.all_cons, List.all_nil, Bool.and_true] at hc
 cases x1 : capB d.room
 ·have X1 := hid ((in_cap d.room).trans x1)
  clear x1 hc
  go_enter Tryz.func34, Tryz.ntmps34
  go_wp2_with fail
  refine (refin_any _ _ _).mono ?_
  rintro e w' ⟨rfl, rfl⟩
  rw [X1.out]
  go_wp2_with fail
  go_ret
  exact ⟨ret_bool HR.out.symm, HB.out⟩
 cases x2 : capB d.player
 ·have X1 := hid ((in_cap d.room).trans x1)
  have X2 := hid ((in_cap d.player).trans x2)
  clear x1 x2 hc
  go_enter Tryz.func34, Tryz.ntmps34
  go_wp2_with fail
  refine (refin_any _ _ _).mono ?_
  rintro e w' ⟨rfl, rfl⟩
  rw [X1.out]
  go_wp2_with fail
  refine (refin_any _ _ _).mono ?_
  rintro e w' ⟨rfl, rfl⟩
  rw [X2.out]
  go_wp2_with fail
  go_ret
  exact ⟨ret_bool HR.out.symm, HB.out⟩
 cases x3 : capB d.box
 ·have X1 := hid ((in_cap d.room).trans x1)
  have X2 := hid ((in_cap d.player).trans x2)
  have X3 := hid ((in_cap d.box).trans x3)
  clear x1 x2 x3 hc
  go_enter Tryz.func34, Tryz.ntmps34
  go_wp2_with fail
  refine (refin_any _ _ _).mono ?_
  rintro e w' ⟨rfl, rfl⟩
  rw [X1.out]
  go_wp2_with fail
  refine (refin_any _ _ _).mono ?_
  rintro e w' ⟨rfl, rfl⟩
  rw [X2.out]
  go_wp2_with fail
  refine (refin_any _ _ _).mono ?_
  rintro e w' ⟨rfl, rfl⟩
  rw [X3.out]
  go_wp2_with fail
  go_ret
  exact ⟨ret_bool HR.out.symm, HB.out⟩
 rw [x1, x2, x3] at hc
 cases hc
end
section
set_option maxHeartbeats 1000000 in
theorem refmay_go (d : Ds) (px pp pc pi pb : Option Addr) (pxc ppc pcc pic pbc : Nat) (w : World) (h : DescAt w ⟨px, pxc, pp, ppc, pc, pcc, pi, pic, pb, pbc⟩ d) (hn : LensOk d) (hc : capsB [d.room, d.player, d.box] = true) : Calls Tryz.prog 34 #[.agg #[.slice px d.exits.length pxc, .slice pp d.players.length ppc, .slice pc d.coins.length pcc, .slice pi d.items.length pic, .slice pb d.boxes.length pbc, .int .i64 d.room, .int .i64 d.player, .int .i64 d.box]] w fun e w' => e = .returned (.bool (mayD d)) ∧ Below w.heap.size w w' := by
 have HR := hid (may_split hn hc)
 have HB := hid ((Below.refl w.heap.size w).alloc (Nat.le_refl _) (.cells #[.slice px d.exits.length pxc, .slice pp d.players.length ppc, .slice pc d.coins.length pcc, .slice pi d.items.length pic, .slice pb d.boxes.length pbc, .int .i64 d.room, .int .i64 d.player, .int .i64 d.box] 26))
 have HW := hid (h.below HB.out (Nat.le_refl _))
 have HWx := hid (show ExsAt _ px d.exits from HW.out.ex)
 have HWp := hid (show IntsAt _ pp d.players from HW.out.pl)
 have HWc := hid (show IntsAt _ pc d.coins from HW.out.co)
 have HWi := hid (show IntsAt _ pi d.items from HW.out.it)
 clear HW h
 have HC := hid (Holds.new w #[.slice px d.exits.length pxc, .slice pp d.players.length ppc, .slice pc d.coins.length pcc, .slice pi d.items.length pic, .slice pb d.boxes.length pbc, .int .i64 d.room, .int .i64 d.player, .int .i64 d.box] 26).2.2
 obtain ⟨h1, h2, h3, h4, h5, h6, h7⟩ := hn
 have q0 : ¬ ((d.exits.length : Int) < 1) := by omega
 have q1 : ¬ ((8 : Int) < d.exits.length) := by omega
 have q2 : ¬ ((d.players.length : Int) < 1) := by omega
 have q3 : ¬ ((6 : Int) < d.players.length) := by omega
 have q4 : ((d.coins.length : Int) != (d.players.length : Int)) = false := by simp; omega
 have q5 : ¬ ((16 : Int) < d.items.length) := by omega
 have q6 : ((d.boxes.length : Int) != (d.items.length : Int)) = false := by simp; omega
 have L0 := hid h5
 have li : d.items.length ≤ 16 := h6
 have lp : d.players.length ≤ 6 := h4
 have le : d.exits.length ≤ 8 := h2
 clear h1 h2 h3 h4 h5 h6 h7
 simp only [capsB, List.all_cons, List.all_nil, Bool.and_true, Bool.and_eq_true] at hc
 obtain ⟨x1, x2, x3⟩ := hc
 have hr0 : 0 ≤ d.room := by simp [capB] at x1; exact x1.1
 have X1 := hid ((in_cap d.room).trans x1)
 have X2 := hid ((in_cap d.player).trans x2)
 have X3 := hid ((in_cap d.box).trans x3)
 clear x1 x2 x3
 go_enter Tryz.func34, Tryz.ntmps34
 go_wp2_with fail
 refine (refin_any _ _ _).mono ?_
 rintro e w' ⟨rfl, rfl⟩
 rw [X1.out]
 go_wp2_with fail
 refine (refin_any _ _ _).mono ?_
 rintro e w' ⟨rfl, rfl⟩
 rw [X2.out]
 go_wp2_with fail
 refine (refin_any _ _ _).mono ?_
 rintro e w' ⟨rfl, rfl⟩
 rw [X3.out]
 go_wp2_with fail
 have HL := hid (show w.heap.size < (w.alloc (.cells #[.slice px d.exits.length pxc, .slice pp d.players.length ppc, .slice pc d.coins.length pcc, .slice pi d.items.length pic, .slice pb d.boxes.length pbc, .int .i64 d.room, .int .i64 d.player, .int .i64 d.box] 26)).heap.size by simp)
 generalize w.alloc (.cells #[.slice px d.exits.length pxc, .slice pp d.players.length ppc, .slice pc d.coins.length pcc, .slice pi d.items.length pic, .slice pb d.boxes.length pbc, .int .i64 d.room, .int .i64 d.player, .int .i64 d.box] 26) = W0 at *
 clear X1 X2 X3 q0 q1 q2 q3 q4 q5 q6
 go_loopw [4] (fun i wr => ∃ k : Nat, k ≤ d.exits.length ∧ i = .int .i64 k ∧ (d.exits.take k).all (exB d.exits.length) = true ∧ RoomK d k ∧ W0 = wr) (fun i _ => d.exits.length - (intOf i).toNat)
 case atStart => exact ⟨0, Nat.zero_le _, rfl, rfl, fun i hi => absurd hi (by omega), rfl⟩
 case round =>
  obtain ⟨k, hk, rfl, htk, hroom, rfl⟩ := hrel
  have HT := hid htk
  have HRm := hid hroom
  clear htk hroom
  have hcl := HC.out
  by_cases hlt : k < d.exits.length
  ·obtain ⟨b, o, rfl, hb, hcs⟩ := RowAt.at_ HWx.out hlt
   have HF := hid (all_take_succ (exB d.exits.length) hlt HT.out)
   have HN := hid (all_not (exB d.exits.length) hlt)
   have HCS := hid (fun j (hj : j < 4) => (hcs k hlt j hj).trans (ex_cell _ hj))
   clear hcs
   generalize d.exits[k] = x at *
   go_wp2_with fail
   go_loopw [5] (fun i wr => ∃ j : Nat, j ≤ 4 ∧ i = .int .i64 j ∧ (∀ q, q < j → toB d.exits.length (x.get q) = true) ∧ W0 = wr) (fun i _ => 4 - (intOf i).toNat)
   case atStart => exact ⟨0, by omega, rfl, fun q hq => absurd hq (by omega), rfl⟩
   case round =>
    obtain ⟨j, hj, rfl, hq, rfl⟩ := hrel
    have HQ := hid hq
    clear hq
    by_cases hj4 : j < 4
    ·have HX : Hid (toB d.exits.length (x.get j) = false → exB d.exits.length x = false) := hid (fun h => exB_not hj4 h)
     have HS : Hid (toB d.exits.length (x.get j) = true → ∀ q, q < j + 1 → toB d.exits.length (x.get q) = true) := hid (fun h q hq => by
      by_cases e : q = j
      ·subst e; exact h
      ·exact HQ.out q (by omega))
     have hcell := HCS.out j hj4
     generalize x.get j = t at *
     cases hx : toB d.exits.length t
     ·have HX2 := hid (HN.out (HX.out hx))
      obtain ⟨hne, hin⟩ := toB_no hx
      have HI := hid hin
      have hne' : (t != -1) = true := by simpa using hne
      clear hx hin HX HS HF HN HQ hne
      go_wp2_with fail
      refine (refin_any _ _ _).mono ?_
      rintro e w' ⟨rfl, rfl⟩
      rw [HI.out]
      go_wp2_with fail
      go_ret
      exact ⟨ret_bool (by rw [HR.out, HX2.out]; rfl), HB.out⟩
     ·have HX2 := hid (HS.out hx)
      rcases toB_split hx with ht | ⟨hne, hin⟩
      ·subst ht
       clear hx HX HS HF HN HQ
       go_wp2_with fail
       go_roundw
       case rel => exact ⟨j + 1, by omega, by go_num, HX2.out, by trivial⟩
       case measure => simp [intOf]; omega
      ·have HI := hid hin
       have hne' : (t != -1) = true := by simpa using hne
       clear hx hin HX HS HF HN HQ hne
       go_wp2_with fail
       refine (refin_any _ _ _).mono ?_
       rintro e w' ⟨rfl, rfl⟩
       rw [HI.out]
       go_wp2_with fail
       go_roundw
       case rel => exact ⟨j + 1, by omega, by go_num, HX2.out, by trivial⟩
       case measure => simp [intOf]; omega
    ·obtain rfl : j = 4 := by omega
     have HX := hid (HF.out ((exB_get _ _).2 HQ.out))
     clear HF HN HQ
     go_wp2_with fail
     go_loopw [6, 7] (fun n i wr => ∃ m : Nat, m ≤ d.items.length ∧ i = .int .i64 m ∧ n = .int .i64 ((d.items.take m).count (k : Int) : Nat) ∧ W0 = wr) (fun _ i _ => d.items.length - (intOf i).toNat)
     case atStart => exact ⟨0, Nat.zero_le _, rfl, rfl, rfl⟩
     case round =>
      obtain ⟨m, hm, rfl, rfl, rfl⟩ := hrel
      have hcn := List.count_le_length (a := (k : Int)) (l := d.items.take m)
      rw [List.length_take] at hcn
      by_cases hlm : m < d.items.length
      ·obtain ⟨b2, o2, rfl, hb2, hcs2⟩ := HWi.out.at_ hlm
       have hi1 := hcs2 m hlm
       clear hcs2
       have HY := hid (icnt_yes (p := (k : Int)) hlm)
       have HNN := hid (icnt_no (p := (k : Int)) hlm)
       generalize d.items[m] = z at *
       by_cases he : z = (k : Int)
       ·have HX3 := hid (HY.out he)
        have he2 : (z == (k : Int)) = true := by simpa using he
        clear he HY HNN
        have hw : IntKind.i64.wrap ((((d.items.take m).count (k : Int) : Nat) : Int) + 1) = (((d.items.take m).count (k : Int) : Nat) : Int) + 1 := IntWalk.i64_in _ (by omega)
        generalize (d.items.take m).count (k : Int) = cc at *
        go_wp2_with fail
        go_roundw
        case rel => exact ⟨m + 1, by omega, by go_num, by rw [HX3.out]; go_num, by trivial⟩
        case measure => simp [intOf]; omega
       ·have HX3 := hid (HNN.out he)
        have he2 : (z == (k : Int)) = false := by simpa using he
        clear he HY HNN
        generalize (d.items.take m).count (k : Int) = cc at *
        go_wp2_with fail
        go_roundw
        case rel => exact ⟨m + 1, by omega, by go_num, by rw [HX3.out], by trivial⟩
        case measure => simp [intOf]; omega
      ·have hme : m = d.items.length := by omega
       subst hme
       rw [List.take_length] at hcn ⊢
       have HY : Hid (((d.items.count (k : Int) : Nat) : Int) ≤ d.room → RoomK d (k + 1)) := hid (fun hle i hi => by
        by_cases e : i = k
        ·subst e; exact hle
        ·exact HRm.out i (by omega))
       have HNN : Hid (¬ ((d.items.count (k : Int) : Nat) : Int) ≤ d.room → fitB d (floorsL d.items) = false) := hid (room_no hr0)
       generalize d.items.count (k : Int) = cc at *
       by_cases hgt : d.room < (cc : Int)
       ·have HX3 := hid (HNN.out (by omega))
        go_wp2_with fail
        go_ret
        exact ⟨ret_bool (by rw [HR.out, HX3.out]; simp), HB.out⟩
       ·have HX3 := hid (HY.out (by omega))
        go_wp2_with fail
        go_roundw
        case rel => exact ⟨k + 1, by omega, by go_num, HX.out, HX3.out, by trivial⟩
        case measure => simp [intOf]; omega
  ·have hke : k = d.exits.length := by omega
   subst hke
   have HE := hid (all_whole _ HT.out)
   clear HT
   go_wp2_with fail
   go_loopw [8] (fun i wr => ∃ j : Nat, j ≤ d.players.length ∧ i = .int .i64 j ∧ (d.players.take j).all (fun n => inB n d.exits.length) = true ∧ (d.coins.take j).all isB = true ∧ W0 = wr) (fun i _ => d.players.length - (intOf i).toNat)
   case atStart => exact ⟨0, Nat.zero_le _, rfl, rfl, rfl, rfl⟩
   case round =>
    obtain ⟨j, hj, rfl, ht1, ht2, rfl⟩ := hrel
    have T1 := hid ht1
    have T2 := hid ht2
    clear ht1 ht2
    by_cases hlj : j < d.players.length
    ·have hlc : j < d.coins.length := by have := L0.out; omega
     obtain ⟨b, o, rfl, hb, hcs⟩ := HWp.out.at_ hlj
     have hi1 := hcs j hlj
     obtain ⟨b2, o2, rfl, hb2, hcs2⟩ := HWc.out.at_ hlc
     have hi2 := hcs2 j hlc
     clear hcs hcs2
     have F1 := hid (all_take_succ (fun n => inB n d.exits.length) hlj T1.out)
     have F2 := hid (all_take_succ isB hlc T2.out)
     have N1 := hid (all_not (fun n => inB n d.exits.length) hlj)
     have N2 := hid (all_not isB hlc)
     generalize d.players[j] = x at *
     generalize d.coins[j] = y at *
     cases hx : inB x d.exits.length
     ·have HX := hid hx
      have HX2 := hid (show ofB d.players d.exits.length = false from N1.out hx)
      clear hx F1 F2 N1 N2
      go_wp2_with fail
      refine (refin_any _ _ _).mono ?_
      rintro e w' ⟨rfl, rfl⟩
      rw [HX.out]
      go_wp2_with fail
      go_ret
      exact ⟨ret_bool (by rw [HR.out, HX2.out]; simp), HB.out⟩
     cases hy : isB y
     ·have HX := hid hx
      have HY := hid hy
      have HX2 := hid (show pursesB d.coins = false from N2.out hy)
      clear hx hy F1 F2 N1 N2
      go_wp2_with fail
      refine (refin_any _ _ _).mono ?_
      rintro e w' ⟨rfl, rfl⟩
      rw [HX.out]
      go_wp2_with fail
      refine (refis_any _ _).mono ?_
      rintro e w' ⟨rfl, rfl⟩
      rw [HY.out]
      go_wp2_with fail
      go_ret
      exact ⟨ret_bool (by rw [HR.out, HX2.out]; simp), HB.out⟩
     ·have HX := hid hx
      have HY := hid hy
      have G1 := hid (F1.out hx)
      have G2 := hid (F2.out hy)
      clear hx hy F1 F2 N1 N2
      go_wp2_with fail
      refine (refin_any _ _ _).mono ?_
      rintro e w' ⟨rfl, rfl⟩
      rw [HX.out]
      go_wp2_with fail
      refine (refis_any _ _).mono ?_
      rintro e w' ⟨rfl, rfl⟩
      rw [HY.out]
      go_wp2_with fail
      go_roundw
      case rel => exact ⟨j + 1, by omega, by go_num, G1.out, G2.out, by trivial⟩
      case measure => simp [intOf]; omega
    ·have hje : j = d.players.length := by omega
     subst hje
     have A1 := hid (show ofB d.players d.exits.length = true from all_whole _ T1.out)
     have A2 := hid (show pursesB d.coins = true from all_whole _ (by have := T2.out; rwa [← L0.out] at this))
     clear T1 T2
     go_wp2_with fail
     go_loopw [9] (fun i wr => ∃ j : Nat, j ≤ d.items.length ∧ i = .int .i64 j ∧ (d.items.take j).all (fun n => inB n d.exits.length) = true ∧ W0 = wr) (fun i _ => d.items.length - (intOf i).toNat)
     case atStart => exact ⟨0, Nat.zero_le _, rfl, rfl, rfl⟩
     case round =>
      obtain ⟨j, hj2, rfl, ht1, rfl⟩ := hrel
      have T1 := hid ht1
      clear ht1
      by_cases hlj2 : j < d.items.length
      ·obtain ⟨b, o, rfl, hb, hcs⟩ := HWi.out.at_ hlj2
       have hi1 := hcs j hlj2
       clear hcs
       have F1 := hid (all_take_succ (fun n => inB n d.exits.length) hlj2 T1.out)
       have N1 := hid (all_not (fun n => inB n d.exits.length) hlj2)
       generalize d.items[j] = x at *
       cases hx : inB x d.exits.length
       ·have HX := hid hx
        have HX2 := hid (show ofB d.items d.exits.length = false from N1.out hx)
        clear hx F1 N1
        go_wp2_with fail
        refine (refin_any _ _ _).mono ?_
        rintro e w' ⟨rfl, rfl⟩
        rw [HX.out]
        go_wp2_with fail
        go_ret
        exact ⟨ret_bool (by rw [HR.out, HX2.out]; simp), HB.out⟩
       ·have HX := hid hx
        have G1 := hid (F1.out hx)
        clear hx F1 N1
        go_wp2_with fail
        refine (refin_any _ _ _).mono ?_
        rintro e w' ⟨rfl, rfl⟩
        rw [HX.out]
        go_wp2_with fail
        go_roundw
        case rel => exact ⟨j + 1, by omega, by go_num, G1.out, by trivial⟩
        case measure => simp [intOf]; omega
      ·have hje2 : j = d.items.length := by omega
       subst hje2
       have A3 := hid (show ofB d.items d.exits.length = true from all_whole _ T1.out)
       have A4 := hid (room_yes HRm.out A3.out)
       clear T1
       go_wp2_with fail
       go_ret
       exact ⟨ret_bool (by rw [HR.out, HE.out, A1.out, A2.out, A3.out, A4.out]; rfl), HB.out⟩
theorem refmay_any (d : Ds) (p : Dp) (w : World) (h : DescAt w p d) : Calls Tryz.prog 34 #[.agg #[.slice p.ex d.exits.length p.exc, .slice p.pl d.players.length p.plc, .slice p.co d.coins.length p.coc, .slice p.it d.items.length p.itc, .slice p.bo d.boxes.length p.boc, .int .i64 d.room, .int .i64 d.player, .int .i64 d.box]] w fun e w' => e = .returned (.bool (mayD d)) ∧ Below w.heap.size w w' := by
 by_cases hn : LensOk d
 ·cases hc : capsB [d.room, d.player, d.box]
  ·exact refmay_caps d p w hn hc
  ·exact refmay_go d p.ex p.pl p.co p.it p.bo p.exc p.plc p.coc p.itc p.boc w h hn hc
 ·exact refmay_lens d p w hn
end
section
/-- The lengths that a world may have. -/
def WLens (x : Wd) : Prop := x.at_.length = x.d.players.length ∧ x.coins.length = x.d.players.length ∧ x.wher.length = x.d.items.length
theorem right_no {x : Wd} (h : ¬ (mayD x.d = true ∧ WLens x)) : rightW x = false := by
 rw [Bool.eq_false_iff]; intro hr
 simp only [rightW, playersB, placesB, Bool.and_eq_true, decide_eq_true_eq] at hr
 exact h ⟨hr.1, by omega, by omega, by omega⟩
theorem right_split {x : Wd} (hm : mayD x.d = true) (h : WLens x) : rightW x = ((ofB x.at_ x.d.exits.length && pursesB x.coins) && (x.wher.all (placeB x.d) && (nestB x.wher && fitB x.d x.wher))) := by
 obtain ⟨h1, h2, h3⟩ := h
 simp [rightW, playersB, placesB, hm, h1, h2, h3]
theorem refright_lens (x : Wd) (p : Wp) (w : World) (h : WorldAt w p x) (hn : ¬ (mayD x.d = true ∧ WLens x)) : Calls Tryz.prog 12 #[.agg (wC x p)] w fun e w' => e = .returned (.bool (rightW x)) ∧ Below w.heap.size w w' := by
 have HR := hid (right_no hn)
 have H := hid h
 have HP := hid (Holds.pair w (wC x p) #[.slice p.d.ex x.d.exits.length p.d.exc, .slice p.d.pl x.d.players.length p.d.plc, .slice p.d.co x.d.coins.length p.d.coc, .slice p.d.it x.d.items.length p.d.itc, .slice p.d.bo x.d.boxes.length p.d.boc, .int .i64 x.d.room, .int .i64 x.d.player, .int .i64 x.d.box] 29 26)
 clear h
 cases hx : mayD x.d
 ·have HX := hid hx
  clear hx hn
  have hWC := @wC.eq_1
  go_enter Tryz.func12, Tryz.ntmps12
  go_wp2_with fail
  refine (refmay_any x.d p.d _ (H.out.below HP.out.1.1 (Nat.le_refl _)).d).mono ?_
  rintro e w1 ⟨rfl, b1⟩
  rw [HX.out]
  have HQ := hid (Holds.call2 HP.out b1)
  clear b1
  go_wp2_with fail
  go_ret
  exact ⟨ret_bool HR.out.symm, HQ.out.1.1⟩
 have HX := hid hx
 by_cases e1 : x.at_.length = x.d.players.length
 rotate_left
 ·have q1 : ((x.at_.length : Int) != (x.d.players.length : Int)) = true := by simp; omega
  clear hx hn e1
  have hWC := @wC.eq_1
  go_enter Tryz.func12, Tryz.ntmps12
  go_wp2_with fail
  refine (refmay_any x.d p.d _ (H.out.below HP.out.1.1 (Nat.le_refl _)).d).mono ?_
  rintro e w1 ⟨rfl, b1⟩
  rw [HX.out]
  have HQ := hid (Holds.call2 HP.out b1)
  clear b1
  have hcA := HQ.out.1.2.2
  have hcB := HQ.out.2.2.2
  go_wp2_with fail
  go_ret
  exact ⟨ret_bool HR.out.symm, HQ.out.1.1⟩
 by_cases e2 : x.coins.length = x.d.players.length
 rotate_left
 ·have q1 : ((x.at_.length : Int) != (x.d.players.length : Int)) = false := by simp; omega
  have q2 : ((x.coins.length : Int) != (x.d.players.length : Int)) = true := by simp; omega
  clear hx hn e1 e2
  have hWC := @wC.eq_1
  go_enter Tryz.func12, Tryz.ntmps12
  go_wp2_with fail
  refine (refmay_any x.d p.d _ (H.out.below HP.out.1.1 (Nat.le_refl _)).d).mono ?_
  rintro e w1 ⟨rfl, b1⟩
  rw [HX.out]
  have HQ := hid (Holds.call2 HP.out b1)
  clear b1
  have hcA := HQ.out.1.2.2
  have hcB := HQ.out.2.2.2
  go_wp2_with fail
  go_ret
  exact ⟨ret_bool HR.out.symm, HQ.out.1.1⟩
 by_cases e3 : x.wher.length = x.d.items.length
 ·exact absurd ⟨hx, e1, e2, e3⟩ hn
 ·have q1 : ((x.at_.length : Int) != (x.d.players.length : Int)) = false := by simp; omega
  have q2 : ((x.coins.length : Int) != (x.d.players.length : Int)) = false := by simp; omega
  have q3 : ((x.wher.length : Int) != (x.d.items.length : Int)) = true := by simp; omega
  clear hx hn e1 e2 e3
  have hWC := @wC.eq_1
  go_enter Tryz.func12, Tryz.ntmps12
  go_wp2_with fail
  refine (refmay_any x.d p.d _ (H.out.below HP.out.1.1 (Nat.le_refl _)).d).mono ?_
  rintro e w1 ⟨rfl, b1⟩
  rw [HX.out]
  have HQ := hid (Holds.call2 HP.out b1)
  clear b1
  have hcA := HQ.out.1.2.2
  have hcB := HQ.out.2.2.2
  go_wp2_with fail
  go_ret
  exact ⟨ret_bool HR.out.symm, HQ.out.1.1⟩
end
end Go.Proofs.YtgmkcddgkgcbbaaGreat
