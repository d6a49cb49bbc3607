/- reply: numbers, kinds of places, players and items within their limits; the document's own fit, Few. -/
import Derived.Test.YtgmkcddgkgcbbaaGreatGCmdC
namespace Go.Proofs.YtgmkcddgkgcbbaaGreat
open Go.ChangeShapes Go.WideShapes Go.ChangeAt Go.RowKit
open Lib (hid)
set_option linter.unusedVariables false
set_option maxRecDepth 100000
section
theorem reffit_any (n : Int) (w : World) : Calls Tryz.prog 40 #[.int .i64 n] w fun e w' => e = .returned (.bool (okN n)) ∧ w = w' := by
 unfold okN
 by_cases h1 : 0 ≤ n <;> by_cases h2 : n ≤ 1073741824
 all_goals
  go_enter Tryz.func40, Tryz.ntmps40
  go_wp2_with fail
  go_ret
  exact ⟨by simp [*], rfl⟩
theorem ints_pair (x y : Int) (w : World) : IntsAt (w.alloc (.cells #[.int .i64 x, .int .i64 y] 3)) (some ⟨w.heap.size, 0, none⟩) [x, y] := by
 refine ⟨by simp [maxLen], .inr ⟨w.heap.size, 0, rfl, by simp, fun i hi => ?_⟩⟩
 rw [World.cell?_alloc_at _ _ _ _ rfl]
 match i, hi with
 | 0, _ => rfl
 | 1, _ => rfl
theorem snall_snoc {xs : List Sn} {k : Nat} (h : k < xs.length) (ha : (xs.take k).all snB = true) (hk : snB xs[k] = true) : (xs.take (k + 1)).all snB = true := by
 rw [List.take_succ_eq_append_getElem h, List.all_append, ha, Bool.true_and]
 simpa using hk
theorem snall_no {xs : List Sn} {k : Nat} (h : k < xs.length) (hk : snB xs[k] = false) : xs.all snB = false := by
 rw [Bool.eq_false_iff]; intro h2
 have := List.all_eq_true.1 h2 xs[k] (List.getElem_mem h)
 rw [hk] at this; cases this
theorem snall_all {xs : List Sn} (h : (xs.take xs.length).all snB = true) : xs.all snB = true := by
 rwa [List.take_of_length_le (Nat.le_refl _)] at h
end
section
theorem rbcell {W w1 : World} (hb : Below W.heap.size W w1) : ∀ b o, b < W.heap.size → w1.cell? ⟨b, o, none⟩ = W.cell? ⟨b, o, none⟩ := fun b o h => hb.cell (p := ⟨b, o, none⟩) h
theorem rrefsame_no (a1 a2 a3 a6 b1 b2 b3 b6 : Int) (ap bp : List Int) (ai bi : List Sn) (pa ia pb ib : Option Addr) (pc ic pcb icb : Nat) (w : World) (hn : ¬ (a1 = b1 ∧ a2 = b2 ∧ a3 = b3 ∧ a6 = b6)) :
 Calls Tryz.prog 11 #[.agg #[.int .i64 a1, .int .i64 a2, .int .i64 a3, .slice pa ap.length pc, .slice ia ai.length ic, .int .i64 a6], .agg #[.int .i64 b1, .int .i64 b2, .int .i64 b3, .slice pb bp.length pcb, .slice ib bi.length icb, .int .i64 b6]] w fun e w' => e = .returned (.bool false) ∧ Below w.heap.size w w' := by
 by_cases e1 : a1 = b1
 case neg =>
  have hd : (a1 == b1) = false := by rw [beq_eq_false_iff_ne]; exact e1
  clear hn e1
  go_enter Tryz.func11, Tryz.ntmps11
  go_wp2_with fail
  go_ret
  exact ⟨rfl, ((Below.refl _ _).alloc (Nat.le_refl _) _).alloc (by simp) _⟩
 subst e1
 by_cases e2 : a2 = b2
 case neg =>
  have hd : (a2 == b2) = false := by rw [beq_eq_false_iff_ne]; exact e2
  clear hn e2
  go_enter Tryz.func11, Tryz.ntmps11
  go_wp2_with fail
  go_ret
  exact ⟨rfl, ((Below.refl _ _).alloc (Nat.le_refl _) _).alloc (by simp) _⟩
 subst e2
 by_cases e3 : a3 = b3
 case neg =>
  have hd : (a3 == b3) = false := by rw [beq_eq_false_iff_ne]; exact e3
  clear hn e3
  go_enter Tryz.func11, Tryz.ntmps11
  go_wp2_with fail
  go_ret
  exact ⟨rfl, ((Below.refl _ _).alloc (Nat.le_refl _) _).alloc (by simp) _⟩
 subst e3
 by_cases e6 : a6 = b6
 case neg =>
  have hd : (a6 == b6) = false := by rw [beq_eq_false_iff_ne]; exact e6
  clear hn e6
  go_enter Tryz.func11, Tryz.ntmps11
  go_wp2_with fail
  go_ret
  exact ⟨rfl, ((Below.refl _ _).alloc (Nat.le_refl _) _).alloc (by simp) _⟩
 subst e6
 exact absurd ⟨rfl, rfl, rfl, rfl⟩ hn
theorem rrefsame_yes (v : Bool) (a1 a2 a3 a6 : Int) (ap bp : List Int) (ai bi : List Sn) (pa ia pb ib : Option Addr) (pc ic pcb icb : Nat) (w : World) (hg : decide (ap = bp) = v) (h1 : IntsAt w pa ap) (h2 : SnsAt w ia ai) (h3 : IntsAt w pb bp) (h4 : SnsAt w ib bi) :
 Calls Tryz.prog 11 #[.agg #[.int .i64 a1, .int .i64 a2, .int .i64 a3, .slice pa ap.length pc, .slice ia ai.length ic, .int .i64 a6], .agg #[.int .i64 a1, .int .i64 a2, .int .i64 a3, .slice pb bp.length pcb, .slice ib bi.length icb, .int .i64 a6]] w fun e w' => e = .returned (.bool (v && decide (ai = bi))) ∧ Below w.heap.size w w' := by
 have HG := hid hg
 have H1 := hid h1
 have H2 := hid h2
 have H3 := hid h3
 have H4 := hid h4
 clear hg h1 h2 h3 h4
 cases v
 all_goals
  go_enter Tryz.func11, Tryz.ntmps11
  go_wp2_with fail
  refine (ints_any _ _ _ _ _ _ _ ((H1.out.alloc _).alloc _) ((H3.out.alloc _).alloc _)).mono ?_
  rintro e w1 ⟨rfl, hb⟩
  rw [HG.out]
  have hbw := hid ((((Below.refl _ w).alloc (Nat.le_refl _) _).alloc (by simp) _).trans (hb.mono (by simp; omega)))
  have hc := rbcell hb
  have HB := hid hb
  clear hb
  go_wp2_with fail
  try (refine (refseens_any _ _ _ _ _ _ _ (((H2.out.alloc _).alloc _).below HB.out (Nat.le_refl _)) (((H4.out.alloc _).alloc _).below HB.out (Nat.le_refl _))).mono ?_; rintro e w2 ⟨rfl, hb2⟩; have hbw := hid (bl hbw.out hb2); clear hb2; go_wp2_with fail)
  go_ret
  exact ⟨by simp, hbw.out⟩
theorem rrefsame_any (a b : Rp) (pa ia pb ib : Option Addr) (pc ic pcb icb : Nat) (w : World) (h1 : IntsAt w pa a.players) (h2 : SnsAt w ia a.items) (h3 : IntsAt w pb b.players) (h4 : SnsAt w ib b.items) :
 Calls Tryz.prog 11 #[.agg #[.int .i64 a.err, .int .i64 a.kind, .int .i64 a.room, .slice pa a.players.length pc, .slice ia a.items.length ic, .int .i64 a.coins], .agg #[.int .i64 b.err, .int .i64 b.kind, .int .i64 b.room, .slice pb b.players.length pcb, .slice ib b.items.length icb, .int .i64 b.coins]] w fun e w' => e = .returned (.bool (rsameB a b)) ∧ Below w.heap.size w w' := by
 obtain ⟨a1, a2, a3, ap, ai, a6⟩ := a
 obtain ⟨b1, b2, b3, bp, bi, b6⟩ := b
 by_cases h : a1 = b1 ∧ a2 = b2 ∧ a3 = b3 ∧ a6 = b6
 ·obtain ⟨rfl, rfl, rfl, rfl⟩ := h
  rw [show rsameB ⟨a1, a2, a3, ap, ai, a6⟩ ⟨a1, a2, a3, bp, bi, a6⟩ = (decide (ap = bp) && decide (ai = bi)) by simp [rsameB]]
  exact rrefsame_yes _ a1 a2 a3 a6 ap bp ai bi pa ia pb ib pc ic pcb icb w rfl h1 h2 h3 h4
 ·rw [show rsameB ⟨a1, a2, a3, ap, ai, a6⟩ ⟨b1, b2, b3, bp, bi, b6⟩ = false by rw [Bool.eq_false_iff]; intro hh; have := (rsameB_iff _ _).1 hh; simp only [Rp.mk.injEq] at this; exact h ⟨this.1, this.2.1, this.2.2.1, this.2.2.2.2.2⟩]
  exact rrefsame_no a1 a2 a3 a6 b1 b2 b3 b6 ap bp ai bi pa ia pb ib pc ic pcb icb w h
def rfewB (r : Rp) : Bool := decide (r.players.length ≤ 40) && decide (r.items.length ≤ 40)
end
section
section
variable (k m c : Int) (ps : List Int) (is : List Sn) (pa ia : Option Addr) (pc ic : Nat) (w : World)
theorem refmay_out (e : Int) (he : e < 0 ∨ 13 < e) :
 Calls Tryz.prog 14 #[.agg #[.int .i64 e, .int .i64 k, .int .i64 m, .slice pa ps.length pc, .slice ia is.length ic, .int .i64 c]] w fun e' w' => e' = .returned (.bool false) ∧ Below w.heap.size w w' := by
 by_cases h : e < 0
 ·clear he
  go_enter Tryz.func14, Tryz.ntmps14
  go_wp2_with fail
  go_ret
  exact ⟨rfl, (Below.refl _ _).alloc (Nat.le_refl _) _⟩
 ·have h2 : 13 < e := by omega
  clear he
  go_enter Tryz.func14, Tryz.ntmps14
  go_wp2_with fail
  go_ret
  exact ⟨rfl, (Below.refl _ _).alloc (Nat.le_refl _) _⟩
theorem refmay_err (e : Int) (h1 : 0 ≤ e) (h2 : e ≤ 13) (h0 : (e != 0) = true) (i1 : IntsAt w pa ps) (i2 : SnsAt w ia is) :
 Calls Tryz.prog 14 #[.agg #[.int .i64 e, .int .i64 k, .int .i64 m, .slice pa ps.length pc, .slice ia is.length ic, .int .i64 c]] w fun e' w' => e' = .returned (.bool (rsameB ⟨e, k, m, ps, is, c⟩ ⟨e, 0, 0, [], [], 0⟩)) ∧ Below w.heap.size w w' := by
 have I1 := hid (i1.alloc (.cells #[.int .i64 e, .int .i64 k, .int .i64 m, .slice pa ps.length pc, .slice ia is.length ic, .int .i64 c] 38))
 have I2 := hid (i2.alloc (.cells #[.int .i64 e, .int .i64 k, .int .i64 m, .slice pa ps.length pc, .slice ia is.length ic, .int .i64 c] 38))
 clear i1 i2
 go_enter Tryz.func14, Tryz.ntmps14
 go_wp2_with fail
 refine (rrefsame_any ⟨e, k, m, ps, is, c⟩ ⟨e, 0, 0, [], [], 0⟩ pa ia none none pc ic 0 0 _ I1.out I2.out (IntsAt.nil _ _) (SnsAt.nil _ _)).mono ?_
 rintro e' w1 ⟨rfl, b1⟩
 have B1 := hid (bl ((Below.refl w.heap.size w).alloc (Nat.le_refl _) _) b1)
 clear b1
 go_wp2_with fail
 go_ret
 exact ⟨rfl, B1.out⟩
theorem refmay_head (hd : k < 1 ∨ 10 < k ∨ okN m = false ∨ okN c = false ∨ 16 < ps.length ∨ 16 < is.length) (hp : ps.length ≤ 9223372036854775807) (hi : is.length ≤ 9223372036854775807) :
 Calls Tryz.prog 14 #[.agg #[.int .i64 0, .int .i64 k, .int .i64 m, .slice pa ps.length pc, .slice ia is.length ic, .int .i64 c]] w fun e' w' => e' = .returned (.bool false) ∧ Below w.heap.size w w' := by
 by_cases h1 : k < 1
 ·clear hd
  go_enter Tryz.func14, Tryz.ntmps14
  go_wp2_with fail
  go_ret
  exact ⟨rfl, (Below.refl _ _).alloc (Nat.le_refl _) _⟩
 by_cases h2 : 10 < k
 ·clear hd
  go_enter Tryz.func14, Tryz.ntmps14
  go_wp2_with fail
  go_ret
  exact ⟨rfl, (Below.refl _ _).alloc (Nat.le_refl _) _⟩
 have k1 : 1 ≤ k := by omega
 have k2 : k ≤ 10 := by omega
 cases h3 : okN m
 ·have H3 := hid h3
  clear hd h3
  go_enter Tryz.func14, Tryz.ntmps14
  go_wp2_with fail
  refine (reffit_any _ _).mono ?_
  rintro e w' ⟨rfl, rfl⟩
  rw [H3.out]
  go_wp2_with fail
  go_ret
  exact ⟨rfl, (Below.refl _ _).alloc (Nat.le_refl _) _⟩
 cases h4 : okN c
 ·have H3 := hid h3
  have H4 := hid h4
  clear hd h3 h4
  go_enter Tryz.func14, Tryz.ntmps14
  go_wp2_with fail
  refine (reffit_any _ _).mono ?_
  rintro e w' ⟨rfl, rfl⟩
  rw [H3.out]
  go_wp2_with fail
  refine (reffit_any _ _).mono ?_
  rintro e w' ⟨rfl, rfl⟩
  rw [H4.out]
  go_wp2_with fail
  go_ret
  exact ⟨rfl, (Below.refl _ _).alloc (Nat.le_refl _) _⟩
 have H3 := hid h3
 have H4 := hid h4
 by_cases h5 : 16 < ps.length
 ·clear hd h3 h4
  go_enter Tryz.func14, Tryz.ntmps14
  go_wp2_with fail
  refine (reffit_any _ _).mono ?_
  rintro e w' ⟨rfl, rfl⟩
  rw [H3.out]
  go_wp2_with fail
  refine (reffit_any _ _).mono ?_
  rintro e w' ⟨rfl, rfl⟩
  rw [H4.out]
  go_wp2_with fail
  go_ret
  exact ⟨rfl, (Below.refl _ _).alloc (Nat.le_refl _) _⟩
 have h6 : 16 < is.length := by
  rcases hd with h | h | h | h | h | h
  ·exact absurd h h1
  ·exact absurd h h2
  ·rw [h3] at h; cases h
  ·rw [h4] at h; cases h
  ·exact absurd h h5
  ·exact h
 have h7 : ps.length ≤ 16 := by omega
 clear hd h3 h4 h5
 go_enter Tryz.func14, Tryz.ntmps14
 go_wp2_with fail
 refine (reffit_any _ _).mono ?_
 rintro e w' ⟨rfl, rfl⟩
 rw [H3.out]
 go_wp2_with fail
 refine (reffit_any _ _).mono ?_
 rintro e w' ⟨rfl, rfl⟩
 rw [H4.out]
 go_wp2_with fail
 go_ret
 exact ⟨rfl, (Below.refl _ _).alloc (Nat.le_refl _) _⟩
/-- The last test. -/
def lastB : Bool := (roomB k || decide (m = 0)) && (decide (k = 9) || decide (ps.length = 0)) && (decide (9 ≤ k) || decide (is.length = 0)) && (decide (k = 10) || decide (c = 0))
set_option maxHeartbeats 2000000 in
theorem refmay_body (k1 : 1 ≤ k) (k2 : k ≤ 10) (hm : okN m = true) (hc : okN c = true) (lp : ps.length ≤ 16) (li : is.length ≤ 16) (i1 : IntsAt w pa ps) (i2 : SnsAt w ia is) :
 Calls Tryz.prog 14 #[.agg #[.int .i64 0, .int .i64 k, .int .i64 m, .slice pa ps.length pc, .slice ia is.length ic, .int .i64 c]] w fun e' w' => e' = .returned (.bool (areB ps && (is.all snB && lastB k m c ps is))) ∧ Below w.heap.size w w' := by
 have HM := hid hm
 have HC := hid hc
 have I1 := hid i1
 have I2 := hid i2
 have HB := hid (Blk.new w 38 #[.int .i64 0, .int .i64 k, .int .i64 m, .slice pa ps.length pc, .slice ia is.length ic, .int .i64 c])
 have BL := hid (show Below w.heap.size w (w.alloc (.cells #[.int .i64 0, .int .i64 k, .int .i64 m, .slice pa ps.length pc, .slice ia is.length ic, .int .i64 c] 38)) from (Below.refl _ _).alloc (Nat.le_refl _) _)
 clear hm hc i1 i2
 go_enter Tryz.func14, Tryz.ntmps14
 go_wp2_with fail
 refine (reffit_any _ _).mono ?_
 rintro e w' ⟨rfl, rfl⟩
 rw [HM.out]
 go_wp2_with fail
 refine (reffit_any _ _).mono ?_
 rintro e w' ⟨rfl, rfl⟩
 rw [HC.out]
 go_wp2_with fail
 generalize w.alloc (.cells #[.int .i64 0, .int .i64 k, .int .i64 m, .slice pa ps.length pc, .slice ia is.length ic, .int .i64 c] 38) = W0 at *
 have hcell := HB.out.cell
 go_loop [4] (fun i => ∃ j : Nat, j ≤ ps.length ∧ i = .int .i64 j ∧ areB (ps.take j) = true) (fun i => ps.length - (intOf i).toNat)
 case atStart => exact ⟨0, Nat.zero_le _, rfl, rfl⟩
 case round =>
  obtain ⟨j, hj, rfl, ha⟩ := hrel
  have HA := hid ha
  clear ha
  by_cases hlt : j < ps.length
  ·obtain ⟨xb, xo, rfl, hxb, hxc⟩ := I1.out.at_ hlt
   have h1 := (BL.out.cell (p := ⟨xb, xo + j, none⟩) hxb).trans (hxc j hlt)
   clear hxc
   have HS := hid (areB_snoc hlt HA.out)
   have HN := hid (areB_no hlt)
   cases ho : okN ps[j]
   ·have H2 := hid (HN.out ho)
    have HO := hid ho
    clear ho
    go_wp2_with fail
    refine (reffit_any _ _).mono ?_
    rintro e w' ⟨rfl, rfl⟩
    rw [HO.out]
    go_wp2_with fail
    go_ret
    exact ⟨ret_bool (by rw [H2.out]; rfl), BL.out⟩
   ·have H2 := hid (HS.out ho)
    have HO := hid ho
    clear ho
    go_wp2_with fail
    refine (reffit_any _ _).mono ?_
    rintro e w' ⟨rfl, rfl⟩
    rw [HO.out]
    go_wp2_with fail
    go_round
    case rel => exact ⟨j + 1, by omega, by go_num, H2.out⟩
    case measure => simp [intOf]; omega
  ·have hje : j = ps.length := by omega
   subst hje
   have HPS := hid (areB_all HA.out)
   clear HA
   go_wp2_with fail
   go_loopw [5, 6] (fun i _ wr => ∃ j : Nat, j ≤ is.length ∧ i = .int .i64 j ∧ (is.take j).all snB = true ∧ Below W0.heap.size W0 wr) (fun i _ _ => is.length - (intOf i).toNat)
   case atStart => exact ⟨0, Nat.zero_le _, rfl, rfl, Below.refl _ _⟩
   case round =>
    clear hcell
    obtain ⟨j, hj, rfl, ha, hbel⟩ := hrel
    have HA := hid ha
    have HBL := hid hbel
    have hcell := (HB.out.below hbel HB.out.lt).cell
    have BW := hid (bl BL.out hbel)
    clear ha
    by_cases hlt : j < is.length
    ·obtain ⟨xb, xo, rfl, hxb, hxc⟩ := I2.out.at_ hlt
     obtain ⟨x1, x2, x3⟩ := hxc j hlt
     have h1 := (BW.out.cell (p := ⟨xb, xo + j * 3, none⟩) hxb).trans x1
     have h2 := (BW.out.cell (p := ⟨xb, xo + j * 3 + 1, none⟩) hxb).trans x2
     have h3 := (BW.out.cell (p := ⟨xb, xo + j * 3 + 2, none⟩) hxb).trans x3
     clear hxc x1 x2 x3 hbel
     have HS := hid (snall_snoc hlt HA.out)
     have HN := hid (snall_no hlt)
     generalize is[j] = x at *
     obtain ⟨xi, xk, xd⟩ := x
     cases o1 : okN xi
     ·have O1 := hid o1
      have H2 := hid (HN.out (by simp [snB, o1]))
      clear o1
      go_wp2_with fail
      refine (reffit_any _ _).mono ?_
      rintro e w' ⟨rfl, rfl⟩
      rw [O1.out]
      go_wp2_with fail
      go_ret
      exact ⟨ret_bool (by rw [HPS.out, H2.out]; rfl), BW.out.alloc BW.out.size _⟩
     ·cases o2 : okN xd
      ·have O1 := hid o1
       have O2 := hid o2
       have H2 := hid (HN.out (by simp [snB, o2]))
       clear o1 o2
       go_wp2_with fail
       refine (reffit_any _ _).mono ?_
       rintro e w' ⟨rfl, rfl⟩
       rw [O1.out]
       go_wp2_with fail
       refine (reffit_any _ _).mono ?_
       rintro e w' ⟨rfl, rfl⟩
       rw [O2.out]
       go_wp2_with fail
       go_ret
       exact ⟨ret_bool (by rw [HPS.out, H2.out]; rfl), BW.out.alloc BW.out.size _⟩
      ·have O1 := hid o1
       have O2 := hid o2
       by_cases hk : xk = 0 ∨ xk = 1 ∨ xk = 2
       ·have H2 := hid (HS.out (by simp [snB, o1, o2, pkB]; omega))
        clear o1 o2
        rcases hk with rfl | rfl | rfl
        all_goals
         go_wp2_with fail
         refine (reffit_any _ _).mono ?_
         rintro e w' ⟨rfl, rfl⟩
         rw [O1.out]
         go_wp2_with fail
         refine (reffit_any _ _).mono ?_
         rintro e w' ⟨rfl, rfl⟩
         rw [O2.out]
         go_wp2_with fail
         go_roundw
         case rel => exact ⟨j + 1, by omega, by go_num, H2.out, HBL.out.alloc HBL.out.size _⟩
         case measure => simp [intOf]; omega
       ·have H2 := hid (HN.out (by simp [snB, pkB]; omega))
        have q0 : (xk != 0) = true := by simp; omega
        have q1 : (xk != 1) = true := by simp; omega
        have q2 : (xk != 2) = true := by simp; omega
        clear o1 o2 hk
        go_wp2_with fail
        refine (reffit_any _ _).mono ?_
        rintro e w' ⟨rfl, rfl⟩
        rw [O1.out]
        go_wp2_with fail
        refine (reffit_any _ _).mono ?_
        rintro e w' ⟨rfl, rfl⟩
        rw [O2.out]
        go_wp2_with fail
        go_ret
        exact ⟨ret_bool (by rw [HPS.out, H2.out]; rfl), BW.out.alloc BW.out.size _⟩
    ·have hje : j = is.length := by omega
     subst hje
     have HIS := hid (snall_all HA.out)
     have HL := hid (show ∀ b, lastB k m c ps is = b → (areB ps && (is.all snB && lastB k m c ps is)) = b from fun b hb => by rw [HPS.out, HIS.out, hb]; rfl)
     clear HA hbel
     have pz : ((ps.length : Int) == 0) = true ∧ ps.length = 0 ∨ ((ps.length : Int) == 0) = false ∧ ¬ ps.length = 0 := by
      by_cases h : ps.length = 0
      ·exact .inl ⟨by rw [h]; rfl, h⟩
      ·exact .inr ⟨by rw [beq_eq_false_iff_ne]; omega, h⟩
     have iz : ((is.length : Int) == 0) = true ∧ is.length = 0 ∨ ((is.length : Int) == 0) = false ∧ ¬ is.length = 0 := by
      by_cases h : is.length = 0
      ·exact .inl ⟨by rw [h]; rfl, h⟩
      ·exact .inr ⟨by rw [beq_eq_false_iff_ne]; omega, h⟩
     have mz : (m == 0) = true ∧ m = 0 ∨ (m == 0) = false ∧ ¬ m = 0 := by
      by_cases h : m = 0
      ·exact .inl ⟨by rw [h]; rfl, h⟩
      ·exact .inr ⟨by rw [beq_eq_false_iff_ne]; omega, h⟩
     have cz : (c == 0) = true ∧ c = 0 ∨ (c == 0) = false ∧ ¬ c = 0 := by
      by_cases h : c = 0
      ·exact .inl ⟨by rw [h]; rfl, h⟩
      ·exact .inr ⟨by rw [beq_eq_false_iff_ne]; omega, h⟩
     by_cases hk9 : k < 9
     ·have e9 : (k == 9) = false := by rw [beq_eq_false_iff_ne]; omega
      have e10 : (k == 10) = false := by rw [beq_eq_false_iff_ne]; omega
      have f9 : ¬ k = 9 := by omega
      have f10 : ¬ k = 10 := by omega
      have g9 : ¬ 9 ≤ k := by omega
      have E1 := hid f9
      have E2 := hid f10
      have E3 := hid g9
      clear f9 f10 g9
      by_cases h1 : k = 1
      ·have e1 : (k == 1) = true := by rw [h1]; rfl
       rcases pz with ⟨p1, p2⟩ | ⟨p1, p2⟩
       ·rcases iz with ⟨i1, i2⟩ | ⟨i1, i2⟩
        ·rcases cz with ⟨c1, c2⟩ | ⟨c1, c2⟩
         ·have HV := hid (show lastB k m c ps is = true by simp [lastB, roomB, h1, p2, i2, c2])
          clear mz p2 i2 c2 h1
          go_wp2_with fail
          go_ret
          exact ⟨ret_bool (HL.out _ HV.out).symm, BW.out⟩
         ·have HV := hid (show lastB k m c ps is = false by simp [lastB, roomB, h1, p2, i2, c2])
          clear mz p2 i2 c2 h1
          go_wp2_with fail
          go_ret
          exact ⟨ret_bool (HL.out _ HV.out).symm, BW.out⟩
        ·have HV := hid (show lastB k m c ps is = false by simp [lastB, roomB, h1, p2, i2])
         clear mz cz p2 i2 h1
         go_wp2_with fail
         go_ret
         exact ⟨ret_bool (HL.out _ HV.out).symm, BW.out⟩
       ·have HV := hid (show lastB k m c ps is = false by simp [lastB, roomB, h1, p2])
        clear mz cz iz p2 h1
        go_wp2_with fail
        go_ret
        exact ⟨ret_bool (HL.out _ HV.out).symm, BW.out⟩
      ·have e1 : (k == 1) = false := by rw [beq_eq_false_iff_ne]; exact h1
       by_cases h2 : k = 2
       ·have e2 : (k == 2) = true := by rw [h2]; rfl
        rcases pz with ⟨p1, p2⟩ | ⟨p1, p2⟩
        ·rcases iz with ⟨i1, i2⟩ | ⟨i1, i2⟩
         ·rcases cz with ⟨c1, c2⟩ | ⟨c1, c2⟩
          ·have HV := hid (show lastB k m c ps is = true by simp [lastB, roomB, h2, p2, i2, c2])
           clear mz p2 i2 c2 h1 h2
           go_wp2_with fail
           go_ret
           exact ⟨ret_bool (HL.out _ HV.out).symm, BW.out⟩
          ·have HV := hid (show lastB k m c ps is = false by simp [lastB, roomB, h2, p2, i2, c2])
           clear mz p2 i2 c2 h1 h2
           go_wp2_with fail
           go_ret
           exact ⟨ret_bool (HL.out _ HV.out).symm, BW.out⟩
         ·have HV := hid (show lastB k m c ps is = false by simp [lastB, roomB, h2, p2, i2])
          clear mz cz p2 i2 h1 h2
          go_wp2_with fail
          go_ret
          exact ⟨ret_bool (HL.out _ HV.out).symm, BW.out⟩
        ·have HV := hid (show lastB k m c ps is = false by simp [lastB, roomB, h2, p2])
         clear mz cz iz p2 h1 h2
         go_wp2_with fail
         go_ret
         exact ⟨ret_bool (HL.out _ HV.out).symm, BW.out⟩
       ·have e2 : (k == 2) = false := by rw [beq_eq_false_iff_ne]; exact h2
        rcases mz with ⟨m1, m2⟩ | ⟨m1, m2⟩
        ·rcases pz with ⟨p1, p2⟩ | ⟨p1, p2⟩
         ·rcases iz with ⟨i1, i2⟩ | ⟨i1, i2⟩
          ·rcases cz with ⟨c1, c2⟩ | ⟨c1, c2⟩
           ·have HV := hid (show lastB k m c ps is = true by simp [lastB, roomB, h1, h2, E1.out, E2.out, E3.out, m2, p2, i2, c2])
            clear m2 p2 i2 c2 h1 h2
            go_wp2_with fail
            go_ret
            exact ⟨ret_bool (HL.out _ HV.out).symm, BW.out⟩
           ·have HV := hid (show lastB k m c ps is = false by simp [lastB, roomB, h1, h2, E1.out, E2.out, E3.out, m2, p2, i2, c2])
            clear m2 p2 i2 c2 h1 h2
            go_wp2_with fail
            go_ret
            exact ⟨ret_bool (HL.out _ HV.out).symm, BW.out⟩
          ·have HV := hid (show lastB k m c ps is = false by simp [lastB, roomB, h1, h2, E1.out, E2.out, E3.out, m2, p2, i2])
           clear m2 cz p2 i2 h1 h2
           go_wp2_with fail
           go_ret
           exact ⟨ret_bool (HL.out _ HV.out).symm, BW.out⟩
         ·have HV := hid (show lastB k m c ps is = false by simp [lastB, roomB, h1, h2, E1.out, E2.out, E3.out, m2, p2])
          clear m2 cz iz p2 h1 h2
          go_wp2_with fail
          go_ret
          exact ⟨ret_bool (HL.out _ HV.out).symm, BW.out⟩
        ·have HV := hid (show lastB k m c ps is = false by simp [lastB, roomB, h1, h2, E1.out, m2])
         clear pz iz cz m2 h1 h2
         go_wp2_with fail
         go_ret
         exact ⟨ret_bool (HL.out _ HV.out).symm, BW.out⟩
     ·have e1 : (k == 1) = false := by rw [beq_eq_false_iff_ne]; omega
      have e2 : (k == 2) = false := by rw [beq_eq_false_iff_ne]; omega
      have g9 : 9 ≤ k := by omega
      by_cases h9 : k = 9
      ·subst h9
       rcases cz with ⟨c1, c2⟩ | ⟨c1, c2⟩
       ·have HV := hid (show lastB 9 m c ps is = true by simp [lastB, roomB, c2])
        clear pz iz mz c2 e1 e2 hk9 g9
        go_wp2_with fail
        go_ret
        exact ⟨ret_bool (HL.out _ HV.out).symm, BW.out⟩
       ·have HV := hid (show lastB 9 m c ps is = false by simp [lastB, roomB, c2])
        clear pz iz mz c2 e1 e2 hk9 g9
        go_wp2_with fail
        go_ret
        exact ⟨ret_bool (HL.out _ HV.out).symm, BW.out⟩
      ·have h10 : k = 10 := by omega
       subst h10
       rcases mz with ⟨m1, m2⟩ | ⟨m1, m2⟩
       ·rcases pz with ⟨p1, p2⟩ | ⟨p1, p2⟩
        ·have HV := hid (show lastB 10 m c ps is = true by simp [lastB, roomB, m2, p2])
         clear iz cz m2 p2 e1 e2 hk9 g9 h9
         go_wp2_with fail
         go_ret
         exact ⟨ret_bool (HL.out _ HV.out).symm, BW.out⟩
        ·have HV := hid (show lastB 10 m c ps is = false by simp [lastB, roomB, m2, p2])
         clear iz cz m2 p2 e1 e2 hk9 g9 h9
         go_wp2_with fail
         go_ret
         exact ⟨ret_bool (HL.out _ HV.out).symm, BW.out⟩
       ·have HV := hid (show lastB 10 m c ps is = false by simp [lastB, roomB, m2])
        clear iz cz pz m2 e1 e2 hk9 g9 h9
        go_wp2_with fail
        go_ret
        exact ⟨ret_bool (HL.out _ HV.out).symm, BW.out⟩
end
theorem rrefmay_any (r : Rp) (pa ia : Option Addr) (pc ic : Nat) (w : World) (h1 : IntsAt w pa r.players) (h2 : SnsAt w ia r.items) :
 Calls Tryz.prog 14 #[.agg #[.int .i64 r.err, .int .i64 r.kind, .int .i64 r.room, .slice pa r.players.length pc, .slice ia r.items.length ic, .int .i64 r.coins]] w fun e w' => e = .returned (.bool (rmayB r)) ∧ Below w.heap.size w w' := by
 rw [rmay_eq]
 obtain ⟨e, k, m, ps, is, c⟩ := r
 simp only at h1 h2 ⊢
 unfold rrefB
 by_cases he : e < 0 ∨ 13 < e
 ·rw [if_pos he]
  exact refmay_out k m c ps is pa ia pc ic w e he
 ·rw [if_neg he]
  by_cases h0 : e = 0
  ·subst h0
   rw [if_neg (by simp)]
   by_cases hd : k < 1 ∨ 10 < k ∨ okN m = false ∨ okN c = false ∨ 16 < ps.length ∨ 16 < is.length
   ·rw [if_pos hd]
    exact refmay_head k m c ps is pa ia pc ic w hd h1.len h2.len
   ·rw [if_neg hd]
    have hm : okN m = true := by cases h : okN m <;> simp_all
    have hc : okN c = true := by cases h : okN c <;> simp_all
    have := refmay_body k m c ps is pa ia pc ic w (by omega) (by omega) hm hc (by omega) (by omega) h1 h2
    refine this.mono ?_
    rintro e w' ⟨rfl, hb⟩
    refine ⟨ret_bool ?_, hb⟩
    cases areB ps <;> cases is.all snB <;> simp [lastB]
  ·rw [if_pos h0]
   exact refmay_err k m c ps is pa ia pc ic w e (by omega) (by omega) (by simpa using h0) h1 h2
end
end Go.Proofs.YtgmkcddgkgcbbaaGreat
