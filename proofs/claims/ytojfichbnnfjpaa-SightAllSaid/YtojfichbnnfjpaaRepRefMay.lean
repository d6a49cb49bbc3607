/- The document's own May, of answers. -/
import Derived.Test.YtojfichbnnfjpaaRows
import Derived.Test.YtojfichbnnfjpaaKit
import Derived.Test.YtojfichbnnfjpaaGMem
import Derived.Test.YtojfichbnnfjpaaCmdMath
import Derived.Test.YtojfichbnnfjpaaCmdA
import Derived.Test.YtojfichbnnfjpaaRepMath
import Derived.Test.YtojfichbnnfjpaaGWorld
import Derived.Test.YtojfichbnnfjpaaRepA
import Derived.Test.YtojfichbnnfjpaaRepSame
import Derived.Deep.QuietTactic
import Derived.BigQuiet
import Derived.WalkKit
import Derived.ProofKit
import Derived.OpenShut
import Derived.IntWalk
namespace Go.Proofs.Ytojfichbnnfjpaa
open Go.ChangeShapes Go.WideShapes Go.ChangeAt Go.RowKit
set_option linter.unusedVariables false
open Go.RowKit
section
variable (k m c : Int) (ps : List Int) (is : List Sn) (pa ia : Option Addr) (pc ic : Nat) (w : World)
set_option maxRecDepth 100000 in
theorem refmay_out (e : Int) (he : e < 0 ∨ 13 < e) :
    Calls Try.prog 18 #[.agg #[.int .i64 e, .int .i64 k, .int .i64 m, .slice pa ps.length pc, .slice ia is.length ic, .int .i64 c]] w fun e' w' => e' = .returned (.bool false) ∧ Below w.heap.size w w' := by
  by_cases h : e < 0
  · clear he
    go_enter Try.func18, Try.ntmps18
    go_wp2_with fail
    go_ret
    exact ⟨rfl, (Below.refl _ _).alloc (Nat.le_refl _) _⟩
  · have h2 : 13 < e := by omega
    clear he
    go_enter Try.func18, Try.ntmps18
    go_wp2_with fail
    go_ret
    exact ⟨rfl, (Below.refl _ _).alloc (Nat.le_refl _) _⟩
set_option maxRecDepth 100000 in
theorem refmay_err (e : Int) (h1 : 0 ≤ e) (h2 : e ≤ 13) (h0 : (e != 0) = true) (i1 : IntsAt w pa ps) (i2 : SnsAt w ia is) :
    Calls Try.prog 18 #[.agg #[.int .i64 e, .int .i64 k, .int .i64 m, .slice pa ps.length pc, .slice ia is.length ic, .int .i64 c]] w fun e' w' => e' = .returned (.bool (rsameB ⟨e, k, m, ps, is, c⟩ ⟨e, 0, 0, [], [], 0⟩)) ∧ Below w.heap.size w w' := by
  have I1 := Lib.hid (i1.alloc (.cells #[.int .i64 e, .int .i64 k, .int .i64 m, .slice pa ps.length pc, .slice ia is.length ic, .int .i64 c] 36))
  have I2 := Lib.hid (i2.alloc (.cells #[.int .i64 e, .int .i64 k, .int .i64 m, .slice pa ps.length pc, .slice ia is.length ic, .int .i64 c] 36))
  clear i1 i2
  go_enter Try.func18, Try.ntmps18
  go_wp2_with fail
  refine (rrefsame_any ⟨e, k, m, ps, is, c⟩ ⟨e, 0, 0, [], [], 0⟩ pa ia none none pc ic 0 0 _ I1.out I2.out (IntsAt.nil _ _) (SnsAt.nil _ _)).mono ?_
  rintro e' w1 ⟨rfl, b1⟩
  have B1 := Lib.hid (bl ((Below.refl w.heap.size w).alloc (Nat.le_refl _) _) b1)
  clear b1
  go_wp2_with fail
  go_ret
  exact ⟨rfl, B1.out⟩
set_option maxRecDepth 100000 in
theorem refmay_head (hd : k < 1 ∨ 10 < k ∨ okN m = false ∨ okN c = false ∨ 16 < ps.length ∨ 16 < is.length) (hp : ps.length ≤ 9223372036854775807) (hi : is.length ≤ 9223372036854775807) :
    Calls Try.prog 18 #[.agg #[.int .i64 0, .int .i64 k, .int .i64 m, .slice pa ps.length pc, .slice ia is.length ic, .int .i64 c]] w fun e' w' => e' = .returned (.bool false) ∧ Below w.heap.size w w' := by
  by_cases h1 : k < 1
  · clear hd
    go_enter Try.func18, Try.ntmps18
    go_wp2_with fail
    go_ret
    exact ⟨rfl, (Below.refl _ _).alloc (Nat.le_refl _) _⟩
  by_cases h2 : 10 < k
  · clear hd
    go_enter Try.func18, Try.ntmps18
    go_wp2_with fail
    go_ret
    exact ⟨rfl, (Below.refl _ _).alloc (Nat.le_refl _) _⟩
  have k1 : 1 ≤ k := by omega
  have k2 : k ≤ 10 := by omega
  cases h3 : okN m
  · have H3 := Lib.hid h3
    clear hd h3
    go_enter Try.func18, Try.ntmps18
    go_wp2_with fail
    refine (reffit_any _ _).mono ?_
    rintro e w' ⟨rfl, rfl⟩
    rw [H3.out]
    go_wp2_with fail
    go_ret
    exact ⟨rfl, (Below.refl _ _).alloc (Nat.le_refl _) _⟩
  cases h4 : okN c
  · have H3 := Lib.hid h3
    have H4 := Lib.hid h4
    clear hd h3 h4
    go_enter Try.func18, Try.ntmps18
    go_wp2_with fail
    refine (reffit_any _ _).mono ?_
    rintro e w' ⟨rfl, rfl⟩
    rw [H3.out]
    go_wp2_with fail
    refine (reffit_any _ _).mono ?_
    rintro e w' ⟨rfl, rfl⟩
    rw [H4.out]
    go_wp2_with fail
    go_ret
    exact ⟨rfl, (Below.refl _ _).alloc (Nat.le_refl _) _⟩
  have H3 := Lib.hid h3
  have H4 := Lib.hid h4
  by_cases h5 : 16 < ps.length
  · clear hd h3 h4
    go_enter Try.func18, Try.ntmps18
    go_wp2_with fail
    refine (reffit_any _ _).mono ?_
    rintro e w' ⟨rfl, rfl⟩
    rw [H3.out]
    go_wp2_with fail
    refine (reffit_any _ _).mono ?_
    rintro e w' ⟨rfl, rfl⟩
    rw [H4.out]
    go_wp2_with fail
    go_ret
    exact ⟨rfl, (Below.refl _ _).alloc (Nat.le_refl _) _⟩
  have h6 : 16 < is.length := by
    rcases hd with h | h | h | h | h | h
    · exact absurd h h1
    · exact absurd h h2
    · rw [h3] at h; cases h
    · rw [h4] at h; cases h
    · exact absurd h h5
    · exact h
  have h7 : ps.length ≤ 16 := by omega
  clear hd h3 h4 h5
  go_enter Try.func18, Try.ntmps18
  go_wp2_with fail
  refine (reffit_any _ _).mono ?_
  rintro e w' ⟨rfl, rfl⟩
  rw [H3.out]
  go_wp2_with fail
  refine (reffit_any _ _).mono ?_
  rintro e w' ⟨rfl, rfl⟩
  rw [H4.out]
  go_wp2_with fail
  go_ret
  exact ⟨rfl, (Below.refl _ _).alloc (Nat.le_refl _) _⟩
/-- The last test. -/
def lastB : Bool := (roomB k || decide (m = 0)) && (decide (k = 9) || decide (ps.length = 0)) && (decide (9 ≤ k) || decide (is.length = 0)) && (decide (k = 10) || decide (c = 0))
set_option maxHeartbeats 2000000 in
set_option maxRecDepth 100000 in
theorem refmay_body (k1 : 1 ≤ k) (k2 : k ≤ 10) (hm : okN m = true) (hc : okN c = true) (lp : ps.length ≤ 16) (li : is.length ≤ 16) (i1 : IntsAt w pa ps) (i2 : SnsAt w ia is) :
    Calls Try.prog 18 #[.agg #[.int .i64 0, .int .i64 k, .int .i64 m, .slice pa ps.length pc, .slice ia is.length ic, .int .i64 c]] w fun e' w' => e' = .returned (.bool (areB ps && (is.all snB && lastB k m c ps is))) ∧ Below w.heap.size w w' := by
  have HM := Lib.hid hm
  have HC := Lib.hid hc
  have I1 := Lib.hid i1
  have I2 := Lib.hid i2
  have HB := Lib.hid (Blk.new w 36 #[.int .i64 0, .int .i64 k, .int .i64 m, .slice pa ps.length pc, .slice ia is.length ic, .int .i64 c])
  have BL := Lib.hid (show Below w.heap.size w (w.alloc (.cells #[.int .i64 0, .int .i64 k, .int .i64 m, .slice pa ps.length pc, .slice ia is.length ic, .int .i64 c] 36)) from (Below.refl _ _).alloc (Nat.le_refl _) _)
  clear hm hc i1 i2
  go_enter Try.func18, Try.ntmps18
  go_wp2_with fail
  refine (reffit_any _ _).mono ?_
  rintro e w' ⟨rfl, rfl⟩
  rw [HM.out]
  go_wp2_with fail
  refine (reffit_any _ _).mono ?_
  rintro e w' ⟨rfl, rfl⟩
  rw [HC.out]
  go_wp2_with fail
  generalize w.alloc (.cells #[.int .i64 0, .int .i64 k, .int .i64 m, .slice pa ps.length pc, .slice ia is.length ic, .int .i64 c] 36) = W0 at *
  have hcell := HB.out.cell
  go_loop [4] (fun i => ∃ j : Nat, j ≤ ps.length ∧ i = .int .i64 j ∧ areB (ps.take j) = true) (fun i => ps.length - (intOf i).toNat)
  case atStart => exact ⟨0, Nat.zero_le _, rfl, rfl⟩
  case round =>
    obtain ⟨j, hj, rfl, ha⟩ := hrel
    have HA := Lib.hid ha
    clear ha
    by_cases hlt : j < ps.length
    · obtain ⟨xb, xo, rfl, hxb, hxc⟩ := I1.out.at_ hlt
      have h1 := (BL.out.cell (p := ⟨xb, xo + j, none⟩) hxb).trans (hxc j hlt)
      clear hxc
      have HS := Lib.hid (areB_snoc hlt HA.out)
      have HN := Lib.hid (areB_no hlt)
      cases ho : okN ps[j]
      · have H2 := Lib.hid (HN.out ho)
        have HO := Lib.hid ho
        clear ho
        go_wp2_with fail
        refine (reffit_any _ _).mono ?_
        rintro e w' ⟨rfl, rfl⟩
        rw [HO.out]
        go_wp2_with fail
        go_ret
        exact ⟨ret_bool (by rw [H2.out]; rfl), BL.out⟩
      · have H2 := Lib.hid (HS.out ho)
        have HO := Lib.hid ho
        clear ho
        go_wp2_with fail
        refine (reffit_any _ _).mono ?_
        rintro e w' ⟨rfl, rfl⟩
        rw [HO.out]
        go_wp2_with fail
        go_round
        case rel => exact ⟨j + 1, by omega, by go_num, H2.out⟩
        case measure => simp [intOf]; omega
    · have hje : j = ps.length := by omega
      subst hje
      have HPS := Lib.hid (areB_all HA.out)
      clear HA
      go_wp2_with fail
      go_loopw [5, 6] (fun i _ wr => ∃ j : Nat, j ≤ is.length ∧ i = .int .i64 j ∧ (is.take j).all snB = true ∧ Below W0.heap.size W0 wr) (fun i _ _ => is.length - (intOf i).toNat)
      case atStart => exact ⟨0, Nat.zero_le _, rfl, rfl, Below.refl _ _⟩
      case round =>
        clear hcell
        obtain ⟨j, hj, rfl, ha, hbel⟩ := hrel
        have HA := Lib.hid ha
        have HBL := Lib.hid hbel
        have hcell := (HB.out.below hbel HB.out.lt).cell
        have BW := Lib.hid (bl BL.out hbel)
        clear ha
        by_cases hlt : j < is.length
        · obtain ⟨xb, xo, rfl, hxb, hxc⟩ := I2.out.at_ hlt
          obtain ⟨x1, x2, x3⟩ := hxc j hlt
          have h1 := (BW.out.cell (p := ⟨xb, xo + j * 3, none⟩) hxb).trans x1
          have h2 := (BW.out.cell (p := ⟨xb, xo + j * 3 + 1, none⟩) hxb).trans x2
          have h3 := (BW.out.cell (p := ⟨xb, xo + j * 3 + 2, none⟩) hxb).trans x3
          clear hxc x1 x2 x3 hbel
          have HS := Lib.hid (snall_snoc hlt HA.out)
          have HN := Lib.hid (snall_no hlt)
          generalize is[j] = x at *
          obtain ⟨xi, xk, xd⟩ := x
          cases o1 : okN xi
          · have O1 := Lib.hid o1
            have H2 := Lib.hid (HN.out (by simp [snB, o1]))
            clear o1
            go_wp2_with fail
            refine (reffit_any _ _).mono ?_
            rintro e w' ⟨rfl, rfl⟩
            rw [O1.out]
            go_wp2_with fail
            go_ret
            exact ⟨ret_bool (by rw [HPS.out, H2.out]; rfl), BW.out.alloc BW.out.size _⟩
          · cases o2 : okN xd
            · have O1 := Lib.hid o1
              have O2 := Lib.hid o2
              have H2 := Lib.hid (HN.out (by simp [snB, o2]))
              clear o1 o2
              go_wp2_with fail
              refine (reffit_any _ _).mono ?_
              rintro e w' ⟨rfl, rfl⟩
              rw [O1.out]
              go_wp2_with fail
              refine (reffit_any _ _).mono ?_
              rintro e w' ⟨rfl, rfl⟩
              rw [O2.out]
              go_wp2_with fail
              go_ret
              exact ⟨ret_bool (by rw [HPS.out, H2.out]; rfl), BW.out.alloc BW.out.size _⟩
            · have O1 := Lib.hid o1
              have O2 := Lib.hid o2
              by_cases hk : xk = 0 ∨ xk = 1 ∨ xk = 2
              · have H2 := Lib.hid (HS.out (by simp [snB, o1, o2, pkB]; omega))
                clear o1 o2
                rcases hk with rfl | rfl | rfl
                all_goals
                  go_wp2_with fail
                  refine (reffit_any _ _).mono ?_
                  rintro e w' ⟨rfl, rfl⟩
                  rw [O1.out]
                  go_wp2_with fail
                  refine (reffit_any _ _).mono ?_
                  rintro e w' ⟨rfl, rfl⟩
                  rw [O2.out]
                  go_wp2_with fail
                  go_roundw
                  case rel => exact ⟨j + 1, by omega, by go_num, H2.out, HBL.out.alloc HBL.out.size _⟩
                  case measure => simp [intOf]; omega
              · have H2 := Lib.hid (HN.out (by simp [snB, pkB]; omega))
                have q0 : (xk != 0) = true := by simp; omega
                have q1 : (xk != 1) = true := by simp; omega
                have q2 : (xk != 2) = true := by simp; omega
                clear o1 o2 hk
                go_wp2_with fail
                refine (reffit_any _ _).mono ?_
                rintro e w' ⟨rfl, rfl⟩
                rw [O1.out]
                go_wp2_with fail
                refine (reffit_any _ _).mono ?_
                rintro e w' ⟨rfl, rfl⟩
                rw [O2.out]
                go_wp2_with fail
                go_ret
                exact ⟨ret_bool (by rw [HPS.out, H2.out]; rfl), BW.out.alloc BW.out.size _⟩
        · have hje : j = is.length := by omega
          subst hje
          have HIS := Lib.hid (snall_all HA.out)
          have HL := Lib.hid (show ∀ b, lastB k m c ps is = b → (areB ps && (is.all snB && lastB k m c ps is)) = b from fun b hb => by rw [HPS.out, HIS.out, hb]; rfl)
          clear HA hbel
          have pz : ((ps.length : Int) == 0) = true ∧ ps.length = 0 ∨ ((ps.length : Int) == 0) = false ∧ ¬ ps.length = 0 := by
            by_cases h : ps.length = 0
            · exact .inl ⟨by rw [h]; rfl, h⟩
            · exact .inr ⟨by rw [beq_eq_false_iff_ne]; omega, h⟩
          have iz : ((is.length : Int) == 0) = true ∧ is.length = 0 ∨ ((is.length : Int) == 0) = false ∧ ¬ is.length = 0 := by
            by_cases h : is.length = 0
            · exact .inl ⟨by rw [h]; rfl, h⟩
            · exact .inr ⟨by rw [beq_eq_false_iff_ne]; omega, h⟩
          have mz : (m == 0) = true ∧ m = 0 ∨ (m == 0) = false ∧ ¬ m = 0 := by
            by_cases h : m = 0
            · exact .inl ⟨by rw [h]; rfl, h⟩
            · exact .inr ⟨by rw [beq_eq_false_iff_ne]; omega, h⟩
          have cz : (c == 0) = true ∧ c = 0 ∨ (c == 0) = false ∧ ¬ c = 0 := by
            by_cases h : c = 0
            · exact .inl ⟨by rw [h]; rfl, h⟩
            · exact .inr ⟨by rw [beq_eq_false_iff_ne]; omega, h⟩
          by_cases hk9 : k < 9
          · have e9 : (k == 9) = false := by rw [beq_eq_false_iff_ne]; omega
            have e10 : (k == 10) = false := by rw [beq_eq_false_iff_ne]; omega
            have f9 : ¬ k = 9 := by omega
            have f10 : ¬ k = 10 := by omega
            have g9 : ¬ 9 ≤ k := by omega
            have E1 := Lib.hid f9
            have E2 := Lib.hid f10
            have E3 := Lib.hid g9
            clear f9 f10 g9
            by_cases h1 : k = 1
            · have e1 : (k == 1) = true := by rw [h1]; rfl
              rcases pz with ⟨p1, p2⟩ | ⟨p1, p2⟩
              · rcases iz with ⟨i1, i2⟩ | ⟨i1, i2⟩
                · rcases cz with ⟨c1, c2⟩ | ⟨c1, c2⟩
                  · have HV := Lib.hid (show lastB k m c ps is = true by simp [lastB, roomB, h1, p2, i2, c2])
                    clear mz p2 i2 c2 h1
                    go_wp2_with fail
                    go_ret
                    exact ⟨ret_bool (HL.out _ HV.out).symm, BW.out⟩
                  · have HV := Lib.hid (show lastB k m c ps is = false by simp [lastB, roomB, h1, p2, i2, c2])
                    clear mz p2 i2 c2 h1
                    go_wp2_with fail
                    go_ret
                    exact ⟨ret_bool (HL.out _ HV.out).symm, BW.out⟩
                · have HV := Lib.hid (show lastB k m c ps is = false by simp [lastB, roomB, h1, p2, i2])
                  clear mz cz p2 i2 h1
                  go_wp2_with fail
                  go_ret
                  exact ⟨ret_bool (HL.out _ HV.out).symm, BW.out⟩
              · have HV := Lib.hid (show lastB k m c ps is = false by simp [lastB, roomB, h1, p2])
                clear mz cz iz p2 h1
                go_wp2_with fail
                go_ret
                exact ⟨ret_bool (HL.out _ HV.out).symm, BW.out⟩
            · have e1 : (k == 1) = false := by rw [beq_eq_false_iff_ne]; exact h1
              by_cases h2 : k = 2
              · have e2 : (k == 2) = true := by rw [h2]; rfl
                rcases pz with ⟨p1, p2⟩ | ⟨p1, p2⟩
                · rcases iz with ⟨i1, i2⟩ | ⟨i1, i2⟩
                  · rcases cz with ⟨c1, c2⟩ | ⟨c1, c2⟩
                    · have HV := Lib.hid (show lastB k m c ps is = true by simp [lastB, roomB, h2, p2, i2, c2])
                      clear mz p2 i2 c2 h1 h2
                      go_wp2_with fail
                      go_ret
                      exact ⟨ret_bool (HL.out _ HV.out).symm, BW.out⟩
                    · have HV := Lib.hid (show lastB k m c ps is = false by simp [lastB, roomB, h2, p2, i2, c2])
                      clear mz p2 i2 c2 h1 h2
                      go_wp2_with fail
                      go_ret
                      exact ⟨ret_bool (HL.out _ HV.out).symm, BW.out⟩
                  · have HV := Lib.hid (show lastB k m c ps is = false by simp [lastB, roomB, h2, p2, i2])
                    clear mz cz p2 i2 h1 h2
                    go_wp2_with fail
                    go_ret
                    exact ⟨ret_bool (HL.out _ HV.out).symm, BW.out⟩
                · have HV := Lib.hid (show lastB k m c ps is = false by simp [lastB, roomB, h2, p2])
                  clear mz cz iz p2 h1 h2
                  go_wp2_with fail
                  go_ret
                  exact ⟨ret_bool (HL.out _ HV.out).symm, BW.out⟩
              · have e2 : (k == 2) = false := by rw [beq_eq_false_iff_ne]; exact h2
                rcases mz with ⟨m1, m2⟩ | ⟨m1, m2⟩
                · rcases pz with ⟨p1, p2⟩ | ⟨p1, p2⟩
                  · rcases iz with ⟨i1, i2⟩ | ⟨i1, i2⟩
                    · rcases cz with ⟨c1, c2⟩ | ⟨c1, c2⟩
                      · have HV := Lib.hid (show lastB k m c ps is = true by simp [lastB, roomB, h1, h2, E1.out, E2.out, E3.out, m2, p2, i2, c2])
                        clear m2 p2 i2 c2 h1 h2
                        go_wp2_with fail
                        go_ret
                        exact ⟨ret_bool (HL.out _ HV.out).symm, BW.out⟩
                      · have HV := Lib.hid (show lastB k m c ps is = false by simp [lastB, roomB, h1, h2, E1.out, E2.out, E3.out, m2, p2, i2, c2])
                        clear m2 p2 i2 c2 h1 h2
                        go_wp2_with fail
                        go_ret
                        exact ⟨ret_bool (HL.out _ HV.out).symm, BW.out⟩
                    · have HV := Lib.hid (show lastB k m c ps is = false by simp [lastB, roomB, h1, h2, E1.out, E2.out, E3.out, m2, p2, i2])
                      clear m2 cz p2 i2 h1 h2
                      go_wp2_with fail
                      go_ret
                      exact ⟨ret_bool (HL.out _ HV.out).symm, BW.out⟩
                  · have HV := Lib.hid (show lastB k m c ps is = false by simp [lastB, roomB, h1, h2, E1.out, E2.out, E3.out, m2, p2])
                    clear m2 cz iz p2 h1 h2
                    go_wp2_with fail
                    go_ret
                    exact ⟨ret_bool (HL.out _ HV.out).symm, BW.out⟩
                · have HV := Lib.hid (show lastB k m c ps is = false by simp [lastB, roomB, h1, h2, E1.out, m2])
                  clear pz iz cz m2 h1 h2
                  go_wp2_with fail
                  go_ret
                  exact ⟨ret_bool (HL.out _ HV.out).symm, BW.out⟩
          · have e1 : (k == 1) = false := by rw [beq_eq_false_iff_ne]; omega
            have e2 : (k == 2) = false := by rw [beq_eq_false_iff_ne]; omega
            have g9 : 9 ≤ k := by omega
            by_cases h9 : k = 9
            · subst h9
              rcases cz with ⟨c1, c2⟩ | ⟨c1, c2⟩
              · have HV := Lib.hid (show lastB 9 m c ps is = true by simp [lastB, roomB, c2])
                clear pz iz mz c2 e1 e2 hk9 g9
                go_wp2_with fail
                go_ret
                exact ⟨ret_bool (HL.out _ HV.out).symm, BW.out⟩
              · have HV := Lib.hid (show lastB 9 m c ps is = false by simp [lastB, roomB, c2])
                clear pz iz mz c2 e1 e2 hk9 g9
                go_wp2_with fail
                go_ret
                exact ⟨ret_bool (HL.out _ HV.out).symm, BW.out⟩
            · have h10 : k = 10 := by omega
              subst h10
              rcases mz with ⟨m1, m2⟩ | ⟨m1, m2⟩
              · rcases pz with ⟨p1, p2⟩ | ⟨p1, p2⟩
                · have HV := Lib.hid (show lastB 10 m c ps is = true by simp [lastB, roomB, m2, p2])
                  clear iz cz m2 p2 e1 e2 hk9 g9 h9
                  go_wp2_with fail
                  go_ret
                  exact ⟨ret_bool (HL.out _ HV.out).symm, BW.out⟩
                · have HV := Lib.hid (show lastB 10 m c ps is = false by simp [lastB, roomB, m2, p2])
                  clear iz cz m2 p2 e1 e2 hk9 g9 h9
                  go_wp2_with fail
                  go_ret
                  exact ⟨ret_bool (HL.out _ HV.out).symm, BW.out⟩
              · have HV := Lib.hid (show lastB 10 m c ps is = false by simp [lastB, roomB, m2])
                clear iz cz pz m2 e1 e2 hk9 g9 h9
                go_wp2_with fail
                go_ret
                exact ⟨ret_bool (HL.out _ HV.out).symm, BW.out⟩
end
theorem rrefmay_any (r : Rp) (pa ia : Option Addr) (pc ic : Nat) (w : World) (h1 : IntsAt w pa r.players) (h2 : SnsAt w ia r.items) :
    Calls Try.prog 18 #[.agg #[.int .i64 r.err, .int .i64 r.kind, .int .i64 r.room, .slice pa r.players.length pc, .slice ia r.items.length ic, .int .i64 r.coins]] w fun e w' => e = .returned (.bool (rmayB r)) ∧ Below w.heap.size w w' := by
  rw [rmay_eq]
  obtain ⟨e, k, m, ps, is, c⟩ := r
  simp only at h1 h2 ⊢
  unfold rrefB
  by_cases he : e < 0 ∨ 13 < e
  · rw [if_pos he]
    exact refmay_out k m c ps is pa ia pc ic w e he
  · rw [if_neg he]
    by_cases h0 : e = 0
    · subst h0
      rw [if_neg (by simp)]
      by_cases hd : k < 1 ∨ 10 < k ∨ okN m = false ∨ okN c = false ∨ 16 < ps.length ∨ 16 < is.length
      · rw [if_pos hd]
        exact refmay_head k m c ps is pa ia pc ic w hd h1.len h2.len
      · rw [if_neg hd]
        have hm : okN m = true := by cases h : okN m <;> simp_all
        have hc : okN c = true := by cases h : okN c <;> simp_all
        have := refmay_body k m c ps is pa ia pc ic w (by omega) (by omega) hm hc (by omega) (by omega) h1 h2
        refine this.mono ?_
        rintro e w' ⟨rfl, hb⟩
        refine ⟨ret_bool ?_, hb⟩
        cases areB ps <;> cases is.all snB <;> simp [lastB]
    · rw [if_pos h0]
      exact refmay_err k m c ps is pa ia pc ic w e (by omega) (by omega) (by simpa using h0) h1 h2
end Go.Proofs.Ytojfichbnnfjpaa
