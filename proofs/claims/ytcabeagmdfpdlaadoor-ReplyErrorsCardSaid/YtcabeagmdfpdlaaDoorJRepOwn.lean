import Derived.Test.YtcabeagmdfpdlaaDoorRows
import Derived.Test.YtcabeagmdfpdlaaDoorKit
import Derived.Test.YtcabeagmdfpdlaaDoorStrs
import Derived.Test.YtcabeagmdfpdlaaDoorJMath
import Derived.Test.YtcabeagmdfpdlaaDoorJCmdA
import Derived.Test.YtcabeagmdfpdlaaDoorJRepMath
import Derived.Test.YtcabeagmdfpdlaaDoorJRepItems
import Derived.Test.YtcabeagmdfpdlaaDoorJRepA
import Derived.Test.YtcabeagmdfpdlaaDoorJTab
import Derived.Deep.QuietTactic
import Derived.BigQuiet
import Derived.RegionTactic
import Derived.BigRegion
import Derived.WalkKit
import Derived.ProofKit
import Derived.OpenShut
import Derived.IntWalk
/- reply: within, own. -/
namespace Go.Proofs.YtcabeagmdfpdlaaDoor
open Go.ChangeShapes Go.WideShapes Go.ChangeAt Go.RowKit
set_option linter.unusedVariables false
open Go.RowKit
theorem rwithin_head (r : Rp) (pa ia : Option Addr) (pc ic : Nat) (w : World) (hn : (decide (0 ≤ r.err) && decide (r.err ≤ 13) && decide (0 ≤ r.kind) && decide (r.kind ≤ 10)) = false) :
    Calls Tryd.prog 22 #[.agg #[.int .i64 r.err, .int .i64 r.kind, .int .i64 r.room, .slice pa r.players.length pc, .slice ia r.items.length ic, .int .i64 r.coins]] w fun e w' => e = .returned (.bool false) ∧ Below w.heap.size w w' := by
  obtain ⟨e, k, m, ps, is, c⟩ := r
  simp only at hn ⊢
  by_cases h1 : 0 ≤ e
  · by_cases h2 : e ≤ 13
    · by_cases h3 : 0 ≤ k
      · by_cases h4 : k ≤ 10
        · simp [h1, h2, h3, h4] at hn
        · clear hn
          go_enter Tryd.func22, Tryd.ntmps22
          go_wp2_with fail
          go_ret
          exact ⟨rfl, (Below.refl _ _).alloc (Nat.le_refl _) _⟩
      · clear hn
        go_enter Tryd.func22, Tryd.ntmps22
        go_wp2_with fail
        go_ret
        exact ⟨rfl, (Below.refl _ _).alloc (Nat.le_refl _) _⟩
    · clear hn
      go_enter Tryd.func22, Tryd.ntmps22
      go_wp2_with fail
      go_ret
      exact ⟨rfl, (Below.refl _ _).alloc (Nat.le_refl _) _⟩
  · clear hn
    go_enter Tryd.func22, Tryd.ntmps22
    go_wp2_with fail
    go_ret
    exact ⟨rfl, (Below.refl _ _).alloc (Nat.le_refl _) _⟩
theorem rwithin_any (r : Rp) (pa ia : Option Addr) (pc ic : Nat) (w : World) (h1 : IntsAt w pa r.players) (h2 : SnsAt w ia r.items) :
    Calls Tryd.prog 22 #[.agg #[.int .i64 r.err, .int .i64 r.kind, .int .i64 r.room, .slice pa r.players.length pc, .slice ia r.items.length ic, .int .i64 r.coins]] w fun e w' => e = .returned (.bool (rwithinB r)) ∧ Below w.heap.size w w' := by
  cases hn : (decide (0 ≤ r.err) && decide (r.err ≤ 13) && decide (0 ≤ r.kind) && decide (r.kind ≤ 10))
  · rw [show rwithinB r = false by unfold rwithinB; rw [hn]; rfl]
    exact rwithin_head r pa ia pc ic w hn
  · have e0 : rwithinB r = (areB [r.room, r.coins] && plB r.players && itB r.items) := by unfold rwithinB; rw [hn]; simp
    simp only [Bool.and_eq_true, decide_eq_true_eq] at hn
    obtain ⟨⟨⟨n1, n2⟩, n3⟩, n4⟩ := hn
    have H1 := Lib.hid h1
    have H2 := Lib.hid h2
    clear h1 h2
    cases k2 : areB [r.room, r.coins]
    · have K2 := Lib.hid k2
      have HB := Lib.hid (show rwithinB r = false by rw [e0, k2]; rfl)
      clear k2 e0
      go_enter Tryd.func22, Tryd.ntmps22
      go_wp2_with fail
      refine (rare_two _ _ _ _ (by simp)).mono ?_
      rintro e w' ⟨rfl, rfl⟩
      rw [K2.out]
      go_wp2_with fail
      go_ret
      exact ⟨ret_bool HB.out.symm, ((Below.refl _ _).alloc (Nat.le_refl _) _).alloc (by simp) _⟩
    · cases k3 : plB r.players
      · have K2 := Lib.hid k2
        have K3 := Lib.hid k3
        have HB := Lib.hid (show rwithinB r = false by rw [e0, k2, k3]; rfl)
        clear k2 k3 e0
        go_enter Tryd.func22, Tryd.ntmps22
        go_wp2_with fail
        refine (rare_two _ _ _ _ (by simp)).mono ?_
        rintro e w' ⟨rfl, rfl⟩
        rw [K2.out]
        go_wp2_with fail
        refine (rplayers_any _ _ _ _ ((H1.out.alloc _).alloc _)).mono ?_
        rintro e w' ⟨rfl, rfl⟩
        rw [K3.out]
        go_wp2_with fail
        go_ret
        exact ⟨ret_bool HB.out.symm, ((Below.refl _ _).alloc (Nat.le_refl _) _).alloc (by simp) _⟩
      · have K2 := Lib.hid k2
        have K3 := Lib.hid k3
        have HB := Lib.hid (show rwithinB r = itB r.items by rw [e0, k2, k3]; rfl)
        clear k2 k3 e0
        go_enter Tryd.func22, Tryd.ntmps22
        go_wp2_with fail
        refine (rare_two _ _ _ _ (by simp)).mono ?_
        rintro e w' ⟨rfl, rfl⟩
        rw [K2.out]
        go_wp2_with fail
        refine (rplayers_any _ _ _ _ ((H1.out.alloc _).alloc _)).mono ?_
        rintro e w' ⟨rfl, rfl⟩
        rw [K3.out]
        go_wp2_with fail
        refine (ritems_any _ _ _ _ ((H2.out.alloc _).alloc _)).mono ?_
        rintro e w1 ⟨rfl, b1⟩
        have B1 := Lib.hid b1
        clear b1
        go_wp2_with fail
        go_ret
        exact ⟨ret_bool HB.out.symm, bl (((Below.refl _ _).alloc (Nat.le_refl _) _).alloc (by simp) _) B1.out⟩
/-- What a call hands back: an answer, in memory of which all that was there is as it was. -/
def GivesRep (r : Rp) (w : World) (e : Ending) (w' : World) : Prop :=
  ∃ pa pc ia ic, e = .returned (.agg #[.int .i64 r.err, .int .i64 r.kind, .int .i64 r.room, .slice pa r.players.length pc, .slice ia r.items.length ic, .int .i64 r.coins]) ∧ IntsAt w' pa r.players ∧ SnsAt w' ia r.items ∧ Below w.heap.size w w'
theorem rown_err (r : Rp) (pa ia : Option Addr) (pc ic : Nat) (w : World) (he : ¬ r.err = 0) :
    Calls Tryd.prog 23 #[.agg #[.int .i64 r.err, .int .i64 r.kind, .int .i64 r.room, .slice pa r.players.length pc, .slice ia r.items.length ic, .int .i64 r.coins]] w fun e w' => e = .returned (.agg #[.int .i64 r.err, .int .i64 0, .int .i64 0, .slice none 0 0, .slice none 0 0, .int .i64 0]) ∧ Below w.heap.size w w' := by
  have hd : (r.err != 0) = true := by simpa using he
  clear he
  obtain ⟨e, k, m, ps, is, c⟩ := r
  simp only at hd ⊢
  go_enter Tryd.func23, Tryd.ntmps23
  go_wp2_with fail
  refine bodyPost_ret (v := .agg #[.int .i64 e, .int .i64 0, .int .i64 0, .slice none 0 0, .slice none 0 0, .int .i64 0]) (by simp [results, Tryd.results23, go_sem]) rfl ⟨rfl, ?_⟩
  repeat (first | exact Below.refl _ _ | refine Below.drew ?_ | refine Below.setCell ?_ (by simp) _ | refine Below.alloc ?_ (by first | (simp; done) | (simp; omega)) _)
theorem rown_move (v : Int) (hv : v = 1 ∨ v = 2) (m c : Int) (ps : List Int) (is : List Sn) (pa ia : Option Addr) (pc ic : Nat) (w : World) :
    Calls Tryd.prog 23 #[.agg #[.int .i64 0, .int .i64 v, .int .i64 m, .slice pa ps.length pc, .slice ia is.length ic, .int .i64 c]] w fun e w' => e = .returned (.agg #[.int .i64 0, .int .i64 v, .int .i64 m, .slice none 0 0, .slice none 0 0, .int .i64 0]) ∧ Below w.heap.size w w' := by
  rcases hv with rfl | rfl
  all_goals
    go_enter Tryd.func23, Tryd.ntmps23
    go_wp2_with fail
    refine bodyPost_ret (v := .agg #[.int .i64 0, .int .i64 _, .int .i64 m, .slice none 0 0, .slice none 0 0, .int .i64 0]) (by simp [results, Tryd.results23, go_sem]) rfl ⟨rfl, ?_⟩
    repeat (first | exact Below.refl _ _ | refine Below.drew ?_ | refine Below.setCell ?_ (by simp) _ | refine Below.alloc ?_ (by first | (simp; done) | (simp; omega)) _)
theorem rown_look (m c : Int) (ps : List Int) (is : List Sn) (pa ia : Option Addr) (pc ic : Nat) (w : World) :
    Calls Tryd.prog 23 #[.agg #[.int .i64 0, .int .i64 9, .int .i64 m, .slice pa ps.length pc, .slice ia is.length ic, .int .i64 c]] w fun e w' => e = .returned (.agg #[.int .i64 0, .int .i64 9, .int .i64 m, .slice pa ps.length pc, .slice ia is.length ic, .int .i64 0]) ∧ Below w.heap.size w w' := by
  go_enter Tryd.func23, Tryd.ntmps23
  go_wp2_with fail
  go_region
  go_wp2_with fail
  refine bodyPost_ret (v := .agg #[.int .i64 0, .int .i64 9, .int .i64 m, .slice pa ps.length pc, .slice ia is.length ic, .int .i64 0]) (by simp [results, Tryd.results23, go_sem]) rfl ⟨rfl, ?_⟩
  repeat (first | exact Below.refl _ _ | refine Below.drew ?_ | refine Below.setCell ?_ (by simp) _ | refine Below.alloc ?_ (by first | (simp; done) | (simp; omega)) _)
theorem rown_own (m c : Int) (ps : List Int) (is : List Sn) (pa ia : Option Addr) (pc ic : Nat) (w : World) :
    Calls Tryd.prog 23 #[.agg #[.int .i64 0, .int .i64 10, .int .i64 m, .slice pa ps.length pc, .slice ia is.length ic, .int .i64 c]] w fun e w' => e = .returned (.agg #[.int .i64 0, .int .i64 10, .int .i64 0, .slice none 0 0, .slice ia is.length ic, .int .i64 c]) ∧ Below w.heap.size w w' := by
  go_enter Tryd.func23, Tryd.ntmps23
  go_wp2_with fail
  go_region
  go_wp2_with fail
  refine bodyPost_ret (v := .agg #[.int .i64 0, .int .i64 10, .int .i64 0, .slice none 0 0, .slice ia is.length ic, .int .i64 c]) (by simp [results, Tryd.results23, go_sem]) rfl ⟨rfl, ?_⟩
  repeat (first | exact Below.refl _ _ | refine Below.drew ?_ | refine Below.setCell ?_ (by simp) _ | refine Below.alloc ?_ (by first | (simp; done) | (simp; omega)) _)
theorem rown_else (k m c : Int) (ps : List Int) (is : List Sn) (pa ia : Option Addr) (pc ic : Nat) (w : World) (h1 : (k == 1) = false) (h2 : (k == 2) = false) (h3 : (k == 9) = false) (h4 : (k == 10) = false) :
    Calls Tryd.prog 23 #[.agg #[.int .i64 0, .int .i64 k, .int .i64 m, .slice pa ps.length pc, .slice ia is.length ic, .int .i64 c]] w fun e w' => e = .returned (.agg #[.int .i64 0, .int .i64 k, .int .i64 0, .slice none 0 0, .slice none 0 0, .int .i64 0]) ∧ Below w.heap.size w w' := by
  go_enter Tryd.func23, Tryd.ntmps23
  go_wp2_with fail
  refine bodyPost_ret (v := .agg #[.int .i64 0, .int .i64 k, .int .i64 0, .slice none 0 0, .slice none 0 0, .int .i64 0]) (by simp [results, Tryd.results23, go_sem]) rfl ⟨rfl, ?_⟩
  repeat (first | exact Below.refl _ _ | refine Below.drew ?_ | refine Below.setCell ?_ (by simp) _ | refine Below.alloc ?_ (by first | (simp; done) | (simp; omega)) _)
theorem rown_any (r : Rp) (pa ia : Option Addr) (pc ic : Nat) (w : World) (h1 : IntsAt w pa r.players) (h2 : SnsAt w ia r.items) :
    Calls Tryd.prog 23 #[.agg #[.int .i64 r.err, .int .i64 r.kind, .int .i64 r.room, .slice pa r.players.length pc, .slice ia r.items.length ic, .int .i64 r.coins]] w (GivesRep (ownR r) w) := by
  obtain ⟨e, k, m, ps, is, c⟩ := r
  simp only at h1 h2 ⊢
  by_cases he : e = 0
  · subst he
    by_cases hv : k = 1 ∨ k = 2
    · exact (rown_move k hv m c ps is pa ia pc ic w).mono fun e w1 ⟨he, hb⟩ => ⟨none, 0, none, 0, by rw [he]; simp [ownR, hv], by simpa [ownR, hv] using IntsAt.nil _ _, by simpa [ownR, hv] using SnsAt.nil _ _, hb⟩
    · by_cases h9 : k = 9
      · subst h9
        exact (rown_look m c ps is pa ia pc ic w).mono fun e w1 ⟨he, hb⟩ => ⟨pa, pc, ia, ic, by rw [he]; simp [ownR], by simpa [ownR] using h1.below hb (Nat.le_refl _), by simpa [ownR] using h2.below hb (Nat.le_refl _), hb⟩
      · by_cases h10 : k = 10
        · subst h10
          exact (rown_own m c ps is pa ia pc ic w).mono fun e w1 ⟨he, hb⟩ => ⟨none, 0, ia, ic, by rw [he]; simp [ownR], by simpa [ownR] using IntsAt.nil _ _, by simpa [ownR] using h2.below hb (Nat.le_refl _), hb⟩
        · exact (rown_else k m c ps is pa ia pc ic w (by rw [beq_eq_false_iff_ne]; omega) (by rw [beq_eq_false_iff_ne]; omega) (by rw [beq_eq_false_iff_ne]; omega) (by rw [beq_eq_false_iff_ne]; omega)).mono fun e w1 ⟨he, hb⟩ => ⟨none, 0, none, 0, by rw [he]; simp [ownR, hv, h9, h10], by simpa [ownR, hv, h9, h10] using IntsAt.nil _ _, by simpa [ownR, hv, h9, h10] using SnsAt.nil _ _, hb⟩
  · have := rown_err ⟨e, k, m, ps, is, c⟩ pa ia pc ic w he
    exact this.mono fun e' w1 ⟨he', hb⟩ => ⟨none, 0, none, 0, by rw [he']; simp [ownR, he], by simpa [ownR, he] using IntsAt.nil _ _, by simpa [ownR, he] using SnsAt.nil _ _, hb⟩
end Go.Proofs.YtcabeagmdfpdlaaDoor
