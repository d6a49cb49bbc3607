/- The document's own Same, Few, of commands. -/
import Derived.Test.YtdioigidilmbkaaDoorRows
import Derived.Test.YtdioigidilmbkaaDoorKit
import Derived.Test.YtdioigidilmbkaaDoorStrs
import Derived.Test.YtdioigidilmbkaaDoorCmdMath
import Derived.Test.YtdioigidilmbkaaDoorCmdA
import Derived.Test.YtdioigidilmbkaaDoorCmdInts
import Derived.Test.YtdioigidilmbkaaDoorHolds
import Derived.Deep.QuietTactic
import Derived.BigQuiet
import Derived.WalkKit
import Derived.ProofKit
import Derived.OpenShut
import Derived.IntWalk
namespace Go.Proofs.YtdioigidilmbkaaDoor
open Go.ChangeShapes Go.WideShapes Go.ChangeAt Go.RowKit
set_option linter.unusedVariables false
open Go.RowKit
theorem bcell {W w1 : World} (hb : Below W.heap.size W w1) : ∀ b o, b < W.heap.size → w1.cell? ⟨b, o, none⟩ = W.cell? ⟨b, o, none⟩ := fun b o h => hb.cell (p := ⟨b, o, none⟩) h
set_option maxRecDepth 100000 in
theorem refsame_no (a1 a2 a3 a4 a5 a7 a9 b1 b2 b3 b4 b5 b7 b9 : Int) (a6 a8 b6 b8 : List Int) (ga wa gb wb : Option Addr) (gca wca gcb wcb : Nat) (w : World) (hn : ¬ (a1 = b1 ∧ a2 = b2 ∧ a3 = b3 ∧ a4 = b4 ∧ a5 = b5 ∧ a7 = b7 ∧ a9 = b9)) :
    Calls Tryd.prog 12 #[.agg #[.int .i64 a1, .int .i64 a2, .int .i64 a3, .int .i64 a4, .int .i64 a5, .slice ga a6.length gca, .int .i64 a7, .slice wa a8.length wca, .int .i64 a9], .agg #[.int .i64 b1, .int .i64 b2, .int .i64 b3, .int .i64 b4, .int .i64 b5, .slice gb b6.length gcb, .int .i64 b7, .slice wb b8.length wcb, .int .i64 b9]] w fun e w' => e = .returned (.bool false) ∧ Below w.heap.size w w' := by
  by_cases e1 : a1 = b1
  case neg =>
    have hd : (a1 == b1) = false := by rw [beq_eq_false_iff_ne]; exact e1
    clear hn e1
    go_enter Tryd.func12, Tryd.ntmps12
    go_wp2_with fail
    go_ret
    exact ⟨rfl, ((Below.refl _ _).alloc (Nat.le_refl _) _).alloc (by simp) _⟩
  subst e1
  by_cases e2 : a2 = b2
  case neg =>
    have hd : (a2 == b2) = false := by rw [beq_eq_false_iff_ne]; exact e2
    clear hn e2
    go_enter Tryd.func12, Tryd.ntmps12
    go_wp2_with fail
    go_ret
    exact ⟨rfl, ((Below.refl _ _).alloc (Nat.le_refl _) _).alloc (by simp) _⟩
  subst e2
  by_cases e3 : a3 = b3
  case neg =>
    have hd : (a3 == b3) = false := by rw [beq_eq_false_iff_ne]; exact e3
    clear hn e3
    go_enter Tryd.func12, Tryd.ntmps12
    go_wp2_with fail
    go_ret
    exact ⟨rfl, ((Below.refl _ _).alloc (Nat.le_refl _) _).alloc (by simp) _⟩
  subst e3
  by_cases e4 : a4 = b4
  case neg =>
    have hd : (a4 == b4) = false := by rw [beq_eq_false_iff_ne]; exact e4
    clear hn e4
    go_enter Tryd.func12, Tryd.ntmps12
    go_wp2_with fail
    go_ret
    exact ⟨rfl, ((Below.refl _ _).alloc (Nat.le_refl _) _).alloc (by simp) _⟩
  subst e4
  by_cases e5 : a5 = b5
  case neg =>
    have hd : (a5 == b5) = false := by rw [beq_eq_false_iff_ne]; exact e5
    clear hn e5
    go_enter Tryd.func12, Tryd.ntmps12
    go_wp2_with fail
    go_ret
    exact ⟨rfl, ((Below.refl _ _).alloc (Nat.le_refl _) _).alloc (by simp) _⟩
  subst e5
  by_cases e7 : a7 = b7
  case neg =>
    have hd : (a7 == b7) = false := by rw [beq_eq_false_iff_ne]; exact e7
    clear hn e7
    go_enter Tryd.func12, Tryd.ntmps12
    go_wp2_with fail
    go_ret
    exact ⟨rfl, ((Below.refl _ _).alloc (Nat.le_refl _) _).alloc (by simp) _⟩
  subst e7
  by_cases e9 : a9 = b9
  case neg =>
    have hd : (a9 == b9) = false := by rw [beq_eq_false_iff_ne]; exact e9
    clear hn e9
    go_enter Tryd.func12, Tryd.ntmps12
    go_wp2_with fail
    go_ret
    exact ⟨rfl, ((Below.refl _ _).alloc (Nat.le_refl _) _).alloc (by simp) _⟩
  subst e9
  exact absurd ⟨rfl, rfl, rfl, rfl, rfl, rfl, rfl⟩ hn
set_option maxRecDepth 100000 in
theorem refsame_yes (v : Bool) (a1 a2 a3 a4 a5 a7 a9 : Int) (a6 a8 b6 b8 : List Int) (ga wa gb wb : Option Addr) (gca wca gcb wcb : Nat) (w : World) (hg : decide (a6 = b6) = v) (h1 : IntsAt w ga a6) (h2 : IntsAt w wa a8) (h3 : IntsAt w gb b6) (h4 : IntsAt w wb b8) :
    Calls Tryd.prog 12 #[.agg #[.int .i64 a1, .int .i64 a2, .int .i64 a3, .int .i64 a4, .int .i64 a5, .slice ga a6.length gca, .int .i64 a7, .slice wa a8.length wca, .int .i64 a9], .agg #[.int .i64 a1, .int .i64 a2, .int .i64 a3, .int .i64 a4, .int .i64 a5, .slice gb b6.length gcb, .int .i64 a7, .slice wb b8.length wcb, .int .i64 a9]] w fun e w' => e = .returned (.bool (v && decide (a8 = b8))) ∧ Below w.heap.size w w' := by
  have HG := Lib.hid hg
  have H1 := Lib.hid h1
  have H2 := Lib.hid h2
  have H3 := Lib.hid h3
  have H4 := Lib.hid h4
  clear hg h1 h2 h3 h4
  cases v
  all_goals
    go_enter Tryd.func12, Tryd.ntmps12
    go_wp2_with fail
    refine (ints_any _ _ _ _ _ _ _ ((H1.out.alloc _).alloc _) ((H3.out.alloc _).alloc _)).mono ?_
    rintro e w1 ⟨rfl, hb⟩
    rw [HG.out]
    have hbw := Lib.hid ((((Below.refl _ w).alloc (Nat.le_refl _) _).alloc (by simp) _).trans (hb.mono (by simp; omega)))
    have hc := bcell hb
    have HB := Lib.hid hb
    clear hb
    go_wp2_with fail
    try (refine (ints_any _ _ _ _ _ _ _ (((H2.out.alloc _).alloc _).below HB.out (Nat.le_refl _)) (((H4.out.alloc _).alloc _).below HB.out (Nat.le_refl _))).mono ?_; rintro e w2 ⟨rfl, hb2⟩; have hbw := Lib.hid (bl hbw.out hb2); clear hb2; go_wp2_with fail)
    go_ret
    exact ⟨by simp, hbw.out⟩

theorem refsame_any (a b : Cm) (ga wa gb wb : Option Addr) (gca wca gcb wcb : Nat) (w : World) (h1 : IntsAt w ga a.gives) (h2 : IntsAt w wa a.wants) (h3 : IntsAt w gb b.gives) (h4 : IntsAt w wb b.wants) :
    Calls Tryd.prog 12 #[.agg #[.int .i64 a.kind, .int .i64 a.dir, .int .i64 a.item, .int .i64 a.box, .int .i64 a.who, .slice ga a.gives.length gca, .int .i64 a.pay, .slice wa a.wants.length wca, .int .i64 a.fee], .agg #[.int .i64 b.kind, .int .i64 b.dir, .int .i64 b.item, .int .i64 b.box, .int .i64 b.who, .slice gb b.gives.length gcb, .int .i64 b.pay, .slice wb b.wants.length wcb, .int .i64 b.fee]] w fun e w' => e = .returned (.bool (sameB a b)) ∧ Below w.heap.size w w' := by
  obtain ⟨a1, a2, a3, a4, a5, a6, a7, a8, a9⟩ := a
  obtain ⟨b1, b2, b3, b4, b5, b6, b7, b8, b9⟩ := b
  by_cases h : a1 = b1 ∧ a2 = b2 ∧ a3 = b3 ∧ a4 = b4 ∧ a5 = b5 ∧ a7 = b7 ∧ a9 = b9
  · obtain ⟨rfl, rfl, rfl, rfl, rfl, rfl, rfl⟩ := h
    rw [show sameB ⟨a1, a2, a3, a4, a5, a6, a7, a8, a9⟩ ⟨a1, a2, a3, a4, a5, b6, a7, b8, a9⟩ = (decide (a6 = b6) && decide (a8 = b8)) by simp [sameB, numsB]]
    exact refsame_yes _ a1 a2 a3 a4 a5 a7 a9 a6 a8 b6 b8 ga wa gb wb gca wca gcb wcb w rfl h1 h2 h3 h4
  · rw [show sameB ⟨a1, a2, a3, a4, a5, a6, a7, a8, a9⟩ ⟨b1, b2, b3, b4, b5, b6, b7, b8, b9⟩ = false by simp only [sameB, numsB, decide_eq_false h, Bool.false_and]]
    exact refsame_no a1 a2 a3 a4 a5 a7 a9 b1 b2 b3 b4 b5 b7 b9 a6 a8 b6 b8 ga wa gb wb gca wca gcb wcb w h

def fewB (c : Cm) : Bool := decide (c.gives.length ≤ 40) && decide (c.wants.length ≤ 40)
theorem few_any (c : Cm) (ga wa : Option Addr) (gc wc : Nat) (w : World) (h1 : IntsAt w ga c.gives) (h2 : IntsAt w wa c.wants) :
    Calls Tryd.prog 8 #[.agg #[.int .i64 c.kind, .int .i64 c.dir, .int .i64 c.item, .int .i64 c.box, .int .i64 c.who, .slice ga c.gives.length gc, .int .i64 c.pay, .slice wa c.wants.length wc, .int .i64 c.fee]] w fun e w' => e = .returned (.bool (fewB c)) ∧ Below w.heap.size w w' := by
  have l1 := h1.len
  have l2 := h2.len
  clear h1 h2
  by_cases k1 : c.gives.length ≤ 40
  · by_cases k2 : c.wants.length ≤ 40
    · have HF := Lib.hid (show fewB c = true by simp [fewB, k1, k2])
      go_enter Tryd.func8, Tryd.ntmps8
      go_wp2_with fail
      go_ret
      exact ⟨by rw [HF.out]; simp; omega, (Below.refl _ _).alloc (Nat.le_refl _) _⟩
    · have HF := Lib.hid (show fewB c = false by simp [fewB, k2])
      go_enter Tryd.func8, Tryd.ntmps8
      go_wp2_with fail
      go_ret
      exact ⟨by rw [HF.out]; simp; omega, (Below.refl _ _).alloc (Nat.le_refl _) _⟩
  · have HF := Lib.hid (show fewB c = false by simp [fewB, k1])
    go_enter Tryd.func8, Tryd.ntmps8
    go_wp2_with fail
    go_ret
    exact ⟨ret_bool HF.out.symm, (Below.refl _ _).alloc (Nat.le_refl _) _⟩
end Go.Proofs.YtdioigidilmbkaaDoor
