/- Answers held against one another: reply.Same, and the document's own Same, Few. -/
import Derived.Test.YtojfichbnnfjpaaRows
import Derived.Test.YtojfichbnnfjpaaKit
import Derived.Test.YtojfichbnnfjpaaGMem
import Derived.Test.YtojfichbnnfjpaaCmdMath
import Derived.Test.YtojfichbnnfjpaaGWorld
import Derived.Test.YtojfichbnnfjpaaRepMath
import Derived.Deep.QuietTactic
import Derived.BigQuiet
import Derived.WalkKit
import Derived.ProofKit
import Derived.OpenShut
import Derived.IntWalk
namespace Go.Proofs.Ytojfichbnnfjpaa
open Go.ChangeShapes Go.WideShapes Go.ChangeAt Go.RowKit
set_option linter.unusedVariables false
open Go.RowKit
theorem rbcell {W w1 : World} (hb : Below W.heap.size W w1) : ∀ b o, b < W.heap.size → w1.cell? ⟨b, o, none⟩ = W.cell? ⟨b, o, none⟩ := fun b o h => hb.cell (p := ⟨b, o, none⟩) h
set_option maxRecDepth 100000 in
theorem rrefsame_no (a1 a2 a3 a6 b1 b2 b3 b6 : Int) (ap bp : List Int) (ai bi : List Sn) (pa ia pb ib : Option Addr) (pc ic pcb icb : Nat) (w : World) (hn : ¬ (a1 = b1 ∧ a2 = b2 ∧ a3 = b3 ∧ a6 = b6)) :
    Calls Try.prog 10 #[.agg #[.int .i64 a1, .int .i64 a2, .int .i64 a3, .slice pa ap.length pc, .slice ia ai.length ic, .int .i64 a6], .agg #[.int .i64 b1, .int .i64 b2, .int .i64 b3, .slice pb bp.length pcb, .slice ib bi.length icb, .int .i64 b6]] w fun e w' => e = .returned (.bool false) ∧ Below w.heap.size w w' := by
  by_cases e1 : a1 = b1
  case neg =>
    have hd : (a1 == b1) = false := by rw [beq_eq_false_iff_ne]; exact e1
    clear hn e1
    go_enter Try.func10, Try.ntmps10
    go_wp2_with fail
    go_ret
    exact ⟨rfl, ((Below.refl _ _).alloc (Nat.le_refl _) _).alloc (by simp) _⟩
  subst e1
  by_cases e2 : a2 = b2
  case neg =>
    have hd : (a2 == b2) = false := by rw [beq_eq_false_iff_ne]; exact e2
    clear hn e2
    go_enter Try.func10, Try.ntmps10
    go_wp2_with fail
    go_ret
    exact ⟨rfl, ((Below.refl _ _).alloc (Nat.le_refl _) _).alloc (by simp) _⟩
  subst e2
  by_cases e3 : a3 = b3
  case neg =>
    have hd : (a3 == b3) = false := by rw [beq_eq_false_iff_ne]; exact e3
    clear hn e3
    go_enter Try.func10, Try.ntmps10
    go_wp2_with fail
    go_ret
    exact ⟨rfl, ((Below.refl _ _).alloc (Nat.le_refl _) _).alloc (by simp) _⟩
  subst e3
  by_cases e6 : a6 = b6
  case neg =>
    have hd : (a6 == b6) = false := by rw [beq_eq_false_iff_ne]; exact e6
    clear hn e6
    go_enter Try.func10, Try.ntmps10
    go_wp2_with fail
    go_ret
    exact ⟨rfl, ((Below.refl _ _).alloc (Nat.le_refl _) _).alloc (by simp) _⟩
  subst e6
  exact absurd ⟨rfl, rfl, rfl, rfl⟩ hn
set_option maxRecDepth 100000 in
theorem rrefsame_yes (v : Bool) (a1 a2 a3 a6 : Int) (ap bp : List Int) (ai bi : List Sn) (pa ia pb ib : Option Addr) (pc ic pcb icb : Nat) (w : World) (hg : decide (ap = bp) = v) (h1 : IntsAt w pa ap) (h2 : SnsAt w ia ai) (h3 : IntsAt w pb bp) (h4 : SnsAt w ib bi) :
    Calls Try.prog 10 #[.agg #[.int .i64 a1, .int .i64 a2, .int .i64 a3, .slice pa ap.length pc, .slice ia ai.length ic, .int .i64 a6], .agg #[.int .i64 a1, .int .i64 a2, .int .i64 a3, .slice pb bp.length pcb, .slice ib bi.length icb, .int .i64 a6]] w fun e w' => e = .returned (.bool (v && decide (ai = bi))) ∧ Below w.heap.size w w' := by
  have HG := Lib.hid hg
  have H1 := Lib.hid h1
  have H2 := Lib.hid h2
  have H3 := Lib.hid h3
  have H4 := Lib.hid h4
  clear hg h1 h2 h3 h4
  cases v
  all_goals
    go_enter Try.func10, Try.ntmps10
    go_wp2_with fail
    refine (ints_any _ _ _ _ _ _ _ ((H1.out.alloc _).alloc _) ((H3.out.alloc _).alloc _)).mono ?_
    rintro e w1 ⟨rfl, hb⟩
    rw [HG.out]
    have hbw := Lib.hid ((((Below.refl _ w).alloc (Nat.le_refl _) _).alloc (by simp) _).trans (hb.mono (by simp; omega)))
    have hc := rbcell hb
    have HB := Lib.hid hb
    clear hb
    go_wp2_with fail
    try (refine (refseens_any _ _ _ _ _ _ _ (((H2.out.alloc _).alloc _).below HB.out (Nat.le_refl _)) (((H4.out.alloc _).alloc _).below HB.out (Nat.le_refl _))).mono ?_; rintro e w2 ⟨rfl, hb2⟩; have hbw := Lib.hid (bl hbw.out hb2); clear hb2; go_wp2_with fail)
    go_ret
    exact ⟨by simp, hbw.out⟩
theorem rrefsame_any (a b : Rp) (pa ia pb ib : Option Addr) (pc ic pcb icb : Nat) (w : World) (h1 : IntsAt w pa a.players) (h2 : SnsAt w ia a.items) (h3 : IntsAt w pb b.players) (h4 : SnsAt w ib b.items) :
    Calls Try.prog 10 #[.agg #[.int .i64 a.err, .int .i64 a.kind, .int .i64 a.room, .slice pa a.players.length pc, .slice ia a.items.length ic, .int .i64 a.coins], .agg #[.int .i64 b.err, .int .i64 b.kind, .int .i64 b.room, .slice pb b.players.length pcb, .slice ib b.items.length icb, .int .i64 b.coins]] w fun e w' => e = .returned (.bool (rsameB a b)) ∧ Below w.heap.size w w' := by
  obtain ⟨a1, a2, a3, ap, ai, a6⟩ := a
  obtain ⟨b1, b2, b3, bp, bi, b6⟩ := b
  by_cases h : a1 = b1 ∧ a2 = b2 ∧ a3 = b3 ∧ a6 = b6
  · obtain ⟨rfl, rfl, rfl, rfl⟩ := h
    rw [show rsameB ⟨a1, a2, a3, ap, ai, a6⟩ ⟨a1, a2, a3, bp, bi, a6⟩ = (decide (ap = bp) && decide (ai = bi)) by simp [rsameB]]
    exact rrefsame_yes _ a1 a2 a3 a6 ap bp ai bi pa ia pb ib pc ic pcb icb w rfl h1 h2 h3 h4
  · rw [show rsameB ⟨a1, a2, a3, ap, ai, a6⟩ ⟨b1, b2, b3, bp, bi, b6⟩ = false by rw [Bool.eq_false_iff]; intro hh; have := (rsameB_iff _ _).1 hh; simp only [Rp.mk.injEq] at this; exact h ⟨this.1, this.2.1, this.2.2.1, this.2.2.2.2.2⟩]
    exact rrefsame_no a1 a2 a3 a6 b1 b2 b3 b6 ap bp ai bi pa ia pb ib pc ic pcb icb w h
def rfewB (r : Rp) : Bool := decide (r.players.length ≤ 40) && decide (r.items.length ≤ 40)
end Go.Proofs.Ytojfichbnnfjpaa
