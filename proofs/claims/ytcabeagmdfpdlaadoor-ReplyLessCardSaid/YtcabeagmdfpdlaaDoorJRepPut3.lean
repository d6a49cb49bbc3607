import Derived.Test.YtcabeagmdfpdlaaDoorRows
import Derived.Test.YtcabeagmdfpdlaaDoorKit
import Derived.Test.YtcabeagmdfpdlaaDoorStrs
import Derived.Test.YtcabeagmdfpdlaaDoorJTab
import Derived.Test.YtcabeagmdfpdlaaDoorJBlk
import Derived.Test.YtcabeagmdfpdlaaDoorClone
import Derived.Test.YtcabeagmdfpdlaaDoorJMath
import Derived.Test.YtcabeagmdfpdlaaDoorJNum
import Derived.Test.YtcabeagmdfpdlaaDoorJTokWord
import Derived.Test.YtcabeagmdfpdlaaDoorJTokJoin
import Derived.Test.YtcabeagmdfpdlaaDoorJCut
import Derived.Test.YtcabeagmdfpdlaaDoorJAppend
import Derived.Test.YtcabeagmdfpdlaaDoorJGrown
import Derived.Test.YtcabeagmdfpdlaaDoorJCmdA
import Derived.Test.YtcabeagmdfpdlaaDoorJCmdNames1
import Derived.Test.YtcabeagmdfpdlaaDoorJRepMath
import Derived.Test.YtcabeagmdfpdlaaDoorJRepItems
import Derived.Test.YtcabeagmdfpdlaaDoorJRepWords
import Derived.Test.YtcabeagmdfpdlaaDoorJRepPut
import Derived.Test.YtcabeagmdfpdlaaDoorJRepOwn
import Derived.Test.YtcabeagmdfpdlaaDoorJRepMay
import Derived.Test.YtcabeagmdfpdlaaDoorJRepPut2
import Derived.WalkKit
import Derived.ProofKit
import Derived.OpenShut
import Derived.IntWalk
/- reply: Put: an answer's text, or that it may not be. -/
namespace Go.Proofs.YtcabeagmdfpdlaaDoor
open Go.ChangeShapes Go.WideShapes Go.ChangeAt Go.RowKit
set_option linter.unusedVariables false
open Go.RowKit Go
theorem rowgives {w : World} {o : Obj} {ws : List (List UInt8)} {e : Ending} {w' : World} (h : GivesRow (w.alloc o) ws e w') : GivesStrs ws w e w' := by
  obtain ⟨v, he, hr⟩ := h
  exact ⟨v, he, hr.strs, bl ((Below.refl _ _).alloc (Nat.le_refl _) _) hr.1⟩
theorem rwordsOf_any (r : Rp) (pa ia : Option Addr) (pc ic : Nat) (w : World) (hf : Fits r) (h1 : IntsAt w pa r.players) (h2 : SnsAt w ia r.items) (ht : RTabs w) :
    Calls Tryd.prog 19 #[.agg #[.int .i64 r.err, .int .i64 r.kind, .int .i64 r.room, .slice pa r.players.length pc, .slice ia r.items.length ic, .int .i64 r.coins]] w (GivesStrs (rwords r) w) := by
  obtain ⟨e, k, m, ps, is, c⟩ := r
  by_cases he : e = 0
  · subst he
    have hk := hf.kind rfl
    by_cases k12 : k = 1 ∨ k = 2
    · have := words_move m c ps is pa ia pc ic w k (by rcases k12 with rfl | rfl <;> simp) hf.room ht
      refine this.mono fun e w' h => ?_
      have e2 : rwords ⟨0, k, m, ps, is, c⟩ = [nameOf k, nw m] := by simp [rwords, k12]
      rw [e2]; exact rowgives h
    · by_cases h9 : k = 9
      · subst h9
        refine (words_look m c ps is pa ia pc ic w hf.room hf.players hf.items hf.plen hf.ilen h1 h2 ht).mono fun e w' h => ?_
        have e2 : rwords ⟨0, 9, m, ps, is, c⟩ = [nameOf 9, nw m, sPlayers] ++ (ps.map nw ++ itemsW is) := by simp [rwords]
        rw [e2]; exact rowgives h
      · by_cases h10 : k = 10
        · subst h10
          refine (words_own m c ps is pa ia pc ic w hf.coins hf.items hf.ilen h2 ht).mono fun e w' h => ?_
          have e2 : rwords ⟨0, 10, m, ps, is, c⟩ = nameOf 10 :: nw c :: itemsW is := by simp [rwords]
          rw [e2]; exact rowgives h
        · have := words_else m c ps is pa ia pc ic w k (by simp; omega) (by simp; omega) (by simp; omega) (by simp; omega) ht
          refine this.mono fun e w' h => ?_
          have e2 : rwords ⟨0, k, m, ps, is, c⟩ = [nameOf k] := by simp [rwords, k12, h9, h10]
          rw [e2]; exact rowgives h
  · have := words_err m c ps is pa ia pc ic w e k (by simpa using he) (err_ok hf) ht
    refine this.mono fun e' w' h => ?_
    have e2 : rwords ⟨e, k, m, ps, is, c⟩ = [sError, nw e] := by simp [rwords, he]
    rw [e2]; exact rowgives h
/-- What Put answers, as one value. -/
def rputOut (r : Rp) : Value := .tuple #[str (rputS r), .int .i64 (rputN r)]
set_option maxRecDepth 100000 in
theorem rput_any (r : Rp) (pa ia : Option Addr) (pc ic : Nat) (w : World) (h1 : IntsAt w pa r.players) (h2 : SnsAt w ia r.items) (ht : RTabs w) :
    Calls Tryd.prog 10 #[.agg #[.int .i64 r.err, .int .i64 r.kind, .int .i64 r.room, .slice pa r.players.length pc, .slice ia r.items.length ic, .int .i64 r.coins]] w fun e w' => e = .returned (rputOut r) ∧ Below w.heap.size w w' := by
  have P0 := Lib.hid (Holds.new w #[.int .i64 r.err, .int .i64 r.kind, .int .i64 r.room, .slice pa r.players.length pc, .slice ia r.items.length ic, .int .i64 r.coins] 26)
  have H1 := Lib.hid h1
  have H2 := Lib.hid h2
  have HT := Lib.hid ht
  clear h1 h2 ht
  cases hm : rmayB r
  · have HM := Lib.hid hm
    rw [show rputOut r = .tuple #[.string ⟨#[]⟩, .int .i64 2] by simp [rputOut, rputS, rputN, hm, str]]
    clear hm
    go_enter Tryd.func10, Tryd.ntmps10
    go_wp2_with fail
    refine (rmay_any r pa ia pc ic _ (H1.out.below P0.out.1 (Nat.le_refl _)) (H2.out.below P0.out.1 (Nat.le_refl _))).mono ?_
    rintro e w1 ⟨rfl, b1⟩
    rw [HM.out]
    have P1 := Lib.hid (P0.out.call b1)
    clear b1
    go_wp2_with fail
    go_ret2
    exact ⟨rfl, P1.out.1⟩
  · have HM := Lib.hid hm
    have HF := Lib.hid (fits_of hm)
    rw [show rputOut r = .tuple #[str (glue (rwords r)), .int .i64 0] by simp [rputOut, rputS, rputN, hm, textR]]
    clear hm
    go_enter Tryd.func10, Tryd.ntmps10
    go_wp2_with fail
    refine (rmay_any r pa ia pc ic _ (H1.out.below P0.out.1 (Nat.le_refl _)) (H2.out.below P0.out.1 (Nat.le_refl _))).mono ?_
    rintro e w1 ⟨rfl, b1⟩
    rw [HM.out]
    have P1 := Lib.hid (P0.out.call b1)
    have hc := P1.out.2.2
    clear b1
    go_wp2_with fail
    refine (rwordsOf_any r pa ia pc ic _ HF.out (H1.out.below P1.out.1 (Nat.le_refl _)) (H2.out.below P1.out.1 (Nat.le_refl _)) (HT.out.call P1.out.1)).mono ?_
    rintro e w2 ⟨v2, rfl, hv2, b2⟩
    have P2 := Lib.hid (P1.out.call b2)
    have HV := Lib.hid hv2
    clear b2 hc hv2
    go_wp2_with fail
    refine (join_any _ HV.out (by have := rwords_sizes HF.out; omega)).mono ?_
    rintro e w3 ⟨rfl, b3⟩
    have P3 := Lib.hid (P2.out.call b3)
    clear b3
    go_wp2_with fail
    go_ret2
    exact ⟨rfl, P3.out.1⟩
end Go.Proofs.YtcabeagmdfpdlaaDoor
