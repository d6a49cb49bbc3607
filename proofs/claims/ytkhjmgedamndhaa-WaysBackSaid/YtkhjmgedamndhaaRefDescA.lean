/- The document's own answers on worlds: Few, Many, Cap, Depth. -/
import Derived.Test.YtkhjmgedamndhaaRows
import Derived.Test.YtkhjmgedamndhaaKit
import Derived.Test.YtkhjmgedamndhaaStrs
import Derived.Test.YtkhjmgedamndhaaBlk
import Derived.Test.YtkhjmgedamndhaaHolds
import Derived.Test.YtkhjmgedamndhaaWorldMath
import Derived.Test.YtkhjmgedamndhaaWorldAt
import Derived.Test.YtkhjmgedamndhaaDescNest
import Derived.Test.YtkhjmgedamndhaaDescNest2
import Derived.Test.YtkhjmgedamndhaaDescCopy
import Derived.Test.YtkhjmgedamndhaaDescEq
import Derived.Deep.QuietTactic
import Derived.BigQuiet
import Derived.WalkKit
import Derived.ProofKit
import Derived.OpenShut
import Derived.IntWalk
namespace Go.Proofs.Ytkhjmgedamndhaa
open Go.ChangeShapes Go.WideShapes Go.ChangeAt Go.RowKit
set_option linter.unusedVariables false
open Go.RowKit
/-- Has a world short lists? -/
def fewB (x : Wd) : Bool := decide (x.d.exits.length ≤ 20) && (decide (x.d.players.length ≤ 20) && (decide (x.d.coins.length ≤ 20) && (decide (x.d.items.length ≤ 40) && (decide (x.d.boxes.length ≤ 40) && (decide (x.at_.length ≤ 40) && (decide (x.coins.length ≤ 40) && decide (x.wher.length ≤ 40)))))))
set_option maxRecDepth 100000 in
theorem few_any (x : Wd) (p : Wp) (w : World) : Calls Try.prog 19 #[.agg #[.slice p.d.ex x.d.exits.length p.d.exc, .slice p.d.pl x.d.players.length p.d.plc, .slice p.d.co x.d.coins.length p.d.coc, .slice p.d.it x.d.items.length p.d.itc, .slice p.d.bo x.d.boxes.length p.d.boc, .int .i64 x.d.room, .int .i64 x.d.player, .int .i64 x.d.box, .slice p.at_ x.at_.length p.atc, .slice p.co x.coins.length p.coc, .slice p.wh x.wher.length p.whc]] w fun e w' => e = .returned (.bool (fewB x)) ∧ Below w.heap.size w w' := by
  have HB := Lib.hid (((Below.refl w.heap.size w).alloc (Nat.le_refl _) (.cells #[.slice p.d.ex x.d.exits.length p.d.exc, .slice p.d.pl x.d.players.length p.d.plc, .slice p.d.co x.d.coins.length p.d.coc, .slice p.d.it x.d.items.length p.d.itc, .slice p.d.bo x.d.boxes.length p.d.boc, .int .i64 x.d.room, .int .i64 x.d.player, .int .i64 x.d.box, .slice p.at_ x.at_.length p.atc, .slice p.co x.coins.length p.coc, .slice p.wh x.wher.length p.whc] 29)).alloc (by simp) (.cells #[.slice p.d.ex x.d.exits.length p.d.exc, .slice p.d.pl x.d.players.length p.d.plc, .slice p.d.co x.d.coins.length p.d.coc, .slice p.d.it x.d.items.length p.d.itc, .slice p.d.bo x.d.boxes.length p.d.boc, .int .i64 x.d.room, .int .i64 x.d.player, .int .i64 x.d.box] 26))
  by_cases e0 : x.d.exits.length ≤ 20
  rotate_left
  · have q0 : ¬ (x.d.exits.length : Int) ≤ 20 := by omega
    have HR := Lib.hid (show fewB x = false by simp [fewB, e0])
    clear e0
    go_enter Try.func19, Try.ntmps19
    go_wp2_with fail
    go_ret
    exact ⟨ret_bool HR.out.symm, HB.out⟩
  by_cases e1 : x.d.players.length ≤ 20
  rotate_left
  · have q1 : ¬ (x.d.players.length : Int) ≤ 20 := by omega
    have q0 : (x.d.exits.length : Int) ≤ 20 := by omega
    have HR := Lib.hid (show fewB x = false by simp [fewB, e1])
    clear e0 e1
    go_enter Try.func19, Try.ntmps19
    go_wp2_with fail
    go_ret
    exact ⟨ret_bool HR.out.symm, HB.out⟩
  by_cases e2 : x.d.coins.length ≤ 20
  rotate_left
  · have q2 : ¬ (x.d.coins.length : Int) ≤ 20 := by omega
    have q0 : (x.d.exits.length : Int) ≤ 20 := by omega
    have q1 : (x.d.players.length : Int) ≤ 20 := by omega
    have HR := Lib.hid (show fewB x = false by simp [fewB, e2])
    clear e0 e1 e2
    go_enter Try.func19, Try.ntmps19
    go_wp2_with fail
    go_ret
    exact ⟨ret_bool HR.out.symm, HB.out⟩
  by_cases e3 : x.d.items.length ≤ 40
  rotate_left
  · have q3 : ¬ (x.d.items.length : Int) ≤ 40 := by omega
    have q0 : (x.d.exits.length : Int) ≤ 20 := by omega
    have q1 : (x.d.players.length : Int) ≤ 20 := by omega
    have q2 : (x.d.coins.length : Int) ≤ 20 := by omega
    have HR := Lib.hid (show fewB x = false by simp [fewB, e3])
    clear e0 e1 e2 e3
    go_enter Try.func19, Try.ntmps19
    go_wp2_with fail
    go_ret
    exact ⟨ret_bool HR.out.symm, HB.out⟩
  by_cases e4 : x.d.boxes.length ≤ 40
  rotate_left
  · have q4 : ¬ (x.d.boxes.length : Int) ≤ 40 := by omega
    have q0 : (x.d.exits.length : Int) ≤ 20 := by omega
    have q1 : (x.d.players.length : Int) ≤ 20 := by omega
    have q2 : (x.d.coins.length : Int) ≤ 20 := by omega
    have q3 : (x.d.items.length : Int) ≤ 40 := by omega
    have HR := Lib.hid (show fewB x = false by simp [fewB, e4])
    clear e0 e1 e2 e3 e4
    go_enter Try.func19, Try.ntmps19
    go_wp2_with fail
    go_ret
    exact ⟨ret_bool HR.out.symm, HB.out⟩
  by_cases e5 : x.at_.length ≤ 40
  rotate_left
  · have q5 : ¬ (x.at_.length : Int) ≤ 40 := by omega
    have q0 : (x.d.exits.length : Int) ≤ 20 := by omega
    have q1 : (x.d.players.length : Int) ≤ 20 := by omega
    have q2 : (x.d.coins.length : Int) ≤ 20 := by omega
    have q3 : (x.d.items.length : Int) ≤ 40 := by omega
    have q4 : (x.d.boxes.length : Int) ≤ 40 := by omega
    have HR := Lib.hid (show fewB x = false by simp [fewB, e5])
    clear e0 e1 e2 e3 e4 e5
    go_enter Try.func19, Try.ntmps19
    go_wp2_with fail
    go_ret
    exact ⟨ret_bool HR.out.symm, HB.out⟩
  by_cases e6 : x.coins.length ≤ 40
  rotate_left
  · have q6 : ¬ (x.coins.length : Int) ≤ 40 := by omega
    have q0 : (x.d.exits.length : Int) ≤ 20 := by omega
    have q1 : (x.d.players.length : Int) ≤ 20 := by omega
    have q2 : (x.d.coins.length : Int) ≤ 20 := by omega
    have q3 : (x.d.items.length : Int) ≤ 40 := by omega
    have q4 : (x.d.boxes.length : Int) ≤ 40 := by omega
    have q5 : (x.at_.length : Int) ≤ 40 := by omega
    have HR := Lib.hid (show fewB x = false by simp [fewB, e6])
    clear e0 e1 e2 e3 e4 e5 e6
    go_enter Try.func19, Try.ntmps19
    go_wp2_with fail
    go_ret
    exact ⟨ret_bool HR.out.symm, HB.out⟩
  by_cases e7 : x.wher.length ≤ 40
  rotate_left
  · have q7 : ¬ (x.wher.length : Int) ≤ 40 := by omega
    have q0 : (x.d.exits.length : Int) ≤ 20 := by omega
    have q1 : (x.d.players.length : Int) ≤ 20 := by omega
    have q2 : (x.d.coins.length : Int) ≤ 20 := by omega
    have q3 : (x.d.items.length : Int) ≤ 40 := by omega
    have q4 : (x.d.boxes.length : Int) ≤ 40 := by omega
    have q5 : (x.at_.length : Int) ≤ 40 := by omega
    have q6 : (x.coins.length : Int) ≤ 40 := by omega
    have HR := Lib.hid (show fewB x = false by simp [fewB, e7])
    clear e0 e1 e2 e3 e4 e5 e6 e7
    go_enter Try.func19, Try.ntmps19
    go_wp2_with fail
    go_ret
    exact ⟨ret_bool HR.out.symm, HB.out⟩
  have q0 : (x.d.exits.length : Int) ≤ 20 := by omega
  have q1 : (x.d.players.length : Int) ≤ 20 := by omega
  have q2 : (x.d.coins.length : Int) ≤ 20 := by omega
  have q3 : (x.d.items.length : Int) ≤ 40 := by omega
  have q4 : (x.d.boxes.length : Int) ≤ 40 := by omega
  have q5 : (x.at_.length : Int) ≤ 40 := by omega
  have q6 : (x.coins.length : Int) ≤ 40 := by omega
  have q7 : (x.wher.length : Int) ≤ 40 := by omega
  have HR := Lib.hid (show fewB x = true by simp [fewB, e0, e1, e2, e3, e4, e5, e6, e7])
  clear e0 e1 e2 e3 e4 e5 e6 e7
  go_enter Try.func19, Try.ntmps19
  go_wp2_with fail
  go_ret
  exact ⟨ret_bool HR.out.symm, HB.out⟩
set_option maxRecDepth 100000 in
theorem cap_any (x : Wd) (p : Wp) (q : Nat) (i : Int) (hq : q < 3) (w : World) : Calls Try.prog 29 #[.agg #[.slice p.d.ex x.d.exits.length p.d.exc, .slice p.d.pl x.d.players.length p.d.plc, .slice p.d.co x.d.coins.length p.d.coc, .slice p.d.it x.d.items.length p.d.itc, .slice p.d.bo x.d.boxes.length p.d.boc, .int .i64 x.d.room, .int .i64 x.d.player, .int .i64 x.d.box, .slice p.at_ x.at_.length p.atc, .slice p.co x.coins.length p.coc, .slice p.wh x.wher.length p.whc], .agg #[.int .i64 q, .int .i64 i]] w fun e w' => e = .returned (.int .i64 (capOf x.d q)) ∧ Below w.heap.size w w' := by
  obtain rfl | rfl | rfl : q = 0 ∨ q = 1 ∨ q = 2 := by omega
  all_goals
    go_enter Try.func29, Try.ntmps29
    go_wp2_with fail
    go_ret
    exact ⟨rfl, (((Below.refl w.heap.size w).alloc (Nat.le_refl _) _).alloc (by simp) _).alloc (by simp; omega) _⟩
theorem run_pleq (a1 a2 b1 b2 : Int) (w : World) : (binOp .eql 57 (.agg #[.int .i64 a1, .int .i64 a2]) (.agg #[.int .i64 b1, .int .i64 b2])).run Try.prog w = .ok (.bool (decide ((⟨a1, a2⟩ : Pl) = ⟨b1, b2⟩))) w := by
  by_cases e1 : a1 = b1
  · by_cases e2 : a2 = b2
    · subst e1 e2; go_simp
    · go_simp
  · go_simp
theorem cnt_yes {ps : List Pl} {k : Nat} {p : Pl} (hk : k < ps.length) (h : ps[k] = p) : (ps.take (k + 1)).count p = (ps.take k).count p + 1 := by
  rw [List.take_succ_eq_append_getElem hk, List.count_append, h]; simp
theorem cnt_no {ps : List Pl} {k : Nat} {p : Pl} (hk : k < ps.length) (h : ¬ ps[k] = p) : (ps.take (k + 1)).count p = (ps.take k).count p := by
  rw [List.take_succ_eq_append_getElem hk, List.count_append, show [ps[k]].count p = 0 from List.count_eq_zero.2 (by simpa using fun e => h e.symm)]; rfl
set_option maxRecDepth 100000 in
theorem many_any (x : Wd) (p : Wp) (y : Pl) (w : World) (h : PlsAt w p.wh x.wher) : Calls Try.prog 28 #[.agg #[.slice p.d.ex x.d.exits.length p.d.exc, .slice p.d.pl x.d.players.length p.d.plc, .slice p.d.co x.d.coins.length p.d.coc, .slice p.d.it x.d.items.length p.d.itc, .slice p.d.bo x.d.boxes.length p.d.boc, .int .i64 x.d.room, .int .i64 x.d.player, .int .i64 x.d.box, .slice p.at_ x.at_.length p.atc, .slice p.co x.coins.length p.coc, .slice p.wh x.wher.length p.whc], .agg #[.int .i64 y.kind, .int .i64 y.id]] w fun e w' => e = .returned (.int .i64 (x.wher.count y : Nat)) ∧ Below w.heap.size w w' := by
  have hm := h.len
  have H := Lib.hid h
  clear h
  obtain ⟨yk, yi⟩ := y
  have HP := Lib.hid (Holds.pair w #[.slice p.d.ex x.d.exits.length p.d.exc, .slice p.d.pl x.d.players.length p.d.plc, .slice p.d.co x.d.coins.length p.d.coc, .slice p.d.it x.d.items.length p.d.itc, .slice p.d.bo x.d.boxes.length p.d.boc, .int .i64 x.d.room, .int .i64 x.d.player, .int .i64 x.d.box, .slice p.at_ x.at_.length p.atc, .slice p.co x.coins.length p.coc, .slice p.wh x.wher.length p.whc] #[.int .i64 yk, .int .i64 yi] 29 57)
  go_enter Try.func28, Try.ntmps28
  go_wp2_with fail
  go_loopw [5, 6] (fun n i wr => ∃ k : Nat, k ≤ x.wher.length ∧ i = .int .i64 k ∧ n = .int .i64 ((x.wher.take k).count ⟨yk, yi⟩ : Nat) ∧ Holds w w.heap.size #[.slice p.d.ex x.d.exits.length p.d.exc, .slice p.d.pl x.d.players.length p.d.plc, .slice p.d.co x.d.coins.length p.d.coc, .slice p.d.it x.d.items.length p.d.itc, .slice p.d.bo x.d.boxes.length p.d.boc, .int .i64 x.d.room, .int .i64 x.d.player, .int .i64 x.d.box, .slice p.at_ x.at_.length p.atc, .slice p.co x.coins.length p.coc, .slice p.wh x.wher.length p.whc] wr ∧ Holds w (w.heap.size + 1) #[.int .i64 yk, .int .i64 yi] wr) (fun _ i _ => x.wher.length - (intOf i).toNat)
  case atStart => exact ⟨0, Nat.zero_le _, rfl, rfl, HP.out.1, HP.out.2⟩
  case round =>
    obtain ⟨k, hk, rfl, rfl, h1, h2⟩ := hrel
    have hc1 := h1.2.2
    have hc2 := h2.2.2
    have hl2 := h2.2.1
    have hcn := List.count_le_length (a := (⟨yk, yi⟩ : Pl)) (l := x.wher.take k)
    rw [List.length_take] at hcn
    by_cases hlt : k < x.wher.length
    · obtain ⟨b, o, hbo, hb, c0, c1⟩ := PlsAt.cells (RowAt.below H.out h1.1 (Nat.le_refl _)) hlt
      have HY := Lib.hid (cnt_yes (p := ⟨yk, yi⟩) hlt)
      have HN := Lib.hid (cnt_no (p := ⟨yk, yi⟩) hlt)
      have H1 := Lib.hid h1
      have H2 := Lib.hid h2
      have HPP := Lib.hid hbo
      clear H h1 h2
      generalize x.wher[k] = z at *
      obtain ⟨zk, zi⟩ := z
      simp only at c0 c1
      have hrun := run_pleq zk zi yk yi
      by_cases he : (⟨zk, zi⟩ : Pl) = ⟨yk, yi⟩
      · have HX := Lib.hid (HY.out he)
        simp only [he, decide_true] at hrun
        clear he HY HN
        have hw : IntKind.i64.wrap ((((x.wher.take k).count ⟨yk, yi⟩ : Nat) : Int) + 1) = (((x.wher.take k).count ⟨yk, yi⟩ : Nat) : Int) + 1 := IntWalk.i64_in _ (by omega)
        generalize (x.wher.take k).count ⟨yk, yi⟩ = cc at *
        go_wp2_with fail
        go_quiet (fail)
        go_wp2_with fail
        go_roundw
        case rel => exact ⟨k + 1, by omega, by go_num, by rw [HX.out]; go_num, H1.out.drewN _, H2.out.drewN _⟩
        case measure => simp [intOf]; omega
      · have HX := Lib.hid (HN.out he)
        simp only [he, decide_false] at hrun
        clear he HY HN
        generalize (x.wher.take k).count ⟨yk, yi⟩ = cc at *
        go_wp2_with fail
        go_quiet (fail)
        go_wp2_with fail
        go_roundw
        case rel => exact ⟨k + 1, by omega, by go_num, by rw [HX.out], H1.out.drewN _, H2.out.drewN _⟩
        case measure => simp [intOf]; omega
    · have hke : k = x.wher.length := by omega
      subst hke
      have H1 := Lib.hid h1
      clear H h1 h2
      rw [List.take_length]
      obtain ⟨cc, hcc⟩ : ∃ c, x.wher.count ⟨yk, yi⟩ = c := ⟨_, rfl⟩
      rw [hcc]
      have HC := Lib.hid hcc
      clear hcc hcn
      go_wp2_with fail
      go_ret
      exact ⟨by rw [HC.out]; rfl, H1.out.1⟩
end Go.Proofs.Ytkhjmgedamndhaa
