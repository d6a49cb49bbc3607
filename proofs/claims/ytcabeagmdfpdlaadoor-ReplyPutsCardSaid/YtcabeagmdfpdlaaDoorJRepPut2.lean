import Derived.Test.YtcabeagmdfpdlaaDoorRows
import Derived.Test.YtcabeagmdfpdlaaDoorKit
import Derived.Test.YtcabeagmdfpdlaaDoorStrs
import Derived.Test.YtcabeagmdfpdlaaDoorJTab
import Derived.Test.YtcabeagmdfpdlaaDoorJBlk
import Derived.Test.YtcabeagmdfpdlaaDoorClone
import Derived.Test.YtcabeagmdfpdlaaDoorJMath
import Derived.Test.YtcabeagmdfpdlaaDoorJNum
import Derived.Test.YtcabeagmdfpdlaaDoorJTokWord
import Derived.Test.YtcabeagmdfpdlaaDoorJTokJoin
import Derived.Test.YtcabeagmdfpdlaaDoorJCut
import Derived.Test.YtcabeagmdfpdlaaDoorJAppend
import Derived.Test.YtcabeagmdfpdlaaDoorJGrown
import Derived.Test.YtcabeagmdfpdlaaDoorJCmdA
import Derived.Test.YtcabeagmdfpdlaaDoorJCmdNames1
import Derived.Test.YtcabeagmdfpdlaaDoorJRepMath
import Derived.Test.YtcabeagmdfpdlaaDoorJRepItems
import Derived.Test.YtcabeagmdfpdlaaDoorJRepWords
import Derived.Test.YtcabeagmdfpdlaaDoorJRepPut
import Derived.Test.YtcabeagmdfpdlaaDoorJRepOwn
import Derived.Test.YtcabeagmdfpdlaaDoorJRepMay
import Derived.OwnWalk
import Derived.Deep.RegionHeld3
import Derived.Laws.OwnMore
import Derived.WalkKit
import Derived.ProofKit
import Derived.OpenShut
import Derived.IntWalk
/- reply: wordsOf, Put. -/
namespace Go.Proofs.YtcabeagmdfpdlaaDoor
open Go.ChangeShapes Go.WideShapes Go.ChangeAt Go.RowKit
set_option linter.unusedVariables false
open Go.RowKit Go
theorem RowOf.lit {W0 W : World} (hb : Below W0.heap.size W0 W) (xs : List (List UInt8)) {cs : Array Value} {n : Nat} (hn : xs.length = n) (hcs : cs = (xs.map str).toArray) (hl : n ≤ 1000) :
    RowOf W0 (W.alloc (.cells cs 9)) (.slice (some ⟨W.heap.size, 0, none⟩) n n) xs := by
  subst hn hcs
  refine ⟨hb.alloc hb.size _, ?_⟩
  have := World.ownsRow_lit (e := 9) (size := 1) (base := W0.heap.size) W (xs.map str).toArray xs.length hb.size (by unfold maxLen; omega) (by simp)
  simpa using this
/-- What a call hands back: a row of words. -/
def GivesRow (W0 : World) (ws : List (List UInt8)) (e : Ending) (w' : World) : Prop := ∃ v', e = .returned v' ∧ RowOf W0 w' v' ws
theorem ps_take (ws : List (List UInt8)) (ps : List Int) (k : Nat) (h : k < ps.length) : ws ++ (ps.take (k + 1)).map nw = (ws ++ (ps.take k).map nw) ++ [nw ps[k]] := by
  rw [List.take_succ_eq_append_getElem h]; simp only [List.map_append, List.map_cons, List.map_nil, List.append_assoc]
section
variable (m c : Int) (ps : List Int) (is : List Sn) (pa ia : Option Addr) (pc ic : Nat) (w : World)
theorem words_err (e k : Int) (he : (e != 0) = true) (ho : okN e = true) (ht : RTabs w) :
    Calls Tryd.prog 19 #[.agg #[.int .i64 e, .int .i64 k, .int .i64 m, .slice pa ps.length pc, .slice ia is.length ic, .int .i64 c]] w
      (GivesRow (w.alloc (.cells #[.int .i64 e, .int .i64 k, .int .i64 m, .slice pa ps.length pc, .slice ia is.length ic, .int .i64 c] 26)) [sError, nw e]) := by
  have HO := Lib.hid ho
  have HT := Lib.hid (ht.call ((Below.refl _ _).alloc (Nat.le_refl _) (.cells #[.int .i64 e, .int .i64 k, .int .i64 m, .slice pa ps.length pc, .slice ia is.length ic, .int .i64 c] 26)))
  clear ho ht
  go_enter Tryd.func19, Tryd.ntmps19
  go_wp2_with fail
  refine (nword_any e _ HO.out HT.out.tab).mono ?_
  rintro e' w1 ⟨rfl, b1⟩
  have B1 := Lib.hid b1
  clear b1
  go_wp2_with fail
  go_ret
  exact ⟨_, rfl, RowOf.lit B1.out [sError, nw e] rfl rfl (by omega)⟩
set_option maxRecDepth 100000 in
set_option maxHeartbeats 4000000 in
theorem words_else (k : Int) (h1 : (k == 1) = false) (h2 : (k == 2) = false) (h3 : (k == 9) = false) (h4 : (k == 10) = false) (ht : RTabs w) :
    Calls Tryd.prog 19 #[.agg #[.int .i64 0, .int .i64 k, .int .i64 m, .slice pa ps.length pc, .slice ia is.length ic, .int .i64 c]] w
      (GivesRow (w.alloc (.cells #[.int .i64 0, .int .i64 k, .int .i64 m, .slice pa ps.length pc, .slice ia is.length ic, .int .i64 c] 26)) ([nameOf k])) := by
  have HT := Lib.hid (ht.call ((Below.refl _ _).alloc (Nat.le_refl _) (.cells #[.int .i64 0, .int .i64 k, .int .i64 m, .slice pa ps.length pc, .slice ia is.length ic, .int .i64 c] 26)))
  have HC := Lib.hid (show ∀ i, (w.alloc (.cells #[.int .i64 0, .int .i64 k, .int .i64 m, .slice pa ps.length pc, .slice ia is.length ic, .int .i64 c] 26)).cell? ⟨w.heap.size, i, none⟩ = (#[.int .i64 0, .int .i64 k, .int .i64 m, .slice pa ps.length pc, .slice ia is.length ic, .int .i64 c][i]? : Option Value) from fun i => World.cell?_alloc_at _ _ _ _ rfl)
  have hs : w.heap.size < (w.alloc (.cells #[.int .i64 0, .int .i64 k, .int .i64 m, .slice pa ps.length pc, .slice ia is.length ic, .int .i64 c] 26)).heap.size := by simp
  have HB := Lib.hid (show Below w.heap.size w (w.alloc (.cells #[.int .i64 0, .int .i64 k, .int .i64 m, .slice pa ps.length pc, .slice ia is.length ic, .int .i64 c] 26)) from (Below.refl _ _).alloc (Nat.le_refl _) _)
  clear ht
  go_enter Tryd.func19, Tryd.ntmps19
  go_wp2_with fail
  generalize (w.alloc (.cells #[.int .i64 0, .int .i64 k, .int .i64 m, .slice pa ps.length pc, .slice ia is.length ic, .int .i64 c] 26)) = W0 at *
  have HS := Lib.hid hs
  refine (name_any k _ HT.out.names).mono ?_
  rintro e' w1 ⟨rfl, b1⟩
  have R1 := Lib.hid (RowOf.lit b1 [nameOf k] rfl rfl (by simp))
  have hA := fun i => ((b1.alloc b1.size (.cells #[.string ⟨(nameOf k).toArray⟩] 9)).cell (p := ⟨w.heap.size, i, none⟩) hs).trans (HC.out i)
  clear b1
  go_wp2_with fail
  go_ret
  exact ⟨_, rfl, R1.out⟩
set_option maxRecDepth 100000 in
set_option maxHeartbeats 4000000 in
theorem words_move (k : Int) (hk : (k == 1) = true ∨ (k == 1) = false ∧ (k == 2) = true) (ho : okN m = true) (ht : RTabs w) :
    Calls Tryd.prog 19 #[.agg #[.int .i64 0, .int .i64 k, .int .i64 m, .slice pa ps.length pc, .slice ia is.length ic, .int .i64 c]] w
      (GivesRow (w.alloc (.cells #[.int .i64 0, .int .i64 k, .int .i64 m, .slice pa ps.length pc, .slice ia is.length ic, .int .i64 c] 26)) ([nameOf k, nw m])) := by
  have HT := Lib.hid (ht.call ((Below.refl _ _).alloc (Nat.le_refl _) (.cells #[.int .i64 0, .int .i64 k, .int .i64 m, .slice pa ps.length pc, .slice ia is.length ic, .int .i64 c] 26)))
  have HC := Lib.hid (show ∀ i, (w.alloc (.cells #[.int .i64 0, .int .i64 k, .int .i64 m, .slice pa ps.length pc, .slice ia is.length ic, .int .i64 c] 26)).cell? ⟨w.heap.size, i, none⟩ = (#[.int .i64 0, .int .i64 k, .int .i64 m, .slice pa ps.length pc, .slice ia is.length ic, .int .i64 c][i]? : Option Value) from fun i => World.cell?_alloc_at _ _ _ _ rfl)
  have hs : w.heap.size < (w.alloc (.cells #[.int .i64 0, .int .i64 k, .int .i64 m, .slice pa ps.length pc, .slice ia is.length ic, .int .i64 c] 26)).heap.size := by simp
  have HB := Lib.hid (show Below w.heap.size w (w.alloc (.cells #[.int .i64 0, .int .i64 k, .int .i64 m, .slice pa ps.length pc, .slice ia is.length ic, .int .i64 c] 26)) from (Below.refl _ _).alloc (Nat.le_refl _) _)
  clear ht
  have HO := Lib.hid ho
  clear ho
  go_enter Tryd.func19, Tryd.ntmps19
  go_wp2_with fail
  generalize (w.alloc (.cells #[.int .i64 0, .int .i64 k, .int .i64 m, .slice pa ps.length pc, .slice ia is.length ic, .int .i64 c] 26)) = W0 at *
  have HS := Lib.hid hs
  refine (name_any k _ HT.out.names).mono ?_
  rintro e' w1 ⟨rfl, b1⟩
  have R1 := Lib.hid (RowOf.lit b1 [nameOf k] rfl rfl (by simp))
  have hA := fun i => ((b1.alloc b1.size (.cells #[.string ⟨(nameOf k).toArray⟩] 9)).cell (p := ⟨w.heap.size, i, none⟩) hs).trans (HC.out i)
  clear b1
  rcases hk with hk | ⟨hk, hk2⟩
  all_goals
    go_wp2_with fail
    refine (nword_any m _ HO.out (HT.out.call R1.out.1).tab).mono ?_
    rintro e' w2 ⟨rfl, b2⟩
    obtain ⟨v', W2, hrun, hrow, -⟩ := append_lit (n := 1) (cs := #[.string ⟨(nw m).toArray⟩]) (xs := [nw m]) (R1.out.call b2) rfl rfl (by simp)
    have HN := Lib.hid hrun
    have HR := Lib.hid hrow
    clear hrun hrow b2 hA
    go_wp2_with (at_builtin; refine append_step rfl (.tmp 22) (.tmp 26) 48 rfl _ _ v' W2 rfl rfl HN.out ?_)
    go_ret
    exact ⟨_, rfl, HR.out⟩
set_option maxRecDepth 100000 in
set_option maxHeartbeats 4000000 in
theorem words_look (ho : okN m = true) (hp : ∀ n ∈ ps, okN n = true) (hi : ∀ s ∈ is, snB s = true) (lp : ps.length ≤ 16) (li : is.length ≤ 16) (m1 : IntsAt w pa ps) (m2 : SnsAt w ia is) (ht : RTabs w) :
    Calls Tryd.prog 19 #[.agg #[.int .i64 0, .int .i64 9, .int .i64 m, .slice pa ps.length pc, .slice ia is.length ic, .int .i64 c]] w
      (GivesRow (w.alloc (.cells #[.int .i64 0, .int .i64 9, .int .i64 m, .slice pa ps.length pc, .slice ia is.length ic, .int .i64 c] 26)) ([nameOf 9, nw m, sPlayers] ++ (ps.map nw ++ itemsW is))) := by
  have HT := Lib.hid (ht.call ((Below.refl _ _).alloc (Nat.le_refl _) (.cells #[.int .i64 0, .int .i64 9, .int .i64 m, .slice pa ps.length pc, .slice ia is.length ic, .int .i64 c] 26)))
  have HC := Lib.hid (show ∀ i, (w.alloc (.cells #[.int .i64 0, .int .i64 9, .int .i64 m, .slice pa ps.length pc, .slice ia is.length ic, .int .i64 c] 26)).cell? ⟨w.heap.size, i, none⟩ = (#[.int .i64 0, .int .i64 9, .int .i64 m, .slice pa ps.length pc, .slice ia is.length ic, .int .i64 c][i]? : Option Value) from fun i => World.cell?_alloc_at _ _ _ _ rfl)
  have hs : w.heap.size < (w.alloc (.cells #[.int .i64 0, .int .i64 9, .int .i64 m, .slice pa ps.length pc, .slice ia is.length ic, .int .i64 c] 26)).heap.size := by simp
  have HB := Lib.hid (show Below w.heap.size w (w.alloc (.cells #[.int .i64 0, .int .i64 9, .int .i64 m, .slice pa ps.length pc, .slice ia is.length ic, .int .i64 c] 26)) from (Below.refl _ _).alloc (Nat.le_refl _) _)
  clear ht
  have HO := Lib.hid ho
  have HP := Lib.hid hp
  have HI := Lib.hid hi
  have M1 := Lib.hid m1
  have M2 := Lib.hid m2
  have LI := Lib.hid li
  clear ho hp hi m1 m2 li
  go_enter Tryd.func19, Tryd.ntmps19
  go_wp2_with fail
  generalize (w.alloc (.cells #[.int .i64 0, .int .i64 9, .int .i64 m, .slice pa ps.length pc, .slice ia is.length ic, .int .i64 c] 26)) = W0 at *
  have HS := Lib.hid hs
  refine (name_any 9 _ HT.out.names).mono ?_
  rintro e' w1 ⟨rfl, b1⟩
  have R1 := Lib.hid (RowOf.lit b1 [nameOf 9] rfl rfl (by simp))
  have hA := fun i => ((b1.alloc b1.size (.cells #[.string ⟨(nameOf 9).toArray⟩] 9)).cell (p := ⟨w.heap.size, i, none⟩) hs).trans (HC.out i)
  clear b1
  go_wp2_with fail
  refine (nword_any m _ HO.out (HT.out.call R1.out.1).tab).mono ?_
  rintro e' w2 ⟨rfl, b2⟩
  obtain ⟨v2, W2, hrun, hrow, -⟩ := append_lit (n := 2) (cs := #[.string ⟨(nw m).toArray⟩, .string ⟨#[112, 108, 97, 121, 101, 114, 115]⟩]) (xs := [nw m, sPlayers]) (R1.out.call b2) rfl rfl (by simp)
  have HN := Lib.hid hrun
  have HR := Lib.hid hrow
  have hB := fun i => (hrow.1.cell (p := ⟨w.heap.size, i, none⟩) hs).trans (HC.out i)
  clear hrun hrow b2 hA R1
  go_wp2_with (at_builtin; refine append_step rfl (.tmp 30) (.tmp 34) 48 rfl _ _ v2 W2 rfl rfl HN.out ?_)
  clear hB
  have N1 := Lib.hid (M1.out.below HB.out (Nat.le_refl _))
  go_loopw [3, 5, 39] (fun v _ i wr => ∃ k : Nat, k ≤ ps.length ∧ i = .int .i64 k ∧ RowOf W0 wr v ([nameOf 9, nw m, sPlayers] ++ (ps.take k).map nw)) (fun _ _ i _ => ps.length - (intOf i).toNat)
  case atStart => exact ⟨0, Nat.zero_le _, rfl, by simpa using HR.out⟩
  case round =>
    clear HR
    obtain ⟨k, hk, rfl, hR⟩ := hrel
    have HR := Lib.hid hR
    clear hR
    by_cases hlt : k < ps.length
    · obtain ⟨xb, xo, rfl, hxb, hxc⟩ := N1.out.at_ hlt
      have h1 := (HR.out.1.cell (p := ⟨xb, xo + k, none⟩) hxb).trans (hxc k hlt)
      have hn := HP.out _ (List.getElem_mem hlt)
      have HW2 := Lib.hid (ps_take [nameOf 9, nw m, sPlayers] ps k hlt)
      have HL2 := Lib.hid (show ((ps.take k).map nw).length ≤ 16 by rw [List.length_map]; have := List.length_take_le' k ps; omega)
      generalize ps[k] = n at *
      have HNO := Lib.hid hn
      clear hxc hn
      go_wp2_with fail
      refine (nword_any n _ HNO.out (HT.out.call HR.out.1).tab).mono ?_
      rintro e' w2 ⟨rfl, b2⟩
      obtain ⟨v3, W3, hrun, hrow, -⟩ := append_lit (n := 1) (cs := #[.string ⟨(nw n).toArray⟩]) (xs := [nw n]) (HR.out.call b2) rfl rfl (by have := HL2.out; simp only [List.length_append, List.length_cons, List.length_nil]; omega)
      have HN := Lib.hid hrun
      have HR3 := Lib.hid hrow
      clear hrun hrow b2 h1
      go_wp2_with (at_builtin; refine append_step rfl (.tmp 43) (.tmp 46) 48 rfl _ _ v3 W3 rfl rfl HN.out ?_)
      go_roundw
      case rel => exact ⟨k + 1, by omega, by go_num, by rw [HW2.out]; exact HR3.out⟩
      case measure => simp [intOf]; omega
    · have hke : k = ps.length := by omega
      subst hke
      have HE := Lib.hid (show [nameOf 9, nw m, sPlayers] ++ (ps.take ps.length).map nw = [nameOf 9, nw m, sPlayers] ++ ps.map nw by rw [List.take_of_length_le (Nat.le_refl _)])
      have hB := fun i => (HR.out.1.cell (p := ⟨w.heap.size, i, none⟩) hs).trans (HC.out i)
      go_wp2_with fail
      refine (appitems_any W0 _ _ _ is ia ic HR.out (M2.out.call HB.out) HI.out LI.out (by rw [HE.out]; simp; omega) HT.out).mono ?_
      rintro e' w3 ⟨v3, rfl, hrow⟩
      have HR3 := Lib.hid hrow
      clear hrow hB
      go_wp2_with fail
      go_ret
      refine ⟨_, rfl, ?_⟩
      have h := HR3.out
      rw [HE.out, List.append_assoc] at h
      exact h
set_option maxRecDepth 100000 in
set_option maxHeartbeats 4000000 in
theorem words_own (ho : okN c = true) (hi : ∀ s ∈ is, snB s = true) (li : is.length ≤ 16) (m2 : SnsAt w ia is) (ht : RTabs w) :
    Calls Tryd.prog 19 #[.agg #[.int .i64 0, .int .i64 10, .int .i64 m, .slice pa ps.length pc, .slice ia is.length ic, .int .i64 c]] w
      (GivesRow (w.alloc (.cells #[.int .i64 0, .int .i64 10, .int .i64 m, .slice pa ps.length pc, .slice ia is.length ic, .int .i64 c] 26)) (nameOf 10 :: nw c :: itemsW is)) := by
  have HT := Lib.hid (ht.call ((Below.refl _ _).alloc (Nat.le_refl _) (.cells #[.int .i64 0, .int .i64 10, .int .i64 m, .slice pa ps.length pc, .slice ia is.length ic, .int .i64 c] 26)))
  have HC := Lib.hid (show ∀ i, (w.alloc (.cells #[.int .i64 0, .int .i64 10, .int .i64 m, .slice pa ps.length pc, .slice ia is.length ic, .int .i64 c] 26)).cell? ⟨w.heap.size, i, none⟩ = (#[.int .i64 0, .int .i64 10, .int .i64 m, .slice pa ps.length pc, .slice ia is.length ic, .int .i64 c][i]? : Option Value) from fun i => World.cell?_alloc_at _ _ _ _ rfl)
  have hs : w.heap.size < (w.alloc (.cells #[.int .i64 0, .int .i64 10, .int .i64 m, .slice pa ps.length pc, .slice ia is.length ic, .int .i64 c] 26)).heap.size := by simp
  have HB := Lib.hid (show Below w.heap.size w (w.alloc (.cells #[.int .i64 0, .int .i64 10, .int .i64 m, .slice pa ps.length pc, .slice ia is.length ic, .int .i64 c] 26)) from (Below.refl _ _).alloc (Nat.le_refl _) _)
  clear ht
  have HO := Lib.hid ho
  have HI := Lib.hid hi
  have M2 := Lib.hid m2
  have LI := Lib.hid li
  clear ho hi m2 li
  go_enter Tryd.func19, Tryd.ntmps19
  go_wp2_with fail
  generalize (w.alloc (.cells #[.int .i64 0, .int .i64 10, .int .i64 m, .slice pa ps.length pc, .slice ia is.length ic, .int .i64 c] 26)) = W0 at *
  have HS := Lib.hid hs
  refine (name_any 10 _ HT.out.names).mono ?_
  rintro e' w1 ⟨rfl, b1⟩
  have R1 := Lib.hid (RowOf.lit b1 [nameOf 10] rfl rfl (by simp))
  have hA := fun i => ((b1.alloc b1.size (.cells #[.string ⟨(nameOf 10).toArray⟩] 9)).cell (p := ⟨w.heap.size, i, none⟩) hs).trans (HC.out i)
  clear b1
  go_wp2_with fail
  clear hA
  have S0 := Lib.hid (fun (W : World) (h : Below W0.heap.size W0 W) => (⟨h, fun i => (h.cell (p := ⟨w.heap.size, i, none⟩) HS.out).trans (HC.out i)⟩ : Below W0.heap.size W0 W ∧ ∀ i, W.cell? ⟨w.heap.size, i, none⟩ = (#[.int .i64 0, .int .i64 10, .int .i64 m, .slice pa ps.length pc, .slice ia is.length ic, .int .i64 c][i]? : Option Value)))
  have R2 := Lib.hid (R1.out.drew)
  refine wp_region_noPanic ?_
  refine wp_region_held_drew (S := (fun w' => Below W0.heap.size W0 w' ∧ ∀ i, w'.cell? ⟨w.heap.size, i, none⟩ = (#[.int .i64 0, .int .i64 10, .int .i64 m, .slice pa ps.length pc, .slice ia is.length ic, .int .i64 c][i]? : Option Value))) (by kernel_rfl) (by (first | (exact S0.out _ R2.out.1) | (exact S0.out _ R5.out.1) | (exact S0.out _ R4.out.1) | (exact S0.out _ (R3.out.alloc _).1) | (exact S0.out _ R3.out.1))) (fun hHeld => ?_)
  first
    | (refine wpAnyH_take (i := 0) (v := undef) (by simp only [List.getElem?_toArray, List.getElem?_cons_zero]; rfl) (by kernel_rfl) (by kernel_rfl) (by kernel_rfl) (fun _ _ _ h => h) (Or.inr ⟨by rfl, rfl⟩) (by assumption) ?_; try simp only [Act.put, List.setIfInBounds_toArray, List.set_cons_zero, List.set_cons_succ])
    | (refine wpAnyH_take (i := 0) (v := ?_) (by simp only [List.getElem?_toArray, List.getElem?_cons_zero]; rfl) (by kernel_rfl) (by kernel_rfl) (by kernel_rfl) (fun _ _ _ h => h) (Or.inl ⟨by rfl, ?_⟩) (by assumption) ?_
       rotate_left
       · (intro ww hSw; (try dsimp only at hSw); go_simp; (try with_reducible rfl))
       try simp only [Act.put, List.setIfInBounds_toArray, List.set_cons_zero, List.set_cons_succ])
    | (refine wpAnyH_ready (rs := [0]) (by kernel_rfl) (by simp) (AllReadyH.cons (by simp only [List.getElem?_toArray, List.getElem?_cons_succ, List.getElem?_cons_zero]; rfl) (fun K hK => ?_) AllReadyH.nil)
       go_simp
       first
         | (go_at_call 37; (with_reducible refine (nword_any c _ HO.out (HT.out.call hHeld.1).tab).mono ?_); rintro e' w2 ⟨rfl, hb⟩; have R3 := Lib.hid (R2.out.call hb); obtain ⟨v', W2, hrun, hrow, -⟩ := append_lit (n := 1) (cs := #[.string ⟨(nw c).toArray⟩]) (xs := [nw c]) R3.out rfl rfl (by simp); have HN := Lib.hid hrun; have R4 := Lib.hid hrow)
         | (go_at_call 39; (refine (appitems_any W0 _ _ _ is ia ic R4.out (M2.out.call HB.out) HI.out LI.out (by simp) HT.out).mono ?_); rintro e' w3 ⟨v3, rfl, hrow3⟩; have R5 := Lib.hid hrow3)
         | (skip)
       try go_wp2_with fail
       refine hK.out _ _ (by (first | (exact S0.out _ R2.out.1) | (exact S0.out _ R5.out.1) | (exact S0.out _ R4.out.1) | (exact S0.out _ (R3.out.alloc _).1) | (exact S0.out _ R3.out.1))) (fun hHeld => ?_)
       clear hK K
       try simp only [Act.put, List.setIfInBounds_toArray, List.set_cons_zero, List.set_cons_succ])
  first
    | (refine wpAnyH_take (i := 1) (v := undef) (by simp only [List.getElem?_toArray, List.getElem?_cons_succ, List.getElem?_cons_zero]; rfl) (by kernel_rfl) (by kernel_rfl) (by kernel_rfl) (fun _ _ _ h => h) (Or.inr ⟨by rfl, rfl⟩) (by assumption) ?_; try simp only [Act.put, List.setIfInBounds_toArray, List.set_cons_zero, List.set_cons_succ])
    | (refine wpAnyH_take (i := 1) (v := ?_) (by simp only [List.getElem?_toArray, List.getElem?_cons_succ, List.getElem?_cons_zero]; rfl) (by kernel_rfl) (by kernel_rfl) (by kernel_rfl) (fun _ _ _ h => h) (Or.inl ⟨by rfl, ?_⟩) (by assumption) ?_
       rotate_left
       · (intro ww hSw; (try dsimp only at hSw); go_simp; (try with_reducible rfl))
       try simp only [Act.put, List.setIfInBounds_toArray, List.set_cons_zero, List.set_cons_succ])
    | (refine wpAnyH_ready (rs := [1]) (by kernel_rfl) (by simp) (AllReadyH.cons (by simp only [List.getElem?_toArray, List.getElem?_cons_succ, List.getElem?_cons_zero]; rfl) (fun K hK => ?_) AllReadyH.nil)
       go_simp
       first
         | (go_at_call 37; (with_reducible refine (nword_any c _ HO.out (HT.out.call hHeld.1).tab).mono ?_); rintro e' w2 ⟨rfl, hb⟩; have R3 := Lib.hid (R2.out.call hb); obtain ⟨v', W2, hrun, hrow, -⟩ := append_lit (n := 1) (cs := #[.string ⟨(nw c).toArray⟩]) (xs := [nw c]) R3.out rfl rfl (by simp); have HN := Lib.hid hrun; have R4 := Lib.hid hrow)
         | (go_at_call 39; (refine (appitems_any W0 _ _ _ is ia ic R4.out (M2.out.call HB.out) HI.out LI.out (by simp) HT.out).mono ?_); rintro e' w3 ⟨v3, rfl, hrow3⟩; have R5 := Lib.hid hrow3)
         | (skip)
       try go_wp2_with fail
       refine hK.out _ _ (by (first | (exact S0.out _ R2.out.1) | (exact S0.out _ R5.out.1) | (exact S0.out _ R4.out.1) | (exact S0.out _ (R3.out.alloc _).1) | (exact S0.out _ R3.out.1))) (fun hHeld => ?_)
       clear hK K
       try simp only [Act.put, List.setIfInBounds_toArray, List.set_cons_zero, List.set_cons_succ])
  first
    | (refine wpAnyH_take (i := 2) (v := undef) (by simp only [List.getElem?_toArray, List.getElem?_cons_succ, List.getElem?_cons_zero]; rfl) (by kernel_rfl) (by kernel_rfl) (by kernel_rfl) (fun _ _ _ h => h) (Or.inr ⟨by rfl, rfl⟩) (by assumption) ?_; try simp only [Act.put, List.setIfInBounds_toArray, List.set_cons_zero, List.set_cons_succ])
    | (refine wpAnyH_take (i := 2) (v := ?_) (by simp only [List.getElem?_toArray, List.getElem?_cons_succ, List.getElem?_cons_zero]; rfl) (by kernel_rfl) (by kernel_rfl) (by kernel_rfl) (fun _ _ _ h => h) (Or.inl ⟨by rfl, ?_⟩) (by assumption) ?_
       rotate_left
       · (intro ww hSw; (try dsimp only at hSw); go_simp; (try with_reducible rfl))
       try simp only [Act.put, List.setIfInBounds_toArray, List.set_cons_zero, List.set_cons_succ])
    | (refine wpAnyH_ready (rs := [2]) (by kernel_rfl) (by simp) (AllReadyH.cons (by simp only [List.getElem?_toArray, List.getElem?_cons_succ, List.getElem?_cons_zero]; rfl) (fun K hK => ?_) AllReadyH.nil)
       go_simp
       first
         | (go_at_call 37; (with_reducible refine (nword_any c _ HO.out (HT.out.call hHeld.1).tab).mono ?_); rintro e' w2 ⟨rfl, hb⟩; have R3 := Lib.hid (R2.out.call hb); obtain ⟨v', W2, hrun, hrow, -⟩ := append_lit (n := 1) (cs := #[.string ⟨(nw c).toArray⟩]) (xs := [nw c]) R3.out rfl rfl (by simp); have HN := Lib.hid hrun; have R4 := Lib.hid hrow)
         | (go_at_call 39; (refine (appitems_any W0 _ _ _ is ia ic R4.out (M2.out.call HB.out) HI.out LI.out (by simp) HT.out).mono ?_); rintro e' w3 ⟨v3, rfl, hrow3⟩; have R5 := Lib.hid hrow3)
         | (skip)
       try go_wp2_with fail
       refine hK.out _ _ (by (first | (exact S0.out _ R2.out.1) | (exact S0.out _ R5.out.1) | (exact S0.out _ R4.out.1) | (exact S0.out _ (R3.out.alloc _).1) | (exact S0.out _ R3.out.1))) (fun hHeld => ?_)
       clear hK K
       try simp only [Act.put, List.setIfInBounds_toArray, List.set_cons_zero, List.set_cons_succ])
  first
    | (refine wpAnyH_take (i := 6) (v := undef) (by simp only [List.getElem?_toArray, List.getElem?_cons_succ, List.getElem?_cons_zero]; rfl) (by kernel_rfl) (by kernel_rfl) (by kernel_rfl) (fun _ _ _ h => h) (Or.inr ⟨by rfl, rfl⟩) (by assumption) ?_; try simp only [Act.put, List.setIfInBounds_toArray, List.set_cons_zero, List.set_cons_succ])
    | (refine wpAnyH_take (i := 6) (v := ?_) (by simp only [List.getElem?_toArray, List.getElem?_cons_succ, List.getElem?_cons_zero]; rfl) (by kernel_rfl) (by kernel_rfl) (by kernel_rfl) (fun _ _ _ h => h) (Or.inl ⟨by rfl, ?_⟩) (by assumption) ?_
       rotate_left
       · (intro ww hSw; (try dsimp only at hSw); go_simp; (try with_reducible rfl))
       try simp only [Act.put, List.setIfInBounds_toArray, List.set_cons_zero, List.set_cons_succ])
    | (refine wpAnyH_ready (rs := [6]) (by kernel_rfl) (by simp) (AllReadyH.cons (by simp only [List.getElem?_toArray, List.getElem?_cons_succ, List.getElem?_cons_zero]; rfl) (fun K hK => ?_) AllReadyH.nil)
       go_simp
       first
         | (go_at_call 37; (with_reducible refine (nword_any c _ HO.out (HT.out.call hHeld.1).tab).mono ?_); rintro e' w2 ⟨rfl, hb⟩; have R3 := Lib.hid (R2.out.call hb); obtain ⟨v', W2, hrun, hrow, -⟩ := append_lit (n := 1) (cs := #[.string ⟨(nw c).toArray⟩]) (xs := [nw c]) R3.out rfl rfl (by simp); have HN := Lib.hid hrun; have R4 := Lib.hid hrow)
         | (go_at_call 39; (refine (appitems_any W0 _ _ _ is ia ic R4.out (M2.out.call HB.out) HI.out LI.out (by simp) HT.out).mono ?_); rintro e' w3 ⟨v3, rfl, hrow3⟩; have R5 := Lib.hid hrow3)
         | (skip)
       try go_wp2_with fail
       refine hK.out _ _ (by (first | (exact S0.out _ R2.out.1) | (exact S0.out _ R5.out.1) | (exact S0.out _ R4.out.1) | (exact S0.out _ (R3.out.alloc _).1) | (exact S0.out _ R3.out.1))) (fun hHeld => ?_)
       clear hK K
       try simp only [Act.put, List.setIfInBounds_toArray, List.set_cons_zero, List.set_cons_succ])
  first
    | (refine wpAnyH_take (i := 7) (v := undef) (by simp only [List.getElem?_toArray, List.getElem?_cons_succ, List.getElem?_cons_zero]; rfl) (by kernel_rfl) (by kernel_rfl) (by kernel_rfl) (fun _ _ _ h => h) (Or.inr ⟨by rfl, rfl⟩) (by assumption) ?_; try simp only [Act.put, List.setIfInBounds_toArray, List.set_cons_zero, List.set_cons_succ])
    | (refine wpAnyH_take (i := 7) (v := ?_) (by simp only [List.getElem?_toArray, List.getElem?_cons_succ, List.getElem?_cons_zero]; rfl) (by kernel_rfl) (by kernel_rfl) (by kernel_rfl) (fun _ _ _ h => h) (Or.inl ⟨by rfl, ?_⟩) (by assumption) ?_
       rotate_left
       · (intro ww hSw; (try dsimp only at hSw); go_simp; (try with_reducible rfl))
       try simp only [Act.put, List.setIfInBounds_toArray, List.set_cons_zero, List.set_cons_succ])
    | (refine wpAnyH_ready (rs := [7]) (by kernel_rfl) (by simp) (AllReadyH.cons (by simp only [List.getElem?_toArray, List.getElem?_cons_succ, List.getElem?_cons_zero]; rfl) (fun K hK => ?_) AllReadyH.nil)
       go_simp
       first
         | (go_at_call 37; (with_reducible refine (nword_any c _ HO.out (HT.out.call hHeld.1).tab).mono ?_); rintro e' w2 ⟨rfl, hb⟩; have R3 := Lib.hid (R2.out.call hb); obtain ⟨v', W2, hrun, hrow, -⟩ := append_lit (n := 1) (cs := #[.string ⟨(nw c).toArray⟩]) (xs := [nw c]) R3.out rfl rfl (by simp); have HN := Lib.hid hrun; have R4 := Lib.hid hrow)
         | (go_at_call 39; (refine (appitems_any W0 _ _ _ is ia ic R4.out (M2.out.call HB.out) HI.out LI.out (by simp) HT.out).mono ?_); rintro e' w3 ⟨v3, rfl, hrow3⟩; have R5 := Lib.hid hrow3)
         | (skip)
       try go_wp2_with fail
       refine hK.out _ _ (by (first | (exact S0.out _ R2.out.1) | (exact S0.out _ R5.out.1) | (exact S0.out _ R4.out.1) | (exact S0.out _ (R3.out.alloc _).1) | (exact S0.out _ R3.out.1))) (fun hHeld => ?_)
       clear hK K
       try simp only [Act.put, List.setIfInBounds_toArray, List.set_cons_zero, List.set_cons_succ])
  first
    | (refine wpAnyH_take (i := 3) (v := undef) (by simp only [List.getElem?_toArray, List.getElem?_cons_succ, List.getElem?_cons_zero]; rfl) (by kernel_rfl) (by kernel_rfl) (by kernel_rfl) (fun _ _ _ h => h) (Or.inr ⟨by rfl, rfl⟩) (by assumption) ?_; try simp only [Act.put, List.setIfInBounds_toArray, List.set_cons_zero, List.set_cons_succ])
    | (refine wpAnyH_take (i := 3) (v := ?_) (by simp only [List.getElem?_toArray, List.getElem?_cons_succ, List.getElem?_cons_zero]; rfl) (by kernel_rfl) (by kernel_rfl) (by kernel_rfl) (fun _ _ _ h => h) (Or.inl ⟨by rfl, ?_⟩) (by assumption) ?_
       rotate_left
       · (intro ww hSw; (try dsimp only at hSw); go_simp; (try with_reducible rfl))
       try simp only [Act.put, List.setIfInBounds_toArray, List.set_cons_zero, List.set_cons_succ])
    | (refine wpAnyH_ready (rs := [3]) (by kernel_rfl) (by simp) (AllReadyH.cons (by simp only [List.getElem?_toArray, List.getElem?_cons_succ, List.getElem?_cons_zero]; rfl) (fun K hK => ?_) AllReadyH.nil)
       go_simp
       first
         | (go_at_call 37; (with_reducible refine (nword_any c _ HO.out (HT.out.call hHeld.1).tab).mono ?_); rintro e' w2 ⟨rfl, hb⟩; have R3 := Lib.hid (R2.out.call hb); obtain ⟨v', W2, hrun, hrow, -⟩ := append_lit (n := 1) (cs := #[.string ⟨(nw c).toArray⟩]) (xs := [nw c]) R3.out rfl rfl (by simp); have HN := Lib.hid hrun; have R4 := Lib.hid hrow)
         | (go_at_call 39; (refine (appitems_any W0 _ _ _ is ia ic R4.out (M2.out.call HB.out) HI.out LI.out (by simp) HT.out).mono ?_); rintro e' w3 ⟨v3, rfl, hrow3⟩; have R5 := Lib.hid hrow3)
         | (skip)
       try go_wp2_with fail
       refine hK.out _ _ (by (first | (exact S0.out _ R2.out.1) | (exact S0.out _ R5.out.1) | (exact S0.out _ R4.out.1) | (exact S0.out _ (R3.out.alloc _).1) | (exact S0.out _ R3.out.1))) (fun hHeld => ?_)
       clear hK K
       try simp only [Act.put, List.setIfInBounds_toArray, List.set_cons_zero, List.set_cons_succ])
  first
    | (refine wpAnyH_take (i := 4) (v := undef) (by simp only [List.getElem?_toArray, List.getElem?_cons_succ, List.getElem?_cons_zero]; rfl) (by kernel_rfl) (by kernel_rfl) (by kernel_rfl) (fun _ _ _ h => h) (Or.inr ⟨by rfl, rfl⟩) (by assumption) ?_; try simp only [Act.put, List.setIfInBounds_toArray, List.set_cons_zero, List.set_cons_succ])
    | (refine wpAnyH_take (i := 4) (v := ?_) (by simp only [List.getElem?_toArray, List.getElem?_cons_succ, List.getElem?_cons_zero]; rfl) (by kernel_rfl) (by kernel_rfl) (by kernel_rfl) (fun _ _ _ h => h) (Or.inl ⟨by rfl, ?_⟩) (by assumption) ?_
       rotate_left
       · (intro ww hSw; (try dsimp only at hSw); go_simp; (try with_reducible rfl))
       try simp only [Act.put, List.setIfInBounds_toArray, List.set_cons_zero, List.set_cons_succ])
    | (refine wpAnyH_ready (rs := [4]) (by kernel_rfl) (by simp) (AllReadyH.cons (by simp only [List.getElem?_toArray, List.getElem?_cons_succ, List.getElem?_cons_zero]; rfl) (fun K hK => ?_) AllReadyH.nil)
       go_simp
       first
         | (go_at_call 37; (with_reducible refine (nword_any c _ HO.out (HT.out.call hHeld.1).tab).mono ?_); rintro e' w2 ⟨rfl, hb⟩; have R3 := Lib.hid (R2.out.call hb); obtain ⟨v', W2, hrun, hrow, -⟩ := append_lit (n := 1) (cs := #[.string ⟨(nw c).toArray⟩]) (xs := [nw c]) R3.out rfl rfl (by simp); have HN := Lib.hid hrun; have R4 := Lib.hid hrow)
         | (go_at_call 39; (refine (appitems_any W0 _ _ _ is ia ic R4.out (M2.out.call HB.out) HI.out LI.out (by simp) HT.out).mono ?_); rintro e' w3 ⟨v3, rfl, hrow3⟩; have R5 := Lib.hid hrow3)
         | (skip)
       try go_wp2_with fail
       refine hK.out _ _ (by (first | (exact S0.out _ R2.out.1) | (exact S0.out _ R5.out.1) | (exact S0.out _ R4.out.1) | (exact S0.out _ (R3.out.alloc _).1) | (exact S0.out _ R3.out.1))) (fun hHeld => ?_)
       clear hK K
       try simp only [Act.put, List.setIfInBounds_toArray, List.set_cons_zero, List.set_cons_succ])
  refine wpAnyH_ready (rs := [5]) (by kernel_rfl) (by simp) (AllReadyH.cons (by simp only [List.getElem?_toArray, List.getElem?_cons_succ, List.getElem?_cons_zero]; rfl) (fun K hK => ?_) AllReadyH.nil)
  refine step_append rfl (.tmp 55) (.tmp 59) 48 rfl _ _ v' W2 rfl rfl HN.out ?_
  refine hK.out _ _ (by (first | (exact S0.out _ R2.out.1) | (exact S0.out _ R5.out.1) | (exact S0.out _ R4.out.1) | (exact S0.out _ (R3.out.alloc _).1) | (exact S0.out _ R3.out.1))) (fun hHeld => ?_)
  clear hK K
  try simp only [Act.put, List.setIfInBounds_toArray, List.set_cons_zero, List.set_cons_succ]
  first
    | (refine wpAnyH_take (i := 8) (v := undef) (by simp only [List.getElem?_toArray, List.getElem?_cons_succ, List.getElem?_cons_zero]; rfl) (by kernel_rfl) (by kernel_rfl) (by kernel_rfl) (fun _ _ _ h => h) (Or.inr ⟨by rfl, rfl⟩) (by assumption) ?_; try simp only [Act.put, List.setIfInBounds_toArray, List.set_cons_zero, List.set_cons_succ])
    | (refine wpAnyH_take (i := 8) (v := ?_) (by simp only [List.getElem?_toArray, List.getElem?_cons_succ, List.getElem?_cons_zero]; rfl) (by kernel_rfl) (by kernel_rfl) (by kernel_rfl) (fun _ _ _ h => h) (Or.inl ⟨by rfl, ?_⟩) (by assumption) ?_
       rotate_left
       · (intro ww hSw; (try dsimp only at hSw); go_simp; (try with_reducible rfl))
       try simp only [Act.put, List.setIfInBounds_toArray, List.set_cons_zero, List.set_cons_succ])
    | (refine wpAnyH_ready (rs := [8]) (by kernel_rfl) (by simp) (AllReadyH.cons (by simp only [List.getElem?_toArray, List.getElem?_cons_succ, List.getElem?_cons_zero]; rfl) (fun K hK => ?_) AllReadyH.nil)
       go_simp
       first
         | (go_at_call 37; (with_reducible refine (nword_any c _ HO.out (HT.out.call hHeld.1).tab).mono ?_); rintro e' w2 ⟨rfl, hb⟩; have R3 := Lib.hid (R2.out.call hb); obtain ⟨v', W2, hrun, hrow, -⟩ := append_lit (n := 1) (cs := #[.string ⟨(nw c).toArray⟩]) (xs := [nw c]) R3.out rfl rfl (by simp); have HN := Lib.hid hrun; have R4 := Lib.hid hrow)
         | (go_at_call 39; (refine (appitems_any W0 _ _ _ is ia ic R4.out (M2.out.call HB.out) HI.out LI.out (by simp) HT.out).mono ?_); rintro e' w3 ⟨v3, rfl, hrow3⟩; have R5 := Lib.hid hrow3)
         | (skip)
       try go_wp2_with fail
       refine hK.out _ _ (by (first | (exact S0.out _ R2.out.1) | (exact S0.out _ R5.out.1) | (exact S0.out _ R4.out.1) | (exact S0.out _ (R3.out.alloc _).1) | (exact S0.out _ R3.out.1))) (fun hHeld => ?_)
       clear hK K
       try simp only [Act.put, List.setIfInBounds_toArray, List.set_cons_zero, List.set_cons_succ])
  first
    | (refine wpAnyH_take (i := 9) (v := undef) (by simp only [List.getElem?_toArray, List.getElem?_cons_succ, List.getElem?_cons_zero]; rfl) (by kernel_rfl) (by kernel_rfl) (by kernel_rfl) (fun _ _ _ h => h) (Or.inr ⟨by rfl, rfl⟩) (by assumption) ?_; try simp only [Act.put, List.setIfInBounds_toArray, List.set_cons_zero, List.set_cons_succ])
    | (refine wpAnyH_take (i := 9) (v := ?_) (by simp only [List.getElem?_toArray, List.getElem?_cons_succ, List.getElem?_cons_zero]; rfl) (by kernel_rfl) (by kernel_rfl) (by kernel_rfl) (fun _ _ _ h => h) (Or.inl ⟨by rfl, ?_⟩) (by assumption) ?_
       rotate_left
       · (intro ww hSw; (try dsimp only at hSw); go_simp; (try with_reducible rfl))
       try simp only [Act.put, List.setIfInBounds_toArray, List.set_cons_zero, List.set_cons_succ])
    | (refine wpAnyH_ready (rs := [9]) (by kernel_rfl) (by simp) (AllReadyH.cons (by simp only [List.getElem?_toArray, List.getElem?_cons_succ, List.getElem?_cons_zero]; rfl) (fun K hK => ?_) AllReadyH.nil)
       go_simp
       first
         | (go_at_call 37; (with_reducible refine (nword_any c _ HO.out (HT.out.call hHeld.1).tab).mono ?_); rintro e' w2 ⟨rfl, hb⟩; have R3 := Lib.hid (R2.out.call hb); obtain ⟨v', W2, hrun, hrow, -⟩ := append_lit (n := 1) (cs := #[.string ⟨(nw c).toArray⟩]) (xs := [nw c]) R3.out rfl rfl (by simp); have HN := Lib.hid hrun; have R4 := Lib.hid hrow)
         | (go_at_call 39; (refine (appitems_any W0 _ _ _ is ia ic R4.out (M2.out.call HB.out) HI.out LI.out (by simp) HT.out).mono ?_); rintro e' w3 ⟨v3, rfl, hrow3⟩; have R5 := Lib.hid hrow3)
         | (skip)
       try go_wp2_with fail
       refine hK.out _ _ (by (first | (exact S0.out _ R2.out.1) | (exact S0.out _ R5.out.1) | (exact S0.out _ R4.out.1) | (exact S0.out _ (R3.out.alloc _).1) | (exact S0.out _ R3.out.1))) (fun hHeld => ?_)
       clear hK K
       try simp only [Act.put, List.setIfInBounds_toArray, List.set_cons_zero, List.set_cons_succ])
  refine wpAnyH_done (by kernel_rfl) ?_ _
  refine NoPanic.normal ?_
  go_wp2_with fail
  go_ret
  exact ⟨_, rfl, R5.out⟩
end
end Go.Proofs.YtcabeagmdfpdlaaDoor
