/- gifts: whose hands; are there such players, such items; are they there. -/
import Derived.Test.YtcigbliilmonfaaRows
import Derived.Test.YtcigbliilmonfaaKit
import Derived.Test.YtcigbliilmonfaaGMem
import Derived.Test.YtcigbliilmonfaaCoin
import Derived.Test.YtcigbliilmonfaaGWorld
import Derived.Test.YtcigbliilmonfaaGDescF
import Derived.Test.YtcigbliilmonfaaGEq
import Derived.Test.YtcigbliilmonfaaGAs
import Derived.Test.YtcigbliilmonfaaGHoldA
import Derived.Test.YtcigbliilmonfaaGiftMath
import Derived.Deep.QuietTactic
import Derived.BigQuiet
import Derived.Deep.RegionHeld3
import Derived.WalkKit
import Derived.ProofKit
import Derived.OpenShut
import Derived.IntWalk
namespace Go.Proofs.Ytcigbliilmonfaa
open Go.ChangeShapes Go.WideShapes Go.ChangeAt Go.RowKit
set_option linter.unusedVariables false
open Go.RowKit
set_option maxRecDepth 100000 in
theorem ghands_any (n : Int) (w : World) : Calls Try.prog 33 #[.int .i64 n] w fun e w' => e = .returned (.agg #[.int .i64 1, .int .i64 n]) ∧ Below w.heap.size w w' := by
  go_enter Try.func33, Try.ntmps33
  go_wp2_with fail
  refine bodyPost_ret (v := .agg #[.int .i64 1, .int .i64 n]) (by simp [results, Try.results33, go_sem]) rfl ⟨rfl, ?_⟩
  exact (Below.refl _ _).alloc (Nat.le_refl _) _
set_option maxRecDepth 100000 in
theorem isplayer_any (x : Wd) (p : Wp) (k : Int) (w : World) (hl : x.coins.length = x.at_.length) : Calls Try.prog 41 #[.agg #[.slice p.d.ex x.d.exits.length p.d.exc, .slice p.d.pl x.d.players.length p.d.plc, .slice p.d.co x.d.coins.length p.d.coc, .slice p.d.it x.d.items.length p.d.itc, .slice p.d.bo x.d.boxes.length p.d.boc, .int .i64 x.d.room, .int .i64 x.d.player, .int .i64 x.d.box, .slice p.at_ x.at_.length p.atc, .slice p.co x.coins.length p.coc, .slice p.wh x.wher.length p.whc], .int .i64 k] w fun e w' => e = .returned (.bool (inB k x.at_.length)) ∧ Below w.heap.size w w' := by
  have hb := (Below.refl w.heap.size w).alloc (Nat.le_refl _) (.cells #[.slice p.d.ex x.d.exits.length p.d.exc, .slice p.d.pl x.d.players.length p.d.plc, .slice p.d.co x.d.coins.length p.d.coc, .slice p.d.it x.d.items.length p.d.itc, .slice p.d.bo x.d.boxes.length p.d.boc, .int .i64 x.d.room, .int .i64 x.d.player, .int .i64 x.d.box, .slice p.at_ x.at_.length p.atc, .slice p.co x.coins.length p.coc, .slice p.wh x.wher.length p.whc] 29)
  unfold inB
  by_cases h1 : 0 ≤ k
  · by_cases h2 : k < x.at_.length
    · have h3 : k < x.coins.length := by rw [hl]; exact h2
      clear hl
      go_enter Try.func41, Try.ntmps41
      go_wp2_with fail
      go_ret
      exact ⟨ret_bool (by simp [h1, h2]), hb⟩
    · clear hl
      go_enter Try.func41, Try.ntmps41
      go_wp2_with fail
      go_ret
      exact ⟨ret_bool (by simp [h2]), hb⟩
  · clear hl
    go_enter Try.func41, Try.ntmps41
    go_wp2_with fail
    go_ret
    exact ⟨ret_bool (by simp; omega), hb⟩
set_option maxRecDepth 100000 in
set_option maxHeartbeats 400000 in
theorem areitems_any (x : Wd) (p : Wp) (l : List Int) (a : Option Addr) (c : Nat) (w : World) (h : IntsAt w a l) : Calls Try.prog 42 #[.agg #[.slice p.d.ex x.d.exits.length p.d.exc, .slice p.d.pl x.d.players.length p.d.plc, .slice p.d.co x.d.coins.length p.d.coc, .slice p.d.it x.d.items.length p.d.itc, .slice p.d.bo x.d.boxes.length p.d.boc, .int .i64 x.d.room, .int .i64 x.d.player, .int .i64 x.d.box, .slice p.at_ x.at_.length p.atc, .slice p.co x.coins.length p.coc, .slice p.wh x.wher.length p.whc], .slice a l.length c] w fun e w' => e = .returned (.bool (l.all fun k => inB k x.wher.length)) ∧ Below w.heap.size w w' := by
  have hm := h.len
  have H := Lib.hid h
  clear h
  have HH := Lib.hid (Holds.new w #[.slice p.d.ex x.d.exits.length p.d.exc, .slice p.d.pl x.d.players.length p.d.plc, .slice p.d.co x.d.coins.length p.d.coc, .slice p.d.it x.d.items.length p.d.itc, .slice p.d.bo x.d.boxes.length p.d.boc, .int .i64 x.d.room, .int .i64 x.d.player, .int .i64 x.d.box, .slice p.at_ x.at_.length p.atc, .slice p.co x.coins.length p.coc, .slice p.wh x.wher.length p.whc] 29)
  go_enter Try.func42, Try.ntmps42
  go_wp2_with fail
  go_loopw [6, 9] (fun _ i wr => ∃ k : Nat, k ≤ l.length ∧ i = .int .i64 k ∧ (l.take k).all (fun n => inB n x.wher.length) = true ∧ Holds w w.heap.size #[.slice p.d.ex x.d.exits.length p.d.exc, .slice p.d.pl x.d.players.length p.d.plc, .slice p.d.co x.d.coins.length p.d.coc, .slice p.d.it x.d.items.length p.d.itc, .slice p.d.bo x.d.boxes.length p.d.boc, .int .i64 x.d.room, .int .i64 x.d.player, .int .i64 x.d.box, .slice p.at_ x.at_.length p.atc, .slice p.co x.coins.length p.coc, .slice p.wh x.wher.length p.whc] wr) (fun _ i _ => l.length - (intOf i).toNat)
  case atStart => exact ⟨0, Nat.zero_le _, rfl, rfl, HH.out⟩
  case round =>
    obtain ⟨k, hk, rfl, htk, hh⟩ := hrel
    have HT := Lib.hid htk
    have HK := Lib.hid hh
    clear htk HH
    by_cases hlt : k < l.length
    · obtain ⟨b, o, rfl, hb, hc⟩ := H.out.at_ hlt
      have c1 := cell_call (hc k hlt) hh.1
      have hcl := hh.2.2
      have hls := hh.2.1
      clear hc H hb hh
      have HF := Lib.hid (all_take_succ (fun n => inB n x.wher.length) hlt HT.out)
      have HN := Lib.hid (all_not (fun n => inB n x.wher.length) hlt)
      generalize l[k] = y at *
      by_cases h0 : 0 ≤ y
      · by_cases h1 : y < x.wher.length
        · have HX := Lib.hid (show inB y x.wher.length = true by simp [inB, h0, h1])
          go_wp2_with fail
          go_roundw
          case rel => exact ⟨k + 1, by omega, by go_num, HF.out HX.out, HK.out⟩
          case measure => simp [intOf]; omega
        · have HX := Lib.hid (show inB y x.wher.length = false by simp [inB, h1])
          go_wp2_with fail
          go_ret
          exact ⟨ret_bool (HN.out HX.out).symm, HK.out.1⟩
      · have HX := Lib.hid (show inB y x.wher.length = false by simp [inB, h0])
        go_wp2_with fail
        go_ret
        exact ⟨ret_bool (HN.out HX.out).symm, HK.out.1⟩
    · have hke : k = l.length := by omega
      subst hke
      have HD := Lib.hid (all_whole _ HT.out)
      clear H hh
      go_wp2_with fail
      go_ret
      exact ⟨ret_bool HD.out.symm, HK.out.1⟩
set_option maxRecDepth 100000 in
set_option maxHeartbeats 400000 in
theorem areat_go (x : Wd) (ud : Dp) (ua uk uw : Option Addr) (uac ukc uwc : Nat) (l : List Nat) (a : Option Addr) (c : Nat) (yk yi : Int) (w : World) (h : PlsAt w uw x.wher) (hi : IntsAt w a (l.map fun (k : Nat) => (k : Int))) (hl : ∀ k ∈ l, k < x.wher.length) :
    Calls Try.prog 44 #[.agg #[.slice ud.ex x.d.exits.length ud.exc, .slice ud.pl x.d.players.length ud.plc, .slice ud.co x.d.coins.length ud.coc, .slice ud.it x.d.items.length ud.itc, .slice ud.bo x.d.boxes.length ud.boc, .int .i64 x.d.room, .int .i64 x.d.player, .int .i64 x.d.box, .slice ua x.at_.length uac, .slice uk x.coins.length ukc, .slice uw x.wher.length uwc], .slice a l.length c, .agg #[.int .i64 yk, .int .i64 yi]] w fun e w' => e = .returned (.bool (l.all fun k => decide (plOf x.wher k = ⟨yk, yi⟩))) ∧ Below w.heap.size w w' := by
  have hm : l.length ≤ 9223372036854775807 := by simpa using hi.len
  have hm2 := h.len
  have H := Lib.hid h
  have HI := Lib.hid hi
  have HL := Lib.hid hl
  clear h hi hl
  have HH := Lib.hid (Holds.pair w #[.slice ud.ex x.d.exits.length ud.exc, .slice ud.pl x.d.players.length ud.plc, .slice ud.co x.d.coins.length ud.coc, .slice ud.it x.d.items.length ud.itc, .slice ud.bo x.d.boxes.length ud.boc, .int .i64 x.d.room, .int .i64 x.d.player, .int .i64 x.d.box, .slice ua x.at_.length uac, .slice uk x.coins.length ukc, .slice uw x.wher.length uwc] #[.int .i64 yk, .int .i64 yi] 29 54)
  go_enter Try.func44, Try.ntmps44
  go_wp2_with fail
  go_loopw [8, 11] (fun _ i wr => ∃ k : Nat, k ≤ l.length ∧ i = .int .i64 k ∧ (l.take k).all (fun k => decide (plOf x.wher k = ⟨yk, yi⟩)) = true ∧ Holds w w.heap.size #[.slice ud.ex x.d.exits.length ud.exc, .slice ud.pl x.d.players.length ud.plc, .slice ud.co x.d.coins.length ud.coc, .slice ud.it x.d.items.length ud.itc, .slice ud.bo x.d.boxes.length ud.boc, .int .i64 x.d.room, .int .i64 x.d.player, .int .i64 x.d.box, .slice ua x.at_.length uac, .slice uk x.coins.length ukc, .slice uw x.wher.length uwc] wr ∧ Holds w (w.heap.size + 1) #[.int .i64 yk, .int .i64 yi] wr) (fun _ i _ => l.length - (intOf i).toNat)
  case atStart => exact ⟨0, Nat.zero_le _, rfl, rfl, HH.out.1, HH.out.2⟩
  case round =>
    obtain ⟨j, hj, rfl, htk, h1, h2⟩ := hrel
    have HT := Lib.hid htk
    have H1 := Lib.hid h1
    have H2 := Lib.hid h2
    clear htk HH
    by_cases hlt : j < l.length
    · have HF := Lib.hid (all_take_succ (fun k => decide (plOf x.wher k = ⟨yk, yi⟩)) hlt HT.out)
      have HN := Lib.hid (all_not (fun k => decide (plOf x.wher k = ⟨yk, yi⟩)) hlt)
      obtain ⟨b, o, rfl, hb, hc⟩ := HI.out.at_ (show j < (l.map fun (k : Nat) => (k : Int)).length by simpa using hlt)
      have c1 := hc j (by simpa using hlt)
      simp only [List.getElem_map] at c1
      have hk := HL.out l[j] (List.getElem_mem hlt)
      clear hc hb
      generalize l[j] = k at *
      have c1 := cell_call c1 h1.1
      obtain ⟨yb, yo, rfl, hyb, d0, d1⟩ := PlsAt.cells H.out hk
      rw [← plOf_get hk] at d0 d1
      have d0 := cell_call d0 h1.1
      have d1 := cell_call d1 h1.1
      have hc1 := h1.2.2
      have hl1 := h1.2.1
      have hc2 := h2.2.2
      have hl2 := h2.2.1
      have hk1 : ¬ (x.wher.length : Int) ≤ (k : Int) := by omega
      have hk2 : (x.wher.length ≤ k) = False := by simp; omega
      clear hyb h1 h2
      generalize plOf x.wher k = z at *
      obtain ⟨zk, zi⟩ := z
      simp only at d0 d1
      have hrun := run_pl zk zi yk yi
      by_cases hz : (⟨zk, zi⟩ : Pl) = ⟨yk, yi⟩
      all_goals
        have HZ := Lib.hid hz
        simp only [hz, decide_true, decide_false, Bool.not_true, Bool.not_false] at hrun
        clear hz
        go_wp2_with fail
        refine wp_region_noPanic ?_
        refine wp_region_held_drew (S := (fun w' => (∀ i, w'.cell? ⟨w.heap.size, i, none⟩ = (#[.slice ud.ex x.d.exits.length ud.exc, .slice ud.pl x.d.players.length ud.plc, .slice ud.co x.d.coins.length ud.coc, .slice ud.it x.d.items.length ud.itc, .slice ud.bo x.d.boxes.length ud.boc, .int .i64 x.d.room, .int .i64 x.d.player, .int .i64 x.d.box, .slice ua x.at_.length uac, .slice uk x.coins.length ukc, .slice (some ⟨yb, yo, none⟩) x.wher.length uwc][i]? : Option Value)) ∧ (∀ i, w'.cell? ⟨w.heap.size + 1, i, none⟩ = (#[.int .i64 yk, .int .i64 yi][i]? : Option Value)) ∧ w'.cell? ⟨yb, yo + k * 2, none⟩ = some (.int .i64 zk) ∧ w'.cell? ⟨yb, yo + k * 2 + 1, none⟩ = some (.int .i64 zi))) (by kernel_rfl) (by (first | (exact ⟨hc1, hc2, d0, d1⟩))) (fun hHeld => ?_)
        first
          | (refine wpAnyH_take (i := 0) (v := undef) (by simp only [List.getElem?_toArray, List.getElem?_cons_zero]; rfl) (by kernel_rfl) (by kernel_rfl) (by kernel_rfl) (fun _ _ _ h => h) (Or.inr ⟨by rfl, rfl⟩) (by assumption) ?_; try simp only [Act.put, List.setIfInBounds_toArray, List.set_cons_zero, List.set_cons_succ])
          | (refine wpAnyH_take (i := 0) (v := ?_) (by simp only [List.getElem?_toArray, List.getElem?_cons_zero]; rfl) (by kernel_rfl) (by kernel_rfl) (by kernel_rfl) (fun _ _ _ h => h) (Or.inl ⟨by rfl, ?_⟩) (by assumption) ?_
             rotate_left
             · (intro ww hSw; (try dsimp only at hSw); go_simp; (try with_reducible rfl))
             try simp only [Act.put, List.setIfInBounds_toArray, List.set_cons_zero, List.set_cons_succ])
          | (refine wpAnyH_ready (rs := [0]) (by kernel_rfl) (by simp) (AllReadyH.cons (by simp only [List.getElem?_toArray, List.getElem?_cons_succ, List.getElem?_cons_zero]; rfl) (fun K hK => ?_) AllReadyH.nil)
             go_simp
             first
               | (fail)
             try go_wp2_with fail
             refine hK.out _ _ (by (first | (exact ⟨hc1, hc2, d0, d1⟩))) (fun hHeld => ?_)
             clear hK K
             try simp only [Act.put, List.setIfInBounds_toArray, List.set_cons_zero, List.set_cons_succ])
        first
          | (refine wpAnyH_take (i := 1) (v := undef) (by simp only [List.getElem?_toArray, List.getElem?_cons_succ, List.getElem?_cons_zero]; rfl) (by kernel_rfl) (by kernel_rfl) (by kernel_rfl) (fun _ _ _ h => h) (Or.inr ⟨by rfl, rfl⟩) (by assumption) ?_; try simp only [Act.put, List.setIfInBounds_toArray, List.set_cons_zero, List.set_cons_succ])
          | (refine wpAnyH_take (i := 1) (v := ?_) (by simp only [List.getElem?_toArray, List.getElem?_cons_succ, List.getElem?_cons_zero]; rfl) (by kernel_rfl) (by kernel_rfl) (by kernel_rfl) (fun _ _ _ h => h) (Or.inl ⟨by rfl, ?_⟩) (by assumption) ?_
             rotate_left
             · (intro ww hSw; (try dsimp only at hSw); go_simp; (try with_reducible rfl))
             try simp only [Act.put, List.setIfInBounds_toArray, List.set_cons_zero, List.set_cons_succ])
          | (refine wpAnyH_ready (rs := [1]) (by kernel_rfl) (by simp) (AllReadyH.cons (by simp only [List.getElem?_toArray, List.getElem?_cons_succ, List.getElem?_cons_zero]; rfl) (fun K hK => ?_) AllReadyH.nil)
             go_simp
             first
               | (fail)
             try go_wp2_with fail
             refine hK.out _ _ (by (first | (exact ⟨hc1, hc2, d0, d1⟩))) (fun hHeld => ?_)
             clear hK K
             try simp only [Act.put, List.setIfInBounds_toArray, List.set_cons_zero, List.set_cons_succ])
        first
          | (refine wpAnyH_take (i := 2) (v := undef) (by simp only [List.getElem?_toArray, List.getElem?_cons_succ, List.getElem?_cons_zero]; rfl) (by kernel_rfl) (by kernel_rfl) (by kernel_rfl) (fun _ _ _ h => h) (Or.inr ⟨by rfl, rfl⟩) (by assumption) ?_; try simp only [Act.put, List.setIfInBounds_toArray, List.set_cons_zero, List.set_cons_succ])
          | (refine wpAnyH_take (i := 2) (v := ?_) (by simp only [List.getElem?_toArray, List.getElem?_cons_succ, List.getElem?_cons_zero]; rfl) (by kernel_rfl) (by kernel_rfl) (by kernel_rfl) (fun _ _ _ h => h) (Or.inl ⟨by rfl, ?_⟩) (by assumption) ?_
             rotate_left
             · (intro ww hSw; (try dsimp only at hSw); go_simp; (try with_reducible rfl))
             try simp only [Act.put, List.setIfInBounds_toArray, List.set_cons_zero, List.set_cons_succ])
          | (refine wpAnyH_ready (rs := [2]) (by kernel_rfl) (by simp) (AllReadyH.cons (by simp only [List.getElem?_toArray, List.getElem?_cons_succ, List.getElem?_cons_zero]; rfl) (fun K hK => ?_) AllReadyH.nil)
             go_simp
             first
               | (fail)
             try go_wp2_with fail
             refine hK.out _ _ (by (first | (exact ⟨hc1, hc2, d0, d1⟩))) (fun hHeld => ?_)
             clear hK K
             try simp only [Act.put, List.setIfInBounds_toArray, List.set_cons_zero, List.set_cons_succ])
        first
          | (refine wpAnyH_take (i := 3) (v := undef) (by simp only [List.getElem?_toArray, List.getElem?_cons_succ, List.getElem?_cons_zero]; rfl) (by kernel_rfl) (by kernel_rfl) (by kernel_rfl) (fun _ _ _ h => h) (Or.inr ⟨by rfl, rfl⟩) (by assumption) ?_; try simp only [Act.put, List.setIfInBounds_toArray, List.set_cons_zero, List.set_cons_succ])
          | (refine wpAnyH_take (i := 3) (v := ?_) (by simp only [List.getElem?_toArray, List.getElem?_cons_succ, List.getElem?_cons_zero]; rfl) (by kernel_rfl) (by kernel_rfl) (by kernel_rfl) (fun _ _ _ h => h) (Or.inl ⟨by rfl, ?_⟩) (by assumption) ?_
             rotate_left
             · (intro ww hSw; (try dsimp only at hSw); go_simp; (try with_reducible rfl))
             try simp only [Act.put, List.setIfInBounds_toArray, List.set_cons_zero, List.set_cons_succ])
          | (refine wpAnyH_ready (rs := [3]) (by kernel_rfl) (by simp) (AllReadyH.cons (by simp only [List.getElem?_toArray, List.getElem?_cons_succ, List.getElem?_cons_zero]; rfl) (fun K hK => ?_) AllReadyH.nil)
             go_simp
             first
               | (fail)
             try go_wp2_with fail
             refine hK.out _ _ (by (first | (exact ⟨hc1, hc2, d0, d1⟩))) (fun hHeld => ?_)
             clear hK K
             try simp only [Act.put, List.setIfInBounds_toArray, List.set_cons_zero, List.set_cons_succ])
        first
          | (refine wpAnyH_take (i := 4) (v := undef) (by simp only [List.getElem?_toArray, List.getElem?_cons_succ, List.getElem?_cons_zero]; rfl) (by kernel_rfl) (by kernel_rfl) (by kernel_rfl) (fun _ _ _ h => h) (Or.inr ⟨by rfl, rfl⟩) (by assumption) ?_; try simp only [Act.put, List.setIfInBounds_toArray, List.set_cons_zero, List.set_cons_succ])
          | (refine wpAnyH_take (i := 4) (v := ?_) (by simp only [List.getElem?_toArray, List.getElem?_cons_succ, List.getElem?_cons_zero]; rfl) (by kernel_rfl) (by kernel_rfl) (by kernel_rfl) (fun _ _ _ h => h) (Or.inl ⟨by rfl, ?_⟩) (by assumption) ?_
             rotate_left
             · (intro ww hSw; (try dsimp only at hSw); go_simp; (try with_reducible rfl))
             try simp only [Act.put, List.setIfInBounds_toArray, List.set_cons_zero, List.set_cons_succ])
          | (refine wpAnyH_ready (rs := [4]) (by kernel_rfl) (by simp) (AllReadyH.cons (by simp only [List.getElem?_toArray, List.getElem?_cons_succ, List.getElem?_cons_zero]; rfl) (fun K hK => ?_) AllReadyH.nil)
             go_simp
             first
               | (fail)
             try go_wp2_with fail
             refine hK.out _ _ (by (first | (exact ⟨hc1, hc2, d0, d1⟩))) (fun hHeld => ?_)
             clear hK K
             try simp only [Act.put, List.setIfInBounds_toArray, List.set_cons_zero, List.set_cons_succ])
        first
          | (refine wpAnyH_take (i := 5) (v := undef) (by simp only [List.getElem?_toArray, List.getElem?_cons_succ, List.getElem?_cons_zero]; rfl) (by kernel_rfl) (by kernel_rfl) (by kernel_rfl) (fun _ _ _ h => h) (Or.inr ⟨by rfl, rfl⟩) (by assumption) ?_; try simp only [Act.put, List.setIfInBounds_toArray, List.set_cons_zero, List.set_cons_succ])
          | (refine wpAnyH_take (i := 5) (v := ?_) (by simp only [List.getElem?_toArray, List.getElem?_cons_succ, List.getElem?_cons_zero]; rfl) (by kernel_rfl) (by kernel_rfl) (by kernel_rfl) (fun _ _ _ h => h) (Or.inl ⟨by rfl, ?_⟩) (by assumption) ?_
             rotate_left
             · (intro ww hSw; (try dsimp only at hSw); go_simp; (try with_reducible rfl))
             try simp only [Act.put, List.setIfInBounds_toArray, List.set_cons_zero, List.set_cons_succ])
          | (refine wpAnyH_ready (rs := [5]) (by kernel_rfl) (by simp) (AllReadyH.cons (by simp only [List.getElem?_toArray, List.getElem?_cons_succ, List.getElem?_cons_zero]; rfl) (fun K hK => ?_) AllReadyH.nil)
             go_simp
             first
               | (fail)
             try go_wp2_with fail
             refine hK.out _ _ (by (first | (exact ⟨hc1, hc2, d0, d1⟩))) (fun hHeld => ?_)
             clear hK K
             try simp only [Act.put, List.setIfInBounds_toArray, List.set_cons_zero, List.set_cons_succ])
        first
          | (refine wpAnyH_take (i := 6) (v := undef) (by simp only [List.getElem?_toArray, List.getElem?_cons_succ, List.getElem?_cons_zero]; rfl) (by kernel_rfl) (by kernel_rfl) (by kernel_rfl) (fun _ _ _ h => h) (Or.inr ⟨by rfl, rfl⟩) (by assumption) ?_; try simp only [Act.put, List.setIfInBounds_toArray, List.set_cons_zero, List.set_cons_succ])
          | (refine wpAnyH_take (i := 6) (v := ?_) (by simp only [List.getElem?_toArray, List.getElem?_cons_succ, List.getElem?_cons_zero]; rfl) (by kernel_rfl) (by kernel_rfl) (by kernel_rfl) (fun _ _ _ h => h) (Or.inl ⟨by rfl, ?_⟩) (by assumption) ?_
             rotate_left
             · (intro ww hSw; (try dsimp only at hSw); go_simp; (try with_reducible rfl))
             try simp only [Act.put, List.setIfInBounds_toArray, List.set_cons_zero, List.set_cons_succ])
          | (refine wpAnyH_ready (rs := [6]) (by kernel_rfl) (by simp) (AllReadyH.cons (by simp only [List.getElem?_toArray, List.getElem?_cons_succ, List.getElem?_cons_zero]; rfl) (fun K hK => ?_) AllReadyH.nil)
             go_simp
             first
               | (fail)
             try go_wp2_with fail
             refine hK.out _ _ (by (first | (exact ⟨hc1, hc2, d0, d1⟩))) (fun hHeld => ?_)
             clear hK K
             try simp only [Act.put, List.setIfInBounds_toArray, List.set_cons_zero, List.set_cons_succ])
        refine wpAnyH_done (by kernel_rfl) ?_ _
        refine NoPanic.normal ?_
        clear hHeld hc1 hl1 hc2 hl2
        have J1 := Lib.hid H1.out.drew
        have J2 := Lib.hid H2.out.drew
        clear H1 H2
        generalize wr.drew = W5 at *
        go_wp2_with fail
      · go_roundw
        case rel => exact ⟨j + 1, by omega, by go_num, HF.out (by simpa using HZ.out), J1.out, J2.out⟩
        case measure => simp [intOf]; omega
      · go_ret
        exact ⟨ret_bool (HN.out (by simpa using HZ.out)).symm, J1.out.1⟩
    · have hke : j = l.length := by omega
      subst hke
      have HD := Lib.hid (all_whole _ HT.out)
      clear h1 h2
      go_wp2_with fail
      go_ret
      exact ⟨ret_bool HD.out.symm, H1.out.1⟩
theorem areat_any (x : Wd) (p : Wp) (l : List Nat) (a : Option Addr) (c : Nat) (i : Nat) (w : World) (h : PlsAt w p.wh x.wher) (hi : IntsAt w a (l.map fun (k : Nat) => (k : Int))) (hl : ∀ k ∈ l, k < x.wher.length) :
    Calls Try.prog 44 #[.agg #[.slice p.d.ex x.d.exits.length p.d.exc, .slice p.d.pl x.d.players.length p.d.plc, .slice p.d.co x.d.coins.length p.d.coc, .slice p.d.it x.d.items.length p.d.itc, .slice p.d.bo x.d.boxes.length p.d.boc, .int .i64 x.d.room, .int .i64 x.d.player, .int .i64 x.d.box, .slice p.at_ x.at_.length p.atc, .slice p.co x.coins.length p.coc, .slice p.wh x.wher.length p.whc], .slice a l.length c, .agg #[.int .i64 1, .int .i64 (i : Int)]] w fun e w' => e = .returned (.bool (hasB x i l)) ∧ Below w.heap.size w w' := areat_go x p.d p.at_ p.co p.wh p.atc p.coc p.whc l a c 1 i w h hi hl
end Go.Proofs.Ytcigbliilmonfaa
