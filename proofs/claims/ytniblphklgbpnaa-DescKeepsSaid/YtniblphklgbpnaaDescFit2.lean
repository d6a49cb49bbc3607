/- desc.fit: has no place more than it may? The walk. -/
import Derived.Test.YtniblphklgbpnaaRows
import Derived.Test.YtniblphklgbpnaaKit
import Derived.Test.YtniblphklgbpnaaStrs
import Derived.Test.YtniblphklgbpnaaCoin
import Derived.Test.YtniblphklgbpnaaBlk
import Derived.Test.YtniblphklgbpnaaHolds
import Derived.Test.YtniblphklgbpnaaWorldMath
import Derived.Test.YtniblphklgbpnaaWorldAt
import Derived.Test.YtniblphklgbpnaaDescFit
import Derived.Deep.QuietTactic
import Derived.BigQuiet
import Derived.Deep.RegionHeld3
import Derived.WalkKit
import Derived.ProofKit
import Derived.OpenShut
import Derived.IntWalk
namespace Go.Proofs.Ytniblphklgbpnaa
open Go.ChangeShapes Go.WideShapes Go.ChangeAt Go.RowKit
set_option linter.unusedVariables false
open Go.RowKit
/-- An operation whose run is known, as one step of a region that draws its order: an entry of a map; its store. -/
theorem step_entry {P : Program} {ops : Array Oper} {o : Oper} {a : Act} {w : World} {K : Act → World → Prop} {Q : Exit → Act → World → Prop} {E : Prop}
    (hg : o.guard = none) (t : TypeId) (m x : Operand) (hop : o.op = Op.mapEntry t m x) (v u r : Value) (w' : World) (hm : a.eval m = v) (hx : a.eval x = u)
    (hrun : (Instr.mapEntry t v u).run P w = .ok r w') (hK : K (a.put o.dst r) w') : if Region.wanted o (yielded ops a.tmps) = true then Oper.wp P o a w K Q else E := by
  rw [if_pos (by simp [Region.wanted, hg])]
  unfold Oper.wp
  simp [execOp, hop, hm, hx, hrun, Result.andThen]
  exact hK
theorem step_stamp {P : Program} {ops : Array Oper} {o : Oper} {a : Act} {w : World} {K : Act → World → Prop} {Q : Exit → Act → World → Prop} {E : Prop}
    (hg : o.guard = none) (t : TypeId) (m s x : Operand) (hop : o.op = Op.entryStore t m s x) (v u y : Value) (w' : World) (hm : a.eval m = v) (hs : a.eval s = u) (hx : a.eval x = y)
    (hrun : (Instr.entryStore t v u y).run P w = .ok () w') (hK : K (a.put o.dst undef) w') : if Region.wanted o (yielded ops a.tmps) = true then Oper.wp P o a w K Q else E := by
  rw [if_pos (by simp [Region.wanted, hg])]
  unfold Oper.wp
  simp [execOp, hop, hm, hs, hx, hrun, Result.andThen]
  exact hK
theorem step_lookup {P : Program} {ops : Array Oper} {o : Oper} {a : Act} {w : World} {K : Act → World → Prop} {Q : Exit → Act → World → Prop} {E : Prop}
    (hg : o.guard = none) (t : TypeId) (m x : Operand) (c : Bool) (hop : o.op = Op.lookup t m x c) (v u r : Value) (w' : World) (hm : a.eval m = v) (hx : a.eval x = u)
    (hrun : (Instr.lookup t v u c).run P w = .ok r w') (hK : K (a.put o.dst r) w') : if Region.wanted o (yielded ops a.tmps) = true then Oper.wp P o a w K Q else E := by
  rw [if_pos (by simp [Region.wanted, hg])]
  unfold Oper.wp
  simp [execOp, hop, hm, hx, hrun, Result.andThen]
  exact hK
/-- So many of each, among the first. -/
def cntK (ps : List Pl) (k : Nat) : Pl → Nat := fun p => (ps.take k).count p
theorem cnt_bump {ps : List Pl} {k : Nat} (hk : k < ps.length) : bump (cntK ps k) ps[k] = cntK ps (k + 1) := by
  funext q
  simp only [bump, cntK]
  rw [List.take_succ_eq_append_getElem hk, List.count_append]
  by_cases e : q = ps[k]
  · rw [if_pos e, ← e]; simp
  · rw [if_neg e, show [ps[k]].count q = 0 from List.count_eq_zero.2 (by simpa using e)]; rfl
theorem cnt_le (ps : List Pl) (k : Nat) (p : Pl) : cntK ps k p ≤ ps.count p := by
  have h := List.count_append (a := p) (l₁ := ps.take k) (l₂ := ps.drop k)
  rw [List.take_append_drop] at h
  simp only [cntK]; omega
/-- Nobody has more, among the first. -/
def FitK (d : Ds) (ps : List Pl) (k : Nat) : Prop := ∀ p ∈ ps.take k, (cntK ps k p : Int) ≤ capOf d p.kind
theorem fit_step {d : Ds} {ps : List Pl} {k : Nat} (hk : k < ps.length) (h : FitK d ps k) (hc : (cntK ps (k + 1) ps[k] : Int) ≤ capOf d ps[k].kind) : FitK d ps (k + 1) := by
  intro p hp
  by_cases e : p = ps[k]
  · subst e; exact hc
  · rw [List.take_succ_eq_append_getElem hk, List.mem_append] at hp
    have hp2 : p ∈ ps.take k := by
      rcases hp with hp | hp
      · exact hp
      · exact absurd (by simpa using hp) e
    have := h p hp2
    rw [← cnt_bump hk]
    simp only [bump]
    rw [if_neg e]
    exact this
theorem fit_no {d : Ds} {ps : List Pl} {k : Nat} (hk : k < ps.length) (hc : ¬ (cntK ps (k + 1) ps[k] : Int) ≤ capOf d ps[k].kind) : fitB d ps = false := by
  refine all_not _ hk ?_
  have := cnt_le ps (k + 1) ps[k]
  simp only [decide_eq_false_iff_not]
  omega
theorem fit_end {d : Ds} {ps : List Pl} (h : FitK d ps ps.length) : fitB d ps = true := by
  simp only [fitB, List.all_eq_true, decide_eq_true_eq]
  intro p hp
  have := h p (by simpa using hp)
  simpa [cntK] using this
/-- A place's most. -/
def mostOf (d : Ds) (k : Int) : Nat → Int := fun i => if i = 0 then d.room else if i = 1 then d.player else d.box
theorem Cts.at_ {W : World} {n : Nat} (hn : W.heap.size = n) (ps : List Pl) : Cts (W.alloc (.map #[] 0)) n (cntK ps 0) := by
  subst hn
  rw [show cntK ps 0 = fun _ => 0 by funext p; simp [cntK]]
  exact Cts.new W
theorem grown_cell {W W' : World} {r : Option Nat} (hg : W.grownBy W' r) {p : Addr} (hp : p.block < W.heap.size) (hn : some p.block ≠ r) : W'.cell? p = W.cell? p := by
  simp [World.cell?, hg.block p.block hp hn]
set_option maxRecDepth 100000 in
theorem fit_any (d : Ds) (dp : Dp) (a : Option Addr) (c : Nat) (ps : List Pl) (w : World) (h : PlsAt w a ps) (hk : ∀ p ∈ ps, 0 ≤ p.kind ∧ p.kind < 3 ∧ PlWf p) (hl : ps.length ≤ 1000000) :
    Calls Try.prog 31 #[.agg #[.slice dp.ex d.exits.length dp.exc, .slice dp.pl d.players.length dp.plc, .slice dp.co d.coins.length dp.coc, .slice dp.it d.items.length dp.itc, .slice dp.bo d.boxes.length dp.boc, .int .i64 d.room, .int .i64 d.player, .int .i64 d.box], .slice a ps.length c] w fun e w' => e = .returned (.bool (fitB d ps)) ∧ Below w.heap.size w w' := by
  have hm := h.len
  have H := Lib.hid h
  have HK := Lib.hid hk
  have hmm := @run_makeMap Try.prog
  clear h hk
  go_enter Try.func31, Try.ntmps31
  go_wp2_with fail
  go_loopw [8, 19] (fun _ i wr => ∃ k : Nat, k ≤ ps.length ∧ i = .int .i64 k ∧ FitK d ps k ∧ Below w.heap.size w wr ∧ Cts wr (w.heap.size + 2) (cntK ps k) ∧ (∀ i, wr.cell? ⟨w.heap.size + 1, i, none⟩ = (#[.int .i64 d.room, .int .i64 d.player, .int .i64 d.box][i]? : Option Value))) (fun _ i _ => ps.length - (intOf i).toNat)
  case atStart =>
    have hp := (Holds.pair w #[.slice dp.ex d.exits.length dp.exc, .slice dp.pl d.players.length dp.plc, .slice dp.co d.coins.length dp.coc, .slice dp.it d.items.length dp.itc, .slice dp.bo d.boxes.length dp.boc, .int .i64 d.room, .int .i64 d.player, .int .i64 d.box] #[.int .i64 d.room, .int .i64 d.player, .int .i64 d.box] 26 64).2.alloc (.map #[] 0)
    exact ⟨0, Nat.zero_le _, rfl, fun p hp => absurd hp (by simp), hp.1, Cts.at_ (by simp) ps, hp.2.2⟩
  case round =>
    obtain ⟨k, hk, rfl, hf, hbel, hcts, hmost⟩ := hrel
    by_cases hlt : k < ps.length
    · obtain ⟨b, o, rfl, hb, c0, c1⟩ := PlsAt.cells (RowAt.below H.out hbel (Nat.le_refl _)) hlt
      obtain ⟨k0, k3, hwf⟩ := HK.out ps[k] (List.getElem_mem hlt)
      have HS := Lib.hid (fun hc => fit_step hlt hf hc)
      have HN := Lib.hid (fun hc => fit_no (d := d) hlt hc)
      have HC := Lib.hid (cnt_bump hlt)
      generalize hx : ps[k] = x at *
      have HX := Lib.hid hx
      clear hx H HK hf
      obtain ⟨kd, n⟩ := x
      obtain ⟨q, rfl⟩ : ∃ q : Nat, kd = q := ⟨kd.toNat, by simp only at k0; omega⟩
      have hq : q < 3 := by simp only at k3; omega
      have hcl := hcts.lt
      have hT : Cts ((wr.alloc (.cells #[.int .i64 q, .int .i64 n] 41)).drew) (w.heap.size + 2) (cntK ps k) := hcts.kept (Below.heap_alloc wr _ _ hcl)
      obtain ⟨st, W2, hent, hat, hg2⟩ := cts_entry hT ⟨q, n⟩ hwf
      obtain ⟨W3, hst, hcts3, hg3⟩ := cts_store hat hwf
      have hl1 := cts_lookup hT ⟨q, n⟩ hwf
      have hl2 := cts_lookup hat.cts ⟨q, n⟩ hwf
      have hl3 : ∀ j : Nat, (Instr.lookup 65 (.map (some (w.heap.size + 1 + 1))) (plv ⟨q, n⟩) false).run Try.prog (W3.drewN j) = .ok (.int .i64 ((bump (cntK ps k) ⟨q, n⟩ ⟨q, n⟩ : Nat) : Int)) (W3.drewN j) := fun j =>
        cts_lookup (w := W3.drewN j) (hcts3.kept rfl) ⟨q, n⟩ hwf
      have HA := Lib.hid (show ∀ i, (wr.alloc (.cells #[.int .i64 q, .int .i64 n] 41)).drew.cell? ⟨wr.heap.size, i, none⟩ = (#[.int .i64 q, .int .i64 n][i]? : Option Value) from (Holds.new wr _ _).2.2)
      have hlA : wr.heap.size < (wr.alloc (.cells #[.int .i64 q, .int .i64 n] 41)).drew.heap.size := (Holds.new wr #[.int .i64 q, .int .i64 n] 41).2.1
      have H2 := Lib.hid (show ∀ i, W2.cell? ⟨wr.heap.size, i, none⟩ = (#[.int .i64 q, .int .i64 n][i]? : Option Value) from fun i => (grown_cell hg2 (p := ⟨wr.heap.size, i, none⟩) hlA (by simp; omega)).trans (HA.out i))
      have hl22 : wr.heap.size < W2.heap.size := Nat.lt_of_lt_of_le hlA hg2.size
      have H3 := Lib.hid (show ∀ i, W3.cell? ⟨wr.heap.size, i, none⟩ = (#[.int .i64 q, .int .i64 n][i]? : Option Value) from fun i => (grown_cell hg3 (p := ⟨wr.heap.size, i, none⟩) hl22 (by simp; omega)).trans (H2.out i))
      have HM := Lib.hid (show ∀ i, W3.cell? ⟨w.heap.size + 1, i, none⟩ = (#[.int .i64 d.room, .int .i64 d.player, .int .i64 d.box][i]? : Option Value) from fun i =>
        (grown_cell hg3 (p := ⟨w.heap.size + 1, i, none⟩) (by show w.heap.size + 1 < _; omega) (by simp)).trans ((grown_cell hg2 (p := ⟨w.heap.size + 1, i, none⟩) (by show w.heap.size + 1 < _; omega) (by simp)).trans ((World.cell?_alloc_lt _ _ _ (by show w.heap.size + 1 < _; omega)).trans (hmost i))))
      have HQ := Lib.hid (show W3.cell? ⟨w.heap.size + 1, q, none⟩ = some (.int .i64 (capOf d q)) by
        rw [HM.out]
        obtain rfl | rfl | rfl : q = 0 ∨ q = 1 ∨ q = 2 := by omega
        · rfl
        · rfl
        · rfl)
      have HB := Lib.hid (show Below w.heap.size w W3 from (((hbel.alloc hbel.size _).drew.grown hg2 (by have := hbel.size; simp; omega) (fun j hj => by cases hj; omega)).grown hg3 (by omega) (fun j hj => by cases hj; omega)))
      have hcc := cnt_le ps k ⟨q, n⟩
      have hcl2 := List.count_le_length (a := (⟨q, n⟩ : Pl)) (l := ps)
      have hbm : bump (cntK ps k) ⟨q, n⟩ ⟨q, n⟩ = cntK ps k ⟨q, n⟩ + 1 := by simp [bump]
      simp only [hbm, Int.natCast_add, Int.cast_ofNat_Int] at hl3
      rw [HC.out] at hcts3
      have HC3 := Lib.hid hcts3
      rw [← HC.out, hbm] at HS HN
      clear hcts3 HC
      unfold plv at hent hl1 hl2 hl3
      simp only at hent hl1 hl2 hl3 HS HN hst
      generalize cntK ps k ⟨q, n⟩ = cc at *
      have hw1 : IntKind.i64.wrap ((cc : Int) + 1) = (cc : Int) + 1 := IntWalk.i64_in _ (by omega)
      have HL1 := Lib.hid hl1
      have HL2 := Lib.hid hl2
      have HL3 := Lib.hid hl3
      have HEn := Lib.hid hent
      have HSt := Lib.hid hst
      have HWf := Lib.hid hwf
      clear hl1 hl2 hl3 hent hst hwf hT hat hg2 hg3 hbm hbel hcts hmost hmm
      simp only at c0 c1
      go_wp2_with fail
      refine wp_region_noPanic ?_
      refine wp_region_held_drew (S := (fun w' => ∀ i, w'.cell? ⟨wr.heap.size, i, none⟩ = (#[.int .i64 q, .int .i64 n][i]? : Option Value))) (by kernel_rfl) (by (first | (exact HA.out) | (exact H2.out) | (exact H3.out))) (fun hHeld => ?_)
      refine wpAnyH_take (i := 0) (v := ?_) (by simp only [List.getElem?_toArray, List.getElem?_cons_succ, List.getElem?_cons_zero]; rfl) (by kernel_rfl) (by kernel_rfl) (by kernel_rfl) (fun _ _ _ h => h) (Or.inl ⟨by rfl, ?_⟩) (by assumption) ?_
      rotate_left
      · (intro ww hSw; (try dsimp only at hSw); go_simp; (try with_reducible rfl))
      try simp only [Act.put, List.setIfInBounds_toArray, List.set_cons_zero, List.set_cons_succ]
      refine wpAnyH_take (i := 1) (v := ?_) (by simp only [List.getElem?_toArray, List.getElem?_cons_succ, List.getElem?_cons_zero]; rfl) (by kernel_rfl) (by kernel_rfl) (by kernel_rfl) (fun _ _ _ h => h) (Or.inl ⟨by rfl, ?_⟩) (by assumption) ?_
      rotate_left
      · (intro ww hSw; (try dsimp only at hSw); go_simp; (try with_reducible rfl))
      try simp only [Act.put, List.setIfInBounds_toArray, List.set_cons_zero, List.set_cons_succ]
      refine wpAnyH_ready (rs := [2, 4]) (by kernel_rfl) (by simp) (AllReadyH.cons (by simp only [List.getElem?_toArray, List.getElem?_cons_succ, List.getElem?_cons_zero]; rfl) (fun K hK => ?_) (AllReadyH.cons (by simp only [List.getElem?_toArray, List.getElem?_cons_succ, List.getElem?_cons_zero]; rfl) (fun K hK => ?_) AllReadyH.nil))
      ·
        refine step_lookup rfl 65 (.tmp 23) (.tmp 24) false rfl _ _ _ _ rfl rfl HL1.out ?_
        refine hK.out _ _ (by (first | (exact HA.out) | (exact H2.out) | (exact H3.out))) (fun hHeld => ?_)
        clear hK K
        try simp only [Act.put, List.setIfInBounds_toArray, List.set_cons_zero, List.set_cons_succ]
        refine wpAnyH_take (i := 3) (v := ?_) (by simp only [List.getElem?_toArray, List.getElem?_cons_succ, List.getElem?_cons_zero]; rfl) (by kernel_rfl) (by kernel_rfl) (by kernel_rfl) (fun _ _ _ h => h) (Or.inl ⟨by rfl, ?_⟩) (by assumption) ?_
        rotate_left
        · (intro ww hSw; (try dsimp only at hSw); go_simp; (try with_reducible rfl))
        try simp only [Act.put, List.setIfInBounds_toArray, List.set_cons_zero, List.set_cons_succ]
        refine wpAnyH_ready (rs := [4]) (by kernel_rfl) (by simp) (AllReadyH.cons (by simp only [List.getElem?_toArray, List.getElem?_cons_succ, List.getElem?_cons_zero]; rfl) (fun K hK => ?_) AllReadyH.nil)
        refine step_entry rfl 65 (.tmp 23) (.tmp 24) rfl _ _ _ W2 rfl rfl HEn.out ?_
        refine hK.out _ _ (by (first | (exact HA.out) | (exact H2.out) | (exact H3.out))) (fun hHeld => ?_)
        clear hK K
        try simp only [Act.put, List.setIfInBounds_toArray, List.set_cons_zero, List.set_cons_succ]
        refine wpAnyH_take (i := 5) (v := ?_) (by simp only [List.getElem?_toArray, List.getElem?_cons_succ, List.getElem?_cons_zero]; rfl) (by kernel_rfl) (by kernel_rfl) (by kernel_rfl) (fun _ _ _ h => h) (Or.inl ⟨by rfl, ?_⟩) (by assumption) ?_
        rotate_left
        · (intro ww hSw; (try dsimp only at hSw); go_simp; (try with_reducible rfl))
        try simp only [Act.put, List.setIfInBounds_toArray, List.set_cons_zero, List.set_cons_succ]
        refine wpAnyH_ready (rs := [6]) (by kernel_rfl) (by simp) (AllReadyH.cons (by simp only [List.getElem?_toArray, List.getElem?_cons_succ, List.getElem?_cons_zero]; rfl) (fun K hK => ?_) AllReadyH.nil)
        refine step_stamp rfl 65 (.tmp 23) (.tmp 28) (.tmp 26) rfl _ _ _ W3 rfl rfl rfl HSt.out ?_
        refine hK.out _ _ (by (first | (exact HA.out) | (exact H2.out) | (exact H3.out))) (fun hHeld => ?_)
        clear hK K
        try simp only [Act.put, List.setIfInBounds_toArray, List.set_cons_zero, List.set_cons_succ]
        refine wpAnyH_done (by kernel_rfl) ?_ _
        refine NoPanic.normal ?_
        have c2 := H3.out
        have c3 := HQ.out
        have hl3 := HL3.out
        by_cases hgt : capOf d q < (cc : Int) + 1
        · go_wp2_with fail
          go_quiet (fail)
          go_wp2_with fail
          go_ret
          exact ⟨ret_bool (HN.out (by push_cast; omega)).symm, bdrew HB.out _⟩
        · go_wp2_with fail
          go_quiet (fail)
          go_wp2_with fail
          go_roundw
          case rel => exact ⟨k + 1, by omega, by go_num, HS.out (by push_cast; omega), bdrew HB.out _, HC3.out, fun i => HM.out i⟩
          case measure => simp [intOf]; omega
      ·
        refine step_entry rfl 65 (.tmp 23) (.tmp 24) rfl _ _ _ W2 rfl rfl HEn.out ?_
        refine hK.out _ _ (by (first | (exact HA.out) | (exact H2.out) | (exact H3.out))) (fun hHeld => ?_)
        clear hK K
        try simp only [Act.put, List.setIfInBounds_toArray, List.set_cons_zero, List.set_cons_succ]
        refine wpAnyH_take (i := 5) (v := ?_) (by simp only [List.getElem?_toArray, List.getElem?_cons_succ, List.getElem?_cons_zero]; rfl) (by kernel_rfl) (by kernel_rfl) (by kernel_rfl) (fun _ _ _ h => h) (Or.inl ⟨by rfl, ?_⟩) (by assumption) ?_
        rotate_left
        · (intro ww hSw; (try dsimp only at hSw); go_simp; (try with_reducible rfl))
        try simp only [Act.put, List.setIfInBounds_toArray, List.set_cons_zero, List.set_cons_succ]
        refine wpAnyH_ready (rs := [2]) (by kernel_rfl) (by simp) (AllReadyH.cons (by simp only [List.getElem?_toArray, List.getElem?_cons_succ, List.getElem?_cons_zero]; rfl) (fun K hK => ?_) AllReadyH.nil)
        refine step_lookup rfl 65 (.tmp 23) (.tmp 24) false rfl _ _ _ _ rfl rfl HL2.out ?_
        refine hK.out _ _ (by (first | (exact HA.out) | (exact H2.out) | (exact H3.out))) (fun hHeld => ?_)
        clear hK K
        try simp only [Act.put, List.setIfInBounds_toArray, List.set_cons_zero, List.set_cons_succ]
        refine wpAnyH_take (i := 3) (v := ?_) (by simp only [List.getElem?_toArray, List.getElem?_cons_succ, List.getElem?_cons_zero]; rfl) (by kernel_rfl) (by kernel_rfl) (by kernel_rfl) (fun _ _ _ h => h) (Or.inl ⟨by rfl, ?_⟩) (by assumption) ?_
        rotate_left
        · (intro ww hSw; (try dsimp only at hSw); go_simp; (try with_reducible rfl))
        try simp only [Act.put, List.setIfInBounds_toArray, List.set_cons_zero, List.set_cons_succ]
        refine wpAnyH_ready (rs := [6]) (by kernel_rfl) (by simp) (AllReadyH.cons (by simp only [List.getElem?_toArray, List.getElem?_cons_succ, List.getElem?_cons_zero]; rfl) (fun K hK => ?_) AllReadyH.nil)
        refine step_stamp rfl 65 (.tmp 23) (.tmp 28) (.tmp 26) rfl _ _ _ W3 rfl rfl rfl HSt.out ?_
        refine hK.out _ _ (by (first | (exact HA.out) | (exact H2.out) | (exact H3.out))) (fun hHeld => ?_)
        clear hK K
        try simp only [Act.put, List.setIfInBounds_toArray, List.set_cons_zero, List.set_cons_succ]
        refine wpAnyH_done (by kernel_rfl) ?_ _
        refine NoPanic.normal ?_
        have c2 := H3.out
        have c3 := HQ.out
        have hl3 := HL3.out
        by_cases hgt : capOf d q < (cc : Int) + 1
        · go_wp2_with fail
          go_quiet (fail)
          go_wp2_with fail
          go_ret
          exact ⟨ret_bool (HN.out (by push_cast; omega)).symm, bdrew HB.out _⟩
        · go_wp2_with fail
          go_quiet (fail)
          go_wp2_with fail
          go_roundw
          case rel => exact ⟨k + 1, by omega, by go_num, HS.out (by push_cast; omega), bdrew HB.out _, HC3.out, fun i => HM.out i⟩
          case measure => simp [intOf]; omega
    · have hke : k = ps.length := by omega
      subst hke
      have HE := Lib.hid (fit_end hf)
      have HB := Lib.hid hbel
      clear H hf hbel
      go_wp2_with fail
      go_ret
      exact ⟨ret_bool HE.out.symm, HB.out⟩
end Go.Proofs.Ytniblphklgbpnaa
