import Derived.RangeFuncNested
import Derived.RangeFuncBox
import Derived.RangeFuncCalls
import Derived.RangeFuncLeaves
import Derived.Shelf.Abstract
import Derived.Shelf.RegionOpen
import Derived.OwnWalkIn
import Derived.TacticsInMore
import Derived.LoopNIn
import Derived.LoopIn
import Derived.Test.YtcabeagmdfpdlaaDoorJRange
import Derived.Test.YtcabeagmdfpdlaaDoorJTokWord
import Derived.WalkKit
import Derived.ProofKit
import Derived.OpenShut
import Derived.IntWalk
/- token: Cut: a line's words, in new memory. -/
namespace Go.Proofs.YtcabeagmdfpdlaaDoor
open Go.ChangeShapes Go.WideShapes Go.ChangeAt Go.RowKit Go.Shelf
set_option linter.unusedVariables false
attribute [local go_sem] Oper.semAt_some

/-- The world behind strings.SplitSeq: three boxes. -/
def seqWorld (w : World) (s sep : ByteArray) : World := ((w.alloc (.cells #[.string s] 9)).alloc (.cells #[.string sep] 9)).alloc (.cells #[.int .i64 0] 3)
theorem splitseq_any (s sep : ByteArray) (w : World) :
    Calls Tryd.prog 44 #[.string s, .string sep] w fun e w' => e = .returned (.func (.func 61) #[] #[.pointer (some ⟨w.heap.size + 1, 0, none⟩), .pointer (some ⟨w.heap.size, 0, none⟩), .pointer (some ⟨w.heap.size + 2, 0, none⟩)]) ∧ w' = seqWorld w s sep := by
  go_enter Tryd.func44, Tryd.ntmps44
  go_wp2
  go_ret
  exact ⟨rfl, rfl⟩

theorem Mid.refl (n1 n0 : Nat) (W : World) : Mid n1 n0 W W := fun _ _ _ => rfl
/-- Between two rounds: the words so far, in the caller's box. -/
def CutI (w : World) (pre : List (List UInt8)) (W : World) : Prop :=
  (∃ v, Boxed W w.heap.size 48 v ∧ W.ownsRow (w.heap.size + 4) 9 1 v (pre.filter full).length ((pre.filter full).map str) ∧ True) ∧ Below w.heap.size w W ∧ w.heap.size + 4 ≤ W.heap.size
theorem cutI_own (w : World) (B : Nat) (hB : w.heap.size ≤ B) : OwnFrom B (CutI w) :=
  (Own.from (holdsRow_own (w.heap.size + 4) w.heap.size 48 9 1 (fun pre : List (List UInt8) => (pre.filter full).length) (fun pre => (pre.filter full).map str) (fun _ _ => True)) B).and
    ((ownFrom_below (n₀ := w.heap.size) (B := B) (w₀ := w) (Nat.le_refl _) hB).and (fun _ _ _ _ (hs : w.heap.size + 4 ≤ _) hg _ => Nat.le_trans hs hg.size))
theorem cutI_set (w : World) (pre : List (List UInt8)) (W : World) (v : Value) (h : CutI w pre W) : CutI w pre (W.setCell ⟨w.heap.size + 1, 0, none⟩ v) := by
  obtain ⟨⟨u, hu, hrow, _⟩, hb, hs⟩ := h
  exact ⟨⟨u, boxed_other hu (by omega), ownsRow_setCell_below hrow (by show w.heap.size + 1 < _; omega) v, trivial⟩, hb.setCell (by show w.heap.size ≤ w.heap.size + 1; omega) v, by rw [show (W.setCell ⟨w.heap.size + 1, 0, none⟩ v).heap.size = W.heap.size by simp]; exact hs⟩
theorem full_yes' {x : List UInt8} (h : ¬ x = []) : full x = true := by cases x with | nil => exact absurd rfl h | cons a b => rfl
/-- Behind strings.Clone: the box and the row lie as they lay. -/
theorem after_clone {W w1 : World} {B base n : Nat} {v : Value} {xs : List Value} (hv : Boxed W B 48 v) (hr : W.ownsRow base 9 1 v n xs) (b1 : Below W.drew.heap.size W.drew w1) :
    Boxed w1 B 48 v ∧ w1.ownsRow base 9 1 v n xs ∧ Below W.heap.size W w1 := by
  have b2 : Below W.heap.size W w1 := ⟨b1.os, b1.tape, b1.output, b1.size, b1.block⟩
  refine ⟨(b2.block B hv.lt).trans hv, ?_, b2⟩
  have hg : W.grownBy w1 none := ⟨b2.os, b2.tape, b2.output, b2.size, fun k hk _ => b2.block k hk⟩
  exact hr.kept hg (by cases v.ownBlock <;> simp)
/-- One word more. -/
theorem cut_step {w W w1 w2 : World} {pre : List (List UInt8)} {x : List UInt8} {v v' : Value} {o : Obj} (hx : ¬ x = []) (hv : Boxed W w.heap.size 48 v)
    (hr : W.ownsRow (w.heap.size + 4) 9 1 v (pre.filter full).length ((pre.filter full).map str)) (hB : Below w.heap.size w W) (hs : w.heap.size + 4 ≤ W.heap.size) (b1 : Below W.heap.size W w1)
    (hr1 : w1.ownsRow (w.heap.size + 4) 9 1 v (pre.filter full).length ((pre.filter full).map str)) (hv1 : Boxed w1 w.heap.size 48 v)
    (hg : (w1.alloc o).grownBy w2 v.ownBlock) (hown : w2.ownsRow (w.heap.size + 4) 9 1 v' ((pre.filter full).length + 1) ((pre.filter full).map str ++ [.string ⟨x.toArray⟩])) :
    KeepsOthers W (w2.setCell ⟨w.heap.size, 0, none⟩ v') ∧ Mid (w.heap.size + 1) (w.heap.size + 4) W (w2.setCell ⟨w.heap.size, 0, none⟩ v') ∧ CutI w (pre ++ [x]) (w2.setCell ⟨w.heap.size, 0, none⟩ v') := by
  have hv2 : Boxed w2 w.heap.size 48 v := (hv1.alloc o).kept hg (hv1.not_row (by decide) hr1)
  have hlt : ∀ k, v.ownBlock = some k → w.heap.size + 4 ≤ k := fun k e => (hr1.lt k e).1
  have hb : b1.size = b1.size := rfl
  have s1 := b1.size
  have s2 : w1.heap.size + 1 ≤ w2.heap.size := by have := hg.size; simpa using this
  have e : (pre ++ [x]).filter full = pre.filter full ++ [x] := by rw [List.filter_append]; simp [full_yes' hx]
  refine ⟨?_, ?_, ⟨v', hv2.set v', ?_, trivial⟩, ?_, ?_⟩
  · have k1 : KeepsOthers W w1 := ⟨s1, fun k o' hk _ => (b1.block k (Array.getElem?_eq_some_iff.1 hk).1).trans hk⟩
    refine ((k1.trans (KeepsOthers.alloc w1 o)).trans (KeepsOthers.of_grownBy hg fun j o' ej hj => ?_)).trans (KeepsOthers.setCell _ _ _)
    rcases (hr1.alloc o).2 with ⟨rfl, _⟩ | ⟨g, cap, cur, rfl, _, hgb, _⟩
    · simp [Value.ownBlock] at ej
    · obtain rfl : g = j := by simpa [Value.ownBlock] using ej
      rw [hgb] at hj; cases hj; rfl
  · intro b h1 h2
    refine (Below.heap_setCell w2 ⟨w.heap.size, 0, none⟩ v' b (by show b ≠ w.heap.size; omega)).trans ?_
    refine (hg.block b (by simp; omega) (fun e => ?_)).trans ?_
    · have := hlt b e.symm; omega
    · exact (Below.heap_alloc w1 o b (by omega)).trans (b1.block b (by omega))
  · rw [e]
    have h3 := hown.kept (grownBy_setCell' w2 w.heap.size v') (.inr (hv2.not_row (by decide) hown).symm)
    simpa [str] using h3
  · refine ((((hB.trans (b1.mono (by omega))).alloc (by have := hB.size; omega) o).grown hg (by simp; omega) (fun k e => by have := hlt k e; omega))).setCell (Nat.le_refl _) v'
  · simp; omega
/-- An append to a row of the call's own, as one step of a region in a fence that draws its order. -/
theorem step_append_in {F : Fence} {n : Nat} {P : Program} {ops : Array Oper} {o : Oper} {a : Act} {w : World} {K : Act → World → Prop} {Q : Exit → Act → World → Prop} {E : Prop}
    (hg : o.guard = none) (s x : Operand) (t : TypeId) (hop : o.op = Op.call { callee := Callee.builtin Builtin.append, args := #[s, x], argTypes := #[t, t] })
    (v v' : Value) (w' : World) (ad : Addr) (m c : Nat) (hs : a.eval s = v) (hx : a.eval x = .slice (some ad) m c) (hrun : (Builtin.append_ #[t, t] o.type #[v, .slice (some ad) m c]).run P w = .ok v' w')
    (hK : K (a.put o.dst v') w') : if Region.wanted o (yielded ops a.tmps) = true then Oper.wpIn F n P o a w K Q else E := by
  rw [if_pos (by simp [Region.wanted, hg])]
  unfold Oper.wpIn
  refine ⟨?_, ?_⟩
  · simp [Oper.about, hop, resolve, Target.leads, Sem.run_pure]
  · rw [Oper.semAt_plain F _ _ (by rw [hop]; intro c hc'; cases hc')]
    simp [execOp, hop, resolve, invoke, builtin, hs, hx, hrun, Result.andThen]
    exact hK
theorem full_yes2 {x : List UInt8} (h : x ≠ []) : full x = true := by cases x with | nil => exact absurd rfl h | cons a b => rfl
set_option maxRecDepth 100000 in
set_option maxHeartbeats 2000000 in
theorem cut_cap (s : ByteArray) (w : World) (hs : s.size ≤ 1000000) : Calls Tryd.prog 29 #[.string s] w (GivesStrsC (words s.data.toList) w) := by
  refine (callsIn_wide (n := 6)).1 ?_
  refine callsIn_of_wp_marks Tryd.func29 rfl trivial ?_ rfl
  simp only [Tryd.ntmps29, List.size_toArray, List.length_cons, List.length_nil, Nat.reduceAdd, Nat.reduceSub, Array.replicate_succ, Array.replicate_zero, List.push_toArray, List.append_toArray, List.nil_append, List.cons_append]
  gi_wp2_with (refine ⟨trivial, ?_⟩; gi_at_call 44; refine (callsIn_wide.2 (splitseq_any _ _ _)).mono ?_; rintro e w' ⟨rfl, rfl⟩)
  obtain ⟨V, hV⟩ : ∃ V, V = seqWorld (w.alloc (.cells #[.slice none 0 0] 48)) s ⟨#[32]⟩ := ⟨_, rfl⟩
  have hsz : V.heap.size = w.heap.size + 4 := by rw [hV]; simp [seqWorld]
  have hBel : Below w.heap.size w V := by rw [hV]; exact ((((Below.refl _ w).alloc (Nat.le_refl _) _).alloc (by simp) _).alloc (by simp; omega) _).alloc (by simp; omega) _
  have bW : Boxed V w.heap.size 48 (.slice none 0 0) := by rw [hV]; exact (((Boxed.new w _ _).alloc _).alloc _).alloc _
  have bS : Boxed V (w.heap.size + 1) 9 (str s.data.toList) := by
    rw [hV, ← str_of]; have := ((Boxed.new (w.alloc (.cells #[.slice none 0 0] 48)) 9 (.string s)).alloc (.cells #[.string ⟨#[32]⟩] 9)).alloc (.cells #[.int .i64 0] 3)
    simpa [seqWorld] using this
  have bP : Boxed V (w.heap.size + 1 + 1) 9 (.string ⟨#[32]⟩) := by
    rw [hV]; have := (Boxed.new ((w.alloc (.cells #[.slice none 0 0] 48)).alloc (.cells #[.string s] 9)) 9 (.string ⟨#[32]⟩)).alloc (.cells #[.int .i64 0] 3)
    simpa [seqWorld] using this
  have bZ : Boxed V (w.heap.size + 1 + 2) 3 (.int .i64 0) := by
    rw [hV]; have := Boxed.new (((w.alloc (.cells #[.slice none 0 0] 48)).alloc (.cells #[.string s] 9)).alloc (.cells #[.string ⟨#[32]⟩] 9)) 3 (.int .i64 0)
    simpa [seqWorld, Nat.add_assoc] using this
  rw [← hV]
  clear hV
  obtain ⟨i0, hi0, hz0, hz1, hz2⟩ := info_parts string_info
  refine range_over (by omega) (w.heap.size + 1) (w.heap.size + 4) s.data.toList.length (w.heap.size + 1) (by omega) (by omega) (cuts s.data.toList) (gf := 61) (lb := #[.pointer (some ⟨w.heap.size + 1 + 1, 0, none⟩), .pointer (some ⟨w.heap.size + 1, 0, none⟩), .pointer (some ⟨w.heap.size + 1 + 2, 0, none⟩)]) rfl (enters_of Tryd.func61 (by kernel_rfl) rfl) rfl
    (fun l J W hb hR hst h0 => split_in _ l (w.heap.size + 1) (w.heap.size + 4) (w.heap.size + 1) (w.heap.size + 1 + 1) (w.heap.size + 1 + 2) s.data.toList J (by omega) (by rw [data_len]; omega) hR hst (by omega) (by omega) (by omega) (by omega) (by omega) W
      ((hb.block _ (by omega)).trans bS) ((hb.block _ (by omega)).trans bP) ((hb.block _ (by omega)).trans bZ) h0)
    (CutI w) (cutI_own w V.heap.size (by omega)) (cutI_set w)
    ⟨⟨_, bW, World.ownsRow_nil _ _ _ _, trivial⟩, hBel, by omega⟩
    (fun x => { tmps := #[.string s, undef, .slice none 0 0, .pointer (some ⟨w.heap.size, 0, none⟩), str x, .string s, .func (.func 61) #[] #[.pointer (some ⟨w.heap.size + 1 + 1, 0, none⟩), .pointer (some ⟨w.heap.size + 1, 0, none⟩), .pointer (some ⟨w.heap.size + 1 + 2, 0, none⟩)], str x, undef, undef, undef, undef, undef, undef, undef, undef], defers := [] }) ?assign ?body ?done
  case assign =>
    intro l x W K hK
    gi_wp2
    exact hK
  case body =>
    rintro l pre x W ⟨⟨v, hv, hrow, _⟩, hB, hW⟩ hN1 hN2
    rw [data_len] at hN1 hN2
    by_cases hx : x = []
    · subst hx
      unfold str
      gi_wp2
      exact ⟨KeepsOthers.refl _, Mid.refl _ _ _, ⟨v, hv, by simpa [full] using hrow, trivial⟩, hB, hW⟩
    · have hne : (x == []) = false := by simpa using hx
      have hc := hv.cell
      have hfr := hv.frozen
      have HV := Lib.hid hv
      have HROW := Lib.hid hrow
      have HB := Lib.hid hB
      have HW := Lib.hid hW
      have HX := Lib.hid hx
      clear hv hrow hB hW hx
      have hfl : (pre.filter full).length ≤ pre.length := List.length_filter_le _ _
      have HL1 := Lib.hid (show (pre.filter full).length + 1 ≤ maxLen by unfold maxLen; omega)
      have HL2 := Lib.hid (show ((pre.filter full).length + 1) * 16 ≤ 140737488355328 by omega)
      have hmx : Tryd.prog.follows .mixedOrders = true := by kernel_rfl
      unfold str
      gi_wp2
      refine wpIn_region_any hmx ?_
      change wpAnyIn _ _ _ _ _ _ _ _ _ (World.drew _)
      refine wpAnyIn_ready (rs := [0, 1]) (by kernel_rfl) (by simp) ?_
      refine AllReadyIn.cons rfl (fun K hK => ?_) (AllReadyIn.cons rfl (fun K hK => ?_) AllReadyIn.nil)
      ·
        go_simp
        refine hK _ _ ?_
        clear hK K
        refine wpAnyIn_ready (rs := [1]) (by kernel_rfl) (by simp) ?_
        refine AllReadyIn.cons rfl (fun K hK => ?_) AllReadyIn.nil
        go_simp
        refine hK _ _ ?_
        clear hK K
        refine wpAnyIn_ready (rs := [2]) (by kernel_rfl) (by simp) ?_
        refine AllReadyIn.cons rfl (fun K hK => ?_) AllReadyIn.nil
        go_simp
        refine ⟨trivial, ?_⟩
        refine (CallsIn.inRound l (callsIn_wide.2 (clone_any ⟨x.toArray⟩ _ (by simp [ByteArray.size]; omega)))).mono ?_
        rintro e w1 ⟨rfl, b1⟩
        obtain ⟨hv1, hr1, b2⟩ := after_clone HV.out HROW.out b1
        have hc1 := hv1.cell
        have hf1 := hv1.frozen
        have hcn := (hv1.alloc (.cells #[.string ⟨x.toArray⟩] 9)).cell
        refine hK _ _ ?_
        clear hK K
        refine wpAnyIn_ready (rs := [3]) (by kernel_rfl) (by simp) ?_
        refine AllReadyIn.cons rfl (fun K hK => ?_) AllReadyIn.nil
        go_simp
        refine hK _ _ ?_
        clear hK K
        refine wpAnyIn_ready (rs := [4]) (by kernel_rfl) (by simp) ?_
        refine AllReadyIn.cons rfl (fun K hK => ?_) AllReadyIn.nil
        obtain ⟨v', w2, hrun, hown', hgrow, -⟩ := run_append_own (P := Tryd.prog) (w1.alloc (.cells #[.string ⟨x.toArray⟩] 9)) (w.heap.size + 4) 48 48 9 i0 (.string ⟨#[]⟩) 1 16 Tryd.underlying48 hi0 hz0 hz1 hz2 rfl (by decide) v _ _ (hr1.alloc _) ⟨w1.heap.size, 0, none⟩ 1 1 [.string ⟨x.toArray⟩] rfl (one_new _ _ _) (one_cell _ rfl) HL1.out HL2.out (by have := b2.size; have := HW.out; simp; omega)
        obtain ⟨g', cap', rfl⟩ := ownsRow_succ hown'
        refine step_append_in rfl (.tmp 10) (.tmp 13) 48 rfl v _ w2 ⟨w1.heap.size, 0, none⟩ 1 1 rfl rfl hrun ?_
        have hv2 := (hv1.alloc (.cells #[.string ⟨x.toArray⟩] 9)).kept hgrow (hv1.not_row (by decide) hr1)
        have hc2 := hv2.cell
        have hf2 := hv2.frozen
        have hstep := Lib.hid (cut_step HX.out HV.out HROW.out HB.out HW.out b2 hr1 hv1 hgrow hown')
        clear hv1 hr1 b2 hown' hgrow hv2 b1 hrun
        refine hK _ _ ?_
        clear hK K
        refine wpAnyIn_ready (rs := [5]) (by kernel_rfl) (by simp) ?_
        refine AllReadyIn.cons rfl (fun K hK => ?_) AllReadyIn.nil
        go_simp
        refine hK _ _ ?_
        clear hK K
        refine wpAnyIn_done (by kernel_rfl) ?_ _
        gi_wp2
        exact hstep.out
      ·
        go_simp
        refine hK _ _ ?_
        clear hK K
        refine wpAnyIn_ready (rs := [0, 2]) (by kernel_rfl) (by simp) ?_
        refine AllReadyIn.cons rfl (fun K hK => ?_) (AllReadyIn.cons rfl (fun K hK => ?_) AllReadyIn.nil)
        ·
          go_simp
          refine hK _ _ ?_
          clear hK K
          refine wpAnyIn_ready (rs := [2]) (by kernel_rfl) (by simp) ?_
          refine AllReadyIn.cons rfl (fun K hK => ?_) AllReadyIn.nil
          go_simp
          refine ⟨trivial, ?_⟩
          refine (CallsIn.inRound l (callsIn_wide.2 (clone_any ⟨x.toArray⟩ _ (by simp [ByteArray.size]; omega)))).mono ?_
          rintro e w1 ⟨rfl, b1⟩
          obtain ⟨hv1, hr1, b2⟩ := after_clone HV.out HROW.out b1
          have hc1 := hv1.cell
          have hf1 := hv1.frozen
          have hcn := (hv1.alloc (.cells #[.string ⟨x.toArray⟩] 9)).cell
          refine hK _ _ ?_
          clear hK K
          refine wpAnyIn_ready (rs := [3]) (by kernel_rfl) (by simp) ?_
          refine AllReadyIn.cons rfl (fun K hK => ?_) AllReadyIn.nil
          go_simp
          refine hK _ _ ?_
          clear hK K
          refine wpAnyIn_ready (rs := [4]) (by kernel_rfl) (by simp) ?_
          refine AllReadyIn.cons rfl (fun K hK => ?_) AllReadyIn.nil
          obtain ⟨v', w2, hrun, hown', hgrow, -⟩ := run_append_own (P := Tryd.prog) (w1.alloc (.cells #[.string ⟨x.toArray⟩] 9)) (w.heap.size + 4) 48 48 9 i0 (.string ⟨#[]⟩) 1 16 Tryd.underlying48 hi0 hz0 hz1 hz2 rfl (by decide) v _ _ (hr1.alloc _) ⟨w1.heap.size, 0, none⟩ 1 1 [.string ⟨x.toArray⟩] rfl (one_new _ _ _) (one_cell _ rfl) HL1.out HL2.out (by have := b2.size; have := HW.out; simp; omega)
          obtain ⟨g', cap', rfl⟩ := ownsRow_succ hown'
          refine step_append_in rfl (.tmp 10) (.tmp 13) 48 rfl v _ w2 ⟨w1.heap.size, 0, none⟩ 1 1 rfl rfl hrun ?_
          have hv2 := (hv1.alloc (.cells #[.string ⟨x.toArray⟩] 9)).kept hgrow (hv1.not_row (by decide) hr1)
          have hc2 := hv2.cell
          have hf2 := hv2.frozen
          have hstep := Lib.hid (cut_step HX.out HV.out HROW.out HB.out HW.out b2 hr1 hv1 hgrow hown')
          clear hv1 hr1 b2 hown' hgrow hv2 b1 hrun
          refine hK _ _ ?_
          clear hK K
          refine wpAnyIn_ready (rs := [5]) (by kernel_rfl) (by simp) ?_
          refine AllReadyIn.cons rfl (fun K hK => ?_) AllReadyIn.nil
          go_simp
          refine hK _ _ ?_
          clear hK K
          refine wpAnyIn_done (by kernel_rfl) ?_ _
          gi_wp2
          exact hstep.out
        ·
          go_simp
          refine ⟨trivial, ?_⟩
          refine (CallsIn.inRound l (callsIn_wide.2 (clone_any ⟨x.toArray⟩ _ (by simp [ByteArray.size]; omega)))).mono ?_
          rintro e w1 ⟨rfl, b1⟩
          obtain ⟨hv1, hr1, b2⟩ := after_clone HV.out HROW.out b1
          have hc1 := hv1.cell
          have hf1 := hv1.frozen
          have hcn := (hv1.alloc (.cells #[.string ⟨x.toArray⟩] 9)).cell
          refine hK _ _ ?_
          clear hK K
          refine wpAnyIn_ready (rs := [0, 3]) (by kernel_rfl) (by simp) ?_
          refine AllReadyIn.cons rfl (fun K hK => ?_) (AllReadyIn.cons rfl (fun K hK => ?_) AllReadyIn.nil)
          ·
            go_simp
            refine hK _ _ ?_
            clear hK K
            refine wpAnyIn_ready (rs := [3]) (by kernel_rfl) (by simp) ?_
            refine AllReadyIn.cons rfl (fun K hK => ?_) AllReadyIn.nil
            go_simp
            refine hK _ _ ?_
            clear hK K
            refine wpAnyIn_ready (rs := [4]) (by kernel_rfl) (by simp) ?_
            refine AllReadyIn.cons rfl (fun K hK => ?_) AllReadyIn.nil
            obtain ⟨v', w2, hrun, hown', hgrow, -⟩ := run_append_own (P := Tryd.prog) (w1.alloc (.cells #[.string ⟨x.toArray⟩] 9)) (w.heap.size + 4) 48 48 9 i0 (.string ⟨#[]⟩) 1 16 Tryd.underlying48 hi0 hz0 hz1 hz2 rfl (by decide) v _ _ (hr1.alloc _) ⟨w1.heap.size, 0, none⟩ 1 1 [.string ⟨x.toArray⟩] rfl (one_new _ _ _) (one_cell _ rfl) HL1.out HL2.out (by have := b2.size; have := HW.out; simp; omega)
            obtain ⟨g', cap', rfl⟩ := ownsRow_succ hown'
            refine step_append_in rfl (.tmp 10) (.tmp 13) 48 rfl v _ w2 ⟨w1.heap.size, 0, none⟩ 1 1 rfl rfl hrun ?_
            have hv2 := (hv1.alloc (.cells #[.string ⟨x.toArray⟩] 9)).kept hgrow (hv1.not_row (by decide) hr1)
            have hc2 := hv2.cell
            have hf2 := hv2.frozen
            have hstep := Lib.hid (cut_step HX.out HV.out HROW.out HB.out HW.out b2 hr1 hv1 hgrow hown')
            clear hv1 hr1 b2 hown' hgrow hv2 b1 hrun
            refine hK _ _ ?_
            clear hK K
            refine wpAnyIn_ready (rs := [5]) (by kernel_rfl) (by simp) ?_
            refine AllReadyIn.cons rfl (fun K hK => ?_) AllReadyIn.nil
            go_simp
            refine hK _ _ ?_
            clear hK K
            refine wpAnyIn_done (by kernel_rfl) ?_ _
            gi_wp2
            exact hstep.out
          ·
            go_simp
            refine hK _ _ ?_
            clear hK K
            refine wpAnyIn_ready (rs := [0]) (by kernel_rfl) (by simp) ?_
            refine AllReadyIn.cons rfl (fun K hK => ?_) AllReadyIn.nil
            go_simp
            refine hK _ _ ?_
            clear hK K
            refine wpAnyIn_ready (rs := [4]) (by kernel_rfl) (by simp) ?_
            refine AllReadyIn.cons rfl (fun K hK => ?_) AllReadyIn.nil
            obtain ⟨v', w2, hrun, hown', hgrow, -⟩ := run_append_own (P := Tryd.prog) (w1.alloc (.cells #[.string ⟨x.toArray⟩] 9)) (w.heap.size + 4) 48 48 9 i0 (.string ⟨#[]⟩) 1 16 Tryd.underlying48 hi0 hz0 hz1 hz2 rfl (by decide) v _ _ (hr1.alloc _) ⟨w1.heap.size, 0, none⟩ 1 1 [.string ⟨x.toArray⟩] rfl (one_new _ _ _) (one_cell _ rfl) HL1.out HL2.out (by have := b2.size; have := HW.out; simp; omega)
            obtain ⟨g', cap', rfl⟩ := ownsRow_succ hown'
            refine step_append_in rfl (.tmp 10) (.tmp 13) 48 rfl v _ w2 ⟨w1.heap.size, 0, none⟩ 1 1 rfl rfl hrun ?_
            have hv2 := (hv1.alloc (.cells #[.string ⟨x.toArray⟩] 9)).kept hgrow (hv1.not_row (by decide) hr1)
            have hc2 := hv2.cell
            have hf2 := hv2.frozen
            have hstep := Lib.hid (cut_step HX.out HV.out HROW.out HB.out HW.out b2 hr1 hv1 hgrow hown')
            clear hv1 hr1 b2 hown' hgrow hv2 b1 hrun
            refine hK _ _ ?_
            clear hK K
            refine wpAnyIn_ready (rs := [5]) (by kernel_rfl) (by simp) ?_
            refine AllReadyIn.cons rfl (fun K hK => ?_) AllReadyIn.nil
            go_simp
            refine hK _ _ ?_
            clear hK K
            refine wpAnyIn_done (by kernel_rfl) ?_ _
            gi_wp2
            exact hstep.out
  case done =>
    rintro D W hD ⟨⟨v, hv, hrow, _⟩, hB, hW⟩ hK
    have hc := hv.cell
    have HROW := Lib.hid hrow
    have HB := Lib.hid hB
    have HV := Lib.hid hv
    clear hrow hB hv
    have hwl := words_len s.data.toList
    rw [data_len] at hwl
    gi_wp2
    refine ⟨by simp, .inl ⟨_, _, rfl, run_takeDeferred hK, ?_⟩⟩
    exact ⟨_, results_tmp rfl _ _ _, v, rfl, strsC_of_row (ownsRow_putObj HROW.out _ hK rfl) (by show (words s.data.toList).length ≤ maxLen; unfold maxLen; omega), HB.out.trans (belowK_b (w := w) (Nat.le_refl _) W D _ _ (by omega) hK rfl rfl)⟩
theorem cut_any (s : ByteArray) (w : World) (hs : s.size ≤ 1000000) : Calls Tryd.prog 29 #[.string s] w (GivesStrs (words s.data.toList) w) := (cut_cap s w hs).mono fun _ _ ⟨v, e, h, b⟩ => ⟨v, e, h.1, b⟩
end Go.Proofs.YtcabeagmdfpdlaaDoor
