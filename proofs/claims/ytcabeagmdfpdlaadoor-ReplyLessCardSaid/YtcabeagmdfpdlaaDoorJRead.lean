import Derived.Test.YtcabeagmdfpdlaaDoorRows
import Derived.Test.YtcabeagmdfpdlaaDoorKit
import Derived.Test.YtcabeagmdfpdlaaDoorStrs
import Derived.Test.YtcabeagmdfpdlaaDoorJTab
import Derived.Test.YtcabeagmdfpdlaaDoorJBlk
import Derived.Test.YtcabeagmdfpdlaaDoorClone
import Derived.Test.YtcabeagmdfpdlaaDoorJMath
import Derived.Test.YtcabeagmdfpdlaaDoorJNum
import Derived.Test.YtcabeagmdfpdlaaDoorJTokWord
import Derived.Test.YtcabeagmdfpdlaaDoorJTokJoin
import Derived.Test.YtcabeagmdfpdlaaDoorJCut
import Derived.Test.YtcabeagmdfpdlaaDoorJAppend
import Derived.Test.YtcabeagmdfpdlaaDoorJGrown
import Derived.Test.YtcabeagmdfpdlaaDoorJCmdA
import Derived.Test.YtcabeagmdfpdlaaDoorJCmdNames1
import Derived.Test.YtcabeagmdfpdlaaDoorJRepMath
import Derived.Test.YtcabeagmdfpdlaaDoorJRepItems
import Derived.Test.YtcabeagmdfpdlaaDoorJRepWords
import Derived.Test.YtcabeagmdfpdlaaDoorJRepPut
import Derived.Test.YtcabeagmdfpdlaaDoorJRepRead1
import Derived.OwnWalk
import Derived.WalkKit
import Derived.ProofKit
import Derived.OpenShut
import Derived.IntWalk
import Derived.Laws.OwnMore
import Derived.Maps.AppendAt
/- reply: a word taken off; a number, a place's kind, a place read. -/
namespace Go.Proofs.YtcabeagmdfpdlaaDoor
open Go.ChangeShapes Go.WideShapes Go.ChangeAt Go.RowKit
set_option linter.unusedVariables false
open Go.RowKit Go
/-- A queue of words at W0's end; what was there at W0 is as it was. -/
def Que (W0 W : World) (ws : List (List UInt8)) : Prop := ∃ v, StrsC W0 v ws ∧ Blk W W0.heap.size 57 #[v] ∧ Below W0.heap.size W0 W
theorem Que.call {W0 W W' : World} {ws : List (List UInt8)} (h : Que W0 W ws) (hb : Below W.heap.size W W') : Que W0 W' ws := by
  obtain ⟨v, h1, h2, h3⟩ := h
  exact ⟨v, h1, h2.call hb, h3.trans (hb.mono h3.size)⟩
theorem Que.alloc {W0 W : World} {ws : List (List UInt8)} (h : Que W0 W ws) (o : Obj) : Que W0 (W.alloc o) ws := h.call ((Below.refl _ _).alloc (Nat.le_refl _) _)
theorem grown_set (W : World) (g i : Nat) (u : Value) : W.grownBy (W.setCell ⟨g, i, none⟩ u) (some g) :=
  ⟨rfl, rfl, rfl, by simp, fun k hk hne => Below.heap_setCell W ⟨g, i, none⟩ u k (fun e => hne (by rw [e]))⟩
theorem strsC_tail {W : World} {b off cap : Nat} {x : List UInt8} {r : List (List UInt8)} (h : StrsC W (.slice (some ⟨b, off, none⟩) (r.length + 1) cap) (x :: r)) : StrsC W (.slice (some ⟨b, off + 1, none⟩) r.length (cap - 1)) r := by
  obtain ⟨⟨a, c, he, hl, hh⟩, a2, c2, he2, hc⟩ := h
  simp only [Value.slice.injEq, List.length_cons, true_and] at he he2
  obtain ⟨rfl, rfl⟩ := he
  obtain ⟨-, rfl⟩ := he2
  refine ⟨⟨_, _, rfl, by simp only [List.length_cons] at hl; omega, ?_⟩, _, _, rfl, by simp only [List.length_cons] at hc; omega⟩
  rcases hh with hh | ⟨b', off', he, hb, hcell⟩
  · cases hh
  · simp only [Option.some.injEq, Addr.mk.injEq, and_true] at he
    obtain ⟨rfl, rfl⟩ := he
    refine .inr ⟨b, off + 1, rfl, hb, fun i hi => ?_⟩
    have := hcell (i + 1) (by simp only [List.length_cons]; omega)
    rw [show off + (i + 1) = off + 1 + i by omega] at this
    simpa using this
/-- What a reader leaves: a queue, and all but it as it was. -/
def Taken (W0 W : World) (ws : List (List UInt8)) (W' : World) : Prop := Que W0 W' ws ∧ W.grownBy W' (some W0.heap.size)
set_option maxRecDepth 100000 in
theorem take_any (W0 W : World) (ws : List (List UInt8)) (h : Que W0 W ws) :
    Calls Tryd.prog 31 #[.pointer (some ⟨W0.heap.size, 0, none⟩)] W fun e W' => e = .returned (.string ⟨(headW ws).toArray⟩) ∧ Taken W0 W ws.tail W' := by
  have HQ := Lib.hid h
  obtain ⟨v, hv, hB, hbel⟩ := h
  have HV := Lib.hid hv
  obtain ⟨⟨a, cap, rfl, hl, hh⟩, a2, c2, he2, hcap⟩ := hv
  simp only [Value.slice.injEq, true_and] at he2
  obtain ⟨-, rfl⟩ := he2
  have hlt := hB.lt
  have hf := hB.frozen 0
  have HB := Lib.hid hB
  have hc := hB.cell 0
  have HE := Lib.hid hbel
  clear hB
  cases ws with
  | nil =>
    clear hh hbel
    go_enter Tryd.func31, Tryd.ntmps31
    go_wp2_with fail
    go_ret
    exact ⟨rfl, HQ.out, grown_refl _ _⟩
  | cons x r =>
    rcases hh with hh | ⟨b, off, rfl, hb, hcell⟩
    · cases hh
    · have h0 := (hbel.cell (p := ⟨b, off + 0, none⟩) hb).trans (hcell 0 (by simp))
      have HL := Lib.hid hl
      unfold maxLen at hl
      simp only [List.getElem_cons_zero, Nat.add_zero, str] at h0
      simp only [List.length_cons] at hc hcap hl
      clear hcell hbel
      by_cases h1 : cap = 1
      · subst h1
        obtain rfl : r = [] := List.length_eq_zero_iff.1 (by omega)
        go_enter Tryd.func31, Tryd.ntmps31
        go_wp2_with fail
        go_ret
        refine ⟨rfl, ⟨_, ⟨⟨_, _, rfl, by simp [maxLen], .inl rfl⟩, _, _, rfl, Nat.le_refl _⟩, HB.out.set_ 0 _, ?_⟩, grown_set _ _ _ _⟩
        exact HE.out.grown (grown_set _ _ _ _) HE.out.size (fun k hk => by have := Option.some.inj hk; omega)
      · go_enter Tryd.func31, Tryd.ntmps31
        go_wp2_with fail
        go_ret
        refine ⟨rfl, ⟨_, strsC_tail HV.out, HB.out.set_ 0 _, ?_⟩, grown_set _ _ _ _⟩
        exact HE.out.grown (grown_set _ _ _ _) HE.out.size (fun k hk => by have := Option.some.inj hk; omega)
/-- The queue's method value. -/
def takeV (W0 : World) : Value := .func (.func 31) #[.pointer (some ⟨W0.heap.size, 0, none⟩)] #[]
theorem headW_size {W0 W : World} {ws : List (List UInt8)} (h : ∀ x ∈ ws, x.length ≤ 1000000) : (⟨(headW ws).toArray⟩ : ByteArray).size ≤ 9223372036854775807 := by
  show (headW ws).toArray.size ≤ _
  rw [List.size_toArray]
  cases ws with
  | nil => simp [headW]
  | cons x r => have := h x (by simp); simp only [headW, List.headD_cons]; omega
theorem taken_trans {W0 W W1 W2 : World} {ws wt : List (List UInt8)} (h : Taken W0 W ws W1) (k : Taken W0 W1 wt W2) : Taken W0 W wt W2 := ⟨k.1, grown_trans h.2 k.2 (.inl rfl)⟩
theorem rdnum_any (W0 W : World) (ws : List (List UInt8)) (h : Que W0 W ws) (hx : ∀ x ∈ ws, x.length ≤ 1000000) :
    Calls Tryd.prog 46 #[takeV W0] W fun e W' => e = .returned (.int .i64 (numN (headW ws))) ∧ Taken W0 W ws.tail W' := by
  have HQ := Lib.hid h
  have HX := Lib.hid (headW_size (W0 := W0) (W := W) hx)
  clear h hx
  unfold takeV
  go_enter Tryd.func46, Tryd.ntmps46
  go_wp2_with fail
  refine (take_any W0 _ ws HQ.out).mono ?_
  rintro e w1 ⟨rfl, h1⟩
  have H1 := Lib.hid h1
  clear h1
  go_wp2_with fail
  refine (number_any _ _ HX.out).mono ?_
  rintro e w2 ⟨rfl, rfl⟩
  go_wp2_with fail
  go_ret
  exact ⟨rfl, H1.out⟩
theorem place_hit {k : Nat} (h : k < 3) (hn : placeNames.getD k [] ∉ placeNames.take k) : placeN (placeNames.getD k []) = (k : Int) := by
  unfold placeN; rw [posN_at (by simpa [placeNames] using h) hn]
theorem place_miss {x : List UInt8} (h : x ∉ placeNames.take 3) : placeN x = 3 := by
  unfold placeN posN
  rw [List.idxOf_eq_length (l := placeNames) (by simpa [placeNames] using h)]; rfl
theorem parr (k : Nat) (h : k < 3) : (#[.string ⟨#[105, 110]⟩, .string ⟨#[119, 105, 116, 104]⟩, .string ⟨#[98, 111, 120]⟩] : Array Value)[k]? = some (.string ⟨(placeNames.getD k []).toArray⟩) := by
  match k, h with
  | 0, _ | 1, _ | 2, _ => rfl
theorem ret_num2 {n m : Int} (h : n = m) : Ending.returned (.int .i64 n) = .returned (.int .i64 m) := by rw [h]
set_option maxRecDepth 100000 in
theorem pkindN_any (l : List UInt8) (w : World) (ht : PTab w) :
    Calls Tryd.prog 64 #[.string ⟨l.toArray⟩] w fun e w' => e = .returned (.int .i64 (placeN l)) ∧ w = w' := by
  have hc := ht.cells
  clear ht
  go_enter Tryd.func64, Tryd.ntmps64
  go_wp2_with fail
  clear hc
  go_loop [3, 4, 6] (fun _ _ i => ∃ k : Nat, k ≤ 3 ∧ i = .int .i64 k ∧ l ∉ placeNames.take k) (fun _ _ i => 3 - (intOf i).toNat)
  case atStart => exact ⟨0, Nat.zero_le _, rfl, by simp⟩
  case round =>
    obtain ⟨k, hk, rfl, hm⟩ := hrel
    have HM := Lib.hid hm
    clear hm
    by_cases hlt : k < 3
    · have hidx : ∀ w, (Instr.index 85 (.agg #[.string ⟨#[105, 110]⟩, .string ⟨#[119, 105, 116, 104]⟩, .string ⟨#[98, 111, 120]⟩]) (.int .i64 k)).run Tryd.prog w = .ok (.string ⟨(placeNames.getD k []).toArray⟩) w := fun w =>
        run_index_one w 85 9 3 _ _ k Tryd.underlying85 (fun w => by rw [Tryd.sizeOf9]) (fun w => by rw [Tryd.isAgg9]) (by omega) (by omega) _ (by simpa using parr k hlt)
      have HH := Lib.hid (place_hit hlt)
      have HN := Lib.hid (not_mem_succ (ss := placeNames) (k := k) (x := l) (by simpa [placeNames] using hlt) HM.out)
      generalize placeNames.getD k [] = x at *
      by_cases he : x = l
      · subst he
        have H2 := Lib.hid (HH.out HM.out)
        go_wp2_with fail
        go_ret
        exact ⟨ret_num2 H2.out.symm, rfl⟩
      · have hne : (x == l) = false := by simpa using he
        have H2 := Lib.hid (HN.out he)
        clear he
        go_wp2_with fail
        go_round
        case rel => exact ⟨k + 1, by omega, by go_num, H2.out⟩
        case measure => simp [intOf]; omega
    · have hke : k = 3 := by omega
      subst hke
      have H2 := Lib.hid (place_miss HM.out)
      go_wp2_with fail
      go_ret
      exact ⟨ret_num2 H2.out.symm, rfl⟩
theorem tail_fine {ws : List (List UInt8)} (h : ∀ x ∈ ws, x.length ≤ 1000000) : ∀ x ∈ ws.tail, x.length ≤ 1000000 := fun x hx => h x (List.mem_of_mem_tail hx)
theorem Que.tabs {W0 W : World} {ws : List (List UInt8)} (h : Que W0 W ws) (ht : RTabs W0) : RTabs W := by
  obtain ⟨v, _, _, hb⟩ := h
  exact ht.call hb
theorem RTabs.places {w : World} (h : RTabs w) : PTab w := h.2.1
theorem Que.lt {W0 W : World} {ws : List (List UInt8)} (h : Que W0 W ws) : W0.heap.size < W.heap.size := by
  obtain ⟨v, _, hb, _⟩ := h
  exact hb.lt
theorem Taken.set {W0 W W' : World} {ws : List (List UInt8)} (h : Taken W0 W ws W') {n : Nat} (h0 : W0.heap.size < n) (hn : W.heap.size ≤ n) (i : Nat) (u : Value) : Taken W0 W ws (W'.setCell ⟨n, i, none⟩ u) := by
  obtain ⟨⟨v, h1, h2, h3⟩, hg⟩ := h
  refine ⟨⟨v, h1, h2.far (p := ⟨n, i, none⟩) (by show W0.heap.size ≠ n; omega) u, h3.setCell (by show W0.heap.size ≤ n; omega) u⟩, ?_⟩
  exact ⟨hg.os, hg.tape, hg.output, by have := hg.size; simpa using this, fun k hk hne => (Below.heap_setCell W' ⟨n, i, none⟩ u k (by show k ≠ n; omega)).trans (hg.block k hk hne)⟩
set_option maxRecDepth 100000 in
theorem rdplace_any (W0 W : World) (ws : List (List UInt8)) (h : Que W0 W ws) (hx : ∀ x ∈ ws, x.length ≤ 1000000) (ht : RTabs W0) :
    Calls Tryd.prog 58 #[takeV W0] W fun e W' => e = .returned (.agg #[.int .i64 (placeN (headW ws)), .int .i64 (numN (headW ws.tail))]) ∧ Taken W0 W ws.tail.tail W' := by
  have HT := Lib.hid ht
  have HQ := Lib.hid (h.alloc (.cells #[.int .i64 0, .int .i64 0] 44))
  have HX := Lib.hid (tail_fine hx)
  have HB := Lib.hid (Blk.new W 44 #[.int .i64 0, .int .i64 0])
  have HN := Lib.hid h.lt
  have HG := Lib.hid (grown_below (show Below W.heap.size W (W.alloc (.cells #[.int .i64 0, .int .i64 0] 44)) from (Below.refl _ _).alloc (Nat.le_refl _) _) (some W0.heap.size))
  clear h hx ht
  unfold takeV
  go_enter Tryd.func58, Tryd.ntmps58
  go_wp2_with fail
  refine (take_any W0 _ ws HQ.out).mono ?_
  rintro e w1 ⟨rfl, h1⟩
  have H1 := Lib.hid h1
  clear h1
  go_wp2_with fail
  refine (pkindN_any _ _ (H1.out.1.tabs HT.out).places).mono ?_
  rintro e w2 ⟨rfl, rfl⟩
  go_wp2_with fail
  refine (rdnum_any W0 _ ws.tail H1.out.1 HX.out).mono ?_
  rintro e w2 ⟨rfl, h2⟩
  have H2 := Lib.hid (taken_trans H1.out h2)
  clear h2
  have b2 := HB.out.grow H2.out.2 (by have := HN.out; simp only [ne_eq, Option.some.injEq]; omega)
  have hc := b2.cell
  have hf := b2.frozen
  have hl := b2.lt
  clear b2
  go_wp2_with fail
  refine bodyPost_ret (v := .agg #[.int .i64 (placeN (headW ws)), .int .i64 (numN (headW ws.tail))]) (by simp [results, Tryd.results58, go_sem, hc]) rfl ⟨rfl, ?_⟩
  have T : Taken W0 W ws.tail.tail w2 := ⟨H2.out.1, grown_trans HG.out H2.out.2 (.inl rfl)⟩
  repeat (first | exact T | refine Taken.set ?_ HN.out (Nat.le_refl _) _ _)
end Go.Proofs.YtcabeagmdfpdlaaDoor
/- reply: players and items read of words. -/
namespace Go.Proofs.YtcabeagmdfpdlaaDoor
open Go.ChangeShapes Go.WideShapes Go.ChangeAt Go.RowKit
set_option linter.unusedVariables false
open Go.RowKit Go
theorem seen_info : (Tryd.prog.info? 46).map (fun i => (i.zero, i.size, i.bytes)) = some (some (.agg #[.int .i64 0, .int .i64 0, .int .i64 0]), 3, 24) := by kernel_rfl
/-- One integer more, appended behind its one-cell block. -/
theorem append_int {W : World} {base n : Nat} {v : Value} {ys : List Value} (hown : W.ownsRow base 3 1 v n ys) (x : Int) (hn : n + 1 ≤ 3000000) (hb : base ≤ W.heap.size) :
    ∃ v' W', (Builtin.append_ #[23, 23] 23 #[v, .slice (some ⟨W.heap.size, 0, none⟩) 1 1]).run Tryd.prog (W.alloc (.cells #[.int .i64 x] 3)) = .ok v' W' ∧ W'.ownsRow base 3 1 v' (n + 1) (ys ++ [.int .i64 x]) ∧ W.grownBy W' v.ownBlock := by
  obtain ⟨i0, hi0, hz0, hz1, hz2⟩ := info_parts int_info
  obtain ⟨v', W', hr, h1, h2, -, h4⟩ := run_append_own_at (P := Tryd.prog) (W.alloc (.cells #[.int .i64 x] 3)) base 23 23 3 i0 (.int .i64 0) 1 8 Tryd.underlying23 hi0 hz0 hz1 hz2 rfl (by decide) v n ys (hown.alloc _) ⟨W.heap.size, 0, none⟩ 1 1 [.int .i64 x] rfl
    (cell_one_new _ _ _) (by intro u hu; simp at hu; subst hu; rfl) (by unfold maxLen; omega) (by omega) (by simp; omega)
  exact ⟨v', W', hr, h1, grown_trans (World.grownBy_alloc W _ v.ownBlock) h2 (.inl rfl)⟩
theorem append_seen {W : World} {base n : Nat} {v : Value} {ys : List Value} (hown : W.ownsRow base 46 3 v n ys) (x y z : Int) (hn : n + 1 ≤ 1000000) (hb : base ≤ W.heap.size) :
    ∃ v' W', (Builtin.append_ #[24, 24] 24 #[v, .slice (some ⟨W.heap.size, 0, none⟩) 1 1]).run Tryd.prog (W.alloc (.cells #[.int .i64 x, .int .i64 y, .int .i64 z] 46)) = .ok v' W' ∧ W'.ownsRow base 46 3 v' (n + 1) (ys ++ [.int .i64 x, .int .i64 y, .int .i64 z]) ∧ W.grownBy W' v.ownBlock := by
  obtain ⟨i0, hi0, hz0, hz1, hz2⟩ := info_parts seen_info
  obtain ⟨v', W', hr, h1, h2, -, h4⟩ := run_append_own_at (P := Tryd.prog) (W.alloc (.cells #[.int .i64 x, .int .i64 y, .int .i64 z] 46)) base 24 24 46 i0 (.agg #[.int .i64 0, .int .i64 0, .int .i64 0]) 3 24 Tryd.underlying24 hi0 hz0 hz1 hz2 rfl (by decide) v n ys (hown.alloc _) ⟨W.heap.size, 0, none⟩ 1 1 [.int .i64 x, .int .i64 y, .int .i64 z] rfl
    (fun j u hj => by
      have hj3 : j < 3 := by have := (List.getElem?_eq_some_iff.1 hj).1; simpa using this
      have e : ((⟨W.heap.size, 0, none⟩ : Addr).add j) = ⟨W.heap.size, j, none⟩ := by by_cases h0 : j = 0 <;> simp [Addr.add, h0]
      rw [e, World.cell?_alloc_at _ _ _ _ rfl]
      simpa using hj) (by intro u hu; simp at hu; rcases hu with rfl | rfl | rfl <;> rfl) (by unfold maxLen; omega) (by omega) (by simp; omega)
  exact ⟨v', W', hr, h1, grown_trans (World.grownBy_alloc W _ v.ownBlock) h2 (.inl rfl)⟩
theorem ints_grown {W W' : World} {a : Option Addr} {xs : List Int} {r : Option Nat} (h : IntsAt W a xs) (hg : W.grownBy W' r) (hn : ∀ p, a = some p → some p.block ≠ r) : IntsAt W' a xs := by
  obtain ⟨hl, h⟩ := h
  refine ⟨hl, ?_⟩
  rcases h with h | ⟨b, off, rfl, hb, hc⟩
  · exact .inl h
  · have hq := hn ⟨b, off, none⟩ rfl
    exact .inr ⟨b, off, rfl, by have := hg.size; omega, fun i hi => hg.cell (hc i hi) hq⟩
theorem sns_grown {W W' : World} {a : Option Addr} {xs : List Sn} {r : Option Nat} (h : SnsAt W a xs) (hg : W.grownBy W' r) (hn : ∀ p, a = some p → some p.block ≠ r) : SnsAt W' a xs := by
  obtain ⟨hl, h⟩ := h
  refine ⟨hl, ?_⟩
  rcases h with h | ⟨b, off, rfl, hb, hc⟩
  · exact .inl h
  · have hq := hn ⟨b, off, none⟩ rfl
    exact .inr ⟨b, off, rfl, by have := hg.size; omega, fun i hi => ⟨hg.cell (hc i hi).1 hq, hg.cell (hc i hi).2.1 hq, hg.cell (hc i hi).2.2 hq⟩⟩
theorem own_apart {W : World} {base n sz : Nat} {t : TypeId} {v : Value} {ys : List Value} (h : W.ownsRow base t sz v n ys) {g : Nat} (hg : g < base) : v.ownBlock ≠ some g := by
  rcases h.2 with ⟨rfl, h0⟩ | ⟨q, c, cur, rfl, hq, _⟩
  · simp [Value.ownBlock]
  · simp only [Value.ownBlock, ne_eq, Option.some.injEq]; omega
def lenOf : Value → Nat
  | .slice _ n _ => n
  | _ => 0
theorem own_len {W : World} {base n sz : Nat} {t : TypeId} {v : Value} {ys : List Value} (h : W.ownsRow base t sz v n ys) : lenOf v = n := by
  rcases h.2 with ⟨rfl, h0⟩ | ⟨q, c, cur, rfl, hq, _⟩
  · simp [lenOf, h0]
  · rfl
/-- A list of the reader's own. -/
def NewI (n : Nat) (W : World) (a : Option Addr) (xs : List Int) : Prop := IntsAt W a xs ∧ ∀ p, a = some p → n ≤ p.block
def NewS (n : Nat) (W : World) (a : Option Addr) (xs : List Sn) : Prop := SnsAt W a xs ∧ ∀ p, a = some p → n ≤ p.block
def NewInts (n : Nat) (W : World) (v : Value) (xs : List Int) : Prop := ∃ a cap, v = .slice a xs.length cap ∧ NewI n W a xs
def NewSns (n : Nat) (W : World) (v : Value) (xs : List Sn) : Prop := ∃ a cap, v = .slice a xs.length cap ∧ NewS n W a xs
theorem NewI.grown {n : Nat} {W W' : World} {a : Option Addr} {xs : List Int} {r : Option Nat} (h : NewI n W a xs) (hg : W.grownBy W' r) (hn : ∀ k, r = some k → k < n) : NewI n W' a xs :=
  ⟨ints_grown h.1 hg (fun p hp e => by have := h.2 p hp; have := hn _ e.symm; omega), h.2⟩
theorem NewS.grown {n : Nat} {W W' : World} {a : Option Addr} {xs : List Sn} {r : Option Nat} (h : NewS n W a xs) (hg : W.grownBy W' r) (hn : ∀ k, r = some k → k < n) : NewS n W' a xs :=
  ⟨sns_grown h.1 hg (fun p hp e => by have := h.2 p hp; have := hn _ e.symm; omega), h.2⟩
theorem NewI.set {n : Nat} {W : World} {a : Option Addr} {xs : List Int} (h : NewI n W a xs) {k : Nat} (hk : k < n) (i : Nat) (u : Value) : NewI n (W.setCell ⟨k, i, none⟩ u) a xs := h.grown (grown_set W k i u) (fun j hj => by have := Option.some.inj hj; omega)
theorem NewS.set {n : Nat} {W : World} {a : Option Addr} {xs : List Sn} (h : NewS n W a xs) {k : Nat} (hk : k < n) (i : Nat) (u : Value) : NewS n (W.setCell ⟨k, i, none⟩ u) a xs := h.grown (grown_set W k i u) (fun j hj => by have := Option.some.inj hj; omega)
def snC (xs : List Sn) : List Value := xs.flatMap fun s => [.int .i64 s.item, .int .i64 s.kind, .int .i64 s.id]
theorem snC_get : ∀ (xs : List Sn) (i : Nat) (hi : i < xs.length), (snC xs)[i * 3]? = some (.int .i64 xs[i].item) ∧ (snC xs)[i * 3 + 1]? = some (.int .i64 xs[i].kind) ∧ (snC xs)[i * 3 + 2]? = some (.int .i64 xs[i].id)
  | s :: r, 0, _ => ⟨rfl, rfl, rfl⟩
  | s :: r, i + 1, hi => by
    have := snC_get r i (by simpa using hi)
    rw [show snC (s :: r) = .int .i64 s.item :: .int .i64 s.kind :: .int .i64 s.id :: snC r from rfl, show (i + 1) * 3 = i * 3 + 1 + 1 + 1 by omega]
    simp only [List.getElem?_cons_succ, List.getElem_cons_succ]
    exact this
theorem snC_len (xs : List Sn) : (snC xs).length = xs.length * 3 := by
  induction xs with
  | nil => rfl
  | cons s r ih => simp only [snC, List.flatMap_cons, List.length_append, List.length_cons, List.length_nil] at ih ⊢; omega
theorem own_ints {W : World} {base : Nat} {v : Value} {xs : List Int} (h : W.ownsRow base 3 1 v xs.length (xs.map (Value.int .i64))) : NewInts base W v xs := by
  rcases h.2 with ⟨rfl, h0⟩ | ⟨g, c, cur, rfl, hg, hh, hc, hm, hsz, htk⟩
  · have : xs = [] := by cases xs with | nil => rfl | cons a b => simp at h0
    subst this
    exact ⟨none, 0, rfl, IntsAt.nil _ _, fun p hp => by cases hp⟩
  · refine ⟨_, c, rfl, ⟨by omega, .inr ⟨g, 0, rfl, ?_, fun i hi => ?_⟩⟩, ?_⟩
    · apply Decidable.byContradiction; intro hn
      rw [Array.getElem?_eq_none (by omega)] at hh; cases hh
    · have e1 : W.cell? ⟨g, 0 + i, none⟩ = cur[i]? := by simp [World.cell?, hh]
      rw [e1]
      have e : (cur.toList.take (xs.length * 1))[i]? = (xs.map (Value.int .i64))[i]? := by rw [htk]
      rw [List.getElem?_take, if_pos (by omega)] at e
      simpa [hi] using e
    · intro p hp; have := Option.some.inj hp; subst this; exact hg
theorem own_sns {W : World} {base : Nat} {v : Value} {xs : List Sn} (h : W.ownsRow base 46 3 v xs.length (snC xs)) : NewSns base W v xs := by
  rcases h.2 with ⟨rfl, h0⟩ | ⟨g, c, cur, rfl, hg, hh, hc, hm, hsz, htk⟩
  · have : xs = [] := by cases xs with | nil => rfl | cons a b => simp at h0
    subst this
    exact ⟨none, 0, rfl, SnsAt.nil _ _, fun p hp => by cases hp⟩
  · have key : ∀ j, j < xs.length * 3 → W.cell? ⟨g, 0 + j, none⟩ = (snC xs)[j]? := fun j hj => by
      have e1 : W.cell? ⟨g, 0 + j, none⟩ = cur[j]? := by simp [World.cell?, hh]
      rw [e1]
      have e : (cur.toList.take (xs.length * 3))[j]? = (snC xs)[j]? := by rw [htk]
      rw [List.getElem?_take, if_pos (by omega)] at e
      simpa using e
    refine ⟨_, c, rfl, ⟨by omega, .inr ⟨g, 0, rfl, ?_, fun i hi => ?_⟩⟩, ?_⟩
    · apply Decidable.byContradiction; intro hn
      rw [Array.getElem?_eq_none (by omega)] at hh; cases hh
    · obtain ⟨k1, k2, k3⟩ := snC_get xs i hi
      exact ⟨(key (i * 3) (by omega)).trans k1, by rw [Nat.add_assoc]; exact (key (i * 3 + 1) (by omega)).trans k2, by rw [Nat.add_assoc]; exact (key (i * 3 + 2) (by omega)).trans k3⟩
    · intro p hp; have := Option.some.inj hp; subst this; exact hg
theorem Que.grownRow {W0 W W' : World} {ws : List (List UInt8)} {r : Option Nat} (h : Que W0 W ws) (hg : W.grownBy W' r) (hr : ∀ k, r = some k → W0.heap.size < k) : Que W0 W' ws := by
  obtain ⟨v, h1, h2, h3⟩ := h
  exact ⟨v, h1, h2.grown hg (fun e => by have := hr _ e.symm; omega), h3.grown hg h3.size (fun k hk => by have := hr k hk; omega)⟩
theorem number_w (l : List UInt8) (w : World) (h : (⟨l.toArray⟩ : ByteArray).size ≤ 9223372036854775807) : Calls Tryd.prog 57 #[.string ⟨l.toArray⟩] w fun e w' => e = .returned (.tuple #[.int .i64 (numN l), .bool (numB l)]) ∧ w = w' := number_any ⟨l.toArray⟩ w h
theorem grown_own {W W1 W2 : World} {base n sz : Nat} {t : TypeId} {v : Value} {ys : List Value} {r : Option Nat} (h : W.grownBy W1 r) (k : W1.grownBy W2 v.ownBlock) (ho : W1.ownsRow base t sz v n ys) (hb : W.heap.size ≤ base) : W.grownBy W2 r :=
  ⟨k.os.trans h.os, k.tape.trans h.tape, k.output.trans h.output, Nat.le_trans h.size k.size, fun b hb2 hne => (k.block b (Nat.lt_of_lt_of_le hb2 h.size) (fun e => own_apart ho (g := b) (by omega) e.symm)).trans (h.block b hb2 hne)⟩
theorem own_lt_all {W : World} {base n sz q : Nat} {t : TypeId} {v : Value} {ys : List Value} (ho : W.ownsRow base t sz v n ys) (hq : q < base) : ∀ k, v.ownBlock = some k → q < k := fun k hk => by
  apply Decidable.byContradiction; intro hc
  exact own_apart ho (g := k) (by omega) hk
set_option maxRecDepth 100000 in
set_option maxHeartbeats 2000000 in
theorem rdplayers_any (W0 W : World) (ws : List (List UInt8)) (h : Que W0 W ws) (hx : ∀ x ∈ ws, x.length ≤ 1000000) (hl : ws.length ≤ 900000) :
    Calls Tryd.prog 48 #[takeV W0] W fun e W' => ∃ v, e = .returned v ∧ NewInts W.heap.size W' v (rdP ws).1 ∧ Taken W0 W (rdP ws).2 W' := by
  have HQ := Lib.hid h
  have HX := Lib.hid hx
  have HL := Lib.hid hl
  have HLT := Lib.hid h.lt
  clear h hx hl
  unfold takeV
  go_enter Tryd.func48, Tryd.ntmps48
  go_wp2_with fail
  go_loopw [3, 4, 5] (fun v _ _ wr => ∃ (acc : List Int) (rest : List (List UInt8)), Que W0 wr rest ∧ W.grownBy wr (some W0.heap.size) ∧ wr.ownsRow W.heap.size 3 1 v acc.length (acc.map (Value.int .i64)) ∧
      rdP ws = (acc ++ (rdP rest).1, (rdP rest).2) ∧ acc.length + rest.length ≤ ws.length ∧ ∀ x ∈ rest, x.length ≤ 1000000) (fun v _ _ _ => ws.length - lenOf v)
  case atStart => exact ⟨[], ws, HQ.out, grown_refl _ _, World.ownsRow_nil _ _ _ _, by simp, by simp, HX.out⟩
  case round =>
    obtain ⟨acc, rest, hQ, hG, hR, hE, hN, hX⟩ := hrel
    have QQ := Lib.hid hQ
    have GG := Lib.hid hG
    have RR := Lib.hid hR
    have EE := Lib.hid hE
    have NN := Lib.hid hN
    have XX := Lib.hid hX
    clear hQ hG hR hE hN hX
    go_wp2_with fail
    refine (take_any W0 _ rest QQ.out).mono ?_
    rintro e w1 ⟨rfl, h1⟩
    have R1 := Lib.hid (RR.out.kept h1.2 (.inr (own_apart RR.out HLT.out)))
    have G1 := Lib.hid (grown_trans GG.out h1.2 (.inl rfl))
    have Q1 := Lib.hid h1.1
    clear h1
    go_wp2_with fail
    refine (number_w (headW rest) _ (headW_size (W0 := W0) (W := W) XX.out)).mono ?_
    rintro e w2 ⟨rfl, rfl⟩
    cases hn : numB (headW rest)
    · have HD := Lib.hid (rdP_no hn)
      clear hn
      go_wp2_with fail
      go_ret
      have e1 := EE.out
      rw [HD.out, List.append_nil] at e1
      refine ⟨_, rfl, ?_, ?_, ?_⟩
      · rw [e1]; exact own_ints R1.out
      · rw [e1]; exact Q1.out
      · exact G1.out
    · have HD := Lib.hid (rdP_yes hn)
      have HP := Lib.hid (show 0 < rest.length by cases rest with | nil => simp [headW, numB] at hn | cons a b => simp)
      clear hn
      obtain ⟨v3, W3, hrun, hrow, hgr⟩ := append_int R1.out ((numN (headW rest) : Nat) : Int) (by have := HL.out; have := NN.out; omega) G1.out.size
      have HRN := Lib.hid hrun
      have HR3 := Lib.hid hrow
      have HG3 := Lib.hid hgr
      clear hrun hrow hgr
      go_wp2_with (at_builtin; refine append_step1 rfl (.tmp 15) (.tmp 17) 23 rfl _ _ v3 W3 rfl rfl HRN.out ?_)
      go_roundw
      case rel =>
        refine ⟨acc ++ [((numN (headW rest) : Nat) : Int)], rest.tail, ?_, ?_, by simpa using HR3.out, by rw [EE.out, HD.out]; simp, by have := NN.out; have := HP.out; simp; omega, tail_fine XX.out⟩
        · exact Q1.out.grownRow HG3.out (own_lt_all R1.out HLT.out)
        · exact grown_own G1.out HG3.out R1.out (Nat.le_refl _)
      case measure => rw [own_len HR3.out, own_len RR.out]; have := NN.out; have := HP.out; omega
theorem snC_snoc (xs : List Sn) (a b c : Int) : snC (xs ++ [⟨a, b, c⟩]) = snC xs ++ [.int .i64 a, .int .i64 b, .int .i64 c] := by simp [snC]
set_option maxRecDepth 100000 in
set_option maxHeartbeats 2000000 in
theorem rditems_any (W0 W : World) (ws : List (List UInt8)) (h : Que W0 W ws) (hx : ∀ x ∈ ws, x.length ≤ 1000000) (hl : ws.length ≤ 900000) (ht : RTabs W0) :
    Calls Tryd.prog 49 #[takeV W0] W fun e W' => ∃ v, e = .returned v ∧ NewSns W.heap.size W' v (rdI ws).1 ∧ Taken W0 W (rdI ws).2 W' := by
  have HQ := Lib.hid h
  have HX := Lib.hid hx
  have HL := Lib.hid hl
  have HT := Lib.hid ht
  have HLT := Lib.hid h.lt
  clear h hx hl ht
  unfold takeV
  go_enter Tryd.func49, Tryd.ntmps49
  go_wp2_with fail
  go_loopw [3, 4, 5] (fun v _ _ wr => ∃ (acc : List Sn) (rest : List (List UInt8)), Que W0 wr rest ∧ W.grownBy wr (some W0.heap.size) ∧ wr.ownsRow W.heap.size 46 3 v acc.length (snC acc) ∧
      rdI ws = (acc ++ (rdI rest).1, (rdI rest).2) ∧ acc.length + rest.length ≤ ws.length ∧ ∀ x ∈ rest, x.length ≤ 1000000) (fun v _ _ _ => ws.length - lenOf v)
  case atStart => exact ⟨[], ws, HQ.out, grown_refl _ _, World.ownsRow_nil _ _ _ _, by simp, by simp, HX.out⟩
  case round =>
    obtain ⟨acc, rest, hQ, hG, hR, hE, hN, hX⟩ := hrel
    have QQ := Lib.hid hQ
    have GG := Lib.hid hG
    have RR := Lib.hid hR
    have EE := Lib.hid hE
    have NN := Lib.hid hN
    have XX := Lib.hid hX
    clear hQ hG hR hE hN hX
    go_wp2_with fail
    refine (take_any W0 _ rest QQ.out).mono ?_
    rintro e w1 ⟨rfl, h1⟩
    have R1 := Lib.hid (RR.out.kept h1.2 (.inr (own_apart RR.out HLT.out)))
    have G1 := Lib.hid (grown_trans GG.out h1.2 (.inl rfl))
    have Q1 := Lib.hid h1.1
    clear h1
    go_wp2_with fail
    refine (number_w (headW rest) _ (headW_size (W0 := W0) (W := W) XX.out)).mono ?_
    rintro e w2 ⟨rfl, rfl⟩
    cases hn : numB (headW rest)
    · have HD := Lib.hid (rdI_no hn)
      clear hn
      go_wp2_with fail
      go_ret
      have e1 := EE.out
      rw [HD.out, List.append_nil] at e1
      refine ⟨_, rfl, ?_, ?_, ?_⟩
      · rw [e1]; exact own_sns R1.out
      · rw [e1]; exact Q1.out
      · exact G1.out
    · have HD := Lib.hid (rdI_yes hn)
      have HP := Lib.hid (show 0 < rest.length by cases rest with | nil => simp [headW, numB] at hn | cons a b => simp)
      clear hn
      go_wp2_with fail
      refine (rdplace_any W0 _ rest.tail Q1.out (tail_fine XX.out) HT.out).mono ?_
      rintro e w3 ⟨rfl, h3⟩
      have R2 := Lib.hid (R1.out.kept h3.2 (.inr (own_apart R1.out HLT.out)))
      have G2 := Lib.hid (grown_trans G1.out h3.2 (.inl rfl))
      have Q2 := Lib.hid h3.1
      clear h3
      obtain ⟨v3, W3, hrun, hrow, hgr⟩ := append_seen R2.out ((numN (headW rest) : Nat) : Int) (placeN (headW rest.tail)) ((numN (headW rest.tail.tail) : Nat) : Int) (by have := HL.out; have := NN.out; omega) G2.out.size
      have HRN := Lib.hid hrun
      have HR3 := Lib.hid hrow
      have HG3 := Lib.hid hgr
      clear hrun hrow hgr
      go_wp2_with (at_builtin; refine append_step1 rfl (.tmp 15) (.tmp 20) 24 rfl _ _ v3 W3 rfl rfl HRN.out ?_)
      go_roundw
      case rel =>
        refine ⟨acc ++ [⟨((numN (headW rest) : Nat) : Int), placeN (headW rest.tail), ((numN (headW rest.tail.tail) : Nat) : Int)⟩], rest.tail.tail.tail, ?_, ?_, by rw [snC_snoc, List.length_append]; exact HR3.out, by rw [EE.out, HD.out]; simp, by have := NN.out; have := HP.out; simp; omega, tail_fine (tail_fine (tail_fine XX.out))⟩
        · exact Q2.out.grownRow HG3.out (own_lt_all R2.out HLT.out)
        · exact grown_own G2.out HG3.out R2.out (Nat.le_refl _)
      case measure => rw [own_len HR3.out, own_len RR.out]; have := NN.out; have := HP.out; omega
end Go.Proofs.YtcabeagmdfpdlaaDoor
