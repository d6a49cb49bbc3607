import Derived.Test.YtcabeagmdfpdlaaDoorRows
import Derived.Test.YtcabeagmdfpdlaaDoorKit
import Derived.Test.YtcabeagmdfpdlaaDoorStrs
import Derived.Test.YtcabeagmdfpdlaaDoorJTab
import Derived.Test.YtcabeagmdfpdlaaDoorJBlk
import Derived.Test.YtcabeagmdfpdlaaDoorClone
import Derived.Test.YtcabeagmdfpdlaaDoorJMath
import Derived.Test.YtcabeagmdfpdlaaDoorJNum
import Derived.Test.YtcabeagmdfpdlaaDoorJTokWord
import Derived.Test.YtcabeagmdfpdlaaDoorJTokJoin
import Derived.Test.YtcabeagmdfpdlaaDoorJCut
import Derived.Test.YtcabeagmdfpdlaaDoorJAppend
import Derived.Test.YtcabeagmdfpdlaaDoorJGrown
import Derived.Test.YtcabeagmdfpdlaaDoorJCmdA
import Derived.Test.YtcabeagmdfpdlaaDoorJCmdNames1
import Derived.Test.YtcabeagmdfpdlaaDoorJRepMath
import Derived.Test.YtcabeagmdfpdlaaDoorJRepItems
import Derived.Test.YtcabeagmdfpdlaaDoorJRepWords
import Derived.OwnWalk
import Derived.Deep.RegionHeld3
import Derived.WalkKit
import Derived.ProofKit
import Derived.OpenShut
import Derived.IntWalk
/- reply: appendItems: items' words put behind others. -/
namespace Go.Proofs.YtcabeagmdfpdlaaDoor
open Go.ChangeShapes Go.WideShapes Go.ChangeAt Go.RowKit
set_option linter.unusedVariables false
open Go.RowKit Go
def PTab (w : World) : Prop := StrTab Tryd.prog w "innkeep/reply.placeNames" placeNames
theorem PTab.below {w w' : World} (h : PTab w) (hb : Below w.heap.size w w') : PTab w' := StrTab.below (g := 1) h (by kernel_rfl) hb
theorem PTab.cells {w : World} (h : PTab w) : ∀ i, w.cell? ⟨1, i, none⟩ = (#[.string ⟨#[105, 110]⟩, .string ⟨#[119, 105, 116, 104]⟩, .string ⟨#[98, 111, 120]⟩][i]? : Option Value) := fun i => StrTab.cell (g := 1) h (by kernel_rfl) i
/-- The program's tables lie as its text lays them. -/
def RTabs (w : World) : Prop := KTab w ∧ PTab w ∧ Tab w
theorem RTabs.call {w w' : World} (h : RTabs w) (hb : Below w.heap.size w w') : RTabs w' :=
  ⟨h.1.below hb, h.2.1.below hb, Joins.var_stays (g := 5) (by kernel_rfl) h.2.2 hb (Nat.le_refl _)⟩
theorem RTabs.tab {w : World} (h : RTabs w) : Tab w := h.2.2
theorem RTabs.names {w : World} (h : RTabs w) : KTab w := h.1
theorem nword_any (n : Int) (w : World) (h : okN n = true) (ht : Tab w) : Calls Tryd.prog 37 #[.int .i64 n] w fun e w' => e = .returned (.string ⟨(nw n).toArray⟩) ∧ Below w.heap.size w w' := by
  have h1 := okN_nat h
  have := word_any n.toNat w (by omega) ht
  rwa [show ((n.toNat : Nat) : Int) = n by omega] at this
/-- Words behind a row of the call's own: what was there at W0 is as it was. -/
def RowOf (W0 W : World) (v : Value) (ws : List (List UInt8)) : Prop := Below W0.heap.size W0 W ∧ W.ownsRow W0.heap.size 9 1 v ws.length (ws.map str)
theorem RowOf.call {W0 W W' : World} {v : Value} {ws : List (List UInt8)} (h : RowOf W0 W v ws) (hb : Below W.heap.size W W') : RowOf W0 W' v ws :=
  ⟨h.1.trans (hb.mono h.1.size), row_below h.2 hb⟩
theorem RowOf.alloc {W0 W : World} {v : Value} {ws : List (List UInt8)} (h : RowOf W0 W v ws) (o : Obj) : RowOf W0 (W.alloc o) v ws := h.call ((Below.refl _ _).alloc (Nat.le_refl _) _)
theorem RowOf.strs {W0 W : World} {v : Value} {ws : List (List UInt8)} (h : RowOf W0 W v ws) : Strs W v ws := by
  obtain ⟨_, h⟩ := h
  rcases h.2 with ⟨rfl, h0⟩ | ⟨g, c, cur, rfl, hg, hh, hc, hm, hsz, htk⟩
  · have : ws = [] := by cases ws with | nil => rfl | cons a b => simp at h0
    subst this
    exact ⟨none, 0, rfl, by simp [maxLen], .inl rfl⟩
  · refine ⟨_, c, rfl, by omega, .inr ⟨g, 0, rfl, ?_, fun i hi => ?_⟩⟩
    · apply Decidable.byContradiction; intro hn
      rw [Array.getElem?_eq_none (by omega)] at hh; cases hh
    · have e1 : W.cell? ⟨g, 0 + i, none⟩ = cur[i]? := by simp [World.cell?, hh]
      rw [e1]
      have e : (cur.toList.take (ws.length * 1))[i]? = (ws.map str)[i]? := by rw [htk]
      rw [List.getElem?_take, if_pos (by omega)] at e
      simpa [hi] using e
/-- What an append of a few words of a literal does. -/
theorem append_lit {W0 W : World} {v : Value} {ws xs : List (List UInt8)} {n : Nat} {cs : Array Value} (h : RowOf W0 W v ws) (hn : xs.length = n) (hcs : cs = (xs.map str).toArray) (hl : ws.length + n ≤ 1000) :
    ∃ v' W', (Builtin.append_ #[48, 48] 48 #[v, .slice (some ⟨W.heap.size, 0, none⟩) n n]).run Tryd.prog (W.alloc (.cells cs 9)) = .ok v' W' ∧ RowOf W0 W' v' (ws ++ xs) ∧ (W.alloc (.cells cs 9)).grownBy W' v.ownBlock := by
  subst hn hcs
  have h1 := h.alloc (.cells (xs.map str).toArray 9)
  have hb := h1.1.size
  have hs : Strs (W.alloc (.cells (xs.map str).toArray 9)) (.slice (some ⟨W.heap.size, 0, none⟩) xs.length xs.length) xs :=
    ⟨_, _, rfl, by unfold maxLen; omega, .inr ⟨W.heap.size, 0, rfl, by simp, fun i hi => by
      rw [World.cell?_alloc_at _ _ _ _ rfl]; simp [hi]⟩⟩
  obtain ⟨v', W', hr, ho, hg⟩ := append_strs 48 h1.2 hs (by omega) hb
  refine ⟨v', W', hr, ⟨h1.1.grown hg hb (fun k hk => ?_), by simpa [List.length_append] using ho⟩, hg⟩
  rcases h1.2.2 with ⟨rfl, h0⟩ | ⟨g, c, cur, rfl, hg, _⟩
  · simp [Value.ownBlock] at hk
  · simp [Value.ownBlock] at hk; omega
def PutsR (W0 : World) (ws : List (List UInt8)) (e : Ending) (w' : World) : Prop := ∃ v', e = .returned v' ∧ RowOf W0 w' v' ws
theorem place_str (k : Int) (h : pkB k = true) : (#[.string ⟨#[105, 110]⟩, .string ⟨#[119, 105, 116, 104]⟩, .string ⟨#[98, 111, 120]⟩] : Array Value)[k.toNat]? = some (.string ⟨(placeOf k).toArray⟩) := by
  simp [pkB] at h
  obtain rfl | rfl | rfl : k = 0 ∨ k = 1 ∨ k = 2 := by omega
  all_goals rfl
theorem RowOf.own_lt {W0 W : World} {v : Value} {ws : List (List UInt8)} (h : RowOf W0 W v ws) {g : Nat} (hg : W.heap.size ≤ g) : some g ≠ v.ownBlock := by
  rcases h.2.2 with ⟨rfl, h0⟩ | ⟨q, c, cur, rfl, hq, hh, _⟩
  · simp [Value.ownBlock]
  · intro e
    simp [Value.ownBlock] at e
    rw [Array.getElem?_eq_none (by omega)] at hh; cases hh
theorem RowOf.own_old {W0 W : World} {v : Value} {ws : List (List UInt8)} (h : RowOf W0 W v ws) {g : Nat} (hg : g < W0.heap.size) : some g ≠ v.ownBlock := by
  rcases h.2.2 with ⟨rfl, h0⟩ | ⟨q, c, cur, rfl, hq, hh, _⟩
  · simp [Value.ownBlock]
  · intro e
    simp [Value.ownBlock] at e
    omega
theorem RowOf.drew {W0 W : World} {v : Value} {ws : List (List UInt8)} (h : RowOf W0 W v ws) : RowOf W0 W.drew v ws := ⟨⟨h.1.os, h.1.tape, h.1.output, h.1.size, h.1.block⟩, h.2.drew⟩
/-- What the loads of a round read: the item's own block, and a name of the table. -/
def SeenS (W0 : World) (n g o : Nat) (A : Array Value) (x : Value) (w' : World) : Prop :=
  Below W0.heap.size W0 w' ∧ n < w'.heap.size ∧ (∀ i, w'.cell? ⟨n, i, none⟩ = A[i]?) ∧ w'.cell? ⟨g, o, none⟩ = some x
theorem lt_of_cell {w : World} {g o : Nat} {x : Value} (h : w.cell? ⟨g, o, none⟩ = some x) : g < w.heap.size := Decidable.byContradiction fun hn => by
  have : w.heap[g]? = none := by simp; omega
  simp [World.cell?, this] at h
theorem SeenS.call {W0 : World} {n g o : Nat} {A : Array Value} {x : Value} {w' w1 : World} (h : SeenS W0 n g o A x w') (hb : Below w'.heap.size w' w1) : SeenS W0 n g o A x w1 :=
  ⟨h.1.trans (hb.mono h.1.size), Nat.lt_of_lt_of_le h.2.1 hb.size, fun i => (hb.cell (p := ⟨n, i, none⟩) h.2.1).trans (h.2.2.1 i), (hb.cell (p := ⟨g, o, none⟩) (lt_of_cell h.2.2.2)).trans h.2.2.2⟩
theorem SeenS.alloc {W0 : World} {n g o : Nat} {A : Array Value} {x : Value} {w' : World} (h : SeenS W0 n g o A x w') (ob : Obj) : SeenS W0 n g o A x (w'.alloc ob) := h.call ((Below.refl _ _).alloc (Nat.le_refl _) _)
theorem SeenS.grown {W0 : World} {n g o : Nat} {A : Array Value} {x : Value} {w' w1 : World} {r : Option Nat} (h : SeenS W0 n g o A x w') (hb : w'.grownBy w1 r) (h0 : Below W0.heap.size W0 w1) (hn : some n ≠ r) (hg : some g ≠ r) : SeenS W0 n g o A x w1 :=
  ⟨h0, Nat.lt_of_lt_of_le h.2.1 hb.size, fun i => by
    have e : w1.cell? ⟨n, i, none⟩ = w'.cell? ⟨n, i, none⟩ := World.cell?_of_block (hb.block n h.2.1 hn)
    rw [e]; exact h.2.2.1 i, hb.cell h.2.2.2 hg⟩
theorem seen_take (xs : List Sn) (k : Nat) (h : k < xs.length) : (xs.take (k + 1)).flatMap seenW = (xs.take k).flatMap seenW ++ seenW xs[k] := by
  rw [List.take_succ_eq_append_getElem h]; simp only [List.flatMap_append, List.flatMap_cons, List.flatMap_nil, List.append_nil]
theorem seen_take_len (xs : List Sn) (k : Nat) (h : xs.length ≤ 16) : ((xs.take k).flatMap seenW).length ≤ 48 := by
  rw [seenW_len]
  have := List.length_take_le' k xs
  omega
set_option maxRecDepth 100000 in
set_option maxHeartbeats 2000000 in
theorem appitems_any (W0 w : World) (v : Value) (ws : List (List UInt8)) (xs : List Sn) (ia : Option Addr) (ic : Nat) (h : RowOf W0 w v ws) (hi : SnsAt W0 ia xs) (hx : ∀ s ∈ xs, snB s = true) (hl : xs.length ≤ 16) (hw : ws.length ≤ 100) (ht : RTabs W0) :
    Calls Tryd.prog 39 #[v, .slice ia xs.length ic] w (PutsR W0 (ws ++ itemsW xs)) := by
  obtain ⟨v1, w1, hrun, h1, -⟩ := append_lit (n := 1) (cs := #[.string ⟨#[105, 116, 101, 109, 115]⟩]) (xs := [sItems]) h rfl rfl (by omega)
  have HN := Lib.hid hrun
  have H1 := Lib.hid h1
  have HI := Lib.hid hi
  have HX := Lib.hid hx
  have HT := Lib.hid ht
  have HW := Lib.hid hw
  clear h hi hx ht hrun h1 hw
  go_enter Tryd.func39, Tryd.ntmps39
  go_wp2_with (at_builtin; refine append_step rfl (.tmp 7) (.tmp 8) 48 rfl _ _ v1 w1 rfl rfl HN.out ?_)
  go_loopw [0, 6, 12] (fun v _ i wr => ∃ k : Nat, k ≤ xs.length ∧ i = .int .i64 k ∧ RowOf W0 wr v (ws ++ sItems :: (xs.take k).flatMap seenW)) (fun _ _ i _ => xs.length - (intOf i).toNat)
  case atStart => exact ⟨0, Nat.zero_le _, rfl, by simpa using H1.out⟩
  case round =>
    obtain ⟨k, hk, rfl, hR⟩ := hrel
    have HR := Lib.hid hR
    clear hR
    by_cases hlt : k < xs.length
    · obtain ⟨xb, xo, rfl, hxb, hxc⟩ := HI.out.at_ hlt
      obtain ⟨x1, x2, x3⟩ := hxc k hlt
      have h1 := (HR.out.1.cell (p := ⟨xb, xo + k * 3, none⟩) hxb).trans x1
      have h2 := (HR.out.1.cell (p := ⟨xb, xo + k * 3 + 1, none⟩) hxb).trans x2
      have h3 := (HR.out.1.cell (p := ⟨xb, xo + k * 3 + 2, none⟩) hxb).trans x3
      clear hxc x1 x2 x3
      have hs := snB_parts (HX.out _ (List.getElem_mem hlt))
      have HW2 := Lib.hid (seen_take xs k hlt)
      have HL2 := Lib.hid (seen_take_len xs k hl)
      generalize xs[k] = x at *
      obtain ⟨si, sk, sd⟩ := x
      obtain ⟨p1, p2, p3⟩ := hs
      have P2 := Lib.hid p2
      have P3 := Lib.hid p3
      have hg := ((HT.out.call HR.out.1).2.1.cells sk.toNat).trans (place_str sk p1)
      have k0 : 0 ≤ sk := by simp [pkB] at p1; omega
      have k3 : sk < 3 := by simp [pkB] at p1; omega
      have HPW : Hid (seenW ⟨si, sk, sd⟩ = [nw si, placeOf sk, nw sd]) := Lib.hid rfl
      have R0 := Lib.hid (show RowOf W0 (wr.alloc (.cells #[.int .i64 si, .int .i64 sk, .int .i64 sd] 46)).drew _ (ws ++ sItems :: (xs.take k).flatMap seenW) from (HR.out.alloc _).drew)
      have HO := Lib.hid (fun g hg => HR.out.own_lt (g := g) hg)
      have HG1 := Lib.hid (HR.out.own_old (lt_of_cell (HT.out.2.1.cells 0)))
      have HG0 := Lib.hid (show 1 < wr.heap.size from lt_of_cell hg)
      have S0 := Lib.hid (show SeenS W0 wr.heap.size 1 sk.toNat #[.int .i64 si, .int .i64 sk, .int .i64 sd] (.string ⟨(placeOf sk).toArray⟩) (wr.alloc (.cells #[.int .i64 si, .int .i64 sk, .int .i64 sd] 46)).drew from
        ⟨R0.out.1, by simp, fun i => World.cell?_alloc_at _ _ _ _ rfl, (World.cell?_alloc_lt _ _ _ HG0.out).trans hg⟩)
      generalize placeOf sk = pw at *
      clear hg p1 p2 p3
      go_wp2_with fail
      clear h1 h2 h3
      refine wp_region_noPanic ?_
      refine wp_region_held_drew (S := (fun w' => Below W0.heap.size W0 w' ∧ wr.heap.size < w'.heap.size ∧ (∀ i, w'.cell? ⟨wr.heap.size, i, none⟩ = (#[.int .i64 si, .int .i64 sk, .int .i64 sd][i]? : Option Value)) ∧ w'.cell? ⟨1, sk.toNat, none⟩ = some (.string ⟨pw.toArray⟩))) (by kernel_rfl) (by (first | (exact S0.out) | (exact SeenS.call hHeld HC.out) | (exact SeenS.alloc hHeld _) | (exact SeenS.grown hHeld HGR.out HROW.out.1 (HO.out _ (Nat.le_refl _)) HG1.out))) (fun hHeld => ?_)
      first
        | (refine wpAnyH_take (i := 0) (v := undef) (by simp only [List.getElem?_toArray, List.getElem?_cons_zero]; rfl) (by kernel_rfl) (by kernel_rfl) (by kernel_rfl) (fun _ _ _ h => h) (Or.inr ⟨by rfl, rfl⟩) (by assumption) ?_; try simp only [Act.put, List.setIfInBounds_toArray, List.set_cons_zero, List.set_cons_succ])
        | (refine wpAnyH_take (i := 0) (v := ?_) (by simp only [List.getElem?_toArray, List.getElem?_cons_zero]; rfl) (by kernel_rfl) (by kernel_rfl) (by kernel_rfl) (fun _ _ _ h => h) (Or.inl ⟨by rfl, ?_⟩) (by assumption) ?_
           rotate_left
           · (intro ww hSw; (try dsimp only at hSw); go_simp; (try with_reducible rfl))
           try simp only [Act.put, List.setIfInBounds_toArray, List.set_cons_zero, List.set_cons_succ])
        | (refine wpAnyH_ready (rs := [0]) (by kernel_rfl) (by simp) (AllReadyH.cons (by simp only [List.getElem?_toArray, List.getElem?_cons_succ, List.getElem?_cons_zero]; rfl) (fun K hK => ?_) AllReadyH.nil)
           go_simp
           first
             | (go_at_call 37; (with_reducible refine (nword_any si _ P2.out (HT.out.call hHeld.1).tab).mono ?_); rintro e w1 ⟨rfl, hb⟩; have HC := Lib.hid hb; have R1 := Lib.hid (R0.out.call hb))
             | (go_at_call 37; (with_reducible refine (nword_any sd _ P3.out (HT.out.call hHeld.1).tab).mono ?_); rintro e w2 ⟨rfl, hb⟩; have HC := Lib.hid hb; obtain ⟨v', W2, hrun, hrow, hgr⟩ := append_lit (n := 3) (cs := #[.string ⟨(nw si).toArray⟩, .string ⟨pw.toArray⟩, .string ⟨(nw sd).toArray⟩]) (xs := [nw si, pw, nw sd]) (R1.out.call hb) rfl rfl (by have := HL2.out; have := HW.out; simp only [List.length_append, List.length_cons]; omega); have HN := Lib.hid hrun; have HROW := Lib.hid hrow; have HGR := Lib.hid hgr)
             | (skip)
           try go_wp2_with fail
           refine hK.out _ _ (by (first | (exact S0.out) | (exact SeenS.call hHeld HC.out) | (exact SeenS.alloc hHeld _) | (exact SeenS.grown hHeld HGR.out HROW.out.1 (HO.out _ (Nat.le_refl _)) HG1.out))) (fun hHeld => ?_)
           clear hK K
           try simp only [Act.put, List.setIfInBounds_toArray, List.set_cons_zero, List.set_cons_succ])
      first
        | (refine wpAnyH_take (i := 1) (v := undef) (by simp only [List.getElem?_toArray, List.getElem?_cons_succ, List.getElem?_cons_zero]; rfl) (by kernel_rfl) (by kernel_rfl) (by kernel_rfl) (fun _ _ _ h => h) (Or.inr ⟨by rfl, rfl⟩) (by assumption) ?_; try simp only [Act.put, List.setIfInBounds_toArray, List.set_cons_zero, List.set_cons_succ])
        | (refine wpAnyH_take (i := 1) (v := ?_) (by simp only [List.getElem?_toArray, List.getElem?_cons_succ, List.getElem?_cons_zero]; rfl) (by kernel_rfl) (by kernel_rfl) (by kernel_rfl) (fun _ _ _ h => h) (Or.inl ⟨by rfl, ?_⟩) (by assumption) ?_
           rotate_left
           · (intro ww hSw; (try dsimp only at hSw); go_simp; (try with_reducible rfl))
           try simp only [Act.put, List.setIfInBounds_toArray, List.set_cons_zero, List.set_cons_succ])
        | (refine wpAnyH_ready (rs := [1]) (by kernel_rfl) (by simp) (AllReadyH.cons (by simp only [List.getElem?_toArray, List.getElem?_cons_succ, List.getElem?_cons_zero]; rfl) (fun K hK => ?_) AllReadyH.nil)
           go_simp
           first
             | (go_at_call 37; (with_reducible refine (nword_any si _ P2.out (HT.out.call hHeld.1).tab).mono ?_); rintro e w1 ⟨rfl, hb⟩; have HC := Lib.hid hb; have R1 := Lib.hid (R0.out.call hb))
             | (go_at_call 37; (with_reducible refine (nword_any sd _ P3.out (HT.out.call hHeld.1).tab).mono ?_); rintro e w2 ⟨rfl, hb⟩; have HC := Lib.hid hb; obtain ⟨v', W2, hrun, hrow, hgr⟩ := append_lit (n := 3) (cs := #[.string ⟨(nw si).toArray⟩, .string ⟨pw.toArray⟩, .string ⟨(nw sd).toArray⟩]) (xs := [nw si, pw, nw sd]) (R1.out.call hb) rfl rfl (by have := HL2.out; have := HW.out; simp only [List.length_append, List.length_cons]; omega); have HN := Lib.hid hrun; have HROW := Lib.hid hrow; have HGR := Lib.hid hgr)
             | (skip)
           try go_wp2_with fail
           refine hK.out _ _ (by (first | (exact S0.out) | (exact SeenS.call hHeld HC.out) | (exact SeenS.alloc hHeld _) | (exact SeenS.grown hHeld HGR.out HROW.out.1 (HO.out _ (Nat.le_refl _)) HG1.out))) (fun hHeld => ?_)
           clear hK K
           try simp only [Act.put, List.setIfInBounds_toArray, List.set_cons_zero, List.set_cons_succ])
      first
        | (refine wpAnyH_take (i := 2) (v := undef) (by simp only [List.getElem?_toArray, List.getElem?_cons_succ, List.getElem?_cons_zero]; rfl) (by kernel_rfl) (by kernel_rfl) (by kernel_rfl) (fun _ _ _ h => h) (Or.inr ⟨by rfl, rfl⟩) (by assumption) ?_; try simp only [Act.put, List.setIfInBounds_toArray, List.set_cons_zero, List.set_cons_succ])
        | (refine wpAnyH_take (i := 2) (v := ?_) (by simp only [List.getElem?_toArray, List.getElem?_cons_succ, List.getElem?_cons_zero]; rfl) (by kernel_rfl) (by kernel_rfl) (by kernel_rfl) (fun _ _ _ h => h) (Or.inl ⟨by rfl, ?_⟩) (by assumption) ?_
           rotate_left
           · (intro ww hSw; (try dsimp only at hSw); go_simp; (try with_reducible rfl))
           try simp only [Act.put, List.setIfInBounds_toArray, List.set_cons_zero, List.set_cons_succ])
        | (refine wpAnyH_ready (rs := [2]) (by kernel_rfl) (by simp) (AllReadyH.cons (by simp only [List.getElem?_toArray, List.getElem?_cons_succ, List.getElem?_cons_zero]; rfl) (fun K hK => ?_) AllReadyH.nil)
           go_simp
           first
             | (go_at_call 37; (with_reducible refine (nword_any si _ P2.out (HT.out.call hHeld.1).tab).mono ?_); rintro e w1 ⟨rfl, hb⟩; have HC := Lib.hid hb; have R1 := Lib.hid (R0.out.call hb))
             | (go_at_call 37; (with_reducible refine (nword_any sd _ P3.out (HT.out.call hHeld.1).tab).mono ?_); rintro e w2 ⟨rfl, hb⟩; have HC := Lib.hid hb; obtain ⟨v', W2, hrun, hrow, hgr⟩ := append_lit (n := 3) (cs := #[.string ⟨(nw si).toArray⟩, .string ⟨pw.toArray⟩, .string ⟨(nw sd).toArray⟩]) (xs := [nw si, pw, nw sd]) (R1.out.call hb) rfl rfl (by have := HL2.out; have := HW.out; simp only [List.length_append, List.length_cons]; omega); have HN := Lib.hid hrun; have HROW := Lib.hid hrow; have HGR := Lib.hid hgr)
             | (skip)
           try go_wp2_with fail
           refine hK.out _ _ (by (first | (exact S0.out) | (exact SeenS.call hHeld HC.out) | (exact SeenS.alloc hHeld _) | (exact SeenS.grown hHeld HGR.out HROW.out.1 (HO.out _ (Nat.le_refl _)) HG1.out))) (fun hHeld => ?_)
           clear hK K
           try simp only [Act.put, List.setIfInBounds_toArray, List.set_cons_zero, List.set_cons_succ])
      first
        | (refine wpAnyH_take (i := 4) (v := undef) (by simp only [List.getElem?_toArray, List.getElem?_cons_succ, List.getElem?_cons_zero]; rfl) (by kernel_rfl) (by kernel_rfl) (by kernel_rfl) (fun _ _ _ h => h) (Or.inr ⟨by rfl, rfl⟩) (by assumption) ?_; try simp only [Act.put, List.setIfInBounds_toArray, List.set_cons_zero, List.set_cons_succ])
        | (refine wpAnyH_take (i := 4) (v := ?_) (by simp only [List.getElem?_toArray, List.getElem?_cons_succ, List.getElem?_cons_zero]; rfl) (by kernel_rfl) (by kernel_rfl) (by kernel_rfl) (fun _ _ _ h => h) (Or.inl ⟨by rfl, ?_⟩) (by assumption) ?_
           rotate_left
           · (intro ww hSw; (try dsimp only at hSw); go_simp; (try with_reducible rfl))
           try simp only [Act.put, List.setIfInBounds_toArray, List.set_cons_zero, List.set_cons_succ])
        | (refine wpAnyH_ready (rs := [4]) (by kernel_rfl) (by simp) (AllReadyH.cons (by simp only [List.getElem?_toArray, List.getElem?_cons_succ, List.getElem?_cons_zero]; rfl) (fun K hK => ?_) AllReadyH.nil)
           go_simp
           first
             | (go_at_call 37; (with_reducible refine (nword_any si _ P2.out (HT.out.call hHeld.1).tab).mono ?_); rintro e w1 ⟨rfl, hb⟩; have HC := Lib.hid hb; have R1 := Lib.hid (R0.out.call hb))
             | (go_at_call 37; (with_reducible refine (nword_any sd _ P3.out (HT.out.call hHeld.1).tab).mono ?_); rintro e w2 ⟨rfl, hb⟩; have HC := Lib.hid hb; obtain ⟨v', W2, hrun, hrow, hgr⟩ := append_lit (n := 3) (cs := #[.string ⟨(nw si).toArray⟩, .string ⟨pw.toArray⟩, .string ⟨(nw sd).toArray⟩]) (xs := [nw si, pw, nw sd]) (R1.out.call hb) rfl rfl (by have := HL2.out; have := HW.out; simp only [List.length_append, List.length_cons]; omega); have HN := Lib.hid hrun; have HROW := Lib.hid hrow; have HGR := Lib.hid hgr)
             | (skip)
           try go_wp2_with fail
           refine hK.out _ _ (by (first | (exact S0.out) | (exact SeenS.call hHeld HC.out) | (exact SeenS.alloc hHeld _) | (exact SeenS.grown hHeld HGR.out HROW.out.1 (HO.out _ (Nat.le_refl _)) HG1.out))) (fun hHeld => ?_)
           clear hK K
           try simp only [Act.put, List.setIfInBounds_toArray, List.set_cons_zero, List.set_cons_succ])
      first
        | (refine wpAnyH_take (i := 5) (v := undef) (by simp only [List.getElem?_toArray, List.getElem?_cons_succ, List.getElem?_cons_zero]; rfl) (by kernel_rfl) (by kernel_rfl) (by kernel_rfl) (fun _ _ _ h => h) (Or.inr ⟨by rfl, rfl⟩) (by assumption) ?_; try simp only [Act.put, List.setIfInBounds_toArray, List.set_cons_zero, List.set_cons_succ])
        | (refine wpAnyH_take (i := 5) (v := ?_) (by simp only [List.getElem?_toArray, List.getElem?_cons_succ, List.getElem?_cons_zero]; rfl) (by kernel_rfl) (by kernel_rfl) (by kernel_rfl) (fun _ _ _ h => h) (Or.inl ⟨by rfl, ?_⟩) (by assumption) ?_
           rotate_left
           · (intro ww hSw; (try dsimp only at hSw); go_simp; (try with_reducible rfl))
           try simp only [Act.put, List.setIfInBounds_toArray, List.set_cons_zero, List.set_cons_succ])
        | (refine wpAnyH_ready (rs := [5]) (by kernel_rfl) (by simp) (AllReadyH.cons (by simp only [List.getElem?_toArray, List.getElem?_cons_succ, List.getElem?_cons_zero]; rfl) (fun K hK => ?_) AllReadyH.nil)
           go_simp
           first
             | (go_at_call 37; (with_reducible refine (nword_any si _ P2.out (HT.out.call hHeld.1).tab).mono ?_); rintro e w1 ⟨rfl, hb⟩; have HC := Lib.hid hb; have R1 := Lib.hid (R0.out.call hb))
             | (go_at_call 37; (with_reducible refine (nword_any sd _ P3.out (HT.out.call hHeld.1).tab).mono ?_); rintro e w2 ⟨rfl, hb⟩; have HC := Lib.hid hb; obtain ⟨v', W2, hrun, hrow, hgr⟩ := append_lit (n := 3) (cs := #[.string ⟨(nw si).toArray⟩, .string ⟨pw.toArray⟩, .string ⟨(nw sd).toArray⟩]) (xs := [nw si, pw, nw sd]) (R1.out.call hb) rfl rfl (by have := HL2.out; have := HW.out; simp only [List.length_append, List.length_cons]; omega); have HN := Lib.hid hrun; have HROW := Lib.hid hrow; have HGR := Lib.hid hgr)
             | (skip)
           try go_wp2_with fail
           refine hK.out _ _ (by (first | (exact S0.out) | (exact SeenS.call hHeld HC.out) | (exact SeenS.alloc hHeld _) | (exact SeenS.grown hHeld HGR.out HROW.out.1 (HO.out _ (Nat.le_refl _)) HG1.out))) (fun hHeld => ?_)
           clear hK K
           try simp only [Act.put, List.setIfInBounds_toArray, List.set_cons_zero, List.set_cons_succ])
      first
        | (refine wpAnyH_take (i := 6) (v := undef) (by simp only [List.getElem?_toArray, List.getElem?_cons_succ, List.getElem?_cons_zero]; rfl) (by kernel_rfl) (by kernel_rfl) (by kernel_rfl) (fun _ _ _ h => h) (Or.inr ⟨by rfl, rfl⟩) (by assumption) ?_; try simp only [Act.put, List.setIfInBounds_toArray, List.set_cons_zero, List.set_cons_succ])
        | (refine wpAnyH_take (i := 6) (v := ?_) (by simp only [List.getElem?_toArray, List.getElem?_cons_succ, List.getElem?_cons_zero]; rfl) (by kernel_rfl) (by kernel_rfl) (by kernel_rfl) (fun _ _ _ h => h) (Or.inl ⟨by rfl, ?_⟩) (by assumption) ?_
           rotate_left
           · (intro ww hSw; (try dsimp only at hSw); go_simp; (try with_reducible rfl))
           try simp only [Act.put, List.setIfInBounds_toArray, List.set_cons_zero, List.set_cons_succ])
        | (refine wpAnyH_ready (rs := [6]) (by kernel_rfl) (by simp) (AllReadyH.cons (by simp only [List.getElem?_toArray, List.getElem?_cons_succ, List.getElem?_cons_zero]; rfl) (fun K hK => ?_) AllReadyH.nil)
           go_simp
           first
             | (go_at_call 37; (with_reducible refine (nword_any si _ P2.out (HT.out.call hHeld.1).tab).mono ?_); rintro e w1 ⟨rfl, hb⟩; have HC := Lib.hid hb; have R1 := Lib.hid (R0.out.call hb))
             | (go_at_call 37; (with_reducible refine (nword_any sd _ P3.out (HT.out.call hHeld.1).tab).mono ?_); rintro e w2 ⟨rfl, hb⟩; have HC := Lib.hid hb; obtain ⟨v', W2, hrun, hrow, hgr⟩ := append_lit (n := 3) (cs := #[.string ⟨(nw si).toArray⟩, .string ⟨pw.toArray⟩, .string ⟨(nw sd).toArray⟩]) (xs := [nw si, pw, nw sd]) (R1.out.call hb) rfl rfl (by have := HL2.out; have := HW.out; simp only [List.length_append, List.length_cons]; omega); have HN := Lib.hid hrun; have HROW := Lib.hid hrow; have HGR := Lib.hid hgr)
             | (skip)
           try go_wp2_with fail
           refine hK.out _ _ (by (first | (exact S0.out) | (exact SeenS.call hHeld HC.out) | (exact SeenS.alloc hHeld _) | (exact SeenS.grown hHeld HGR.out HROW.out.1 (HO.out _ (Nat.le_refl _)) HG1.out))) (fun hHeld => ?_)
           clear hK K
           try simp only [Act.put, List.setIfInBounds_toArray, List.set_cons_zero, List.set_cons_succ])
      first
        | (refine wpAnyH_take (i := 7) (v := undef) (by simp only [List.getElem?_toArray, List.getElem?_cons_succ, List.getElem?_cons_zero]; rfl) (by kernel_rfl) (by kernel_rfl) (by kernel_rfl) (fun _ _ _ h => h) (Or.inr ⟨by rfl, rfl⟩) (by assumption) ?_; try simp only [Act.put, List.setIfInBounds_toArray, List.set_cons_zero, List.set_cons_succ])
        | (refine wpAnyH_take (i := 7) (v := ?_) (by simp only [List.getElem?_toArray, List.getElem?_cons_succ, List.getElem?_cons_zero]; rfl) (by kernel_rfl) (by kernel_rfl) (by kernel_rfl) (fun _ _ _ h => h) (Or.inl ⟨by rfl, ?_⟩) (by assumption) ?_
           rotate_left
           · (intro ww hSw; (try dsimp only at hSw); go_simp; (try with_reducible rfl))
           try simp only [Act.put, List.setIfInBounds_toArray, List.set_cons_zero, List.set_cons_succ])
        | (refine wpAnyH_ready (rs := [7]) (by kernel_rfl) (by simp) (AllReadyH.cons (by simp only [List.getElem?_toArray, List.getElem?_cons_succ, List.getElem?_cons_zero]; rfl) (fun K hK => ?_) AllReadyH.nil)
           go_simp
           first
             | (go_at_call 37; (with_reducible refine (nword_any si _ P2.out (HT.out.call hHeld.1).tab).mono ?_); rintro e w1 ⟨rfl, hb⟩; have HC := Lib.hid hb; have R1 := Lib.hid (R0.out.call hb))
             | (go_at_call 37; (with_reducible refine (nword_any sd _ P3.out (HT.out.call hHeld.1).tab).mono ?_); rintro e w2 ⟨rfl, hb⟩; have HC := Lib.hid hb; obtain ⟨v', W2, hrun, hrow, hgr⟩ := append_lit (n := 3) (cs := #[.string ⟨(nw si).toArray⟩, .string ⟨pw.toArray⟩, .string ⟨(nw sd).toArray⟩]) (xs := [nw si, pw, nw sd]) (R1.out.call hb) rfl rfl (by have := HL2.out; have := HW.out; simp only [List.length_append, List.length_cons]; omega); have HN := Lib.hid hrun; have HROW := Lib.hid hrow; have HGR := Lib.hid hgr)
             | (skip)
           try go_wp2_with fail
           refine hK.out _ _ (by (first | (exact S0.out) | (exact SeenS.call hHeld HC.out) | (exact SeenS.alloc hHeld _) | (exact SeenS.grown hHeld HGR.out HROW.out.1 (HO.out _ (Nat.le_refl _)) HG1.out))) (fun hHeld => ?_)
           clear hK K
           try simp only [Act.put, List.setIfInBounds_toArray, List.set_cons_zero, List.set_cons_succ])
      first
        | (refine wpAnyH_take (i := 8) (v := undef) (by simp only [List.getElem?_toArray, List.getElem?_cons_succ, List.getElem?_cons_zero]; rfl) (by kernel_rfl) (by kernel_rfl) (by kernel_rfl) (fun _ _ _ h => h) (Or.inr ⟨by rfl, rfl⟩) (by assumption) ?_; try simp only [Act.put, List.setIfInBounds_toArray, List.set_cons_zero, List.set_cons_succ])
        | (refine wpAnyH_take (i := 8) (v := ?_) (by simp only [List.getElem?_toArray, List.getElem?_cons_succ, List.getElem?_cons_zero]; rfl) (by kernel_rfl) (by kernel_rfl) (by kernel_rfl) (fun _ _ _ h => h) (Or.inl ⟨by rfl, ?_⟩) (by assumption) ?_
           rotate_left
           · (intro ww hSw; (try dsimp only at hSw); go_simp; (try with_reducible rfl))
           try simp only [Act.put, List.setIfInBounds_toArray, List.set_cons_zero, List.set_cons_succ])
        | (refine wpAnyH_ready (rs := [8]) (by kernel_rfl) (by simp) (AllReadyH.cons (by simp only [List.getElem?_toArray, List.getElem?_cons_succ, List.getElem?_cons_zero]; rfl) (fun K hK => ?_) AllReadyH.nil)
           go_simp
           first
             | (go_at_call 37; (with_reducible refine (nword_any si _ P2.out (HT.out.call hHeld.1).tab).mono ?_); rintro e w1 ⟨rfl, hb⟩; have HC := Lib.hid hb; have R1 := Lib.hid (R0.out.call hb))
             | (go_at_call 37; (with_reducible refine (nword_any sd _ P3.out (HT.out.call hHeld.1).tab).mono ?_); rintro e w2 ⟨rfl, hb⟩; have HC := Lib.hid hb; obtain ⟨v', W2, hrun, hrow, hgr⟩ := append_lit (n := 3) (cs := #[.string ⟨(nw si).toArray⟩, .string ⟨pw.toArray⟩, .string ⟨(nw sd).toArray⟩]) (xs := [nw si, pw, nw sd]) (R1.out.call hb) rfl rfl (by have := HL2.out; have := HW.out; simp only [List.length_append, List.length_cons]; omega); have HN := Lib.hid hrun; have HROW := Lib.hid hrow; have HGR := Lib.hid hgr)
             | (skip)
           try go_wp2_with fail
           refine hK.out _ _ (by (first | (exact S0.out) | (exact SeenS.call hHeld HC.out) | (exact SeenS.alloc hHeld _) | (exact SeenS.grown hHeld HGR.out HROW.out.1 (HO.out _ (Nat.le_refl _)) HG1.out))) (fun hHeld => ?_)
           clear hK K
           try simp only [Act.put, List.setIfInBounds_toArray, List.set_cons_zero, List.set_cons_succ])
      first
        | (refine wpAnyH_take (i := 9) (v := undef) (by simp only [List.getElem?_toArray, List.getElem?_cons_succ, List.getElem?_cons_zero]; rfl) (by kernel_rfl) (by kernel_rfl) (by kernel_rfl) (fun _ _ _ h => h) (Or.inr ⟨by rfl, rfl⟩) (by assumption) ?_; try simp only [Act.put, List.setIfInBounds_toArray, List.set_cons_zero, List.set_cons_succ])
        | (refine wpAnyH_take (i := 9) (v := ?_) (by simp only [List.getElem?_toArray, List.getElem?_cons_succ, List.getElem?_cons_zero]; rfl) (by kernel_rfl) (by kernel_rfl) (by kernel_rfl) (fun _ _ _ h => h) (Or.inl ⟨by rfl, ?_⟩) (by assumption) ?_
           rotate_left
           · (intro ww hSw; (try dsimp only at hSw); go_simp; (try with_reducible rfl))
           try simp only [Act.put, List.setIfInBounds_toArray, List.set_cons_zero, List.set_cons_succ])
        | (refine wpAnyH_ready (rs := [9]) (by kernel_rfl) (by simp) (AllReadyH.cons (by simp only [List.getElem?_toArray, List.getElem?_cons_succ, List.getElem?_cons_zero]; rfl) (fun K hK => ?_) AllReadyH.nil)
           go_simp
           first
             | (go_at_call 37; (with_reducible refine (nword_any si _ P2.out (HT.out.call hHeld.1).tab).mono ?_); rintro e w1 ⟨rfl, hb⟩; have HC := Lib.hid hb; have R1 := Lib.hid (R0.out.call hb))
             | (go_at_call 37; (with_reducible refine (nword_any sd _ P3.out (HT.out.call hHeld.1).tab).mono ?_); rintro e w2 ⟨rfl, hb⟩; have HC := Lib.hid hb; obtain ⟨v', W2, hrun, hrow, hgr⟩ := append_lit (n := 3) (cs := #[.string ⟨(nw si).toArray⟩, .string ⟨pw.toArray⟩, .string ⟨(nw sd).toArray⟩]) (xs := [nw si, pw, nw sd]) (R1.out.call hb) rfl rfl (by have := HL2.out; have := HW.out; simp only [List.length_append, List.length_cons]; omega); have HN := Lib.hid hrun; have HROW := Lib.hid hrow; have HGR := Lib.hid hgr)
             | (skip)
           try go_wp2_with fail
           refine hK.out _ _ (by (first | (exact S0.out) | (exact SeenS.call hHeld HC.out) | (exact SeenS.alloc hHeld _) | (exact SeenS.grown hHeld HGR.out HROW.out.1 (HO.out _ (Nat.le_refl _)) HG1.out))) (fun hHeld => ?_)
           clear hK K
           try simp only [Act.put, List.setIfInBounds_toArray, List.set_cons_zero, List.set_cons_succ])
      first
        | (refine wpAnyH_take (i := 10) (v := undef) (by simp only [List.getElem?_toArray, List.getElem?_cons_succ, List.getElem?_cons_zero]; rfl) (by kernel_rfl) (by kernel_rfl) (by kernel_rfl) (fun _ _ _ h => h) (Or.inr ⟨by rfl, rfl⟩) (by assumption) ?_; try simp only [Act.put, List.setIfInBounds_toArray, List.set_cons_zero, List.set_cons_succ])
        | (refine wpAnyH_take (i := 10) (v := ?_) (by simp only [List.getElem?_toArray, List.getElem?_cons_succ, List.getElem?_cons_zero]; rfl) (by kernel_rfl) (by kernel_rfl) (by kernel_rfl) (fun _ _ _ h => h) (Or.inl ⟨by rfl, ?_⟩) (by assumption) ?_
           rotate_left
           · (intro ww hSw; (try dsimp only at hSw); go_simp; (try with_reducible rfl))
           try simp only [Act.put, List.setIfInBounds_toArray, List.set_cons_zero, List.set_cons_succ])
        | (refine wpAnyH_ready (rs := [10]) (by kernel_rfl) (by simp) (AllReadyH.cons (by simp only [List.getElem?_toArray, List.getElem?_cons_succ, List.getElem?_cons_zero]; rfl) (fun K hK => ?_) AllReadyH.nil)
           go_simp
           first
             | (go_at_call 37; (with_reducible refine (nword_any si _ P2.out (HT.out.call hHeld.1).tab).mono ?_); rintro e w1 ⟨rfl, hb⟩; have HC := Lib.hid hb; have R1 := Lib.hid (R0.out.call hb))
             | (go_at_call 37; (with_reducible refine (nword_any sd _ P3.out (HT.out.call hHeld.1).tab).mono ?_); rintro e w2 ⟨rfl, hb⟩; have HC := Lib.hid hb; obtain ⟨v', W2, hrun, hrow, hgr⟩ := append_lit (n := 3) (cs := #[.string ⟨(nw si).toArray⟩, .string ⟨pw.toArray⟩, .string ⟨(nw sd).toArray⟩]) (xs := [nw si, pw, nw sd]) (R1.out.call hb) rfl rfl (by have := HL2.out; have := HW.out; simp only [List.length_append, List.length_cons]; omega); have HN := Lib.hid hrun; have HROW := Lib.hid hrow; have HGR := Lib.hid hgr)
             | (skip)
           try go_wp2_with fail
           refine hK.out _ _ (by (first | (exact S0.out) | (exact SeenS.call hHeld HC.out) | (exact SeenS.alloc hHeld _) | (exact SeenS.grown hHeld HGR.out HROW.out.1 (HO.out _ (Nat.le_refl _)) HG1.out))) (fun hHeld => ?_)
           clear hK K
           try simp only [Act.put, List.setIfInBounds_toArray, List.set_cons_zero, List.set_cons_succ])
      first
        | (refine wpAnyH_take (i := 11) (v := undef) (by simp only [List.getElem?_toArray, List.getElem?_cons_succ, List.getElem?_cons_zero]; rfl) (by kernel_rfl) (by kernel_rfl) (by kernel_rfl) (fun _ _ _ h => h) (Or.inr ⟨by rfl, rfl⟩) (by assumption) ?_; try simp only [Act.put, List.setIfInBounds_toArray, List.set_cons_zero, List.set_cons_succ])
        | (refine wpAnyH_take (i := 11) (v := ?_) (by simp only [List.getElem?_toArray, List.getElem?_cons_succ, List.getElem?_cons_zero]; rfl) (by kernel_rfl) (by kernel_rfl) (by kernel_rfl) (fun _ _ _ h => h) (Or.inl ⟨by rfl, ?_⟩) (by assumption) ?_
           rotate_left
           · (intro ww hSw; (try dsimp only at hSw); go_simp; (try with_reducible rfl))
           try simp only [Act.put, List.setIfInBounds_toArray, List.set_cons_zero, List.set_cons_succ])
        | (refine wpAnyH_ready (rs := [11]) (by kernel_rfl) (by simp) (AllReadyH.cons (by simp only [List.getElem?_toArray, List.getElem?_cons_succ, List.getElem?_cons_zero]; rfl) (fun K hK => ?_) AllReadyH.nil)
           go_simp
           first
             | (go_at_call 37; (with_reducible refine (nword_any si _ P2.out (HT.out.call hHeld.1).tab).mono ?_); rintro e w1 ⟨rfl, hb⟩; have HC := Lib.hid hb; have R1 := Lib.hid (R0.out.call hb))
             | (go_at_call 37; (with_reducible refine (nword_any sd _ P3.out (HT.out.call hHeld.1).tab).mono ?_); rintro e w2 ⟨rfl, hb⟩; have HC := Lib.hid hb; obtain ⟨v', W2, hrun, hrow, hgr⟩ := append_lit (n := 3) (cs := #[.string ⟨(nw si).toArray⟩, .string ⟨pw.toArray⟩, .string ⟨(nw sd).toArray⟩]) (xs := [nw si, pw, nw sd]) (R1.out.call hb) rfl rfl (by have := HL2.out; have := HW.out; simp only [List.length_append, List.length_cons]; omega); have HN := Lib.hid hrun; have HROW := Lib.hid hrow; have HGR := Lib.hid hgr)
             | (skip)
           try go_wp2_with fail
           refine hK.out _ _ (by (first | (exact S0.out) | (exact SeenS.call hHeld HC.out) | (exact SeenS.alloc hHeld _) | (exact SeenS.grown hHeld HGR.out HROW.out.1 (HO.out _ (Nat.le_refl _)) HG1.out))) (fun hHeld => ?_)
           clear hK K
           try simp only [Act.put, List.setIfInBounds_toArray, List.set_cons_zero, List.set_cons_succ])
      first
        | (refine wpAnyH_take (i := 3) (v := undef) (by simp only [List.getElem?_toArray, List.getElem?_cons_succ, List.getElem?_cons_zero]; rfl) (by kernel_rfl) (by kernel_rfl) (by kernel_rfl) (fun _ _ _ h => h) (Or.inr ⟨by rfl, rfl⟩) (by assumption) ?_; try simp only [Act.put, List.setIfInBounds_toArray, List.set_cons_zero, List.set_cons_succ])
        | (refine wpAnyH_take (i := 3) (v := ?_) (by simp only [List.getElem?_toArray, List.getElem?_cons_succ, List.getElem?_cons_zero]; rfl) (by kernel_rfl) (by kernel_rfl) (by kernel_rfl) (fun _ _ _ h => h) (Or.inl ⟨by rfl, ?_⟩) (by assumption) ?_
           rotate_left
           · (intro ww hSw; (try dsimp only at hSw); go_simp; (try with_reducible rfl))
           try simp only [Act.put, List.setIfInBounds_toArray, List.set_cons_zero, List.set_cons_succ])
        | (refine wpAnyH_ready (rs := [3]) (by kernel_rfl) (by simp) (AllReadyH.cons (by simp only [List.getElem?_toArray, List.getElem?_cons_succ, List.getElem?_cons_zero]; rfl) (fun K hK => ?_) AllReadyH.nil)
           go_simp
           first
             | (go_at_call 37; (with_reducible refine (nword_any si _ P2.out (HT.out.call hHeld.1).tab).mono ?_); rintro e w1 ⟨rfl, hb⟩; have HC := Lib.hid hb; have R1 := Lib.hid (R0.out.call hb))
             | (go_at_call 37; (with_reducible refine (nword_any sd _ P3.out (HT.out.call hHeld.1).tab).mono ?_); rintro e w2 ⟨rfl, hb⟩; have HC := Lib.hid hb; obtain ⟨v', W2, hrun, hrow, hgr⟩ := append_lit (n := 3) (cs := #[.string ⟨(nw si).toArray⟩, .string ⟨pw.toArray⟩, .string ⟨(nw sd).toArray⟩]) (xs := [nw si, pw, nw sd]) (R1.out.call hb) rfl rfl (by have := HL2.out; have := HW.out; simp only [List.length_append, List.length_cons]; omega); have HN := Lib.hid hrun; have HROW := Lib.hid hrow; have HGR := Lib.hid hgr)
             | (skip)
           try go_wp2_with fail
           refine hK.out _ _ (by (first | (exact S0.out) | (exact SeenS.call hHeld HC.out) | (exact SeenS.alloc hHeld _) | (exact SeenS.grown hHeld HGR.out HROW.out.1 (HO.out _ (Nat.le_refl _)) HG1.out))) (fun hHeld => ?_)
           clear hK K
           try simp only [Act.put, List.setIfInBounds_toArray, List.set_cons_zero, List.set_cons_succ])
      first
        | (refine wpAnyH_take (i := 12) (v := undef) (by simp only [List.getElem?_toArray, List.getElem?_cons_succ, List.getElem?_cons_zero]; rfl) (by kernel_rfl) (by kernel_rfl) (by kernel_rfl) (fun _ _ _ h => h) (Or.inr ⟨by rfl, rfl⟩) (by assumption) ?_; try simp only [Act.put, List.setIfInBounds_toArray, List.set_cons_zero, List.set_cons_succ])
        | (refine wpAnyH_take (i := 12) (v := ?_) (by simp only [List.getElem?_toArray, List.getElem?_cons_succ, List.getElem?_cons_zero]; rfl) (by kernel_rfl) (by kernel_rfl) (by kernel_rfl) (fun _ _ _ h => h) (Or.inl ⟨by rfl, ?_⟩) (by assumption) ?_
           rotate_left
           · (intro ww hSw; (try dsimp only at hSw); go_simp; (try with_reducible rfl))
           try simp only [Act.put, List.setIfInBounds_toArray, List.set_cons_zero, List.set_cons_succ])
        | (refine wpAnyH_ready (rs := [12]) (by kernel_rfl) (by simp) (AllReadyH.cons (by simp only [List.getElem?_toArray, List.getElem?_cons_succ, List.getElem?_cons_zero]; rfl) (fun K hK => ?_) AllReadyH.nil)
           go_simp
           first
             | (go_at_call 37; (with_reducible refine (nword_any si _ P2.out (HT.out.call hHeld.1).tab).mono ?_); rintro e w1 ⟨rfl, hb⟩; have HC := Lib.hid hb; have R1 := Lib.hid (R0.out.call hb))
             | (go_at_call 37; (with_reducible refine (nword_any sd _ P3.out (HT.out.call hHeld.1).tab).mono ?_); rintro e w2 ⟨rfl, hb⟩; have HC := Lib.hid hb; obtain ⟨v', W2, hrun, hrow, hgr⟩ := append_lit (n := 3) (cs := #[.string ⟨(nw si).toArray⟩, .string ⟨pw.toArray⟩, .string ⟨(nw sd).toArray⟩]) (xs := [nw si, pw, nw sd]) (R1.out.call hb) rfl rfl (by have := HL2.out; have := HW.out; simp only [List.length_append, List.length_cons]; omega); have HN := Lib.hid hrun; have HROW := Lib.hid hrow; have HGR := Lib.hid hgr)
             | (skip)
           try go_wp2_with fail
           refine hK.out _ _ (by (first | (exact S0.out) | (exact SeenS.call hHeld HC.out) | (exact SeenS.alloc hHeld _) | (exact SeenS.grown hHeld HGR.out HROW.out.1 (HO.out _ (Nat.le_refl _)) HG1.out))) (fun hHeld => ?_)
           clear hK K
           try simp only [Act.put, List.setIfInBounds_toArray, List.set_cons_zero, List.set_cons_succ])
      first
        | (refine wpAnyH_take (i := 13) (v := undef) (by simp only [List.getElem?_toArray, List.getElem?_cons_succ, List.getElem?_cons_zero]; rfl) (by kernel_rfl) (by kernel_rfl) (by kernel_rfl) (fun _ _ _ h => h) (Or.inr ⟨by rfl, rfl⟩) (by assumption) ?_; try simp only [Act.put, List.setIfInBounds_toArray, List.set_cons_zero, List.set_cons_succ])
        | (refine wpAnyH_take (i := 13) (v := ?_) (by simp only [List.getElem?_toArray, List.getElem?_cons_succ, List.getElem?_cons_zero]; rfl) (by kernel_rfl) (by kernel_rfl) (by kernel_rfl) (fun _ _ _ h => h) (Or.inl ⟨by rfl, ?_⟩) (by assumption) ?_
           rotate_left
           · (intro ww hSw; (try dsimp only at hSw); go_simp; (try with_reducible rfl))
           try simp only [Act.put, List.setIfInBounds_toArray, List.set_cons_zero, List.set_cons_succ])
        | (refine wpAnyH_ready (rs := [13]) (by kernel_rfl) (by simp) (AllReadyH.cons (by simp only [List.getElem?_toArray, List.getElem?_cons_succ, List.getElem?_cons_zero]; rfl) (fun K hK => ?_) AllReadyH.nil)
           go_simp
           first
             | (go_at_call 37; (with_reducible refine (nword_any si _ P2.out (HT.out.call hHeld.1).tab).mono ?_); rintro e w1 ⟨rfl, hb⟩; have HC := Lib.hid hb; have R1 := Lib.hid (R0.out.call hb))
             | (go_at_call 37; (with_reducible refine (nword_any sd _ P3.out (HT.out.call hHeld.1).tab).mono ?_); rintro e w2 ⟨rfl, hb⟩; have HC := Lib.hid hb; obtain ⟨v', W2, hrun, hrow, hgr⟩ := append_lit (n := 3) (cs := #[.string ⟨(nw si).toArray⟩, .string ⟨pw.toArray⟩, .string ⟨(nw sd).toArray⟩]) (xs := [nw si, pw, nw sd]) (R1.out.call hb) rfl rfl (by have := HL2.out; have := HW.out; simp only [List.length_append, List.length_cons]; omega); have HN := Lib.hid hrun; have HROW := Lib.hid hrow; have HGR := Lib.hid hgr)
             | (skip)
           try go_wp2_with fail
           refine hK.out _ _ (by (first | (exact S0.out) | (exact SeenS.call hHeld HC.out) | (exact SeenS.alloc hHeld _) | (exact SeenS.grown hHeld HGR.out HROW.out.1 (HO.out _ (Nat.le_refl _)) HG1.out))) (fun hHeld => ?_)
           clear hK K
           try simp only [Act.put, List.setIfInBounds_toArray, List.set_cons_zero, List.set_cons_succ])
      refine wpAnyH_ready (rs := [14]) (by kernel_rfl) (by simp) (AllReadyH.cons (by simp only [List.getElem?_toArray, List.getElem?_cons_succ, List.getElem?_cons_zero]; rfl) (fun K hK => ?_) AllReadyH.nil)
      refine step_append rfl (.tmp 16) (.tmp 29) 48 rfl _ _ v' W2 rfl rfl HN.out ?_
      refine hK.out _ _ (by (first | (exact S0.out) | (exact SeenS.call hHeld HC.out) | (exact SeenS.alloc hHeld _) | (exact SeenS.grown hHeld HGR.out HROW.out.1 (HO.out _ (Nat.le_refl _)) HG1.out))) (fun hHeld => ?_)
      clear hK K
      try simp only [Act.put, List.setIfInBounds_toArray, List.set_cons_zero, List.set_cons_succ]
      first
        | (refine wpAnyH_take (i := 15) (v := undef) (by simp only [List.getElem?_toArray, List.getElem?_cons_succ, List.getElem?_cons_zero]; rfl) (by kernel_rfl) (by kernel_rfl) (by kernel_rfl) (fun _ _ _ h => h) (Or.inr ⟨by rfl, rfl⟩) (by assumption) ?_; try simp only [Act.put, List.setIfInBounds_toArray, List.set_cons_zero, List.set_cons_succ])
        | (refine wpAnyH_take (i := 15) (v := ?_) (by simp only [List.getElem?_toArray, List.getElem?_cons_succ, List.getElem?_cons_zero]; rfl) (by kernel_rfl) (by kernel_rfl) (by kernel_rfl) (fun _ _ _ h => h) (Or.inl ⟨by rfl, ?_⟩) (by assumption) ?_
           rotate_left
           · (intro ww hSw; (try dsimp only at hSw); go_simp; (try with_reducible rfl))
           try simp only [Act.put, List.setIfInBounds_toArray, List.set_cons_zero])
        | (refine wpAnyH_ready (rs := [15]) (by kernel_rfl) (by simp) (AllReadyH.cons (by simp only [List.getElem?_toArray, List.getElem?_cons_succ, List.getElem?_cons_zero]; rfl) (fun K hK => ?_) AllReadyH.nil)
           go_simp
           first
             | (go_at_call 37; (with_reducible refine (nword_any si _ P2.out (HT.out.call hHeld.1).tab).mono ?_); rintro e w1 ⟨rfl, hb⟩; have HC := Lib.hid hb; have R1 := Lib.hid (R0.out.call hb))
             | (go_at_call 37; (with_reducible refine (nword_any sd _ P3.out (HT.out.call hHeld.1).tab).mono ?_); rintro e w2 ⟨rfl, hb⟩; have HC := Lib.hid hb; obtain ⟨v', W2, hrun, hrow, hgr⟩ := append_lit (n := 3) (cs := #[.string ⟨(nw si).toArray⟩, .string ⟨pw.toArray⟩, .string ⟨(nw sd).toArray⟩]) (xs := [nw si, pw, nw sd]) (R1.out.call hb) rfl rfl (by have := HL2.out; have := HW.out; simp only [List.length_append, List.length_cons]; omega); have HN := Lib.hid hrun; have HROW := Lib.hid hrow; have HGR := Lib.hid hgr)
             | (skip)
           try go_wp2_with fail
           refine hK.out _ _ (by (first | (exact S0.out) | (exact SeenS.call hHeld HC.out) | (exact SeenS.alloc hHeld _) | (exact SeenS.grown hHeld HGR.out HROW.out.1 (HO.out _ (Nat.le_refl _)) HG1.out))) (fun hHeld => ?_)
           clear hK K
           try simp only [Act.put, List.setIfInBounds_toArray, List.set_cons_zero, List.set_cons_succ])
      refine wpAnyH_done (by kernel_rfl) ?_ _
      refine NoPanic.normal ?_
      go_wp2_with fail
      go_roundw
      case rel => exact ⟨k + 1, by omega, by go_num, by rw [HW2.out, HPW.out]; simpa using HROW.out⟩
      case measure => simp [intOf]; omega
    · have hke : k = xs.length := by omega
      subst hke
      go_wp2_with fail
      go_ret
      refine ⟨_, rfl, ?_⟩
      have h := HR.out
      rw [List.take_of_length_le (Nat.le_refl _)] at h
      exact h
end Go.Proofs.YtcabeagmdfpdlaaDoor
