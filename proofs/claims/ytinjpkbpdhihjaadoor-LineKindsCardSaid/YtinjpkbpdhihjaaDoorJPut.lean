import Derived.Test.YtinjpkbpdhihjaaDoorRows
import Derived.Test.YtinjpkbpdhihjaaDoorKit
import Derived.Test.YtinjpkbpdhihjaaDoorStrs
import Derived.Test.YtinjpkbpdhihjaaDoorJTab
import Derived.Test.YtinjpkbpdhihjaaDoorJBlk
import Derived.Test.YtinjpkbpdhihjaaDoorClone
import Derived.Test.YtinjpkbpdhihjaaDoorJMath
import Derived.Test.YtinjpkbpdhihjaaDoorJNum
import Derived.Test.YtinjpkbpdhihjaaDoorJTokWord
import Derived.Test.YtinjpkbpdhihjaaDoorJCut
import Derived.Test.YtinjpkbpdhihjaaDoorJAppend
import Derived.Test.YtinjpkbpdhihjaaDoorJGrown
import Derived.Test.YtinjpkbpdhihjaaDoorJCmd
import Derived.Test.YtinjpkbpdhihjaaDoorJCmdNames1
import Derived.Test.YtinjpkbpdhihjaaDoorJLinePart
import Derived.Test.YtinjpkbpdhihjaaDoorJLineTrade
import Derived.OwnWalk
import Derived.Deep.RegionHeld3
import Derived.WalkKit
import Derived.ProofKit
import Derived.OpenShut
import Derived.IntWalk
/- line: the closures that put a piece's words behind others. -/
namespace Go.Proofs.YtinjpkbpdhihjaaDoor
open Go.ChangeShapes Go.WideShapes Go.ChangeAt Go.RowKit
set_option linter.unusedVariables false
open Go.RowKit Go
/-- Words put behind those that v held. -/
def PutsTo (W : World) (base : Nat) (v : Value) (ws : List (List UInt8)) (e : Ending) (W' : World) : Prop :=
  ∃ v', e = .returned v' ∧ W'.ownsRow base 9 1 v' ws.length (ws.map str) ∧ W.grownBy W' v.ownBlock ∧ Moves W v v'
theorem three_call {w W W1 : World} {p q r : Addr} {x y z : Value} (hp : p.block < w.heap.size) (hq : q.block < w.heap.size) (hr : r.block < w.heap.size)
    (h : w.heap.size ≤ W.heap.size ∧ W.cell? p = some x ∧ W.cell? q = some y ∧ W.cell? r = some z) (hb : Below W.heap.size W W1) : w.heap.size ≤ W1.heap.size ∧ W1.cell? p = some x ∧ W1.cell? q = some y ∧ W1.cell? r = some z :=
  ⟨Nat.le_trans h.1 hb.size, (hb.cell (by omega)).trans h.2.1, (hb.cell (by omega)).trans h.2.2.1, (hb.cell (by omega)).trans h.2.2.2⟩
theorem three_grown {w W W1 : World} {p q r : Addr} {x y z : Value} {o : Option Nat} (hp : some p.block ≠ o) (hq : some q.block ≠ o) (hr : some r.block ≠ o)
    (h : w.heap.size ≤ W.heap.size ∧ W.cell? p = some x ∧ W.cell? q = some y ∧ W.cell? r = some z) (hb : W.grownBy W1 o) : w.heap.size ≤ W1.heap.size ∧ W1.cell? p = some x ∧ W1.cell? q = some y ∧ W1.cell? r = some z :=
  ⟨Nat.le_trans h.1 hb.size, hb.cell h.2.1 hp, hb.cell h.2.2.1 hq, hb.cell h.2.2.2 hr⟩
theorem puts_fin {w w1 W2 : World} {base : Nat} {v v' : Value} {ws : List (List UInt8)} {x : List UInt8} (hC : Below w.drew.heap.size w.drew w1) (hO : W2.ownsRow base 9 1 v' (ws.length + 1) (ws.map str ++ [str x])) (hG : w1.grownBy W2 v.ownBlock) (hM : Moves w1 v v') :
    PutsTo w base v (ws ++ [x]) (.returned v') W2 :=
  ⟨v', rfl, by simpa using hO, grown_trans (grown_below (W := w) (W1 := w1) ⟨hC.os, hC.tape, hC.output, hC.size, hC.block⟩ v.ownBlock) hG (.inl rfl), (Moves.refl w v).trans hC.size hM⟩
theorem word_int (n : Int) (w : World) (h0 : 0 ≤ n) (h1 : n ≤ 1073741824) (ht : Tab w) : Calls Tryd.prog 63 #[.int .i64 n] w fun e w' => e = .returned (.string ⟨(wd n).toArray⟩) ∧ Below w.heap.size w w' := by
  have := word_any n.toNat w (by omega) ht
  rwa [show ((n.toNat : Nat) : Int) = n by omega] at this
set_option maxRecDepth 100000 in
set_option maxHeartbeats 1000000 in
theorem one_put_name (a b B o base : Nat) (n : Int) (v : Value) (ws : List (List UInt8)) (w : World) (ht : KTab w) (bA : Blk w a 70 #[.pointer (some ⟨B, o, none⟩)]) (bB : Blk w b 43 #[.func (.func 41) #[] #[]])
    (cF : w.cell? ⟨B, o, none⟩ = some (.int .i64 n)) (hrow : w.ownsRow base 9 1 v ws.length (ws.map str)) (hbase : base ≤ w.heap.size) (hl : ws.length ≤ 10000) (m1 : some a ≠ v.ownBlock) (m2 : some b ≠ v.ownBlock) (m3 : some B ≠ v.ownBlock) :
    Calls Tryd.prog 59 #[v, .pointer (some ⟨b, 0, none⟩), .pointer (some ⟨a, 0, none⟩)] w (PutsTo w base v (ws ++ [nameOf n])) := by
  have l1 := bA.lt
  have l2 := bB.lt
  have c1 := bA.cell 0
  have c2 := bB.cell 0
  have l3 : B < w.heap.size := Decidable.byContradiction fun hn => by
    have : w.heap[B]? = none := by simp; omega
    simp [World.cell?, this] at cF
  have T3 := Lib.hid (fun (W W1 : World) h hb => three_call (w := w) (W := W) (W1 := W1) (p := ⟨b, 0, none⟩) (q := ⟨a, 0, none⟩) (r := ⟨B, o, none⟩) (x := .func (.func 41) #[] #[]) (y := .pointer (some ⟨B, o, none⟩)) (z := .int .i64 n) l2 l1 l3 h hb)
  have G3 := Lib.hid (fun (W W1 : World) h hb => three_grown (w := w) (W := W) (W1 := W1) (o := v.ownBlock) (p := ⟨b, 0, none⟩) (q := ⟨a, 0, none⟩) (r := ⟨B, o, none⟩) (x := .func (.func 41) #[] #[]) (y := .pointer (some ⟨B, o, none⟩)) (z := .int .i64 n) m2 m1 m3 h hb)
  have S0 := Lib.hid (show w.heap.size ≤ w.drew.heap.size ∧ w.drew.cell? ⟨b, 0, none⟩ = some (.func (.func 41) #[] #[]) ∧ w.drew.cell? ⟨a, 0, none⟩ = some (.pointer (some ⟨B, o, none⟩)) ∧ w.drew.cell? ⟨B, o, none⟩ = some (.int .i64 n) from ⟨Nat.le_refl _, c2, c1, cF⟩)
  have HT := Lib.hid (show KTab w.drew from ht)
  have HR := Lib.hid (show w.drew.ownsRow base 9 1 v ws.length (ws.map str) from hrow)
  have HL := Lib.hid hl
  have HB := Lib.hid hbase
  clear bA bB hrow l1 l2 l3 m1 m2 m3 c1 c2 cF ht hl hbase
  go_enter Tryd.func59, Tryd.ntmps59
  go_wp2_with fail
  refine wp_region_noPanic ?_
  refine wp_region_held_drew (S := (fun w' => w.heap.size ≤ w'.heap.size ∧ w'.cell? ⟨b, 0, none⟩ = some (.func (.func 41) #[] #[]) ∧ w'.cell? ⟨a, 0, none⟩ = some (.pointer (some ⟨B, o, none⟩)) ∧ w'.cell? ⟨B, o, none⟩ = some (.int .i64 n))) (by kernel_rfl) (by (first | (exact S0.out) | (exact T3.out _ _ hHeld HC.out) | (exact T3.out _ _ hHeld ((Below.refl _ _).alloc (Nat.le_refl _) _)) | (exact G3.out w1 _ (by assumption) HG.out))) (fun hHeld => ?_)
  first
    | (refine wpAnyH_take (i := 0) (v := undef) (by simp only [List.getElem?_toArray, List.getElem?_cons_zero]; rfl) (by kernel_rfl) (by kernel_rfl) (by kernel_rfl) (fun _ _ _ h => h) (Or.inr ⟨by rfl, rfl⟩) (by assumption) ?_; try simp only [Act.put, List.setIfInBounds_toArray, List.set_cons_zero, List.set_cons_succ])
    | (refine wpAnyH_take (i := 0) (v := ?_) (by simp only [List.getElem?_toArray, List.getElem?_cons_zero]; rfl) (by kernel_rfl) (by kernel_rfl) (by kernel_rfl) (fun _ _ _ h => h) (Or.inl ⟨by rfl, ?_⟩) (by assumption) ?_
       rotate_left
       · (intro ww hSw; (try dsimp only at hSw); go_simp; (try with_reducible rfl))
       try simp only [Act.put, List.setIfInBounds_toArray, List.set_cons_zero, List.set_cons_succ])
    | (refine wpAnyH_ready (rs := [0]) (by kernel_rfl) (by simp) (AllReadyH.cons (by simp only [List.getElem?_toArray, List.getElem?_cons_succ, List.getElem?_cons_zero]; rfl) (fun K hK => ?_) AllReadyH.nil)
       go_simp
       first
         | (go_at_call 41; (with_reducible refine (name_any n _ HT.out).mono ?_); rintro e w1 ⟨rfl, hb⟩; have HC := Lib.hid hb; obtain ⟨v', W2, hrun, hown, hg, hm⟩ := append_one ((HR.out.kept (w' := w1) (row := none) (grown_below hb none) (by cases v.ownBlock <;> simp))) (nameOf n) (by have := HL.out; omega) (Nat.le_trans HB.out hb.size); have HO := Lib.hid hown; have HG := Lib.hid hg; have HM := Lib.hid hm; have HN := Lib.hid hrun; clear hb hown hg hm hrun)
         | (skip)
       try go_wp2_with fail
       refine hK.out _ _ (by (first | (exact S0.out) | (exact T3.out _ _ hHeld HC.out) | (exact T3.out _ _ hHeld ((Below.refl _ _).alloc (Nat.le_refl _) _)) | (exact G3.out w1 _ (by assumption) HG.out))) (fun hHeld => ?_)
       clear hK K
       try simp only [Act.put, List.setIfInBounds_toArray, List.set_cons_zero, List.set_cons_succ])
  first
    | (refine wpAnyH_take (i := 1) (v := undef) (by simp only [List.getElem?_toArray, List.getElem?_cons_succ, List.getElem?_cons_zero]; rfl) (by kernel_rfl) (by kernel_rfl) (by kernel_rfl) (fun _ _ _ h => h) (Or.inr ⟨by rfl, rfl⟩) (by assumption) ?_; try simp only [Act.put, List.setIfInBounds_toArray, List.set_cons_zero, List.set_cons_succ])
    | (refine wpAnyH_take (i := 1) (v := ?_) (by simp only [List.getElem?_toArray, List.getElem?_cons_succ, List.getElem?_cons_zero]; rfl) (by kernel_rfl) (by kernel_rfl) (by kernel_rfl) (fun _ _ _ h => h) (Or.inl ⟨by rfl, ?_⟩) (by assumption) ?_
       rotate_left
       · (intro ww hSw; (try dsimp only at hSw); go_simp; (try with_reducible rfl))
       try simp only [Act.put, List.setIfInBounds_toArray, List.set_cons_zero, List.set_cons_succ])
    | (refine wpAnyH_ready (rs := [1]) (by kernel_rfl) (by simp) (AllReadyH.cons (by simp only [List.getElem?_toArray, List.getElem?_cons_succ, List.getElem?_cons_zero]; rfl) (fun K hK => ?_) AllReadyH.nil)
       go_simp
       first
         | (go_at_call 41; (with_reducible refine (name_any n _ HT.out).mono ?_); rintro e w1 ⟨rfl, hb⟩; have HC := Lib.hid hb; obtain ⟨v', W2, hrun, hown, hg, hm⟩ := append_one ((HR.out.kept (w' := w1) (row := none) (grown_below hb none) (by cases v.ownBlock <;> simp))) (nameOf n) (by have := HL.out; omega) (Nat.le_trans HB.out hb.size); have HO := Lib.hid hown; have HG := Lib.hid hg; have HM := Lib.hid hm; have HN := Lib.hid hrun; clear hb hown hg hm hrun)
         | (skip)
       try go_wp2_with fail
       refine hK.out _ _ (by (first | (exact S0.out) | (exact T3.out _ _ hHeld HC.out) | (exact T3.out _ _ hHeld ((Below.refl _ _).alloc (Nat.le_refl _) _)) | (exact G3.out w1 _ (by assumption) HG.out))) (fun hHeld => ?_)
       clear hK K
       try simp only [Act.put, List.setIfInBounds_toArray, List.set_cons_zero, List.set_cons_succ])
  first
    | (refine wpAnyH_take (i := 2) (v := undef) (by simp only [List.getElem?_toArray, List.getElem?_cons_succ, List.getElem?_cons_zero]; rfl) (by kernel_rfl) (by kernel_rfl) (by kernel_rfl) (fun _ _ _ h => h) (Or.inr ⟨by rfl, rfl⟩) (by assumption) ?_; try simp only [Act.put, List.setIfInBounds_toArray, List.set_cons_zero, List.set_cons_succ])
    | (refine wpAnyH_take (i := 2) (v := ?_) (by simp only [List.getElem?_toArray, List.getElem?_cons_succ, List.getElem?_cons_zero]; rfl) (by kernel_rfl) (by kernel_rfl) (by kernel_rfl) (fun _ _ _ h => h) (Or.inl ⟨by rfl, ?_⟩) (by assumption) ?_
       rotate_left
       · (intro ww hSw; (try dsimp only at hSw); go_simp; (try with_reducible rfl))
       try simp only [Act.put, List.setIfInBounds_toArray, List.set_cons_zero, List.set_cons_succ])
    | (refine wpAnyH_ready (rs := [2]) (by kernel_rfl) (by simp) (AllReadyH.cons (by simp only [List.getElem?_toArray, List.getElem?_cons_succ, List.getElem?_cons_zero]; rfl) (fun K hK => ?_) AllReadyH.nil)
       go_simp
       first
         | (go_at_call 41; (with_reducible refine (name_any n _ HT.out).mono ?_); rintro e w1 ⟨rfl, hb⟩; have HC := Lib.hid hb; obtain ⟨v', W2, hrun, hown, hg, hm⟩ := append_one ((HR.out.kept (w' := w1) (row := none) (grown_below hb none) (by cases v.ownBlock <;> simp))) (nameOf n) (by have := HL.out; omega) (Nat.le_trans HB.out hb.size); have HO := Lib.hid hown; have HG := Lib.hid hg; have HM := Lib.hid hm; have HN := Lib.hid hrun; clear hb hown hg hm hrun)
         | (skip)
       try go_wp2_with fail
       refine hK.out _ _ (by (first | (exact S0.out) | (exact T3.out _ _ hHeld HC.out) | (exact T3.out _ _ hHeld ((Below.refl _ _).alloc (Nat.le_refl _) _)) | (exact G3.out w1 _ (by assumption) HG.out))) (fun hHeld => ?_)
       clear hK K
       try simp only [Act.put, List.setIfInBounds_toArray, List.set_cons_zero, List.set_cons_succ])
  first
    | (refine wpAnyH_take (i := 3) (v := undef) (by simp only [List.getElem?_toArray, List.getElem?_cons_succ, List.getElem?_cons_zero]; rfl) (by kernel_rfl) (by kernel_rfl) (by kernel_rfl) (fun _ _ _ h => h) (Or.inr ⟨by rfl, rfl⟩) (by assumption) ?_; try simp only [Act.put, List.setIfInBounds_toArray, List.set_cons_zero, List.set_cons_succ])
    | (refine wpAnyH_take (i := 3) (v := ?_) (by simp only [List.getElem?_toArray, List.getElem?_cons_succ, List.getElem?_cons_zero]; rfl) (by kernel_rfl) (by kernel_rfl) (by kernel_rfl) (fun _ _ _ h => h) (Or.inl ⟨by rfl, ?_⟩) (by assumption) ?_
       rotate_left
       · (intro ww hSw; (try dsimp only at hSw); go_simp; (try with_reducible rfl))
       try simp only [Act.put, List.setIfInBounds_toArray, List.set_cons_zero, List.set_cons_succ])
    | (refine wpAnyH_ready (rs := [3]) (by kernel_rfl) (by simp) (AllReadyH.cons (by simp only [List.getElem?_toArray, List.getElem?_cons_succ, List.getElem?_cons_zero]; rfl) (fun K hK => ?_) AllReadyH.nil)
       go_simp
       first
         | (go_at_call 41; (with_reducible refine (name_any n _ HT.out).mono ?_); rintro e w1 ⟨rfl, hb⟩; have HC := Lib.hid hb; obtain ⟨v', W2, hrun, hown, hg, hm⟩ := append_one ((HR.out.kept (w' := w1) (row := none) (grown_below hb none) (by cases v.ownBlock <;> simp))) (nameOf n) (by have := HL.out; omega) (Nat.le_trans HB.out hb.size); have HO := Lib.hid hown; have HG := Lib.hid hg; have HM := Lib.hid hm; have HN := Lib.hid hrun; clear hb hown hg hm hrun)
         | (skip)
       try go_wp2_with fail
       refine hK.out _ _ (by (first | (exact S0.out) | (exact T3.out _ _ hHeld HC.out) | (exact T3.out _ _ hHeld ((Below.refl _ _).alloc (Nat.le_refl _) _)) | (exact G3.out w1 _ (by assumption) HG.out))) (fun hHeld => ?_)
       clear hK K
       try simp only [Act.put, List.setIfInBounds_toArray, List.set_cons_zero, List.set_cons_succ])
  first
    | (refine wpAnyH_take (i := 4) (v := undef) (by simp only [List.getElem?_toArray, List.getElem?_cons_succ, List.getElem?_cons_zero]; rfl) (by kernel_rfl) (by kernel_rfl) (by kernel_rfl) (fun _ _ _ h => h) (Or.inr ⟨by rfl, rfl⟩) (by assumption) ?_; try simp only [Act.put, List.setIfInBounds_toArray, List.set_cons_zero, List.set_cons_succ])
    | (refine wpAnyH_take (i := 4) (v := ?_) (by simp only [List.getElem?_toArray, List.getElem?_cons_succ, List.getElem?_cons_zero]; rfl) (by kernel_rfl) (by kernel_rfl) (by kernel_rfl) (fun _ _ _ h => h) (Or.inl ⟨by rfl, ?_⟩) (by assumption) ?_
       rotate_left
       · (intro ww hSw; (try dsimp only at hSw); go_simp; (try with_reducible rfl))
       try simp only [Act.put, List.setIfInBounds_toArray, List.set_cons_zero, List.set_cons_succ])
    | (refine wpAnyH_ready (rs := [4]) (by kernel_rfl) (by simp) (AllReadyH.cons (by simp only [List.getElem?_toArray, List.getElem?_cons_succ, List.getElem?_cons_zero]; rfl) (fun K hK => ?_) AllReadyH.nil)
       go_simp
       first
         | (go_at_call 41; (with_reducible refine (name_any n _ HT.out).mono ?_); rintro e w1 ⟨rfl, hb⟩; have HC := Lib.hid hb; obtain ⟨v', W2, hrun, hown, hg, hm⟩ := append_one ((HR.out.kept (w' := w1) (row := none) (grown_below hb none) (by cases v.ownBlock <;> simp))) (nameOf n) (by have := HL.out; omega) (Nat.le_trans HB.out hb.size); have HO := Lib.hid hown; have HG := Lib.hid hg; have HM := Lib.hid hm; have HN := Lib.hid hrun; clear hb hown hg hm hrun)
         | (skip)
       try go_wp2_with fail
       refine hK.out _ _ (by (first | (exact S0.out) | (exact T3.out _ _ hHeld HC.out) | (exact T3.out _ _ hHeld ((Below.refl _ _).alloc (Nat.le_refl _) _)) | (exact G3.out w1 _ (by assumption) HG.out))) (fun hHeld => ?_)
       clear hK K
       try simp only [Act.put, List.setIfInBounds_toArray, List.set_cons_zero, List.set_cons_succ])
  first
    | (refine wpAnyH_take (i := 5) (v := undef) (by simp only [List.getElem?_toArray, List.getElem?_cons_succ, List.getElem?_cons_zero]; rfl) (by kernel_rfl) (by kernel_rfl) (by kernel_rfl) (fun _ _ _ h => h) (Or.inr ⟨by rfl, rfl⟩) (by assumption) ?_; try simp only [Act.put, List.setIfInBounds_toArray, List.set_cons_zero, List.set_cons_succ])
    | (refine wpAnyH_take (i := 5) (v := ?_) (by simp only [List.getElem?_toArray, List.getElem?_cons_succ, List.getElem?_cons_zero]; rfl) (by kernel_rfl) (by kernel_rfl) (by kernel_rfl) (fun _ _ _ h => h) (Or.inl ⟨by rfl, ?_⟩) (by assumption) ?_
       rotate_left
       · (intro ww hSw; (try dsimp only at hSw); go_simp; (try with_reducible rfl))
       try simp only [Act.put, List.setIfInBounds_toArray, List.set_cons_zero, List.set_cons_succ])
    | (refine wpAnyH_ready (rs := [5]) (by kernel_rfl) (by simp) (AllReadyH.cons (by simp only [List.getElem?_toArray, List.getElem?_cons_succ, List.getElem?_cons_zero]; rfl) (fun K hK => ?_) AllReadyH.nil)
       go_simp
       first
         | (go_at_call 41; (with_reducible refine (name_any n _ HT.out).mono ?_); rintro e w1 ⟨rfl, hb⟩; have HC := Lib.hid hb; obtain ⟨v', W2, hrun, hown, hg, hm⟩ := append_one ((HR.out.kept (w' := w1) (row := none) (grown_below hb none) (by cases v.ownBlock <;> simp))) (nameOf n) (by have := HL.out; omega) (Nat.le_trans HB.out hb.size); have HO := Lib.hid hown; have HG := Lib.hid hg; have HM := Lib.hid hm; have HN := Lib.hid hrun; clear hb hown hg hm hrun)
         | (skip)
       try go_wp2_with fail
       refine hK.out _ _ (by (first | (exact S0.out) | (exact T3.out _ _ hHeld HC.out) | (exact T3.out _ _ hHeld ((Below.refl _ _).alloc (Nat.le_refl _) _)) | (exact G3.out w1 _ (by assumption) HG.out))) (fun hHeld => ?_)
       clear hK K
       try simp only [Act.put, List.setIfInBounds_toArray, List.set_cons_zero, List.set_cons_succ])
  first
    | (refine wpAnyH_take (i := 6) (v := undef) (by simp only [List.getElem?_toArray, List.getElem?_cons_succ, List.getElem?_cons_zero]; rfl) (by kernel_rfl) (by kernel_rfl) (by kernel_rfl) (fun _ _ _ h => h) (Or.inr ⟨by rfl, rfl⟩) (by assumption) ?_; try simp only [Act.put, List.setIfInBounds_toArray, List.set_cons_zero, List.set_cons_succ])
    | (refine wpAnyH_take (i := 6) (v := ?_) (by simp only [List.getElem?_toArray, List.getElem?_cons_succ, List.getElem?_cons_zero]; rfl) (by kernel_rfl) (by kernel_rfl) (by kernel_rfl) (fun _ _ _ h => h) (Or.inl ⟨by rfl, ?_⟩) (by assumption) ?_
       rotate_left
       · (intro ww hSw; (try dsimp only at hSw); go_simp; (try with_reducible rfl))
       try simp only [Act.put, List.setIfInBounds_toArray, List.set_cons_zero, List.set_cons_succ])
    | (refine wpAnyH_ready (rs := [6]) (by kernel_rfl) (by simp) (AllReadyH.cons (by simp only [List.getElem?_toArray, List.getElem?_cons_succ, List.getElem?_cons_zero]; rfl) (fun K hK => ?_) AllReadyH.nil)
       go_simp
       first
         | (go_at_call 41; (with_reducible refine (name_any n _ HT.out).mono ?_); rintro e w1 ⟨rfl, hb⟩; have HC := Lib.hid hb; obtain ⟨v', W2, hrun, hown, hg, hm⟩ := append_one ((HR.out.kept (w' := w1) (row := none) (grown_below hb none) (by cases v.ownBlock <;> simp))) (nameOf n) (by have := HL.out; omega) (Nat.le_trans HB.out hb.size); have HO := Lib.hid hown; have HG := Lib.hid hg; have HM := Lib.hid hm; have HN := Lib.hid hrun; clear hb hown hg hm hrun)
         | (skip)
       try go_wp2_with fail
       refine hK.out _ _ (by (first | (exact S0.out) | (exact T3.out _ _ hHeld HC.out) | (exact T3.out _ _ hHeld ((Below.refl _ _).alloc (Nat.le_refl _) _)) | (exact G3.out w1 _ (by assumption) HG.out))) (fun hHeld => ?_)
       clear hK K
       try simp only [Act.put, List.setIfInBounds_toArray, List.set_cons_zero, List.set_cons_succ])
  refine wpAnyH_ready (rs := [7]) (by kernel_rfl) (by simp) (AllReadyH.cons (by simp only [List.getElem?_toArray, List.getElem?_cons_succ, List.getElem?_cons_zero]; rfl) (fun K hK => ?_) AllReadyH.nil)
  refine step_append rfl (.tmp 5) (.tmp 11) 39 rfl v _ v' W2 rfl rfl HN.out ?_
  refine hK.out _ _ (by (first | (exact S0.out) | (exact T3.out _ _ hHeld HC.out) | (exact T3.out _ _ hHeld ((Below.refl _ _).alloc (Nat.le_refl _) _)) | (exact G3.out w1 _ (by assumption) HG.out))) (fun hHeld => ?_)
  clear hK K
  try simp only [Act.put, List.setIfInBounds_toArray, List.set_cons_zero, List.set_cons_succ]
  first
    | (refine wpAnyH_take (i := 8) (v := undef) (by simp only [List.getElem?_toArray, List.getElem?_cons_succ, List.getElem?_cons_zero]; rfl) (by kernel_rfl) (by kernel_rfl) (by kernel_rfl) (fun _ _ _ h => h) (Or.inr ⟨by rfl, rfl⟩) (by assumption) ?_; try simp only [Act.put, List.setIfInBounds_toArray, List.set_cons_zero, List.set_cons_succ])
    | (refine wpAnyH_take (i := 8) (v := ?_) (by simp only [List.getElem?_toArray, List.getElem?_cons_succ, List.getElem?_cons_zero]; rfl) (by kernel_rfl) (by kernel_rfl) (by kernel_rfl) (fun _ _ _ h => h) (Or.inl ⟨by rfl, ?_⟩) (by assumption) ?_
       rotate_left
       · (intro ww hSw; (try dsimp only at hSw); go_simp; (try with_reducible rfl))
       try simp only [Act.put, List.setIfInBounds_toArray, List.set_cons_zero, List.set_cons_succ])
    | (refine wpAnyH_ready (rs := [8]) (by kernel_rfl) (by simp) (AllReadyH.cons (by simp only [List.getElem?_toArray, List.getElem?_cons_succ, List.getElem?_cons_zero]; rfl) (fun K hK => ?_) AllReadyH.nil)
       go_simp
       first
         | (go_at_call 41; (with_reducible refine (name_any n _ HT.out).mono ?_); rintro e w1 ⟨rfl, hb⟩; have HC := Lib.hid hb; obtain ⟨v', W2, hrun, hown, hg, hm⟩ := append_one ((HR.out.kept (w' := w1) (row := none) (grown_below hb none) (by cases v.ownBlock <;> simp))) (nameOf n) (by have := HL.out; omega) (Nat.le_trans HB.out hb.size); have HO := Lib.hid hown; have HG := Lib.hid hg; have HM := Lib.hid hm; have HN := Lib.hid hrun; clear hb hown hg hm hrun)
         | (skip)
       try go_wp2_with fail
       refine hK.out _ _ (by (first | (exact S0.out) | (exact T3.out _ _ hHeld HC.out) | (exact T3.out _ _ hHeld ((Below.refl _ _).alloc (Nat.le_refl _) _)) | (exact G3.out w1 _ (by assumption) HG.out))) (fun hHeld => ?_)
       clear hK K
       try simp only [Act.put, List.setIfInBounds_toArray, List.set_cons_zero, List.set_cons_succ])
  refine wpAnyH_done (by kernel_rfl) ?_ _
  refine NoPanic.normal ?_
  go_wp2_with fail
  go_ret
  exact puts_fin HC.out HO.out HG.out HM.out
set_option maxRecDepth 100000 in
set_option maxHeartbeats 1000000 in
theorem one_put_way (a b B o base : Nat) (n : Int) (v : Value) (ws : List (List UInt8)) (w : World) (ht : WTab w) (bA : Blk w a 70 #[.pointer (some ⟨B, o, none⟩)]) (bB : Blk w b 43 #[.func (.func 61) #[] #[]])
    (cF : w.cell? ⟨B, o, none⟩ = some (.int .i64 n)) (hrow : w.ownsRow base 9 1 v ws.length (ws.map str)) (hbase : base ≤ w.heap.size) (hl : ws.length ≤ 10000) (m1 : some a ≠ v.ownBlock) (m2 : some b ≠ v.ownBlock) (m3 : some B ≠ v.ownBlock) :
    Calls Tryd.prog 59 #[v, .pointer (some ⟨b, 0, none⟩), .pointer (some ⟨a, 0, none⟩)] w (PutsTo w base v (ws ++ [wayOf n])) := by
  have l1 := bA.lt
  have l2 := bB.lt
  have c1 := bA.cell 0
  have c2 := bB.cell 0
  have l3 : B < w.heap.size := Decidable.byContradiction fun hn => by
    have : w.heap[B]? = none := by simp; omega
    simp [World.cell?, this] at cF
  have T3 := Lib.hid (fun (W W1 : World) h hb => three_call (w := w) (W := W) (W1 := W1) (p := ⟨b, 0, none⟩) (q := ⟨a, 0, none⟩) (r := ⟨B, o, none⟩) (x := .func (.func 61) #[] #[]) (y := .pointer (some ⟨B, o, none⟩)) (z := .int .i64 n) l2 l1 l3 h hb)
  have G3 := Lib.hid (fun (W W1 : World) h hb => three_grown (w := w) (W := W) (W1 := W1) (o := v.ownBlock) (p := ⟨b, 0, none⟩) (q := ⟨a, 0, none⟩) (r := ⟨B, o, none⟩) (x := .func (.func 61) #[] #[]) (y := .pointer (some ⟨B, o, none⟩)) (z := .int .i64 n) m2 m1 m3 h hb)
  have S0 := Lib.hid (show w.heap.size ≤ w.drew.heap.size ∧ w.drew.cell? ⟨b, 0, none⟩ = some (.func (.func 61) #[] #[]) ∧ w.drew.cell? ⟨a, 0, none⟩ = some (.pointer (some ⟨B, o, none⟩)) ∧ w.drew.cell? ⟨B, o, none⟩ = some (.int .i64 n) from ⟨Nat.le_refl _, c2, c1, cF⟩)
  have HT := Lib.hid (show WTab w.drew from ht)
  have HR := Lib.hid (show w.drew.ownsRow base 9 1 v ws.length (ws.map str) from hrow)
  have HL := Lib.hid hl
  have HB := Lib.hid hbase
  clear bA bB hrow l1 l2 l3 m1 m2 m3 c1 c2 cF ht hl hbase
  go_enter Tryd.func59, Tryd.ntmps59
  go_wp2_with fail
  refine wp_region_noPanic ?_
  refine wp_region_held_drew (S := (fun w' => w.heap.size ≤ w'.heap.size ∧ w'.cell? ⟨b, 0, none⟩ = some (.func (.func 61) #[] #[]) ∧ w'.cell? ⟨a, 0, none⟩ = some (.pointer (some ⟨B, o, none⟩)) ∧ w'.cell? ⟨B, o, none⟩ = some (.int .i64 n))) (by kernel_rfl) (by (first | (exact S0.out) | (exact T3.out _ _ hHeld HC.out) | (exact T3.out _ _ hHeld ((Below.refl _ _).alloc (Nat.le_refl _) _)) | (exact G3.out w1 _ (by assumption) HG.out))) (fun hHeld => ?_)
  first
    | (refine wpAnyH_take (i := 0) (v := undef) (by simp only [List.getElem?_toArray, List.getElem?_cons_zero]; rfl) (by kernel_rfl) (by kernel_rfl) (by kernel_rfl) (fun _ _ _ h => h) (Or.inr ⟨by rfl, rfl⟩) (by assumption) ?_; try simp only [Act.put, List.setIfInBounds_toArray, List.set_cons_zero, List.set_cons_succ])
    | (refine wpAnyH_take (i := 0) (v := ?_) (by simp only [List.getElem?_toArray, List.getElem?_cons_zero]; rfl) (by kernel_rfl) (by kernel_rfl) (by kernel_rfl) (fun _ _ _ h => h) (Or.inl ⟨by rfl, ?_⟩) (by assumption) ?_
       rotate_left
       · (intro ww hSw; (try dsimp only at hSw); go_simp; (try with_reducible rfl))
       try simp only [Act.put, List.setIfInBounds_toArray, List.set_cons_zero, List.set_cons_succ])
    | (refine wpAnyH_ready (rs := [0]) (by kernel_rfl) (by simp) (AllReadyH.cons (by simp only [List.getElem?_toArray, List.getElem?_cons_succ, List.getElem?_cons_zero]; rfl) (fun K hK => ?_) AllReadyH.nil)
       go_simp
       first
         | (go_at_call 61; (with_reducible refine (way_any n _ HT.out).mono ?_); rintro e w1 ⟨rfl, hb⟩; have HC := Lib.hid hb; obtain ⟨v', W2, hrun, hown, hg, hm⟩ := append_one ((HR.out.kept (w' := w1) (row := none) (grown_below hb none) (by cases v.ownBlock <;> simp))) (wayOf n) (by have := HL.out; omega) (Nat.le_trans HB.out hb.size); have HO := Lib.hid hown; have HG := Lib.hid hg; have HM := Lib.hid hm; have HN := Lib.hid hrun; clear hb hown hg hm hrun)
         | (skip)
       try go_wp2_with fail
       refine hK.out _ _ (by (first | (exact S0.out) | (exact T3.out _ _ hHeld HC.out) | (exact T3.out _ _ hHeld ((Below.refl _ _).alloc (Nat.le_refl _) _)) | (exact G3.out w1 _ (by assumption) HG.out))) (fun hHeld => ?_)
       clear hK K
       try simp only [Act.put, List.setIfInBounds_toArray, List.set_cons_zero, List.set_cons_succ])
  first
    | (refine wpAnyH_take (i := 1) (v := undef) (by simp only [List.getElem?_toArray, List.getElem?_cons_succ, List.getElem?_cons_zero]; rfl) (by kernel_rfl) (by kernel_rfl) (by kernel_rfl) (fun _ _ _ h => h) (Or.inr ⟨by rfl, rfl⟩) (by assumption) ?_; try simp only [Act.put, List.setIfInBounds_toArray, List.set_cons_zero, List.set_cons_succ])
    | (refine wpAnyH_take (i := 1) (v := ?_) (by simp only [List.getElem?_toArray, List.getElem?_cons_succ, List.getElem?_cons_zero]; rfl) (by kernel_rfl) (by kernel_rfl) (by kernel_rfl) (fun _ _ _ h => h) (Or.inl ⟨by rfl, ?_⟩) (by assumption) ?_
       rotate_left
       · (intro ww hSw; (try dsimp only at hSw); go_simp; (try with_reducible rfl))
       try simp only [Act.put, List.setIfInBounds_toArray, List.set_cons_zero, List.set_cons_succ])
    | (refine wpAnyH_ready (rs := [1]) (by kernel_rfl) (by simp) (AllReadyH.cons (by simp only [List.getElem?_toArray, List.getElem?_cons_succ, List.getElem?_cons_zero]; rfl) (fun K hK => ?_) AllReadyH.nil)
       go_simp
       first
         | (go_at_call 61; (with_reducible refine (way_any n _ HT.out).mono ?_); rintro e w1 ⟨rfl, hb⟩; have HC := Lib.hid hb; obtain ⟨v', W2, hrun, hown, hg, hm⟩ := append_one ((HR.out.kept (w' := w1) (row := none) (grown_below hb none) (by cases v.ownBlock <;> simp))) (wayOf n) (by have := HL.out; omega) (Nat.le_trans HB.out hb.size); have HO := Lib.hid hown; have HG := Lib.hid hg; have HM := Lib.hid hm; have HN := Lib.hid hrun; clear hb hown hg hm hrun)
         | (skip)
       try go_wp2_with fail
       refine hK.out _ _ (by (first | (exact S0.out) | (exact T3.out _ _ hHeld HC.out) | (exact T3.out _ _ hHeld ((Below.refl _ _).alloc (Nat.le_refl _) _)) | (exact G3.out w1 _ (by assumption) HG.out))) (fun hHeld => ?_)
       clear hK K
       try simp only [Act.put, List.setIfInBounds_toArray, List.set_cons_zero, List.set_cons_succ])
  first
    | (refine wpAnyH_take (i := 2) (v := undef) (by simp only [List.getElem?_toArray, List.getElem?_cons_succ, List.getElem?_cons_zero]; rfl) (by kernel_rfl) (by kernel_rfl) (by kernel_rfl) (fun _ _ _ h => h) (Or.inr ⟨by rfl, rfl⟩) (by assumption) ?_; try simp only [Act.put, List.setIfInBounds_toArray, List.set_cons_zero, List.set_cons_succ])
    | (refine wpAnyH_take (i := 2) (v := ?_) (by simp only [List.getElem?_toArray, List.getElem?_cons_succ, List.getElem?_cons_zero]; rfl) (by kernel_rfl) (by kernel_rfl) (by kernel_rfl) (fun _ _ _ h => h) (Or.inl ⟨by rfl, ?_⟩) (by assumption) ?_
       rotate_left
       · (intro ww hSw; (try dsimp only at hSw); go_simp; (try with_reducible rfl))
       try simp only [Act.put, List.setIfInBounds_toArray, List.set_cons_zero, List.set_cons_succ])
    | (refine wpAnyH_ready (rs := [2]) (by kernel_rfl) (by simp) (AllReadyH.cons (by simp only [List.getElem?_toArray, List.getElem?_cons_succ, List.getElem?_cons_zero]; rfl) (fun K hK => ?_) AllReadyH.nil)
       go_simp
       first
         | (go_at_call 61; (with_reducible refine (way_any n _ HT.out).mono ?_); rintro e w1 ⟨rfl, hb⟩; have HC := Lib.hid hb; obtain ⟨v', W2, hrun, hown, hg, hm⟩ := append_one ((HR.out.kept (w' := w1) (row := none) (grown_below hb none) (by cases v.ownBlock <;> simp))) (wayOf n) (by have := HL.out; omega) (Nat.le_trans HB.out hb.size); have HO := Lib.hid hown; have HG := Lib.hid hg; have HM := Lib.hid hm; have HN := Lib.hid hrun; clear hb hown hg hm hrun)
         | (skip)
       try go_wp2_with fail
       refine hK.out _ _ (by (first | (exact S0.out) | (exact T3.out _ _ hHeld HC.out) | (exact T3.out _ _ hHeld ((Below.refl _ _).alloc (Nat.le_refl _) _)) | (exact G3.out w1 _ (by assumption) HG.out))) (fun hHeld => ?_)
       clear hK K
       try simp only [Act.put, List.setIfInBounds_toArray, List.set_cons_zero, List.set_cons_succ])
  first
    | (refine wpAnyH_take (i := 3) (v := undef) (by simp only [List.getElem?_toArray, List.getElem?_cons_succ, List.getElem?_cons_zero]; rfl) (by kernel_rfl) (by kernel_rfl) (by kernel_rfl) (fun _ _ _ h => h) (Or.inr ⟨by rfl, rfl⟩) (by assumption) ?_; try simp only [Act.put, List.setIfInBounds_toArray, List.set_cons_zero, List.set_cons_succ])
    | (refine wpAnyH_take (i := 3) (v := ?_) (by simp only [List.getElem?_toArray, List.getElem?_cons_succ, List.getElem?_cons_zero]; rfl) (by kernel_rfl) (by kernel_rfl) (by kernel_rfl) (fun _ _ _ h => h) (Or.inl ⟨by rfl, ?_⟩) (by assumption) ?_
       rotate_left
       · (intro ww hSw; (try dsimp only at hSw); go_simp; (try with_reducible rfl))
       try simp only [Act.put, List.setIfInBounds_toArray, List.set_cons_zero, List.set_cons_succ])
    | (refine wpAnyH_ready (rs := [3]) (by kernel_rfl) (by simp) (AllReadyH.cons (by simp only [List.getElem?_toArray, List.getElem?_cons_succ, List.getElem?_cons_zero]; rfl) (fun K hK => ?_) AllReadyH.nil)
       go_simp
       first
         | (go_at_call 61; (with_reducible refine (way_any n _ HT.out).mono ?_); rintro e w1 ⟨rfl, hb⟩; have HC := Lib.hid hb; obtain ⟨v', W2, hrun, hown, hg, hm⟩ := append_one ((HR.out.kept (w' := w1) (row := none) (grown_below hb none) (by cases v.ownBlock <;> simp))) (wayOf n) (by have := HL.out; omega) (Nat.le_trans HB.out hb.size); have HO := Lib.hid hown; have HG := Lib.hid hg; have HM := Lib.hid hm; have HN := Lib.hid hrun; clear hb hown hg hm hrun)
         | (skip)
       try go_wp2_with fail
       refine hK.out _ _ (by (first | (exact S0.out) | (exact T3.out _ _ hHeld HC.out) | (exact T3.out _ _ hHeld ((Below.refl _ _).alloc (Nat.le_refl _) _)) | (exact G3.out w1 _ (by assumption) HG.out))) (fun hHeld => ?_)
       clear hK K
       try simp only [Act.put, List.setIfInBounds_toArray, List.set_cons_zero, List.set_cons_succ])
  first
    | (refine wpAnyH_take (i := 4) (v := undef) (by simp only [List.getElem?_toArray, List.getElem?_cons_succ, List.getElem?_cons_zero]; rfl) (by kernel_rfl) (by kernel_rfl) (by kernel_rfl) (fun _ _ _ h => h) (Or.inr ⟨by rfl, rfl⟩) (by assumption) ?_; try simp only [Act.put, List.setIfInBounds_toArray, List.set_cons_zero, List.set_cons_succ])
    | (refine wpAnyH_take (i := 4) (v := ?_) (by simp only [List.getElem?_toArray, List.getElem?_cons_succ, List.getElem?_cons_zero]; rfl) (by kernel_rfl) (by kernel_rfl) (by kernel_rfl) (fun _ _ _ h => h) (Or.inl ⟨by rfl, ?_⟩) (by assumption) ?_
       rotate_left
       · (intro ww hSw; (try dsimp only at hSw); go_simp; (try with_reducible rfl))
       try simp only [Act.put, List.setIfInBounds_toArray, List.set_cons_zero, List.set_cons_succ])
    | (refine wpAnyH_ready (rs := [4]) (by kernel_rfl) (by simp) (AllReadyH.cons (by simp only [List.getElem?_toArray, List.getElem?_cons_succ, List.getElem?_cons_zero]; rfl) (fun K hK => ?_) AllReadyH.nil)
       go_simp
       first
         | (go_at_call 61; (with_reducible refine (way_any n _ HT.out).mono ?_); rintro e w1 ⟨rfl, hb⟩; have HC := Lib.hid hb; obtain ⟨v', W2, hrun, hown, hg, hm⟩ := append_one ((HR.out.kept (w' := w1) (row := none) (grown_below hb none) (by cases v.ownBlock <;> simp))) (wayOf n) (by have := HL.out; omega) (Nat.le_trans HB.out hb.size); have HO := Lib.hid hown; have HG := Lib.hid hg; have HM := Lib.hid hm; have HN := Lib.hid hrun; clear hb hown hg hm hrun)
         | (skip)
       try go_wp2_with fail
       refine hK.out _ _ (by (first | (exact S0.out) | (exact T3.out _ _ hHeld HC.out) | (exact T3.out _ _ hHeld ((Below.refl _ _).alloc (Nat.le_refl _) _)) | (exact G3.out w1 _ (by assumption) HG.out))) (fun hHeld => ?_)
       clear hK K
       try simp only [Act.put, List.setIfInBounds_toArray, List.set_cons_zero, List.set_cons_succ])
  first
    | (refine wpAnyH_take (i := 5) (v := undef) (by simp only [List.getElem?_toArray, List.getElem?_cons_succ, List.getElem?_cons_zero]; rfl) (by kernel_rfl) (by kernel_rfl) (by kernel_rfl) (fun _ _ _ h => h) (Or.inr ⟨by rfl, rfl⟩) (by assumption) ?_; try simp only [Act.put, List.setIfInBounds_toArray, List.set_cons_zero, List.set_cons_succ])
    | (refine wpAnyH_take (i := 5) (v := ?_) (by simp only [List.getElem?_toArray, List.getElem?_cons_succ, List.getElem?_cons_zero]; rfl) (by kernel_rfl) (by kernel_rfl) (by kernel_rfl) (fun _ _ _ h => h) (Or.inl ⟨by rfl, ?_⟩) (by assumption) ?_
       rotate_left
       · (intro ww hSw; (try dsimp only at hSw); go_simp; (try with_reducible rfl))
       try simp only [Act.put, List.setIfInBounds_toArray, List.set_cons_zero, List.set_cons_succ])
    | (refine wpAnyH_ready (rs := [5]) (by kernel_rfl) (by simp) (AllReadyH.cons (by simp only [List.getElem?_toArray, List.getElem?_cons_succ, List.getElem?_cons_zero]; rfl) (fun K hK => ?_) AllReadyH.nil)
       go_simp
       first
         | (go_at_call 61; (with_reducible refine (way_any n _ HT.out).mono ?_); rintro e w1 ⟨rfl, hb⟩; have HC := Lib.hid hb; obtain ⟨v', W2, hrun, hown, hg, hm⟩ := append_one ((HR.out.kept (w' := w1) (row := none) (grown_below hb none) (by cases v.ownBlock <;> simp))) (wayOf n) (by have := HL.out; omega) (Nat.le_trans HB.out hb.size); have HO := Lib.hid hown; have HG := Lib.hid hg; have HM := Lib.hid hm; have HN := Lib.hid hrun; clear hb hown hg hm hrun)
         | (skip)
       try go_wp2_with fail
       refine hK.out _ _ (by (first | (exact S0.out) | (exact T3.out _ _ hHeld HC.out) | (exact T3.out _ _ hHeld ((Below.refl _ _).alloc (Nat.le_refl _) _)) | (exact G3.out w1 _ (by assumption) HG.out))) (fun hHeld => ?_)
       clear hK K
       try simp only [Act.put, List.setIfInBounds_toArray, List.set_cons_zero, List.set_cons_succ])
  first
    | (refine wpAnyH_take (i := 6) (v := undef) (by simp only [List.getElem?_toArray, List.getElem?_cons_succ, List.getElem?_cons_zero]; rfl) (by kernel_rfl) (by kernel_rfl) (by kernel_rfl) (fun _ _ _ h => h) (Or.inr ⟨by rfl, rfl⟩) (by assumption) ?_; try simp only [Act.put, List.setIfInBounds_toArray, List.set_cons_zero, List.set_cons_succ])
    | (refine wpAnyH_take (i := 6) (v := ?_) (by simp only [List.getElem?_toArray, List.getElem?_cons_succ, List.getElem?_cons_zero]; rfl) (by kernel_rfl) (by kernel_rfl) (by kernel_rfl) (fun _ _ _ h => h) (Or.inl ⟨by rfl, ?_⟩) (by assumption) ?_
       rotate_left
       · (intro ww hSw; (try dsimp only at hSw); go_simp; (try with_reducible rfl))
       try simp only [Act.put, List.setIfInBounds_toArray, List.set_cons_zero, List.set_cons_succ])
    | (refine wpAnyH_ready (rs := [6]) (by kernel_rfl) (by simp) (AllReadyH.cons (by simp only [List.getElem?_toArray, List.getElem?_cons_succ, List.getElem?_cons_zero]; rfl) (fun K hK => ?_) AllReadyH.nil)
       go_simp
       first
         | (go_at_call 61; (with_reducible refine (way_any n _ HT.out).mono ?_); rintro e w1 ⟨rfl, hb⟩; have HC := Lib.hid hb; obtain ⟨v', W2, hrun, hown, hg, hm⟩ := append_one ((HR.out.kept (w' := w1) (row := none) (grown_below hb none) (by cases v.ownBlock <;> simp))) (wayOf n) (by have := HL.out; omega) (Nat.le_trans HB.out hb.size); have HO := Lib.hid hown; have HG := Lib.hid hg; have HM := Lib.hid hm; have HN := Lib.hid hrun; clear hb hown hg hm hrun)
         | (skip)
       try go_wp2_with fail
       refine hK.out _ _ (by (first | (exact S0.out) | (exact T3.out _ _ hHeld HC.out) | (exact T3.out _ _ hHeld ((Below.refl _ _).alloc (Nat.le_refl _) _)) | (exact G3.out w1 _ (by assumption) HG.out))) (fun hHeld => ?_)
       clear hK K
       try simp only [Act.put, List.setIfInBounds_toArray, List.set_cons_zero, List.set_cons_succ])
  refine wpAnyH_ready (rs := [7]) (by kernel_rfl) (by simp) (AllReadyH.cons (by simp only [List.getElem?_toArray, List.getElem?_cons_succ, List.getElem?_cons_zero]; rfl) (fun K hK => ?_) AllReadyH.nil)
  refine step_append rfl (.tmp 5) (.tmp 11) 39 rfl v _ v' W2 rfl rfl HN.out ?_
  refine hK.out _ _ (by (first | (exact S0.out) | (exact T3.out _ _ hHeld HC.out) | (exact T3.out _ _ hHeld ((Below.refl _ _).alloc (Nat.le_refl _) _)) | (exact G3.out w1 _ (by assumption) HG.out))) (fun hHeld => ?_)
  clear hK K
  try simp only [Act.put, List.setIfInBounds_toArray, List.set_cons_zero, List.set_cons_succ]
  first
    | (refine wpAnyH_take (i := 8) (v := undef) (by simp only [List.getElem?_toArray, List.getElem?_cons_succ, List.getElem?_cons_zero]; rfl) (by kernel_rfl) (by kernel_rfl) (by kernel_rfl) (fun _ _ _ h => h) (Or.inr ⟨by rfl, rfl⟩) (by assumption) ?_; try simp only [Act.put, List.setIfInBounds_toArray, List.set_cons_zero, List.set_cons_succ])
    | (refine wpAnyH_take (i := 8) (v := ?_) (by simp only [List.getElem?_toArray, List.getElem?_cons_succ, List.getElem?_cons_zero]; rfl) (by kernel_rfl) (by kernel_rfl) (by kernel_rfl) (fun _ _ _ h => h) (Or.inl ⟨by rfl, ?_⟩) (by assumption) ?_
       rotate_left
       · (intro ww hSw; (try dsimp only at hSw); go_simp; (try with_reducible rfl))
       try simp only [Act.put, List.setIfInBounds_toArray, List.set_cons_zero, List.set_cons_succ])
    | (refine wpAnyH_ready (rs := [8]) (by kernel_rfl) (by simp) (AllReadyH.cons (by simp only [List.getElem?_toArray, List.getElem?_cons_succ, List.getElem?_cons_zero]; rfl) (fun K hK => ?_) AllReadyH.nil)
       go_simp
       first
         | (go_at_call 61; (with_reducible refine (way_any n _ HT.out).mono ?_); rintro e w1 ⟨rfl, hb⟩; have HC := Lib.hid hb; obtain ⟨v', W2, hrun, hown, hg, hm⟩ := append_one ((HR.out.kept (w' := w1) (row := none) (grown_below hb none) (by cases v.ownBlock <;> simp))) (wayOf n) (by have := HL.out; omega) (Nat.le_trans HB.out hb.size); have HO := Lib.hid hown; have HG := Lib.hid hg; have HM := Lib.hid hm; have HN := Lib.hid hrun; clear hb hown hg hm hrun)
         | (skip)
       try go_wp2_with fail
       refine hK.out _ _ (by (first | (exact S0.out) | (exact T3.out _ _ hHeld HC.out) | (exact T3.out _ _ hHeld ((Below.refl _ _).alloc (Nat.le_refl _) _)) | (exact G3.out w1 _ (by assumption) HG.out))) (fun hHeld => ?_)
       clear hK K
       try simp only [Act.put, List.setIfInBounds_toArray, List.set_cons_zero, List.set_cons_succ])
  refine wpAnyH_done (by kernel_rfl) ?_ _
  refine NoPanic.normal ?_
  go_wp2_with fail
  go_ret
  exact puts_fin HC.out HO.out HG.out HM.out
set_option maxRecDepth 100000 in
set_option maxHeartbeats 1000000 in
theorem one_put_num (a b B o base : Nat) (n : Int) (v : Value) (ws : List (List UInt8)) (w : World) (ht : Tab w) (h0 : 0 ≤ n) (h1 : n ≤ 1073741824) (bA : Blk w a 70 #[.pointer (some ⟨B, o, none⟩)]) (bB : Blk w b 43 #[.func (.func 63) #[] #[]])
    (cF : w.cell? ⟨B, o, none⟩ = some (.int .i64 n)) (hrow : w.ownsRow base 9 1 v ws.length (ws.map str)) (hbase : base ≤ w.heap.size) (hl : ws.length ≤ 10000) (m1 : some a ≠ v.ownBlock) (m2 : some b ≠ v.ownBlock) (m3 : some B ≠ v.ownBlock) :
    Calls Tryd.prog 59 #[v, .pointer (some ⟨b, 0, none⟩), .pointer (some ⟨a, 0, none⟩)] w (PutsTo w base v (ws ++ [wd n])) := by
  have l1 := bA.lt
  have l2 := bB.lt
  have c1 := bA.cell 0
  have c2 := bB.cell 0
  have l3 : B < w.heap.size := Decidable.byContradiction fun hn => by
    have : w.heap[B]? = none := by simp; omega
    simp [World.cell?, this] at cF
  have T3 := Lib.hid (fun (W W1 : World) h hb => three_call (w := w) (W := W) (W1 := W1) (p := ⟨b, 0, none⟩) (q := ⟨a, 0, none⟩) (r := ⟨B, o, none⟩) (x := .func (.func 63) #[] #[]) (y := .pointer (some ⟨B, o, none⟩)) (z := .int .i64 n) l2 l1 l3 h hb)
  have G3 := Lib.hid (fun (W W1 : World) h hb => three_grown (w := w) (W := W) (W1 := W1) (o := v.ownBlock) (p := ⟨b, 0, none⟩) (q := ⟨a, 0, none⟩) (r := ⟨B, o, none⟩) (x := .func (.func 63) #[] #[]) (y := .pointer (some ⟨B, o, none⟩)) (z := .int .i64 n) m2 m1 m3 h hb)
  have S0 := Lib.hid (show w.heap.size ≤ w.drew.heap.size ∧ w.drew.cell? ⟨b, 0, none⟩ = some (.func (.func 63) #[] #[]) ∧ w.drew.cell? ⟨a, 0, none⟩ = some (.pointer (some ⟨B, o, none⟩)) ∧ w.drew.cell? ⟨B, o, none⟩ = some (.int .i64 n) from ⟨Nat.le_refl _, c2, c1, cF⟩)
  have HT := Lib.hid (show Tab w.drew from ht)
  have HR := Lib.hid (show w.drew.ownsRow base 9 1 v ws.length (ws.map str) from hrow)
  have HL := Lib.hid hl
  have HB := Lib.hid hbase
  clear bA bB hrow l1 l2 l3 m1 m2 m3 c1 c2 cF ht hl hbase
  go_enter Tryd.func59, Tryd.ntmps59
  go_wp2_with fail
  refine wp_region_noPanic ?_
  refine wp_region_held_drew (S := (fun w' => w.heap.size ≤ w'.heap.size ∧ w'.cell? ⟨b, 0, none⟩ = some (.func (.func 63) #[] #[]) ∧ w'.cell? ⟨a, 0, none⟩ = some (.pointer (some ⟨B, o, none⟩)) ∧ w'.cell? ⟨B, o, none⟩ = some (.int .i64 n))) (by kernel_rfl) (by (first | (exact S0.out) | (exact T3.out _ _ hHeld HC.out) | (exact T3.out _ _ hHeld ((Below.refl _ _).alloc (Nat.le_refl _) _)) | (exact G3.out w1 _ (by assumption) HG.out))) (fun hHeld => ?_)
  first
    | (refine wpAnyH_take (i := 0) (v := undef) (by simp only [List.getElem?_toArray, List.getElem?_cons_zero]; rfl) (by kernel_rfl) (by kernel_rfl) (by kernel_rfl) (fun _ _ _ h => h) (Or.inr ⟨by rfl, rfl⟩) (by assumption) ?_; try simp only [Act.put, List.setIfInBounds_toArray, List.set_cons_zero, List.set_cons_succ])
    | (refine wpAnyH_take (i := 0) (v := ?_) (by simp only [List.getElem?_toArray, List.getElem?_cons_zero]; rfl) (by kernel_rfl) (by kernel_rfl) (by kernel_rfl) (fun _ _ _ h => h) (Or.inl ⟨by rfl, ?_⟩) (by assumption) ?_
       rotate_left
       · (intro ww hSw; (try dsimp only at hSw); go_simp; (try with_reducible rfl))
       try simp only [Act.put, List.setIfInBounds_toArray, List.set_cons_zero, List.set_cons_succ])
    | (refine wpAnyH_ready (rs := [0]) (by kernel_rfl) (by simp) (AllReadyH.cons (by simp only [List.getElem?_toArray, List.getElem?_cons_succ, List.getElem?_cons_zero]; rfl) (fun K hK => ?_) AllReadyH.nil)
       go_simp
       first
         | (go_at_call 63; (with_reducible refine (word_int n _ h0 h1 HT.out).mono ?_); rintro e w1 ⟨rfl, hb⟩; have HC := Lib.hid hb; obtain ⟨v', W2, hrun, hown, hg, hm⟩ := append_one ((HR.out.kept (w' := w1) (row := none) (grown_below hb none) (by cases v.ownBlock <;> simp))) (wd n) (by have := HL.out; omega) (Nat.le_trans HB.out hb.size); have HO := Lib.hid hown; have HG := Lib.hid hg; have HM := Lib.hid hm; have HN := Lib.hid hrun; clear hb hown hg hm hrun)
         | (skip)
       try go_wp2_with fail
       refine hK.out _ _ (by (first | (exact S0.out) | (exact T3.out _ _ hHeld HC.out) | (exact T3.out _ _ hHeld ((Below.refl _ _).alloc (Nat.le_refl _) _)) | (exact G3.out w1 _ (by assumption) HG.out))) (fun hHeld => ?_)
       clear hK K
       try simp only [Act.put, List.setIfInBounds_toArray, List.set_cons_zero, List.set_cons_succ])
  first
    | (refine wpAnyH_take (i := 1) (v := undef) (by simp only [List.getElem?_toArray, List.getElem?_cons_succ, List.getElem?_cons_zero]; rfl) (by kernel_rfl) (by kernel_rfl) (by kernel_rfl) (fun _ _ _ h => h) (Or.inr ⟨by rfl, rfl⟩) (by assumption) ?_; try simp only [Act.put, List.setIfInBounds_toArray, List.set_cons_zero, List.set_cons_succ])
    | (refine wpAnyH_take (i := 1) (v := ?_) (by simp only [List.getElem?_toArray, List.getElem?_cons_succ, List.getElem?_cons_zero]; rfl) (by kernel_rfl) (by kernel_rfl) (by kernel_rfl) (fun _ _ _ h => h) (Or.inl ⟨by rfl, ?_⟩) (by assumption) ?_
       rotate_left
       · (intro ww hSw; (try dsimp only at hSw); go_simp; (try with_reducible rfl))
       try simp only [Act.put, List.setIfInBounds_toArray, List.set_cons_zero, List.set_cons_succ])
    | (refine wpAnyH_ready (rs := [1]) (by kernel_rfl) (by simp) (AllReadyH.cons (by simp only [List.getElem?_toArray, List.getElem?_cons_succ, List.getElem?_cons_zero]; rfl) (fun K hK => ?_) AllReadyH.nil)
       go_simp
       first
         | (go_at_call 63; (with_reducible refine (word_int n _ h0 h1 HT.out).mono ?_); rintro e w1 ⟨rfl, hb⟩; have HC := Lib.hid hb; obtain ⟨v', W2, hrun, hown, hg, hm⟩ := append_one ((HR.out.kept (w' := w1) (row := none) (grown_below hb none) (by cases v.ownBlock <;> simp))) (wd n) (by have := HL.out; omega) (Nat.le_trans HB.out hb.size); have HO := Lib.hid hown; have HG := Lib.hid hg; have HM := Lib.hid hm; have HN := Lib.hid hrun; clear hb hown hg hm hrun)
         | (skip)
       try go_wp2_with fail
       refine hK.out _ _ (by (first | (exact S0.out) | (exact T3.out _ _ hHeld HC.out) | (exact T3.out _ _ hHeld ((Below.refl _ _).alloc (Nat.le_refl _) _)) | (exact G3.out w1 _ (by assumption) HG.out))) (fun hHeld => ?_)
       clear hK K
       try simp only [Act.put, List.setIfInBounds_toArray, List.set_cons_zero, List.set_cons_succ])
  first
    | (refine wpAnyH_take (i := 2) (v := undef) (by simp only [List.getElem?_toArray, List.getElem?_cons_succ, List.getElem?_cons_zero]; rfl) (by kernel_rfl) (by kernel_rfl) (by kernel_rfl) (fun _ _ _ h => h) (Or.inr ⟨by rfl, rfl⟩) (by assumption) ?_; try simp only [Act.put, List.setIfInBounds_toArray, List.set_cons_zero, List.set_cons_succ])
    | (refine wpAnyH_take (i := 2) (v := ?_) (by simp only [List.getElem?_toArray, List.getElem?_cons_succ, List.getElem?_cons_zero]; rfl) (by kernel_rfl) (by kernel_rfl) (by kernel_rfl) (fun _ _ _ h => h) (Or.inl ⟨by rfl, ?_⟩) (by assumption) ?_
       rotate_left
       · (intro ww hSw; (try dsimp only at hSw); go_simp; (try with_reducible rfl))
       try simp only [Act.put, List.setIfInBounds_toArray, List.set_cons_zero, List.set_cons_succ])
    | (refine wpAnyH_ready (rs := [2]) (by kernel_rfl) (by simp) (AllReadyH.cons (by simp only [List.getElem?_toArray, List.getElem?_cons_succ, List.getElem?_cons_zero]; rfl) (fun K hK => ?_) AllReadyH.nil)
       go_simp
       first
         | (go_at_call 63; (with_reducible refine (word_int n _ h0 h1 HT.out).mono ?_); rintro e w1 ⟨rfl, hb⟩; have HC := Lib.hid hb; obtain ⟨v', W2, hrun, hown, hg, hm⟩ := append_one ((HR.out.kept (w' := w1) (row := none) (grown_below hb none) (by cases v.ownBlock <;> simp))) (wd n) (by have := HL.out; omega) (Nat.le_trans HB.out hb.size); have HO := Lib.hid hown; have HG := Lib.hid hg; have HM := Lib.hid hm; have HN := Lib.hid hrun; clear hb hown hg hm hrun)
         | (skip)
       try go_wp2_with fail
       refine hK.out _ _ (by (first | (exact S0.out) | (exact T3.out _ _ hHeld HC.out) | (exact T3.out _ _ hHeld ((Below.refl _ _).alloc (Nat.le_refl _) _)) | (exact G3.out w1 _ (by assumption) HG.out))) (fun hHeld => ?_)
       clear hK K
       try simp only [Act.put, List.setIfInBounds_toArray, List.set_cons_zero, List.set_cons_succ])
  first
    | (refine wpAnyH_take (i := 3) (v := undef) (by simp only [List.getElem?_toArray, List.getElem?_cons_succ, List.getElem?_cons_zero]; rfl) (by kernel_rfl) (by kernel_rfl) (by kernel_rfl) (fun _ _ _ h => h) (Or.inr ⟨by rfl, rfl⟩) (by assumption) ?_; try simp only [Act.put, List.setIfInBounds_toArray, List.set_cons_zero, List.set_cons_succ])
    | (refine wpAnyH_take (i := 3) (v := ?_) (by simp only [List.getElem?_toArray, List.getElem?_cons_succ, List.getElem?_cons_zero]; rfl) (by kernel_rfl) (by kernel_rfl) (by kernel_rfl) (fun _ _ _ h => h) (Or.inl ⟨by rfl, ?_⟩) (by assumption) ?_
       rotate_left
       · (intro ww hSw; (try dsimp only at hSw); go_simp; (try with_reducible rfl))
       try simp only [Act.put, List.setIfInBounds_toArray, List.set_cons_zero, List.set_cons_succ])
    | (refine wpAnyH_ready (rs := [3]) (by kernel_rfl) (by simp) (AllReadyH.cons (by simp only [List.getElem?_toArray, List.getElem?_cons_succ, List.getElem?_cons_zero]; rfl) (fun K hK => ?_) AllReadyH.nil)
       go_simp
       first
         | (go_at_call 63; (with_reducible refine (word_int n _ h0 h1 HT.out).mono ?_); rintro e w1 ⟨rfl, hb⟩; have HC := Lib.hid hb; obtain ⟨v', W2, hrun, hown, hg, hm⟩ := append_one ((HR.out.kept (w' := w1) (row := none) (grown_below hb none) (by cases v.ownBlock <;> simp))) (wd n) (by have := HL.out; omega) (Nat.le_trans HB.out hb.size); have HO := Lib.hid hown; have HG := Lib.hid hg; have HM := Lib.hid hm; have HN := Lib.hid hrun; clear hb hown hg hm hrun)
         | (skip)
       try go_wp2_with fail
       refine hK.out _ _ (by (first | (exact S0.out) | (exact T3.out _ _ hHeld HC.out) | (exact T3.out _ _ hHeld ((Below.refl _ _).alloc (Nat.le_refl _) _)) | (exact G3.out w1 _ (by assumption) HG.out))) (fun hHeld => ?_)
       clear hK K
       try simp only [Act.put, List.setIfInBounds_toArray, List.set_cons_zero, List.set_cons_succ])
  first
    | (refine wpAnyH_take (i := 4) (v := undef) (by simp only [List.getElem?_toArray, List.getElem?_cons_succ, List.getElem?_cons_zero]; rfl) (by kernel_rfl) (by kernel_rfl) (by kernel_rfl) (fun _ _ _ h => h) (Or.inr ⟨by rfl, rfl⟩) (by assumption) ?_; try simp only [Act.put, List.setIfInBounds_toArray, List.set_cons_zero, List.set_cons_succ])
    | (refine wpAnyH_take (i := 4) (v := ?_) (by simp only [List.getElem?_toArray, List.getElem?_cons_succ, List.getElem?_cons_zero]; rfl) (by kernel_rfl) (by kernel_rfl) (by kernel_rfl) (fun _ _ _ h => h) (Or.inl ⟨by rfl, ?_⟩) (by assumption) ?_
       rotate_left
       · (intro ww hSw; (try dsimp only at hSw); go_simp; (try with_reducible rfl))
       try simp only [Act.put, List.setIfInBounds_toArray, List.set_cons_zero, List.set_cons_succ])
    | (refine wpAnyH_ready (rs := [4]) (by kernel_rfl) (by simp) (AllReadyH.cons (by simp only [List.getElem?_toArray, List.getElem?_cons_succ, List.getElem?_cons_zero]; rfl) (fun K hK => ?_) AllReadyH.nil)
       go_simp
       first
         | (go_at_call 63; (with_reducible refine (word_int n _ h0 h1 HT.out).mono ?_); rintro e w1 ⟨rfl, hb⟩; have HC := Lib.hid hb; obtain ⟨v', W2, hrun, hown, hg, hm⟩ := append_one ((HR.out.kept (w' := w1) (row := none) (grown_below hb none) (by cases v.ownBlock <;> simp))) (wd n) (by have := HL.out; omega) (Nat.le_trans HB.out hb.size); have HO := Lib.hid hown; have HG := Lib.hid hg; have HM := Lib.hid hm; have HN := Lib.hid hrun; clear hb hown hg hm hrun)
         | (skip)
       try go_wp2_with fail
       refine hK.out _ _ (by (first | (exact S0.out) | (exact T3.out _ _ hHeld HC.out) | (exact T3.out _ _ hHeld ((Below.refl _ _).alloc (Nat.le_refl _) _)) | (exact G3.out w1 _ (by assumption) HG.out))) (fun hHeld => ?_)
       clear hK K
       try simp only [Act.put, List.setIfInBounds_toArray, List.set_cons_zero, List.set_cons_succ])
  first
    | (refine wpAnyH_take (i := 5) (v := undef) (by simp only [List.getElem?_toArray, List.getElem?_cons_succ, List.getElem?_cons_zero]; rfl) (by kernel_rfl) (by kernel_rfl) (by kernel_rfl) (fun _ _ _ h => h) (Or.inr ⟨by rfl, rfl⟩) (by assumption) ?_; try simp only [Act.put, List.setIfInBounds_toArray, List.set_cons_zero, List.set_cons_succ])
    | (refine wpAnyH_take (i := 5) (v := ?_) (by simp only [List.getElem?_toArray, List.getElem?_cons_succ, List.getElem?_cons_zero]; rfl) (by kernel_rfl) (by kernel_rfl) (by kernel_rfl) (fun _ _ _ h => h) (Or.inl ⟨by rfl, ?_⟩) (by assumption) ?_
       rotate_left
       · (intro ww hSw; (try dsimp only at hSw); go_simp; (try with_reducible rfl))
       try simp only [Act.put, List.setIfInBounds_toArray, List.set_cons_zero, List.set_cons_succ])
    | (refine wpAnyH_ready (rs := [5]) (by kernel_rfl) (by simp) (AllReadyH.cons (by simp only [List.getElem?_toArray, List.getElem?_cons_succ, List.getElem?_cons_zero]; rfl) (fun K hK => ?_) AllReadyH.nil)
       go_simp
       first
         | (go_at_call 63; (with_reducible refine (word_int n _ h0 h1 HT.out).mono ?_); rintro e w1 ⟨rfl, hb⟩; have HC := Lib.hid hb; obtain ⟨v', W2, hrun, hown, hg, hm⟩ := append_one ((HR.out.kept (w' := w1) (row := none) (grown_below hb none) (by cases v.ownBlock <;> simp))) (wd n) (by have := HL.out; omega) (Nat.le_trans HB.out hb.size); have HO := Lib.hid hown; have HG := Lib.hid hg; have HM := Lib.hid hm; have HN := Lib.hid hrun; clear hb hown hg hm hrun)
         | (skip)
       try go_wp2_with fail
       refine hK.out _ _ (by (first | (exact S0.out) | (exact T3.out _ _ hHeld HC.out) | (exact T3.out _ _ hHeld ((Below.refl _ _).alloc (Nat.le_refl _) _)) | (exact G3.out w1 _ (by assumption) HG.out))) (fun hHeld => ?_)
       clear hK K
       try simp only [Act.put, List.setIfInBounds_toArray, List.set_cons_zero, List.set_cons_succ])
  first
    | (refine wpAnyH_take (i := 6) (v := undef) (by simp only [List.getElem?_toArray, List.getElem?_cons_succ, List.getElem?_cons_zero]; rfl) (by kernel_rfl) (by kernel_rfl) (by kernel_rfl) (fun _ _ _ h => h) (Or.inr ⟨by rfl, rfl⟩) (by assumption) ?_; try simp only [Act.put, List.setIfInBounds_toArray, List.set_cons_zero, List.set_cons_succ])
    | (refine wpAnyH_take (i := 6) (v := ?_) (by simp only [List.getElem?_toArray, List.getElem?_cons_succ, List.getElem?_cons_zero]; rfl) (by kernel_rfl) (by kernel_rfl) (by kernel_rfl) (fun _ _ _ h => h) (Or.inl ⟨by rfl, ?_⟩) (by assumption) ?_
       rotate_left
       · (intro ww hSw; (try dsimp only at hSw); go_simp; (try with_reducible rfl))
       try simp only [Act.put, List.setIfInBounds_toArray, List.set_cons_zero, List.set_cons_succ])
    | (refine wpAnyH_ready (rs := [6]) (by kernel_rfl) (by simp) (AllReadyH.cons (by simp only [List.getElem?_toArray, List.getElem?_cons_succ, List.getElem?_cons_zero]; rfl) (fun K hK => ?_) AllReadyH.nil)
       go_simp
       first
         | (go_at_call 63; (with_reducible refine (word_int n _ h0 h1 HT.out).mono ?_); rintro e w1 ⟨rfl, hb⟩; have HC := Lib.hid hb; obtain ⟨v', W2, hrun, hown, hg, hm⟩ := append_one ((HR.out.kept (w' := w1) (row := none) (grown_below hb none) (by cases v.ownBlock <;> simp))) (wd n) (by have := HL.out; omega) (Nat.le_trans HB.out hb.size); have HO := Lib.hid hown; have HG := Lib.hid hg; have HM := Lib.hid hm; have HN := Lib.hid hrun; clear hb hown hg hm hrun)
         | (skip)
       try go_wp2_with fail
       refine hK.out _ _ (by (first | (exact S0.out) | (exact T3.out _ _ hHeld HC.out) | (exact T3.out _ _ hHeld ((Below.refl _ _).alloc (Nat.le_refl _) _)) | (exact G3.out w1 _ (by assumption) HG.out))) (fun hHeld => ?_)
       clear hK K
       try simp only [Act.put, List.setIfInBounds_toArray, List.set_cons_zero, List.set_cons_succ])
  refine wpAnyH_ready (rs := [7]) (by kernel_rfl) (by simp) (AllReadyH.cons (by simp only [List.getElem?_toArray, List.getElem?_cons_succ, List.getElem?_cons_zero]; rfl) (fun K hK => ?_) AllReadyH.nil)
  refine step_append rfl (.tmp 5) (.tmp 11) 39 rfl v _ v' W2 rfl rfl HN.out ?_
  refine hK.out _ _ (by (first | (exact S0.out) | (exact T3.out _ _ hHeld HC.out) | (exact T3.out _ _ hHeld ((Below.refl _ _).alloc (Nat.le_refl _) _)) | (exact G3.out w1 _ (by assumption) HG.out))) (fun hHeld => ?_)
  clear hK K
  try simp only [Act.put, List.setIfInBounds_toArray, List.set_cons_zero, List.set_cons_succ]
  first
    | (refine wpAnyH_take (i := 8) (v := undef) (by simp only [List.getElem?_toArray, List.getElem?_cons_succ, List.getElem?_cons_zero]; rfl) (by kernel_rfl) (by kernel_rfl) (by kernel_rfl) (fun _ _ _ h => h) (Or.inr ⟨by rfl, rfl⟩) (by assumption) ?_; try simp only [Act.put, List.setIfInBounds_toArray, List.set_cons_zero, List.set_cons_succ])
    | (refine wpAnyH_take (i := 8) (v := ?_) (by simp only [List.getElem?_toArray, List.getElem?_cons_succ, List.getElem?_cons_zero]; rfl) (by kernel_rfl) (by kernel_rfl) (by kernel_rfl) (fun _ _ _ h => h) (Or.inl ⟨by rfl, ?_⟩) (by assumption) ?_
       rotate_left
       · (intro ww hSw; (try dsimp only at hSw); go_simp; (try with_reducible rfl))
       try simp only [Act.put, List.setIfInBounds_toArray, List.set_cons_zero, List.set_cons_succ])
    | (refine wpAnyH_ready (rs := [8]) (by kernel_rfl) (by simp) (AllReadyH.cons (by simp only [List.getElem?_toArray, List.getElem?_cons_succ, List.getElem?_cons_zero]; rfl) (fun K hK => ?_) AllReadyH.nil)
       go_simp
       first
         | (go_at_call 63; (with_reducible refine (word_int n _ h0 h1 HT.out).mono ?_); rintro e w1 ⟨rfl, hb⟩; have HC := Lib.hid hb; obtain ⟨v', W2, hrun, hown, hg, hm⟩ := append_one ((HR.out.kept (w' := w1) (row := none) (grown_below hb none) (by cases v.ownBlock <;> simp))) (wd n) (by have := HL.out; omega) (Nat.le_trans HB.out hb.size); have HO := Lib.hid hown; have HG := Lib.hid hg; have HM := Lib.hid hm; have HN := Lib.hid hrun; clear hb hown hg hm hrun)
         | (skip)
       try go_wp2_with fail
       refine hK.out _ _ (by (first | (exact S0.out) | (exact T3.out _ _ hHeld HC.out) | (exact T3.out _ _ hHeld ((Below.refl _ _).alloc (Nat.le_refl _) _)) | (exact G3.out w1 _ (by assumption) HG.out))) (fun hHeld => ?_)
       clear hK K
       try simp only [Act.put, List.setIfInBounds_toArray, List.set_cons_zero, List.set_cons_succ])
  refine wpAnyH_done (by kernel_rfl) ?_ _
  refine NoPanic.normal ?_
  go_wp2_with fail
  go_ret
  exact puts_fin HC.out HO.out HG.out HM.out

set_option maxRecDepth 100000 in
set_option maxHeartbeats 1000000 in
theorem word_put (a base : Nat) (x : List UInt8) (v : Value) (ws : List (List UInt8)) (w : World) (bA : Blk w a 9 #[str x])
    (hrow : w.ownsRow base 9 1 v ws.length (ws.map str)) (hbase : base ≤ w.heap.size) (hl : ws.length ≤ 10000) :
    Calls Tryd.prog 65 #[v, .pointer (some ⟨a, 0, none⟩)] w (PutsTo w base v (ws ++ [x])) := by
  have c1 := bA.cell 0
  unfold str at c1
  obtain ⟨v', W2, hrun, hown, hg, hm⟩ := append_one hrow x (by omega) hbase
  have HO := Lib.hid hown
  have HG := Lib.hid hg
  have HM := Lib.hid hm
  have HN := Lib.hid hrun
  clear hown hg hm hrun hrow bA
  go_enter Tryd.func65, Tryd.ntmps65
  go_wp2_with (at_builtin; refine append_step rfl (.tmp 4) (.tmp 6) 39 rfl v _ v' W2 rfl rfl HN.out ?_)
  go_ret
  exact puts_fin (w := w) (w1 := w) ⟨rfl, rfl, rfl, Nat.le_refl _, fun _ _ => rfl⟩ HO.out HG.out HM.out
end Go.Proofs.YtinjpkbpdhihjaaDoor
/- line: the closure that puts a list's numbers behind other words. -/
namespace Go.Proofs.YtinjpkbpdhihjaaDoor
open Go.ChangeShapes Go.WideShapes Go.ChangeAt Go.RowKit
set_option linter.unusedVariables false
open Go.RowKit Go
theorem own_base {w : World} {base n : Nat} {v : Value} {ys : List Value} (h : w.ownsRow base 9 1 v n ys) {k : Nat} (e : v.ownBlock = some k) : base ≤ k := (h.lt k e).1
theorem below_base {w wr : World} {base n : Nat} {v : Value} {ys : List Value} (h : w.ownsRow base 9 1 v n ys) (hb : base ≤ w.heap.size) (hg : w.grownBy wr v.ownBlock) : Below base w wr :=
  (Below.refl base w).grown hg hb (fun k e => own_base h e)
/-- Where a command's list lies: not in the row that is written. -/
def Off (a : Option Addr) (xs : List Int) (v : Value) : Prop := xs = [] ∨ ∀ p, a = some p → some p.block ≠ v.ownBlock
theorem Off.moves {W : World} {a : Option Addr} {xs : List Int} {u v : Value} (h : Off a xs u) (hI : IntsAt W a xs) (hm : Moves W u v) : Off a xs v := by
  rcases h with h | h
  · exact .inl h
  · rcases hI.2 with h2 | ⟨b, off, rfl, hb, _⟩
    · exact .inl h2
    · refine .inr fun p hp => ?_
      obtain rfl : (⟨b, off, none⟩ : Addr) = p := Option.some.inj hp
      rcases hm with hm | ⟨g, hm, hg⟩
      · rw [hm]; exact h _ rfl
      · rw [hm]; intro e; have := Option.some.inj e; simp at this; omega
theorem IntsAt.grown {w w' : World} {a : Option Addr} {xs : List Int} {v : Value} (h : IntsAt w a xs) (hg : w.grownBy w' v.ownBlock) (hne : Off a xs v) : IntsAt w' a xs := by
  obtain ⟨hl, h⟩ := h
  refine ⟨hl, ?_⟩
  rcases h with h | ⟨b, off, rfl, hb2, hc⟩
  · exact .inl h
  rcases hne with hne | hne
  · exact .inl hne
  · exact .inr ⟨b, off, rfl, Nat.lt_of_lt_of_le hb2 hg.size, fun i hi => hg.cell (hc i hi) (hne ⟨b, off, none⟩ rfl)⟩
theorem areB_get {l : List Int} (h : areB l = true) (k : Nat) (hk : k < l.length) : 0 ≤ l[k] ∧ l[k] ≤ 1073741824 := by
  have := List.all_eq_true.1 h l[k] (List.getElem_mem hk)
  simpa [okN] using this
theorem take_words (ws : List (List UInt8)) (l : List Int) (k : Nat) (h : k < l.length) : ((ws ++ (l.take k).map wd).map str) ++ [str (wd l[k])] = (ws ++ (l.take (k + 1)).map wd).map str := by
  rw [List.take_succ_eq_append_getElem h]; simp only [List.map_append, List.map_cons, List.map_nil, List.append_assoc]
set_option maxRecDepth 100000 in
set_option maxHeartbeats 1000000 in
theorem nums_put (a base B o : Nat) (g : Option Addr) (cap : Nat) (l : List Int) (v : Value) (ws : List (List UInt8)) (w : World) (hT : ∀ W', Below base w W' → Tab W') (bA : Blk w a 94 #[.pointer (some ⟨B, o, none⟩)])
    (cF : w.cell? ⟨B, o, none⟩ = some (.slice g l.length cap)) (hI : IntsAt w g l) (hne : Off g l v) (hok : areB l = true) (hrow : w.ownsRow base 9 1 v ws.length (ws.map str)) (hbase : base ≤ w.heap.size) (hl : ws.length + l.length ≤ 9999) :
    Calls Tryd.prog 72 #[v, .pointer (some ⟨a, 0, none⟩)] w (PutsTo w base v (ws ++ l.map wd)) := by
  have c1 := bA.cell 0
  have hlen := hI.len
  have HT := Lib.hid hT
  have HI := Lib.hid hI
  have HNE := Lib.hid hne
  have HOK := Lib.hid hok
  have HR := Lib.hid hrow
  have HB := Lib.hid hbase
  have HL := Lib.hid hl
  clear hT bA hI hne hok hrow hbase hl
  go_enter Tryd.func72, Tryd.ntmps72
  go_wp2_with fail
  go_loopw [0, 10] (fun u i wr => ∃ k : Nat, k ≤ l.length ∧ i = .int .i64 k ∧ wr.ownsRow base 9 1 u (ws.length + k) ((ws ++ (l.take k).map wd).map str) ∧ w.grownBy wr v.ownBlock ∧ Moves w v u) (fun _ i _ => l.length - (intOf i).toNat)
  case atStart => exact ⟨0, Nat.zero_le _, rfl, by simpa using HR.out, grown_refl _ _, Moves.refl _ _⟩
  case round =>
    clear c1 cF
    obtain ⟨k, hk, rfl, hown, hgr, hmv⟩ := hrel
    have HOW := Lib.hid hown
    have HGR := Lib.hid hgr
    have HMV := Lib.hid hmv
    clear hown hgr hmv
    by_cases hlt : k < l.length
    · have hI2 := HI.out.grown HGR.out HNE.out
      obtain ⟨b, off, rfl, hb, hc⟩ := hI2.at_ hlt
      have hcell := hc k hlt
      clear hI2 hc hb
      obtain ⟨n0, n1⟩ := areB_get HOK.out k hlt
      have HW := Lib.hid (take_words ws l k hlt)
      generalize l[k] = n at *
      have ht := Lib.hid (HT.out _ (below_base HR.out HB.out HGR.out))
      have hz := Lib.hid (Nat.le_trans HB.out HGR.out.size)
      go_wp2_with fail
      refine (word_int n _ n0 n1 ht.out).mono ?_
      rintro e w1 ⟨rfl, hb⟩
      obtain ⟨v', W2, hrun, hown, hg, hm⟩ := append_one (row_below HOW.out hb) (wd n) (by have := HL.out; omega) (Nat.le_trans hz.out hb.size)
      have HO := Lib.hid hown
      have HG := Lib.hid (grown_trans HGR.out (grown_trans (grown_below hb _) hg (.inl rfl)) HMV.out)
      have HM := Lib.hid (HMV.out.trans HGR.out.size (((Moves.refl _ _).trans hb.size hm)))
      have HN := Lib.hid hrun
      clear hown hg hm hrun hb
      go_wp2_with (at_builtin; refine append_step rfl (.tmp 14) (.tmp 17) 39 rfl _ _ v' W2 rfl rfl HN.out ?_)
      go_roundw
      case rel => exact ⟨k + 1, by omega, by go_num, by rw [← HW.out]; exact HO.out, HG.out, HM.out⟩
      case measure => simp [intOf]; omega
    · have hke : k = l.length := by omega
      subst hke
      have HE := Lib.hid (show (l.take l.length).map wd = l.map wd by rw [List.take_of_length_le (Nat.le_refl _)])
      go_wp2_with fail
      go_ret
      refine ⟨_, rfl, ?_, HGR.out, HMV.out⟩
      have h := HOW.out
      rw [HE.out] at h
      rw [show (ws ++ l.map wd).length = ws.length + l.length by simp]
      exact h
end Go.Proofs.YtinjpkbpdhihjaaDoor
