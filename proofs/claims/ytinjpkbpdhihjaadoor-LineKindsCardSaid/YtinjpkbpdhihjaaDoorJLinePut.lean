import Derived.Test.YtinjpkbpdhihjaaDoorRows
import Derived.Test.YtinjpkbpdhihjaaDoorKit
import Derived.Test.YtinjpkbpdhihjaaDoorStrs
import Derived.Test.YtinjpkbpdhihjaaDoorJTab
import Derived.Test.YtinjpkbpdhihjaaDoorJBlk
import Derived.Test.YtinjpkbpdhihjaaDoorClone
import Derived.Test.YtinjpkbpdhihjaaDoorJMath
import Derived.Test.YtinjpkbpdhihjaaDoorJNum
import Derived.Test.YtinjpkbpdhihjaaDoorJTokWord
import Derived.Test.YtinjpkbpdhihjaaDoorJTokJoin
import Derived.Test.YtinjpkbpdhihjaaDoorJCut
import Derived.Test.YtinjpkbpdhihjaaDoorJAppend
import Derived.Test.YtinjpkbpdhihjaaDoorJGrown
import Derived.Test.YtinjpkbpdhihjaaDoorJCmd
import Derived.Test.YtinjpkbpdhihjaaDoorJCmdMay
import Derived.Test.YtinjpkbpdhihjaaDoorJCmdNames1
import Derived.Test.YtinjpkbpdhihjaaDoorJLinePart
import Derived.Test.YtinjpkbpdhihjaaDoorJLineTrade
import Derived.Test.YtinjpkbpdhihjaaDoorJAny
import Derived.Test.YtinjpkbpdhihjaaDoorJLineParts
import Derived.Test.YtinjpkbpdhihjaaDoorJPut
import Derived.Test.YtinjpkbpdhihjaaDoorJLinePut3
import Derived.Test.YtinjpkbpdhihjaaDoorJWords
import Derived.Shelf.Abstract
import Derived.Deep.RegionHeld3
import Derived.WalkKit
import Derived.ProofKit
import Derived.OpenShut
import Derived.IntWalk
/- line: Put, of whatever command. -/
namespace Go.Proofs.YtinjpkbpdhihjaaDoor
open Go.ChangeShapes Go.WideShapes Go.ChangeAt Go.RowKit
set_option linter.unusedVariables false
open Go.RowKit Go
/-- Between two pieces: the words so far; all else as it was. -/
def PutRel (w W0 : World) (lo B : Nat) (c : Cm) (ga wa : Option Addr) (gc wc : Nat) (u : Value) (k : Nat) (wr : World) : Prop :=
  (Blk wr B 24 #[.int .i64 c.kind, .int .i64 c.dir, .int .i64 c.item, .int .i64 c.box, .int .i64 c.who, .slice ga c.gives.length gc, .int .i64 c.pay, .slice wa c.wants.length wc, .int .i64 c.fee] ∧ some B ≠ u.ownBlock) ∧ (Below w.heap.size w wr ∧ w.heap.size + 1 ≤ wr.heap.size) ∧ (Stay lo W0 wr ∧ W0.heap.size ≤ wr.heap.size ∧ ∀ q, lo ≤ q → q < W0.heap.size → some q ≠ u.ownBlock) ∧
    (IntsAt wr ga c.gives ∧ Off ga c.gives u) ∧ (IntsAt wr wa c.wants ∧ Off wa c.wants u) ∧ wr.ownsRow (w.heap.size + 1) 9 1 u (putK c (partsOf c.kind) k).length ((putK c (partsOf c.kind) k).map str)
section
variable {w W0 wr : World} {lo B : Nat} {c : Cm} {ga wa : Option Addr} {gc wc : Nat} {u : Value} {k : Nat}
theorem PutRel.alloc (h : PutRel w W0 lo B c ga wa gc wc u k wr) (o : Obj) : PutRel w W0 lo B c ga wa gc wc u k (wr.alloc o) := by
  obtain ⟨⟨h1, h2⟩, ⟨h3, h4⟩, ⟨h5, h6, h7⟩, ⟨h8, h9⟩, ⟨h10, h11⟩, h12⟩ := h
  have hs : (wr.alloc o).heap.size = wr.heap.size + 1 := by simp
  exact ⟨⟨h1.alloc o, h2⟩, ⟨h3.alloc (by omega) o, by omega⟩, ⟨h5.trans h6 (Stay.below ((Below.refl _ _).alloc (Nat.le_refl _) o)), by omega, h7⟩, ⟨h8.alloc o, h9⟩, ⟨h10.alloc o, h11⟩, h12.alloc o⟩
theorem PutRel.step (h : PutRel w W0 lo B c ga wa gc wc u k wr) (hk : k < (partsOf c.kind).length) {v' : Value} {W1 : World} (hr : W1.ownsRow (w.heap.size + 1) 9 1 v' (putK c (partsOf c.kind) k ++ putP c (partsOf c.kind)[k]).length ((putK c (partsOf c.kind) k ++ putP c (partsOf c.kind)[k]).map str))
    (hg : wr.grownBy W1 u.ownBlock) (hm : Moves wr u v') : PutRel w W0 lo B c ga wa gc wc v' (k + 1) W1 := by
  obtain ⟨⟨h1, h2⟩, ⟨h3, h4⟩, ⟨h5, h6, h7⟩, ⟨h8, h9⟩, ⟨h10, h11⟩, h12⟩ := h
  have hb := below_base h12 h4 hg
  refine ⟨⟨h1.grow hg h2, ?_⟩, ⟨h3.trans (hb.mono (by omega)), Nat.le_trans h4 hg.size⟩, ⟨fun q a b => (hg.block q (by omega) (h7 q a b)).trans (h5 q a b), Nat.le_trans h6 hg.size, fun q a b => ?_⟩, ⟨h8.grown hg h9, h9.moves h8 hm⟩, ⟨h10.grown hg h11, h11.moves h10 hm⟩, ?_⟩
  · have := h1.lt
    rcases hm with hm | ⟨g, hm, hg2⟩
    · rw [hm]; exact h2
    · rw [hm]; intro e; have := Option.some.inj e; omega
  · rcases hm with hm | ⟨g, hm, hg2⟩
    · rw [hm]; exact h7 q a b
    · rw [hm]; intro e; have := Option.some.inj e; omega
  · rw [putK_succ c _ k hk]; exact hr
theorem PutRel.piece (h : PutRel w W0 lo B c ga wa gc wc u k wr) (hm : mayB c = true) (ht : Tabs w) (hk : k < (partsOf c.kind).length) {pv tv : Value} (hp : PartAt W0 lo B pv tv (partsOf c.kind)[k]) :
    ∃ F fs, pv = .func (.func F) #[] fs ∧ (∀ (args : Array Value) (w : World), (callFunc F args).run Tryd.prog w = .ok (.enter F args) w) ∧ Calls Tryd.prog F (#[u] ++ fs) wr (PutsTo wr (w.heap.size + 1) u (putK c (partsOf c.kind) k ++ putP c (partsOf c.kind)[k])) := by
  obtain ⟨⟨h1, h2⟩, ⟨h3, h4⟩, ⟨h5, h6, h7⟩, ⟨h8, h9⟩, ⟨h10, h11⟩, h12⟩ := h
  exact piece_put hp h5 h7 h1 h2 (fun W' hb => ht.below (h3.trans (hb.mono (by omega))) (Nat.le_refl _)) (may_fit hm _ (List.getElem_mem hk)) h8 h9 h10 h11 h12 h4 (by have := putK_len hm k; omega)
theorem PutRel.tabs (h : PutRel w W0 lo B c ga wa gc wc u k wr) (ht : Tabs w) : ∀ W', Below (w.heap.size + 1) wr W' → Tabs W' := fun W' hb => ht.below (h.2.1.1.trans (hb.mono (by omega))) (Nat.le_refl _)
end
/-- Ahead of the pieces: the command in its block, all else as it was. -/
def PutAt (w : World) (c : Cm) (ga wa : Option Addr) (gc wc : Nat) (wr : World) : Prop := Below w.heap.size w wr ∧ w.heap.size + 1 ≤ wr.heap.size ∧ Blk wr w.heap.size 24 #[.int .i64 c.kind, .int .i64 c.dir, .int .i64 c.item, .int .i64 c.box, .int .i64 c.who, .slice ga c.gives.length gc, .int .i64 c.pay, .slice wa c.wants.length wc, .int .i64 c.fee]
theorem field_put (x y : Value) (W : World) : (Instr.field 50 (.agg #[x, y]) 0).run Tryd.prog W = .ok x W := by
  simp [Instr.field, run_underlying Tryd.underlying50, Tryd.isAgg47, asAgg, Go.part, Result.andThen]
section
variable {w wr w1 w2 w3 w4 : World} {c : Cm} {ga wa : Option Addr} {gc wc : Nat}
theorem PutAt.new (w : World) (c : Cm) (ga wa : Option Addr) (gc wc : Nat) : PutAt w c ga wa gc wc (w.alloc (.cells #[.int .i64 c.kind, .int .i64 c.dir, .int .i64 c.item, .int .i64 c.box, .int .i64 c.who, .slice ga c.gives.length gc, .int .i64 c.pay, .slice wa c.wants.length wc, .int .i64 c.fee] 24)) :=
  ⟨(Below.refl _ _).alloc (Nat.le_refl _) _, by simp, Blk.new _ _ _⟩
theorem PutAt.call (h : PutAt w c ga wa gc wc wr) (hb : Below wr.heap.size wr w1) : PutAt w c ga wa gc wc w1 := ⟨bl h.1 hb, Nat.le_trans h.2.1 hb.size, h.2.2.call hb⟩
theorem put_start (hm : mayB c = true) (H1 : IntsAt w ga c.gives) (H2 : IntsAt w wa c.wants) (ht : Tabs w) (h : PutAt w c ga wa gc wc w1) {pv tv : Value} (hp : PartAt w2 w1.heap.size w.heap.size pv tv (.one .name .kind)) (hb : Below w1.heap.size w1 w2) :
    ∃ F fs, pv = .func (.func F) #[] fs ∧ (∀ (args : Array Value) (w : World), (callFunc F args).run Tryd.prog w = .ok (.enter F args) w) ∧ Calls Tryd.prog F (#[.slice none 0 0] ++ fs) w2 (PutsTo w2 (w.heap.size + 1) (.slice none 0 0) [nameOf c.kind]) := by
  have h2 := h.call hb
  have := piece_put (W0 := w2) (W := w2) (base := w.heap.size + 1) (v := .slice none 0 0) (ws := []) hp (Stay.refl _ _) (fun _ _ _ => by simp [Value.ownBlock]) h2.2.2 (by simp [Value.ownBlock]) (fun W' hb' => ht.below (h2.1.trans (hb'.mono (by omega))) (Nat.le_refl _)) rfl
    (H1.below h2.1 (Nat.le_refl _)) (.inr fun _ _ => by simp [Value.ownBlock]) (H2.below h2.1 (Nat.le_refl _)) (.inr fun _ _ => by simp [Value.ownBlock]) (World.ownsRow_nil _ _ _ _) h2.2.1 (by simp)
  exact this
/-- Behind the kind's name, and the map of the pieces. -/
theorem put_first (H1 : IntsAt w ga c.gives) (H2 : IntsAt w wa c.wants) (h : PutAt w c ga wa gc wc w2) {v1 : Value} (hr : w3.ownsRow (w.heap.size + 1) 9 1 v1 [nameOf c.kind].length ([nameOf c.kind].map str)) (hg : w2.grownBy w3 (Value.slice none 0 0).ownBlock) (hm : Moves w2 (.slice none 0 0) v1)
    (hb : Below w3.drew.heap.size w3.drew w4) : PutRel w w4 w3.drew.heap.size w.heap.size c ga wa gc wc v1 0 w4 := by
  have hb23 : Below w2.heap.size w2 w3 := ⟨hg.os, hg.tape, hg.output, hg.size, fun k hk => hg.block k hk (by simp [Value.ownBlock])⟩
  have h3 := h.call hb23
  have hb34 : Below w3.heap.size w3 w4 := ⟨hb.os, hb.tape, hb.output, hb.size, hb.block⟩
  have h4 := h3.call hb34
  have hr4 := row_below hr hb34
  have far : ∀ q, v1.ownBlock = some q → w2.heap.size ≤ q ∧ q < w3.heap.size := fun q e => by
    rcases hm with hm | ⟨g, hm, hg2⟩
    · rw [e] at hm; simp [Value.ownBlock] at hm
    · rw [e] at hm; obtain rfl := Option.some.inj hm; exact ⟨hg2, (hr.lt q e).2⟩
  have off : ∀ (a : Option Addr) (xs : List Int), IntsAt w a xs → Off a xs v1 := fun a xs hI => by
    rcases hI.2 with h | ⟨b, o, rfl, hb, _⟩
    · exact .inl h
    · refine .inr fun p hp e => ?_
      obtain rfl : (⟨b, o, none⟩ : Addr) = p := Option.some.inj hp
      have := (far b e.symm).1
      have := h.2.1
      omega
  refine ⟨⟨h4.2.2, fun e => ?_⟩, ⟨h4.1, h4.2.1⟩, ⟨Stay.refl _ _, Nat.le_refl _, fun q a b e => ?_⟩, ⟨H1.below h4.1 (Nat.le_refl _), off _ _ H1⟩, ⟨H2.below h4.1 (Nat.le_refl _), off _ _ H2⟩, by simpa [putK] using hr4⟩
  · have := (far _ e.symm).1; have := h.2.1; omega
  · have := (far _ e.symm).2
    have : w3.drew.heap.size = w3.heap.size := rfl
    omega
theorem put_fin (hm : mayB c = true) {W0 : World} {lo B : Nat} {u : Value} (h : PutRel w W0 lo B c ga wa gc wc u (partsOf c.kind).length wr) : Strs wr u (wordsOf c) ∧ Below w.heap.size w wr := by
  obtain ⟨-, ⟨h3, -⟩, -, -, -, h12⟩ := h
  rw [putK_all] at h12
  exact ⟨strs_of_row h12 (by have := (words_sizes hm).2; unfold maxLen; omega), h3⟩
end
def putOut (c : Cm) : Value := .tuple #[str (if mayB c then glue (wordsOf c) else []), .int .i64 (if mayB c then 0 else 2)]
set_option maxRecDepth 100000 in
set_option maxHeartbeats 2000000 in
theorem put_any (c : Cm) (ga wa : Option Addr) (gc wc : Nat) (w : World) (h1 : IntsAt w ga c.gives) (h2 : IntsAt w wa c.wants) (ht : Tabs w) :
    Calls Tryd.prog 11 #[.agg #[.int .i64 c.kind, .int .i64 c.dir, .int .i64 c.item, .int .i64 c.box, .int .i64 c.who, .slice ga c.gives.length gc, .int .i64 c.pay, .slice wa c.wants.length wc, .int .i64 c.fee]] w fun e w' => e = .returned (putOut c) ∧ Below w.heap.size w w' := by
  have H1 := Lib.hid h1
  have H2 := Lib.hid h2
  have HT := Lib.hid ht
  clear h1 h2 ht
  cases hm : mayB c
  · have HM := Lib.hid hm
    have HO := Lib.hid (show putOut c = .tuple #[str [], .int .i64 2] by simp [putOut, hm])
    clear hm
    go_enter Tryd.func11, Tryd.ntmps11
    go_wp2_with fail
    have P0 := Lib.hid (PutAt.new w c ga wa gc wc)
    have hA := P0.out.2.2.cell
    go_wp2_with fail
    refine (may_any c ga wa gc wc _ (H1.out.below P0.out.1 (Nat.le_refl _)) (H2.out.below P0.out.1 (Nat.le_refl _))).mono ?_
    rintro e w1 ⟨rfl, b1⟩
    rw [HM.out]
    have B1 := Lib.hid (P0.out.call b1)
    clear b1 hA
    go_wp2_with fail
    go_ret2
    exact ⟨by rw [HO.out]; rfl, B1.out.1⟩
  · have HM := Lib.hid hm
    have hk0 := (may_fields hm).1
    simp only [isKindB, Bool.and_eq_true, decide_eq_true_eq] at hk0
    have HK := Lib.hid hk0
    have HO := Lib.hid (show putOut c = .tuple #[str (glue (wordsOf c)), .int .i64 0] by simp [putOut, hm])
    clear hm hk0
    go_enter Tryd.func11, Tryd.ntmps11
    go_wp2_with fail
    have P0 := Lib.hid (PutAt.new w c ga wa gc wc)
    have hA := P0.out.2.2.cell
    go_wp2_with fail
    refine (may_any c ga wa gc wc _ (H1.out.below P0.out.1 (Nat.le_refl _)) (H2.out.below P0.out.1 (Nat.le_refl _))).mono ?_
    rintro e w1 ⟨rfl, b1⟩
    rw [HM.out]
    have P1 := Lib.hid (P0.out.call b1)
    clear b1 hA P0
    go_wp2_with fail
    refine (name_make _ _).mono ?_
    rintro e w2 ⟨pv, tv, rfl, hp, b2⟩
    obtain ⟨F, fs, rfl, he, hc⟩ := put_start HM.out H1.out H2.out HT.out P1.out hp b2
    have P2 := Lib.hid (P1.out.call b2)
    have HC := Lib.hid hc
    clear hp b2 hc P1
    have hfl := field_put
    go_wp2_with fail
    clear hfl he
    refine HC.out.mono ?_
    rintro e w3 ⟨v1, rfl, hr, hg, hmv⟩
    have F1 := Lib.hid (fun (w4 : World) (hb : Below w3.drew.heap.size w3.drew w4) => put_first H1.out H2.out P2.out hr hg hmv hb)
    have hb23 : Below w2.heap.size w2 w3 := ⟨hg.os, hg.tape, hg.output, hg.size, fun k hk => hg.block k hk (by simp [Value.ownBlock])⟩
    have P3 := Lib.hid (P2.out.call hb23)
    have ck := P3.out.2.2.cell 0
    have l3 := P3.out.2.1
    have S0 := Lib.hid (show w.heap.size < w3.drew.heap.size ∧ w3.drew.cell? ⟨w.heap.size, 0, none⟩ = some (.int .i64 c.kind) from ⟨l3, ck⟩)
    clear hr hg hmv hb23 HC P2 ck l3
    go_wp2_with fail
    refine wp_region_noPanic ?_
    refine wp_region_held_drew (S := (fun w' => w.heap.size < w'.heap.size ∧ w'.cell? ⟨w.heap.size, 0, none⟩ = some (.int .i64 c.kind))) (by kernel_rfl) (by (first | (exact S0.out) | (exact hHeld) | (exact ⟨Nat.lt_of_lt_of_le hHeld.1 HBB.out.size, (HBB.out.cell (p := ⟨w.heap.size, 0, none⟩) hHeld.1).trans hHeld.2⟩))) (fun hHeld => ?_)
    first
      | (refine wpAnyH_take (i := 1) (v := undef) (by simp only [List.getElem?_toArray, List.getElem?_cons_succ, List.getElem?_cons_zero]; rfl) (by kernel_rfl) (by kernel_rfl) (by kernel_rfl) (fun _ _ _ h => h) (Or.inr ⟨by rfl, rfl⟩) (by assumption) ?_; try simp only [Act.put, List.setIfInBounds_toArray, List.set_cons_zero, List.set_cons_succ])
      | (refine wpAnyH_take (i := 1) (v := ?_) (by simp only [List.getElem?_toArray, List.getElem?_cons_succ, List.getElem?_cons_zero]; rfl) (by kernel_rfl) (by kernel_rfl) (by kernel_rfl) (fun _ _ _ h => h) (Or.inl ⟨by rfl, ?_⟩) (by assumption) ?_
         rotate_left
         · (intro ww hSw; (try dsimp only at hSw); go_simp; (try with_reducible rfl))
         try simp only [Act.put, List.setIfInBounds_toArray, List.set_cons_zero, List.set_cons_succ])
      | (refine wpAnyH_ready (rs := [1]) (by kernel_rfl) (by simp) (AllReadyH.cons (by simp only [List.getElem?_toArray, List.getElem?_cons_succ, List.getElem?_cons_zero]; rfl) (fun K hK => ?_) AllReadyH.nil)
         go_simp
         first
           | (go_at_call 24; (with_reducible refine (parts_make _ _).mono ?_); rintro e w4 ⟨b, rfl, hmap, hbb⟩; have HBB := Lib.hid hbb; obtain ⟨v4, hlk, hP⟩ := hmap.lookup c.kind HK.out; obtain ⟨g, lst, rfl, hlo, hblk, hacc⟩ := hP; have HP := Lib.hid (show w3.drew.heap.size ≤ g ∧ Blk w4 g 50 lst.toArray ∧ AccL w4 w3.drew.heap.size w.heap.size lst (partsOf c.kind) from ⟨hlo, hblk, hacc⟩); clear hbb hmap hlo hblk hacc)
           | (skip)
         try go_wp2_with fail
         refine hK.out _ _ (by (first | (exact S0.out) | (exact hHeld) | (exact ⟨Nat.lt_of_lt_of_le hHeld.1 HBB.out.size, (HBB.out.cell (p := ⟨w.heap.size, 0, none⟩) hHeld.1).trans hHeld.2⟩))) (fun hHeld => ?_)
         clear hK K
         try simp only [Act.put, List.setIfInBounds_toArray, List.set_cons_zero, List.set_cons_succ])
    first
      | (refine wpAnyH_take (i := 2) (v := undef) (by simp only [List.getElem?_toArray, List.getElem?_cons_succ, List.getElem?_cons_zero]; rfl) (by kernel_rfl) (by kernel_rfl) (by kernel_rfl) (fun _ _ _ h => h) (Or.inr ⟨by rfl, rfl⟩) (by assumption) ?_; try simp only [Act.put, List.setIfInBounds_toArray, List.set_cons_zero, List.set_cons_succ])
      | (refine wpAnyH_take (i := 2) (v := ?_) (by simp only [List.getElem?_toArray, List.getElem?_cons_succ, List.getElem?_cons_zero]; rfl) (by kernel_rfl) (by kernel_rfl) (by kernel_rfl) (fun _ _ _ h => h) (Or.inl ⟨by rfl, ?_⟩) (by assumption) ?_
         rotate_left
         · (intro ww hSw; (try dsimp only at hSw); go_simp; (try with_reducible rfl))
         try simp only [Act.put, List.setIfInBounds_toArray, List.set_cons_zero, List.set_cons_succ])
      | (refine wpAnyH_ready (rs := [2]) (by kernel_rfl) (by simp) (AllReadyH.cons (by simp only [List.getElem?_toArray, List.getElem?_cons_succ, List.getElem?_cons_zero]; rfl) (fun K hK => ?_) AllReadyH.nil)
         go_simp
         first
           | (go_at_call 24; (with_reducible refine (parts_make _ _).mono ?_); rintro e w4 ⟨b, rfl, hmap, hbb⟩; have HBB := Lib.hid hbb; obtain ⟨v4, hlk, hP⟩ := hmap.lookup c.kind HK.out; obtain ⟨g, lst, rfl, hlo, hblk, hacc⟩ := hP; have HP := Lib.hid (show w3.drew.heap.size ≤ g ∧ Blk w4 g 50 lst.toArray ∧ AccL w4 w3.drew.heap.size w.heap.size lst (partsOf c.kind) from ⟨hlo, hblk, hacc⟩); clear hbb hmap hlo hblk hacc)
           | (skip)
         try go_wp2_with fail
         refine hK.out _ _ (by (first | (exact S0.out) | (exact hHeld) | (exact ⟨Nat.lt_of_lt_of_le hHeld.1 HBB.out.size, (HBB.out.cell (p := ⟨w.heap.size, 0, none⟩) hHeld.1).trans hHeld.2⟩))) (fun hHeld => ?_)
         clear hK K
         try simp only [Act.put, List.setIfInBounds_toArray, List.set_cons_zero, List.set_cons_succ])
    first
      | (refine wpAnyH_take (i := 5) (v := undef) (by simp only [List.getElem?_toArray, List.getElem?_cons_succ, List.getElem?_cons_zero]; rfl) (by kernel_rfl) (by kernel_rfl) (by kernel_rfl) (fun _ _ _ h => h) (Or.inr ⟨by rfl, rfl⟩) (by assumption) ?_; try simp only [Act.put, List.setIfInBounds_toArray, List.set_cons_zero, List.set_cons_succ])
      | (refine wpAnyH_take (i := 5) (v := ?_) (by simp only [List.getElem?_toArray, List.getElem?_cons_succ, List.getElem?_cons_zero]; rfl) (by kernel_rfl) (by kernel_rfl) (by kernel_rfl) (fun _ _ _ h => h) (Or.inl ⟨by rfl, ?_⟩) (by assumption) ?_
         rotate_left
         · (intro ww hSw; (try dsimp only at hSw); go_simp; (try with_reducible rfl))
         try simp only [Act.put, List.setIfInBounds_toArray, List.set_cons_zero, List.set_cons_succ])
      | (refine wpAnyH_ready (rs := [5]) (by kernel_rfl) (by simp) (AllReadyH.cons (by simp only [List.getElem?_toArray, List.getElem?_cons_succ, List.getElem?_cons_zero]; rfl) (fun K hK => ?_) AllReadyH.nil)
         go_simp
         first
           | (go_at_call 24; (with_reducible refine (parts_make _ _).mono ?_); rintro e w4 ⟨b, rfl, hmap, hbb⟩; have HBB := Lib.hid hbb; obtain ⟨v4, hlk, hP⟩ := hmap.lookup c.kind HK.out; obtain ⟨g, lst, rfl, hlo, hblk, hacc⟩ := hP; have HP := Lib.hid (show w3.drew.heap.size ≤ g ∧ Blk w4 g 50 lst.toArray ∧ AccL w4 w3.drew.heap.size w.heap.size lst (partsOf c.kind) from ⟨hlo, hblk, hacc⟩); clear hbb hmap hlo hblk hacc)
           | (skip)
         try go_wp2_with fail
         refine hK.out _ _ (by (first | (exact S0.out) | (exact hHeld) | (exact ⟨Nat.lt_of_lt_of_le hHeld.1 HBB.out.size, (HBB.out.cell (p := ⟨w.heap.size, 0, none⟩) hHeld.1).trans hHeld.2⟩))) (fun hHeld => ?_)
         clear hK K
         try simp only [Act.put, List.setIfInBounds_toArray, List.set_cons_zero, List.set_cons_succ])
    first
      | (refine wpAnyH_take (i := 0) (v := undef) (by simp only [List.getElem?_toArray, List.getElem?_cons_zero]; rfl) (by kernel_rfl) (by kernel_rfl) (by kernel_rfl) (fun _ _ _ h => h) (Or.inr ⟨by rfl, rfl⟩) (by assumption) ?_; try simp only [Act.put, List.setIfInBounds_toArray, List.set_cons_zero, List.set_cons_succ])
      | (refine wpAnyH_take (i := 0) (v := ?_) (by simp only [List.getElem?_toArray, List.getElem?_cons_zero]; rfl) (by kernel_rfl) (by kernel_rfl) (by kernel_rfl) (fun _ _ _ h => h) (Or.inl ⟨by rfl, ?_⟩) (by assumption) ?_
         rotate_left
         · (intro ww hSw; (try dsimp only at hSw); go_simp; (try with_reducible rfl))
         try simp only [Act.put, List.setIfInBounds_toArray, List.set_cons_zero, List.set_cons_succ])
      | (refine wpAnyH_ready (rs := [0]) (by kernel_rfl) (by simp) (AllReadyH.cons (by simp only [List.getElem?_toArray, List.getElem?_cons_zero]; rfl) (fun K hK => ?_) AllReadyH.nil)
         go_simp
         first
           | (go_at_call 24; (with_reducible refine (parts_make _ _).mono ?_); rintro e w4 ⟨b, rfl, hmap, hbb⟩; have HBB := Lib.hid hbb; obtain ⟨v4, hlk, hP⟩ := hmap.lookup c.kind HK.out; obtain ⟨g, lst, rfl, hlo, hblk, hacc⟩ := hP; have HP := Lib.hid (show w3.drew.heap.size ≤ g ∧ Blk w4 g 50 lst.toArray ∧ AccL w4 w3.drew.heap.size w.heap.size lst (partsOf c.kind) from ⟨hlo, hblk, hacc⟩); clear hbb hmap hlo hblk hacc)
           | (skip)
         try go_wp2_with fail
         refine hK.out _ _ (by (first | (exact S0.out) | (exact hHeld) | (exact ⟨Nat.lt_of_lt_of_le hHeld.1 HBB.out.size, (HBB.out.cell (p := ⟨w.heap.size, 0, none⟩) hHeld.1).trans hHeld.2⟩))) (fun hHeld => ?_)
         clear hK K
         try simp only [Act.put, List.setIfInBounds_toArray, List.set_cons_zero, List.set_cons_succ])
    first
      | (refine wpAnyH_take (i := 3) (v := undef) (by simp only [List.getElem?_toArray, List.getElem?_cons_succ, List.getElem?_cons_zero]; rfl) (by kernel_rfl) (by kernel_rfl) (by kernel_rfl) (fun _ _ _ h => h) (Or.inr ⟨by rfl, rfl⟩) (by assumption) ?_; try simp only [Act.put, List.setIfInBounds_toArray, List.set_cons_zero, List.set_cons_succ])
      | (refine wpAnyH_take (i := 3) (v := ?_) (by simp only [List.getElem?_toArray, List.getElem?_cons_succ, List.getElem?_cons_zero]; rfl) (by kernel_rfl) (by kernel_rfl) (by kernel_rfl) (fun _ _ _ h => h) (Or.inl ⟨by rfl, ?_⟩) (by assumption) ?_
         rotate_left
         · (intro ww hSw; (try dsimp only at hSw); go_simp; (try with_reducible rfl))
         try simp only [Act.put, List.setIfInBounds_toArray, List.set_cons_zero, List.set_cons_succ])
      | (refine wpAnyH_ready (rs := [3]) (by kernel_rfl) (by simp) (AllReadyH.cons (by simp only [List.getElem?_toArray, List.getElem?_cons_succ, List.getElem?_cons_zero]; rfl) (fun K hK => ?_) AllReadyH.nil)
         go_simp
         first
           | (go_at_call 24; (with_reducible refine (parts_make _ _).mono ?_); rintro e w4 ⟨b, rfl, hmap, hbb⟩; have HBB := Lib.hid hbb; obtain ⟨v4, hlk, hP⟩ := hmap.lookup c.kind HK.out; obtain ⟨g, lst, rfl, hlo, hblk, hacc⟩ := hP; have HP := Lib.hid (show w3.drew.heap.size ≤ g ∧ Blk w4 g 50 lst.toArray ∧ AccL w4 w3.drew.heap.size w.heap.size lst (partsOf c.kind) from ⟨hlo, hblk, hacc⟩); clear hbb hmap hlo hblk hacc)
           | (skip)
         try go_wp2_with fail
         refine hK.out _ _ (by (first | (exact S0.out) | (exact hHeld) | (exact ⟨Nat.lt_of_lt_of_le hHeld.1 HBB.out.size, (HBB.out.cell (p := ⟨w.heap.size, 0, none⟩) hHeld.1).trans hHeld.2⟩))) (fun hHeld => ?_)
         clear hK K
         try simp only [Act.put, List.setIfInBounds_toArray, List.set_cons_zero, List.set_cons_succ])
    first
      | (refine wpAnyH_take (i := 4) (v := undef) (by simp only [List.getElem?_toArray, List.getElem?_cons_succ, List.getElem?_cons_zero]; rfl) (by kernel_rfl) (by kernel_rfl) (by kernel_rfl) (fun _ _ _ h => h) (Or.inr ⟨by rfl, rfl⟩) (by assumption) ?_; try simp only [Act.put, List.setIfInBounds_toArray, List.set_cons_zero, List.set_cons_succ])
      | (refine wpAnyH_take (i := 4) (v := ?_) (by simp only [List.getElem?_toArray, List.getElem?_cons_succ, List.getElem?_cons_zero]; rfl) (by kernel_rfl) (by kernel_rfl) (by kernel_rfl) (fun _ _ _ h => h) (Or.inl ⟨by rfl, ?_⟩) (by assumption) ?_
         rotate_left
         · (intro ww hSw; (try dsimp only at hSw); go_simp; (try with_reducible rfl))
         try simp only [Act.put, List.setIfInBounds_toArray, List.set_cons_zero, List.set_cons_succ])
      | (refine wpAnyH_ready (rs := [4]) (by kernel_rfl) (by simp) (AllReadyH.cons (by simp only [List.getElem?_toArray, List.getElem?_cons_succ, List.getElem?_cons_zero]; rfl) (fun K hK => ?_) AllReadyH.nil)
         go_simp
         first
           | (go_at_call 24; (with_reducible refine (parts_make _ _).mono ?_); rintro e w4 ⟨b, rfl, hmap, hbb⟩; have HBB := Lib.hid hbb; obtain ⟨v4, hlk, hP⟩ := hmap.lookup c.kind HK.out; obtain ⟨g, lst, rfl, hlo, hblk, hacc⟩ := hP; have HP := Lib.hid (show w3.drew.heap.size ≤ g ∧ Blk w4 g 50 lst.toArray ∧ AccL w4 w3.drew.heap.size w.heap.size lst (partsOf c.kind) from ⟨hlo, hblk, hacc⟩); clear hbb hmap hlo hblk hacc)
           | (skip)
         try go_wp2_with fail
         refine hK.out _ _ (by (first | (exact S0.out) | (exact hHeld) | (exact ⟨Nat.lt_of_lt_of_le hHeld.1 HBB.out.size, (HBB.out.cell (p := ⟨w.heap.size, 0, none⟩) hHeld.1).trans hHeld.2⟩))) (fun hHeld => ?_)
         clear hK K
         try simp only [Act.put, List.setIfInBounds_toArray, List.set_cons_zero, List.set_cons_succ])
    refine wpAnyH_done (by kernel_rfl) ?_ _
    refine NoPanic.normal ?_
    clear hlk hHeld
    have F2 := Lib.hid (F1.out w4 HBB.out)
    have hnl := parts_len c.kind
    clear F1 HBB S0 P3
    go_wp2_with fail
    go_loopw [4, 18] (fun u i wr => ∃ k : Nat, k ≤ (partsOf c.kind).length ∧ i = .int .i64 k ∧ PutRel w w4 w3.drew.heap.size w.heap.size c ga wa gc wc u k wr) (fun _ i _ => (partsOf c.kind).length - (intOf i).toNat)
    case atStart => exact ⟨0, Nat.zero_le _, rfl, F2.out⟩
    case round =>
      obtain ⟨k, hk, rfl, hrel2⟩ := hrel
      have HR := Lib.hid hrel2
      clear hrel2
      by_cases hlt : k < (partsOf c.kind).length
      · obtain ⟨pv2, tv2, e1, e2, hpk⟩ := HP.out.2.2.get k hlt
        have hblk2 := HP.out.2.1.stay HR.out.2.2.1.1 HP.out.1
        obtain ⟨F2, fs2, e3, he2, hc2⟩ := (HR.out.alloc (.cells #[pv2, tv2] 50)).piece HM.out HT.out hlt hpk
        obtain ⟨F3, fs3, G3, gs3, e4, e5⟩ := hpk.funcs
        have d1 := (hblk2.cell (k * 2)).trans (show lst.toArray[k * 2]? = some pv2 by simpa [Nat.mul_comm] using e1)
        have d2 := (hblk2.cell (k * 2 + 1)).trans (show lst.toArray[k * 2 + 1]? = some tv2 by simpa [Nat.mul_comm] using e2)
        subst e3 e5
        have HC := Lib.hid hc2
        have HS := Lib.hid fun (v' : Value) (W1 : World) hr hg hm => (HR.out.alloc (.cells #[.func (.func F2) #[] fs2, .func (.func G3) #[] gs3] 50)).step (v' := v') (W1 := W1) hlt hr hg hm
        clear e1 e2 e4 hpk hblk2 hc2
        go_wp2_with fail
        clear d1 d2 he2
        refine HC.out.mono ?_
        rintro e W1 ⟨v', rfl, hr, hg, hmv⟩
        have HN := Lib.hid (HS.out _ _ hr hg hmv)
        clear hr hg hmv HC HS
        go_wp2_with fail
        go_roundw
        case rel => exact ⟨k + 1, by omega, by go_num, HN.out⟩
        case measure => simp [intOf]; omega
      · have hke : k = (partsOf c.kind).length := by omega
        subst hke
        have HF := Lib.hid (put_fin HM.out HR.out)
        have hz := Lib.hid (words_sizes HM.out)
        go_wp2_with fail
        refine (join_any _ HF.out.1 (by have := hz.out.1; omega)).mono ?_
        rintro e w5 ⟨rfl, b5⟩
        have HB := Lib.hid (bl HF.out.2 b5)
        clear b5
        go_wp2_with fail
        go_ret2
        exact ⟨by rw [HO.out]; rfl, HB.out⟩
end Go.Proofs.YtinjpkbpdhihjaaDoor
