import Derived.Test.YtinjpkbpdhihjaaDoorRows
import Derived.Test.YtinjpkbpdhihjaaDoorKit
import Derived.Test.YtinjpkbpdhihjaaDoorStrs
import Derived.Test.YtinjpkbpdhihjaaDoorJTab
import Derived.Test.YtinjpkbpdhihjaaDoorJBlk
import Derived.Test.YtinjpkbpdhihjaaDoorJMath
import Derived.Test.YtinjpkbpdhihjaaDoorJCmdNames1
import Derived.Test.YtinjpkbpdhihjaaDoorJLinePart
import Derived.Deep.RegionHeld3
import Derived.WalkKit
import Derived.ProofKit
import Derived.OpenShut
import Derived.IntWalk
/- line: the pieces of a trade, in a list: a region that draws its order, with nine calls that make memory. -/
namespace Go.Proofs.YtinjpkbpdhihjaaDoor
open Go.ChangeShapes Go.WideShapes Go.ChangeAt Go.RowKit
set_option linter.unusedVariables false
open Go.RowKit
/-- Pieces' values, one behind the other. -/
def AccL (W : World) (lo B : Nat) : List Value → List Pt → Prop
  | [], [] => True
  | pv :: tv :: l, p :: pts => PartAt W lo B pv tv p ∧ AccL W lo B l pts
  | _, _ => False
theorem AccL.stay {W W' : World} {lo B : Nat} (hs : Stay lo W W') : ∀ {l : List Value} {pts : List Pt}, AccL W lo B l pts → AccL W' lo B l pts
  | [], [], _ => trivial
  | _ :: _ :: _, _ :: _, h => ⟨h.1.stay hs, h.2.stay hs⟩
  | [_], _, h => by simp [AccL] at h
  | _ :: _ :: _, [], h => by simp [AccL] at h
  | [], _ :: _, h => by simp [AccL] at h
theorem AccL.mono {W : World} {lo lo' B : Nat} (hl : lo' ≤ lo) : ∀ {l : List Value} {pts : List Pt}, AccL W lo B l pts → AccL W lo' B l pts
  | [], [], _ => trivial
  | _ :: _ :: _, _ :: _, h => ⟨h.1.mono hl, h.2.mono hl⟩
  | [_], _, h => by simp [AccL] at h
  | _ :: _ :: _, [], h => by simp [AccL] at h
  | [], _ :: _, h => by simp [AccL] at h
theorem AccL.snoc {W : World} {lo B : Nat} {pv tv : Value} {p : Pt} (hp : PartAt W lo B pv tv p) : ∀ {l : List Value} {pts : List Pt}, AccL W lo B l pts → AccL W lo B (l ++ [pv, tv]) (pts ++ [p])
  | [], [], _ => ⟨hp, trivial⟩
  | _ :: _ :: _, _ :: _, h => ⟨h.1, AccL.snoc hp h.2⟩
  | [_], _, h => by simp [AccL] at h
  | _ :: _ :: _, [], h => by simp [AccL] at h
  | [], _ :: _, h => by simp [AccL] at h
theorem AccL.get {W : World} {lo B : Nat} : ∀ {l : List Value} {pts : List Pt}, AccL W lo B l pts → ∀ i (hi : i < pts.length), ∃ pv tv, l[2 * i]? = some pv ∧ l[2 * i + 1]? = some tv ∧ PartAt W lo B pv tv pts[i]
  | [], [], _, i, hi => by simp at hi
  | pv :: tv :: l, p :: pts, h, i, hi => by
    cases i with
    | zero => exact ⟨pv, tv, rfl, rfl, h.1⟩
    | succ i =>
      obtain ⟨a, b, h1, h2, h3⟩ := AccL.get h.2 i (by simpa using hi)
      exact ⟨a, b, by simpa [Nat.mul_add] using h1, by rw [show 2 * (i + 1) + 1 = (2 * i + 1) + 1 + 1 by omega]; simpa using h2, h3⟩
  | [_], _, h, _, _ => by simp [AccL] at h
  | _ :: _ :: _, [], h, _, _ => by simp [AccL] at h
  | [], _ :: _, h, _, _ => by simp [AccL] at h
/-- Pieces that were made since w. -/
def Acc (w : World) (B : Nat) (l : List Value) (pts : List Pt) (W : World) : Prop := Below w.heap.size w W ∧ AccL W w.heap.size B l pts
theorem Acc.nil (w : World) (B : Nat) : Acc w B [] [] w := ⟨Below.refl _ _, trivial⟩
theorem Acc.nild (w : World) (B : Nat) : Acc w B [] [] w.drew := ⟨⟨rfl, rfl, rfl, Nat.le_refl _, fun _ _ => rfl⟩, trivial⟩
theorem Acc.snoc {w W W' : World} {B : Nat} {l : List Value} {pts : List Pt} {pv tv : Value} {p : Pt} (h : Acc w B l pts W) (hp : PartAt W' W.heap.size B pv tv p) (hb : Below W.heap.size W W') : Acc w B (l ++ [pv, tv]) (pts ++ [p]) W' :=
  ⟨bl h.1 hb, (h.2.stay (Stay.below hb)).snoc (hp.mono h.1.size)⟩
/-- A list of pieces in memory, from block lo on. -/
def PartsAt (W : World) (lo B : Nat) (v : Value) (pts : List Pt) : Prop :=
  ∃ g l, v = .slice (some ⟨g, 0, none⟩) pts.length pts.length ∧ lo ≤ g ∧ Blk W g 50 l.toArray ∧ AccL W lo B l pts
theorem PartsAt.stay {W W' : World} {lo B : Nat} {v : Value} {pts : List Pt} (h : PartsAt W lo B v pts) (hs : Stay lo W W') : PartsAt W' lo B v pts := by
  obtain ⟨g, l, e, hg, hb, ha⟩ := h
  exact ⟨g, l, e, hg, hb.stay hs hg, ha.stay hs⟩
theorem PartsAt.mono {W : World} {lo lo' B : Nat} {v : Value} {pts : List Pt} (h : PartsAt W lo B v pts) (hl : lo' ≤ lo) : PartsAt W lo' B v pts := by
  obtain ⟨g, l, e, hg, hb, ha⟩ := h
  exact ⟨g, l, e, by omega, hb, ha.mono hl⟩
theorem Acc.built {w W : World} {B : Nat} {l : List Value} {pts : List Pt} (h : Acc w B l pts W) {cs : Array Value} (hc : cs = l.toArray) {n : Nat} (hn : n = pts.length) :
    PartsAt (W.alloc (.cells cs 50)) w.heap.size B (.slice (some ⟨W.heap.size, 0, none⟩) n n) pts ∧ Below w.heap.size w (W.alloc (.cells cs 50)) := by
  subst hc hn
  exact ⟨⟨W.heap.size, l, rfl, h.1.size, Blk.new _ _ _, h.2.stay (fun b _ hb => Below.heap_alloc W _ b hb)⟩, h.1.alloc h.1.size _⟩
def GivesParts (w : World) (B : Nat) (pts : List Pt) (e : Ending) (w' : World) : Prop := ∃ v, e = .returned v ∧ PartsAt w' w.heap.size B v pts ∧ Below w.heap.size w w'
theorem number_who (B : Nat) (w : World) : Calls Tryd.prog 44 #[.pointer (some ⟨B, 4, none⟩)] w (MakesPart w B (.one .num .who)) := number_make .who B w
theorem number_pay (B : Nat) (w : World) : Calls Tryd.prog 44 #[.pointer (some ⟨B, 6, none⟩)] w (MakesPart w B (.one .num .pay)) := number_make .pay B w
theorem number_fee (B : Nat) (w : World) : Calls Tryd.prog 44 #[.pointer (some ⟨B, 8, none⟩)] w (MakesPart w B (.one .num .fee)) := number_make .fee B w
theorem number_item (B : Nat) (w : World) : Calls Tryd.prog 44 #[.pointer (some ⟨B, 2, none⟩)] w (MakesPart w B (.one .num .item)) := number_make .item B w
theorem number_box (B : Nat) (w : World) : Calls Tryd.prog 44 #[.pointer (some ⟨B, 3, none⟩)] w (MakesPart w B (.one .num .box)) := number_make .box B w
theorem way_dirp (B : Nat) (w : World) : Calls Tryd.prog 43 #[.pointer (some ⟨B, 1, none⟩)] w (MakesPart w B (.one .way .dir)) := way_make .dir B w
theorem nums_gives (B : Nat) (w : World) : Calls Tryd.prog 67 #[.pointer (some ⟨B, 5, none⟩)] w (MakesPart w B (.nums true)) := nums_make true B w
theorem nums_wants (B : Nat) (w : World) : Calls Tryd.prog 67 #[.pointer (some ⟨B, 7, none⟩)] w (MakesPart w B (.nums false)) := nums_make false B w
theorem word_give (B : Nat) (w : World) : Calls Tryd.prog 45 #[.string ⟨#[103, 105, 118, 101]⟩] w (MakesPart w B (.word sGive)) := word_make ⟨#[103, 105, 118, 101]⟩ B w
theorem word_coins (B : Nat) (w : World) : Calls Tryd.prog 45 #[.string ⟨#[99, 111, 105, 110, 115]⟩] w (MakesPart w B (.word sCoins)) := word_make ⟨#[99, 111, 105, 110, 115]⟩ B w
theorem word_for (B : Nat) (w : World) : Calls Tryd.prog 45 #[.string ⟨#[102, 111, 114]⟩] w (MakesPart w B (.word sFor)) := word_make ⟨#[102, 111, 114]⟩ B w
theorem word_in (B : Nat) (w : World) : Calls Tryd.prog 45 #[.string ⟨#[105, 110]⟩] w (MakesPart w B (.word sIn)) := word_make ⟨#[105, 110]⟩ B w
theorem word_from (B : Nat) (w : World) : Calls Tryd.prog 45 #[.string ⟨#[102, 114, 111, 109]⟩] w (MakesPart w B (.word sFrom)) := word_make ⟨#[102, 114, 111, 109]⟩ B w
theorem word_to (B : Nat) (w : World) : Calls Tryd.prog 45 #[.string ⟨#[116, 111]⟩] w (MakesPart w B (.word sTo)) := word_make ⟨#[116, 111]⟩ B w
/-- A trade's pieces. -/
def tradeP : List Pt := [.one .num .who, .word sGive, .nums true, .word sCoins, .one .num .pay, .word sFor, .nums false, .word sCoins, .one .num .fee]
set_option maxRecDepth 100000 in
set_option maxHeartbeats 2000000 in
theorem trade_make (B : Nat) (w : World) : Calls Tryd.prog 46 #[.pointer (some ⟨B, 0, none⟩)] w (GivesParts w B tradeP) := by
  have hM := Lib.hid (Acc.nild w B)
  go_enter Tryd.func46, Tryd.ntmps46
  go_wp2_with fail
  refine wp_region_noPanic ?_
  refine wp_region_held_drew (S := (fun _ => True)) (by kernel_rfl) (by (first | (trivial))) (fun hHeld => ?_)
  first
    | (refine wpAnyH_take (i := 0) (v := undef) (by simp only [List.getElem?_toArray, List.getElem?_cons_zero]; rfl) (by kernel_rfl) (by kernel_rfl) (by kernel_rfl) (fun _ _ _ h => h) (Or.inr ⟨by rfl, rfl⟩) (by assumption) ?_; try simp only [Act.put, List.setIfInBounds_toArray, List.set_cons_zero, List.set_cons_succ])
    | (refine wpAnyH_take (i := 0) (v := ?_) (by simp only [List.getElem?_toArray, List.getElem?_cons_zero]; rfl) (by kernel_rfl) (by kernel_rfl) (by kernel_rfl) (fun _ _ _ h => h) (Or.inl ⟨by rfl, ?_⟩) (by assumption) ?_
       rotate_left
       · (intro ww hSw; (try dsimp only at hSw); go_simp; (try with_reducible rfl))
       try simp only [Act.put, List.setIfInBounds_toArray, List.set_cons_zero, List.set_cons_succ])
    | (refine wpAnyH_ready (rs := [0]) (by kernel_rfl) (by simp) (AllReadyH.cons (by simp only [List.getElem?_toArray, List.getElem?_cons_succ, List.getElem?_cons_zero]; rfl) (fun K hK => ?_) AllReadyH.nil)
       go_simp
       first
         | (go_at_call 44; (first | (with_reducible refine (number_who B _).mono ?_) | (with_reducible refine (number_pay B _).mono ?_) | (with_reducible refine (number_fee B _).mono ?_)); rintro e w9 ⟨pv, tv, rfl, hp, hb⟩; obtain ⟨F, fs, G, gs, rfl, rfl⟩ := hp.funcs; replace hM := Lib.hid (hM.out.snoc hp hb); clear hp hb)
         | (go_at_call 67; (first | (with_reducible refine (nums_gives B _).mono ?_) | (with_reducible refine (nums_wants B _).mono ?_)); rintro e w9 ⟨pv, tv, rfl, hp, hb⟩; obtain ⟨F, fs, G, gs, rfl, rfl⟩ := hp.funcs; replace hM := Lib.hid (hM.out.snoc hp hb); clear hp hb)
         | (go_at_call 45; (first | (with_reducible refine (word_give B _).mono ?_) | (with_reducible refine (word_coins B _).mono ?_) | (with_reducible refine (word_for B _).mono ?_)); rintro e w9 ⟨pv, tv, rfl, hp, hb⟩; obtain ⟨F, fs, G, gs, rfl, rfl⟩ := hp.funcs; replace hM := Lib.hid (hM.out.snoc hp hb); clear hp hb)
         | (skip)
       try go_wp2_with fail
       refine hK.out _ _ (by (first | (trivial))) (fun hHeld => ?_)
       clear hK K
       try simp only [Act.put, List.setIfInBounds_toArray, List.set_cons_zero, List.set_cons_succ])
  first
    | (refine wpAnyH_take (i := 1) (v := undef) (by simp only [List.getElem?_toArray, List.getElem?_cons_succ, List.getElem?_cons_zero]; rfl) (by kernel_rfl) (by kernel_rfl) (by kernel_rfl) (fun _ _ _ h => h) (Or.inr ⟨by rfl, rfl⟩) (by assumption) ?_; try simp only [Act.put, List.setIfInBounds_toArray, List.set_cons_zero, List.set_cons_succ])
    | (refine wpAnyH_take (i := 1) (v := ?_) (by simp only [List.getElem?_toArray, List.getElem?_cons_succ, List.getElem?_cons_zero]; rfl) (by kernel_rfl) (by kernel_rfl) (by kernel_rfl) (fun _ _ _ h => h) (Or.inl ⟨by rfl, ?_⟩) (by assumption) ?_
       rotate_left
       · (intro ww hSw; (try dsimp only at hSw); go_simp; (try with_reducible rfl))
       try simp only [Act.put, List.setIfInBounds_toArray, List.set_cons_zero, List.set_cons_succ])
    | (refine wpAnyH_ready (rs := [1]) (by kernel_rfl) (by simp) (AllReadyH.cons (by simp only [List.getElem?_toArray, List.getElem?_cons_succ, List.getElem?_cons_zero]; rfl) (fun K hK => ?_) AllReadyH.nil)
       go_simp
       first
         | (go_at_call 44; (first | (with_reducible refine (number_who B _).mono ?_) | (with_reducible refine (number_pay B _).mono ?_) | (with_reducible refine (number_fee B _).mono ?_)); rintro e w9 ⟨pv, tv, rfl, hp, hb⟩; obtain ⟨F, fs, G, gs, rfl, rfl⟩ := hp.funcs; replace hM := Lib.hid (hM.out.snoc hp hb); clear hp hb)
         | (go_at_call 67; (first | (with_reducible refine (nums_gives B _).mono ?_) | (with_reducible refine (nums_wants B _).mono ?_)); rintro e w9 ⟨pv, tv, rfl, hp, hb⟩; obtain ⟨F, fs, G, gs, rfl, rfl⟩ := hp.funcs; replace hM := Lib.hid (hM.out.snoc hp hb); clear hp hb)
         | (go_at_call 45; (first | (with_reducible refine (word_give B _).mono ?_) | (with_reducible refine (word_coins B _).mono ?_) | (with_reducible refine (word_for B _).mono ?_)); rintro e w9 ⟨pv, tv, rfl, hp, hb⟩; obtain ⟨F, fs, G, gs, rfl, rfl⟩ := hp.funcs; replace hM := Lib.hid (hM.out.snoc hp hb); clear hp hb)
         | (skip)
       try go_wp2_with fail
       refine hK.out _ _ (by (first | (trivial))) (fun hHeld => ?_)
       clear hK K
       try simp only [Act.put, List.setIfInBounds_toArray, List.set_cons_zero, List.set_cons_succ])
  first
    | (refine wpAnyH_take (i := 2) (v := undef) (by simp only [List.getElem?_toArray, List.getElem?_cons_succ, List.getElem?_cons_zero]; rfl) (by kernel_rfl) (by kernel_rfl) (by kernel_rfl) (fun _ _ _ h => h) (Or.inr ⟨by rfl, rfl⟩) (by assumption) ?_; try simp only [Act.put, List.setIfInBounds_toArray, List.set_cons_zero, List.set_cons_succ])
    | (refine wpAnyH_take (i := 2) (v := ?_) (by simp only [List.getElem?_toArray, List.getElem?_cons_succ, List.getElem?_cons_zero]; rfl) (by kernel_rfl) (by kernel_rfl) (by kernel_rfl) (fun _ _ _ h => h) (Or.inl ⟨by rfl, ?_⟩) (by assumption) ?_
       rotate_left
       · (intro ww hSw; (try dsimp only at hSw); go_simp; (try with_reducible rfl))
       try simp only [Act.put, List.setIfInBounds_toArray, List.set_cons_zero, List.set_cons_succ])
    | (refine wpAnyH_ready (rs := [2]) (by kernel_rfl) (by simp) (AllReadyH.cons (by simp only [List.getElem?_toArray, List.getElem?_cons_succ, List.getElem?_cons_zero]; rfl) (fun K hK => ?_) AllReadyH.nil)
       go_simp
       first
         | (go_at_call 44; (first | (with_reducible refine (number_who B _).mono ?_) | (with_reducible refine (number_pay B _).mono ?_) | (with_reducible refine (number_fee B _).mono ?_)); rintro e w9 ⟨pv, tv, rfl, hp, hb⟩; obtain ⟨F, fs, G, gs, rfl, rfl⟩ := hp.funcs; replace hM := Lib.hid (hM.out.snoc hp hb); clear hp hb)
         | (go_at_call 67; (first | (with_reducible refine (nums_gives B _).mono ?_) | (with_reducible refine (nums_wants B _).mono ?_)); rintro e w9 ⟨pv, tv, rfl, hp, hb⟩; obtain ⟨F, fs, G, gs, rfl, rfl⟩ := hp.funcs; replace hM := Lib.hid (hM.out.snoc hp hb); clear hp hb)
         | (go_at_call 45; (first | (with_reducible refine (word_give B _).mono ?_) | (with_reducible refine (word_coins B _).mono ?_) | (with_reducible refine (word_for B _).mono ?_)); rintro e w9 ⟨pv, tv, rfl, hp, hb⟩; obtain ⟨F, fs, G, gs, rfl, rfl⟩ := hp.funcs; replace hM := Lib.hid (hM.out.snoc hp hb); clear hp hb)
         | (skip)
       try go_wp2_with fail
       refine hK.out _ _ (by (first | (trivial))) (fun hHeld => ?_)
       clear hK K
       try simp only [Act.put, List.setIfInBounds_toArray, List.set_cons_zero, List.set_cons_succ])
  first
    | (refine wpAnyH_take (i := 5) (v := undef) (by simp only [List.getElem?_toArray, List.getElem?_cons_succ, List.getElem?_cons_zero]; rfl) (by kernel_rfl) (by kernel_rfl) (by kernel_rfl) (fun _ _ _ h => h) (Or.inr ⟨by rfl, rfl⟩) (by assumption) ?_; try simp only [Act.put, List.setIfInBounds_toArray, List.set_cons_zero, List.set_cons_succ])
    | (refine wpAnyH_take (i := 5) (v := ?_) (by simp only [List.getElem?_toArray, List.getElem?_cons_succ, List.getElem?_cons_zero]; rfl) (by kernel_rfl) (by kernel_rfl) (by kernel_rfl) (fun _ _ _ h => h) (Or.inl ⟨by rfl, ?_⟩) (by assumption) ?_
       rotate_left
       · (intro ww hSw; (try dsimp only at hSw); go_simp; (try with_reducible rfl))
       try simp only [Act.put, List.setIfInBounds_toArray, List.set_cons_zero, List.set_cons_succ])
    | (refine wpAnyH_ready (rs := [5]) (by kernel_rfl) (by simp) (AllReadyH.cons (by simp only [List.getElem?_toArray, List.getElem?_cons_succ, List.getElem?_cons_zero]; rfl) (fun K hK => ?_) AllReadyH.nil)
       go_simp
       first
         | (go_at_call 44; (first | (with_reducible refine (number_who B _).mono ?_) | (with_reducible refine (number_pay B _).mono ?_) | (with_reducible refine (number_fee B _).mono ?_)); rintro e w9 ⟨pv, tv, rfl, hp, hb⟩; obtain ⟨F, fs, G, gs, rfl, rfl⟩ := hp.funcs; replace hM := Lib.hid (hM.out.snoc hp hb); clear hp hb)
         | (go_at_call 67; (first | (with_reducible refine (nums_gives B _).mono ?_) | (with_reducible refine (nums_wants B _).mono ?_)); rintro e w9 ⟨pv, tv, rfl, hp, hb⟩; obtain ⟨F, fs, G, gs, rfl, rfl⟩ := hp.funcs; replace hM := Lib.hid (hM.out.snoc hp hb); clear hp hb)
         | (go_at_call 45; (first | (with_reducible refine (word_give B _).mono ?_) | (with_reducible refine (word_coins B _).mono ?_) | (with_reducible refine (word_for B _).mono ?_)); rintro e w9 ⟨pv, tv, rfl, hp, hb⟩; obtain ⟨F, fs, G, gs, rfl, rfl⟩ := hp.funcs; replace hM := Lib.hid (hM.out.snoc hp hb); clear hp hb)
         | (skip)
       try go_wp2_with fail
       refine hK.out _ _ (by (first | (trivial))) (fun hHeld => ?_)
       clear hK K
       try simp only [Act.put, List.setIfInBounds_toArray, List.set_cons_zero, List.set_cons_succ])
  first
    | (refine wpAnyH_take (i := 6) (v := undef) (by simp only [List.getElem?_toArray, List.getElem?_cons_succ, List.getElem?_cons_zero]; rfl) (by kernel_rfl) (by kernel_rfl) (by kernel_rfl) (fun _ _ _ h => h) (Or.inr ⟨by rfl, rfl⟩) (by assumption) ?_; try simp only [Act.put, List.setIfInBounds_toArray, List.set_cons_zero, List.set_cons_succ])
    | (refine wpAnyH_take (i := 6) (v := ?_) (by simp only [List.getElem?_toArray, List.getElem?_cons_succ, List.getElem?_cons_zero]; rfl) (by kernel_rfl) (by kernel_rfl) (by kernel_rfl) (fun _ _ _ h => h) (Or.inl ⟨by rfl, ?_⟩) (by assumption) ?_
       rotate_left
       · (intro ww hSw; (try dsimp only at hSw); go_simp; (try with_reducible rfl))
       try simp only [Act.put, List.setIfInBounds_toArray, List.set_cons_zero, List.set_cons_succ])
    | (refine wpAnyH_ready (rs := [6]) (by kernel_rfl) (by simp) (AllReadyH.cons (by simp only [List.getElem?_toArray, List.getElem?_cons_succ, List.getElem?_cons_zero]; rfl) (fun K hK => ?_) AllReadyH.nil)
       go_simp
       first
         | (go_at_call 44; (first | (with_reducible refine (number_who B _).mono ?_) | (with_reducible refine (number_pay B _).mono ?_) | (with_reducible refine (number_fee B _).mono ?_)); rintro e w9 ⟨pv, tv, rfl, hp, hb⟩; obtain ⟨F, fs, G, gs, rfl, rfl⟩ := hp.funcs; replace hM := Lib.hid (hM.out.snoc hp hb); clear hp hb)
         | (go_at_call 67; (first | (with_reducible refine (nums_gives B _).mono ?_) | (with_reducible refine (nums_wants B _).mono ?_)); rintro e w9 ⟨pv, tv, rfl, hp, hb⟩; obtain ⟨F, fs, G, gs, rfl, rfl⟩ := hp.funcs; replace hM := Lib.hid (hM.out.snoc hp hb); clear hp hb)
         | (go_at_call 45; (first | (with_reducible refine (word_give B _).mono ?_) | (with_reducible refine (word_coins B _).mono ?_) | (with_reducible refine (word_for B _).mono ?_)); rintro e w9 ⟨pv, tv, rfl, hp, hb⟩; obtain ⟨F, fs, G, gs, rfl, rfl⟩ := hp.funcs; replace hM := Lib.hid (hM.out.snoc hp hb); clear hp hb)
         | (skip)
       try go_wp2_with fail
       refine hK.out _ _ (by (first | (trivial))) (fun hHeld => ?_)
       clear hK K
       try simp only [Act.put, List.setIfInBounds_toArray, List.set_cons_zero, List.set_cons_succ])
  first
    | (refine wpAnyH_take (i := 7) (v := undef) (by simp only [List.getElem?_toArray, List.getElem?_cons_succ, List.getElem?_cons_zero]; rfl) (by kernel_rfl) (by kernel_rfl) (by kernel_rfl) (fun _ _ _ h => h) (Or.inr ⟨by rfl, rfl⟩) (by assumption) ?_; try simp only [Act.put, List.setIfInBounds_toArray, List.set_cons_zero, List.set_cons_succ])
    | (refine wpAnyH_take (i := 7) (v := ?_) (by simp only [List.getElem?_toArray, List.getElem?_cons_succ, List.getElem?_cons_zero]; rfl) (by kernel_rfl) (by kernel_rfl) (by kernel_rfl) (fun _ _ _ h => h) (Or.inl ⟨by rfl, ?_⟩) (by assumption) ?_
       rotate_left
       · (intro ww hSw; (try dsimp only at hSw); go_simp; (try with_reducible rfl))
       try simp only [Act.put, List.setIfInBounds_toArray, List.set_cons_zero, List.set_cons_succ])
    | (refine wpAnyH_ready (rs := [7]) (by kernel_rfl) (by simp) (AllReadyH.cons (by simp only [List.getElem?_toArray, List.getElem?_cons_succ, List.getElem?_cons_zero]; rfl) (fun K hK => ?_) AllReadyH.nil)
       go_simp
       first
         | (go_at_call 44; (first | (with_reducible refine (number_who B _).mono ?_) | (with_reducible refine (number_pay B _).mono ?_) | (with_reducible refine (number_fee B _).mono ?_)); rintro e w9 ⟨pv, tv, rfl, hp, hb⟩; obtain ⟨F, fs, G, gs, rfl, rfl⟩ := hp.funcs; replace hM := Lib.hid (hM.out.snoc hp hb); clear hp hb)
         | (go_at_call 67; (first | (with_reducible refine (nums_gives B _).mono ?_) | (with_reducible refine (nums_wants B _).mono ?_)); rintro e w9 ⟨pv, tv, rfl, hp, hb⟩; obtain ⟨F, fs, G, gs, rfl, rfl⟩ := hp.funcs; replace hM := Lib.hid (hM.out.snoc hp hb); clear hp hb)
         | (go_at_call 45; (first | (with_reducible refine (word_give B _).mono ?_) | (with_reducible refine (word_coins B _).mono ?_) | (with_reducible refine (word_for B _).mono ?_)); rintro e w9 ⟨pv, tv, rfl, hp, hb⟩; obtain ⟨F, fs, G, gs, rfl, rfl⟩ := hp.funcs; replace hM := Lib.hid (hM.out.snoc hp hb); clear hp hb)
         | (skip)
       try go_wp2_with fail
       refine hK.out _ _ (by (first | (trivial))) (fun hHeld => ?_)
       clear hK K
       try simp only [Act.put, List.setIfInBounds_toArray, List.set_cons_zero, List.set_cons_succ])
  first
    | (refine wpAnyH_take (i := 10) (v := undef) (by simp only [List.getElem?_toArray, List.getElem?_cons_succ, List.getElem?_cons_zero]; rfl) (by kernel_rfl) (by kernel_rfl) (by kernel_rfl) (fun _ _ _ h => h) (Or.inr ⟨by rfl, rfl⟩) (by assumption) ?_; try simp only [Act.put, List.setIfInBounds_toArray, List.set_cons_zero, List.set_cons_succ])
    | (refine wpAnyH_take (i := 10) (v := ?_) (by simp only [List.getElem?_toArray, List.getElem?_cons_succ, List.getElem?_cons_zero]; rfl) (by kernel_rfl) (by kernel_rfl) (by kernel_rfl) (fun _ _ _ h => h) (Or.inl ⟨by rfl, ?_⟩) (by assumption) ?_
       rotate_left
       · (intro ww hSw; (try dsimp only at hSw); go_simp; (try with_reducible rfl))
       try simp only [Act.put, List.setIfInBounds_toArray, List.set_cons_zero, List.set_cons_succ])
    | (refine wpAnyH_ready (rs := [10]) (by kernel_rfl) (by simp) (AllReadyH.cons (by simp only [List.getElem?_toArray, List.getElem?_cons_succ, List.getElem?_cons_zero]; rfl) (fun K hK => ?_) AllReadyH.nil)
       go_simp
       first
         | (go_at_call 44; (first | (with_reducible refine (number_who B _).mono ?_) | (with_reducible refine (number_pay B _).mono ?_) | (with_reducible refine (number_fee B _).mono ?_)); rintro e w9 ⟨pv, tv, rfl, hp, hb⟩; obtain ⟨F, fs, G, gs, rfl, rfl⟩ := hp.funcs; replace hM := Lib.hid (hM.out.snoc hp hb); clear hp hb)
         | (go_at_call 67; (first | (with_reducible refine (nums_gives B _).mono ?_) | (with_reducible refine (nums_wants B _).mono ?_)); rintro e w9 ⟨pv, tv, rfl, hp, hb⟩; obtain ⟨F, fs, G, gs, rfl, rfl⟩ := hp.funcs; replace hM := Lib.hid (hM.out.snoc hp hb); clear hp hb)
         | (go_at_call 45; (first | (with_reducible refine (word_give B _).mono ?_) | (with_reducible refine (word_coins B _).mono ?_) | (with_reducible refine (word_for B _).mono ?_)); rintro e w9 ⟨pv, tv, rfl, hp, hb⟩; obtain ⟨F, fs, G, gs, rfl, rfl⟩ := hp.funcs; replace hM := Lib.hid (hM.out.snoc hp hb); clear hp hb)
         | (skip)
       try go_wp2_with fail
       refine hK.out _ _ (by (first | (trivial))) (fun hHeld => ?_)
       clear hK K
       try simp only [Act.put, List.setIfInBounds_toArray, List.set_cons_zero, List.set_cons_succ])
  first
    | (refine wpAnyH_take (i := 11) (v := undef) (by simp only [List.getElem?_toArray, List.getElem?_cons_succ, List.getElem?_cons_zero]; rfl) (by kernel_rfl) (by kernel_rfl) (by kernel_rfl) (fun _ _ _ h => h) (Or.inr ⟨by rfl, rfl⟩) (by assumption) ?_; try simp only [Act.put, List.setIfInBounds_toArray, List.set_cons_zero, List.set_cons_succ])
    | (refine wpAnyH_take (i := 11) (v := ?_) (by simp only [List.getElem?_toArray, List.getElem?_cons_succ, List.getElem?_cons_zero]; rfl) (by kernel_rfl) (by kernel_rfl) (by kernel_rfl) (fun _ _ _ h => h) (Or.inl ⟨by rfl, ?_⟩) (by assumption) ?_
       rotate_left
       · (intro ww hSw; (try dsimp only at hSw); go_simp; (try with_reducible rfl))
       try simp only [Act.put, List.setIfInBounds_toArray, List.set_cons_zero, List.set_cons_succ])
    | (refine wpAnyH_ready (rs := [11]) (by kernel_rfl) (by simp) (AllReadyH.cons (by simp only [List.getElem?_toArray, List.getElem?_cons_succ, List.getElem?_cons_zero]; rfl) (fun K hK => ?_) AllReadyH.nil)
       go_simp
       first
         | (go_at_call 44; (first | (with_reducible refine (number_who B _).mono ?_) | (with_reducible refine (number_pay B _).mono ?_) | (with_reducible refine (number_fee B _).mono ?_)); rintro e w9 ⟨pv, tv, rfl, hp, hb⟩; obtain ⟨F, fs, G, gs, rfl, rfl⟩ := hp.funcs; replace hM := Lib.hid (hM.out.snoc hp hb); clear hp hb)
         | (go_at_call 67; (first | (with_reducible refine (nums_gives B _).mono ?_) | (with_reducible refine (nums_wants B _).mono ?_)); rintro e w9 ⟨pv, tv, rfl, hp, hb⟩; obtain ⟨F, fs, G, gs, rfl, rfl⟩ := hp.funcs; replace hM := Lib.hid (hM.out.snoc hp hb); clear hp hb)
         | (go_at_call 45; (first | (with_reducible refine (word_give B _).mono ?_) | (with_reducible refine (word_coins B _).mono ?_) | (with_reducible refine (word_for B _).mono ?_)); rintro e w9 ⟨pv, tv, rfl, hp, hb⟩; obtain ⟨F, fs, G, gs, rfl, rfl⟩ := hp.funcs; replace hM := Lib.hid (hM.out.snoc hp hb); clear hp hb)
         | (skip)
       try go_wp2_with fail
       refine hK.out _ _ (by (first | (trivial))) (fun hHeld => ?_)
       clear hK K
       try simp only [Act.put, List.setIfInBounds_toArray, List.set_cons_zero, List.set_cons_succ])
  first
    | (refine wpAnyH_take (i := 12) (v := undef) (by simp only [List.getElem?_toArray, List.getElem?_cons_succ, List.getElem?_cons_zero]; rfl) (by kernel_rfl) (by kernel_rfl) (by kernel_rfl) (fun _ _ _ h => h) (Or.inr ⟨by rfl, rfl⟩) (by assumption) ?_; try simp only [Act.put, List.setIfInBounds_toArray, List.set_cons_zero, List.set_cons_succ])
    | (refine wpAnyH_take (i := 12) (v := ?_) (by simp only [List.getElem?_toArray, List.getElem?_cons_succ, List.getElem?_cons_zero]; rfl) (by kernel_rfl) (by kernel_rfl) (by kernel_rfl) (fun _ _ _ h => h) (Or.inl ⟨by rfl, ?_⟩) (by assumption) ?_
       rotate_left
       · (intro ww hSw; (try dsimp only at hSw); go_simp; (try with_reducible rfl))
       try simp only [Act.put, List.setIfInBounds_toArray, List.set_cons_zero, List.set_cons_succ])
    | (refine wpAnyH_ready (rs := [12]) (by kernel_rfl) (by simp) (AllReadyH.cons (by simp only [List.getElem?_toArray, List.getElem?_cons_succ, List.getElem?_cons_zero]; rfl) (fun K hK => ?_) AllReadyH.nil)
       go_simp
       first
         | (go_at_call 44; (first | (with_reducible refine (number_who B _).mono ?_) | (with_reducible refine (number_pay B _).mono ?_) | (with_reducible refine (number_fee B _).mono ?_)); rintro e w9 ⟨pv, tv, rfl, hp, hb⟩; obtain ⟨F, fs, G, gs, rfl, rfl⟩ := hp.funcs; replace hM := Lib.hid (hM.out.snoc hp hb); clear hp hb)
         | (go_at_call 67; (first | (with_reducible refine (nums_gives B _).mono ?_) | (with_reducible refine (nums_wants B _).mono ?_)); rintro e w9 ⟨pv, tv, rfl, hp, hb⟩; obtain ⟨F, fs, G, gs, rfl, rfl⟩ := hp.funcs; replace hM := Lib.hid (hM.out.snoc hp hb); clear hp hb)
         | (go_at_call 45; (first | (with_reducible refine (word_give B _).mono ?_) | (with_reducible refine (word_coins B _).mono ?_) | (with_reducible refine (word_for B _).mono ?_)); rintro e w9 ⟨pv, tv, rfl, hp, hb⟩; obtain ⟨F, fs, G, gs, rfl, rfl⟩ := hp.funcs; replace hM := Lib.hid (hM.out.snoc hp hb); clear hp hb)
         | (skip)
       try go_wp2_with fail
       refine hK.out _ _ (by (first | (trivial))) (fun hHeld => ?_)
       clear hK K
       try simp only [Act.put, List.setIfInBounds_toArray, List.set_cons_zero, List.set_cons_succ])
  first
    | (refine wpAnyH_take (i := 15) (v := undef) (by simp only [List.getElem?_toArray, List.getElem?_cons_succ, List.getElem?_cons_zero]; rfl) (by kernel_rfl) (by kernel_rfl) (by kernel_rfl) (fun _ _ _ h => h) (Or.inr ⟨by rfl, rfl⟩) (by assumption) ?_; try simp only [Act.put, List.setIfInBounds_toArray, List.set_cons_zero, List.set_cons_succ])
    | (refine wpAnyH_take (i := 15) (v := ?_) (by simp only [List.getElem?_toArray, List.getElem?_cons_succ, List.getElem?_cons_zero]; rfl) (by kernel_rfl) (by kernel_rfl) (by kernel_rfl) (fun _ _ _ h => h) (Or.inl ⟨by rfl, ?_⟩) (by assumption) ?_
       rotate_left
       · (intro ww hSw; (try dsimp only at hSw); go_simp; (try with_reducible rfl))
       try simp only [Act.put, List.setIfInBounds_toArray, List.set_cons_zero, List.set_cons_succ])
    | (refine wpAnyH_ready (rs := [15]) (by kernel_rfl) (by simp) (AllReadyH.cons (by simp only [List.getElem?_toArray, List.getElem?_cons_succ, List.getElem?_cons_zero]; rfl) (fun K hK => ?_) AllReadyH.nil)
       go_simp
       first
         | (go_at_call 44; (first | (with_reducible refine (number_who B _).mono ?_) | (with_reducible refine (number_pay B _).mono ?_) | (with_reducible refine (number_fee B _).mono ?_)); rintro e w9 ⟨pv, tv, rfl, hp, hb⟩; obtain ⟨F, fs, G, gs, rfl, rfl⟩ := hp.funcs; replace hM := Lib.hid (hM.out.snoc hp hb); clear hp hb)
         | (go_at_call 67; (first | (with_reducible refine (nums_gives B _).mono ?_) | (with_reducible refine (nums_wants B _).mono ?_)); rintro e w9 ⟨pv, tv, rfl, hp, hb⟩; obtain ⟨F, fs, G, gs, rfl, rfl⟩ := hp.funcs; replace hM := Lib.hid (hM.out.snoc hp hb); clear hp hb)
         | (go_at_call 45; (first | (with_reducible refine (word_give B _).mono ?_) | (with_reducible refine (word_coins B _).mono ?_) | (with_reducible refine (word_for B _).mono ?_)); rintro e w9 ⟨pv, tv, rfl, hp, hb⟩; obtain ⟨F, fs, G, gs, rfl, rfl⟩ := hp.funcs; replace hM := Lib.hid (hM.out.snoc hp hb); clear hp hb)
         | (skip)
       try go_wp2_with fail
       refine hK.out _ _ (by (first | (trivial))) (fun hHeld => ?_)
       clear hK K
       try simp only [Act.put, List.setIfInBounds_toArray, List.set_cons_zero, List.set_cons_succ])
  first
    | (refine wpAnyH_take (i := 16) (v := undef) (by simp only [List.getElem?_toArray, List.getElem?_cons_succ, List.getElem?_cons_zero]; rfl) (by kernel_rfl) (by kernel_rfl) (by kernel_rfl) (fun _ _ _ h => h) (Or.inr ⟨by rfl, rfl⟩) (by assumption) ?_; try simp only [Act.put, List.setIfInBounds_toArray, List.set_cons_zero, List.set_cons_succ])
    | (refine wpAnyH_take (i := 16) (v := ?_) (by simp only [List.getElem?_toArray, List.getElem?_cons_succ, List.getElem?_cons_zero]; rfl) (by kernel_rfl) (by kernel_rfl) (by kernel_rfl) (fun _ _ _ h => h) (Or.inl ⟨by rfl, ?_⟩) (by assumption) ?_
       rotate_left
       · (intro ww hSw; (try dsimp only at hSw); go_simp; (try with_reducible rfl))
       try simp only [Act.put, List.setIfInBounds_toArray, List.set_cons_zero, List.set_cons_succ])
    | (refine wpAnyH_ready (rs := [16]) (by kernel_rfl) (by simp) (AllReadyH.cons (by simp only [List.getElem?_toArray, List.getElem?_cons_succ, List.getElem?_cons_zero]; rfl) (fun K hK => ?_) AllReadyH.nil)
       go_simp
       first
         | (go_at_call 44; (first | (with_reducible refine (number_who B _).mono ?_) | (with_reducible refine (number_pay B _).mono ?_) | (with_reducible refine (number_fee B _).mono ?_)); rintro e w9 ⟨pv, tv, rfl, hp, hb⟩; obtain ⟨F, fs, G, gs, rfl, rfl⟩ := hp.funcs; replace hM := Lib.hid (hM.out.snoc hp hb); clear hp hb)
         | (go_at_call 67; (first | (with_reducible refine (nums_gives B _).mono ?_) | (with_reducible refine (nums_wants B _).mono ?_)); rintro e w9 ⟨pv, tv, rfl, hp, hb⟩; obtain ⟨F, fs, G, gs, rfl, rfl⟩ := hp.funcs; replace hM := Lib.hid (hM.out.snoc hp hb); clear hp hb)
         | (go_at_call 45; (first | (with_reducible refine (word_give B _).mono ?_) | (with_reducible refine (word_coins B _).mono ?_) | (with_reducible refine (word_for B _).mono ?_)); rintro e w9 ⟨pv, tv, rfl, hp, hb⟩; obtain ⟨F, fs, G, gs, rfl, rfl⟩ := hp.funcs; replace hM := Lib.hid (hM.out.snoc hp hb); clear hp hb)
         | (skip)
       try go_wp2_with fail
       refine hK.out _ _ (by (first | (trivial))) (fun hHeld => ?_)
       clear hK K
       try simp only [Act.put, List.setIfInBounds_toArray, List.set_cons_zero, List.set_cons_succ])
  first
    | (refine wpAnyH_take (i := 17) (v := undef) (by simp only [List.getElem?_toArray, List.getElem?_cons_succ, List.getElem?_cons_zero]; rfl) (by kernel_rfl) (by kernel_rfl) (by kernel_rfl) (fun _ _ _ h => h) (Or.inr ⟨by rfl, rfl⟩) (by assumption) ?_; try simp only [Act.put, List.setIfInBounds_toArray, List.set_cons_zero, List.set_cons_succ])
    | (refine wpAnyH_take (i := 17) (v := ?_) (by simp only [List.getElem?_toArray, List.getElem?_cons_succ, List.getElem?_cons_zero]; rfl) (by kernel_rfl) (by kernel_rfl) (by kernel_rfl) (fun _ _ _ h => h) (Or.inl ⟨by rfl, ?_⟩) (by assumption) ?_
       rotate_left
       · (intro ww hSw; (try dsimp only at hSw); go_simp; (try with_reducible rfl))
       try simp only [Act.put, List.setIfInBounds_toArray, List.set_cons_zero, List.set_cons_succ])
    | (refine wpAnyH_ready (rs := [17]) (by kernel_rfl) (by simp) (AllReadyH.cons (by simp only [List.getElem?_toArray, List.getElem?_cons_succ, List.getElem?_cons_zero]; rfl) (fun K hK => ?_) AllReadyH.nil)
       go_simp
       first
         | (go_at_call 44; (first | (with_reducible refine (number_who B _).mono ?_) | (with_reducible refine (number_pay B _).mono ?_) | (with_reducible refine (number_fee B _).mono ?_)); rintro e w9 ⟨pv, tv, rfl, hp, hb⟩; obtain ⟨F, fs, G, gs, rfl, rfl⟩ := hp.funcs; replace hM := Lib.hid (hM.out.snoc hp hb); clear hp hb)
         | (go_at_call 67; (first | (with_reducible refine (nums_gives B _).mono ?_) | (with_reducible refine (nums_wants B _).mono ?_)); rintro e w9 ⟨pv, tv, rfl, hp, hb⟩; obtain ⟨F, fs, G, gs, rfl, rfl⟩ := hp.funcs; replace hM := Lib.hid (hM.out.snoc hp hb); clear hp hb)
         | (go_at_call 45; (first | (with_reducible refine (word_give B _).mono ?_) | (with_reducible refine (word_coins B _).mono ?_) | (with_reducible refine (word_for B _).mono ?_)); rintro e w9 ⟨pv, tv, rfl, hp, hb⟩; obtain ⟨F, fs, G, gs, rfl, rfl⟩ := hp.funcs; replace hM := Lib.hid (hM.out.snoc hp hb); clear hp hb)
         | (skip)
       try go_wp2_with fail
       refine hK.out _ _ (by (first | (trivial))) (fun hHeld => ?_)
       clear hK K
       try simp only [Act.put, List.setIfInBounds_toArray, List.set_cons_zero, List.set_cons_succ])
  first
    | (refine wpAnyH_take (i := 20) (v := undef) (by simp only [List.getElem?_toArray, List.getElem?_cons_succ, List.getElem?_cons_zero]; rfl) (by kernel_rfl) (by kernel_rfl) (by kernel_rfl) (fun _ _ _ h => h) (Or.inr ⟨by rfl, rfl⟩) (by assumption) ?_; try simp only [Act.put, List.setIfInBounds_toArray, List.set_cons_zero, List.set_cons_succ])
    | (refine wpAnyH_take (i := 20) (v := ?_) (by simp only [List.getElem?_toArray, List.getElem?_cons_succ, List.getElem?_cons_zero]; rfl) (by kernel_rfl) (by kernel_rfl) (by kernel_rfl) (fun _ _ _ h => h) (Or.inl ⟨by rfl, ?_⟩) (by assumption) ?_
       rotate_left
       · (intro ww hSw; (try dsimp only at hSw); go_simp; (try with_reducible rfl))
       try simp only [Act.put, List.setIfInBounds_toArray, List.set_cons_zero, List.set_cons_succ])
    | (refine wpAnyH_ready (rs := [20]) (by kernel_rfl) (by simp) (AllReadyH.cons (by simp only [List.getElem?_toArray, List.getElem?_cons_succ, List.getElem?_cons_zero]; rfl) (fun K hK => ?_) AllReadyH.nil)
       go_simp
       first
         | (go_at_call 44; (first | (with_reducible refine (number_who B _).mono ?_) | (with_reducible refine (number_pay B _).mono ?_) | (with_reducible refine (number_fee B _).mono ?_)); rintro e w9 ⟨pv, tv, rfl, hp, hb⟩; obtain ⟨F, fs, G, gs, rfl, rfl⟩ := hp.funcs; replace hM := Lib.hid (hM.out.snoc hp hb); clear hp hb)
         | (go_at_call 67; (first | (with_reducible refine (nums_gives B _).mono ?_) | (with_reducible refine (nums_wants B _).mono ?_)); rintro e w9 ⟨pv, tv, rfl, hp, hb⟩; obtain ⟨F, fs, G, gs, rfl, rfl⟩ := hp.funcs; replace hM := Lib.hid (hM.out.snoc hp hb); clear hp hb)
         | (go_at_call 45; (first | (with_reducible refine (word_give B _).mono ?_) | (with_reducible refine (word_coins B _).mono ?_) | (with_reducible refine (word_for B _).mono ?_)); rintro e w9 ⟨pv, tv, rfl, hp, hb⟩; obtain ⟨F, fs, G, gs, rfl, rfl⟩ := hp.funcs; replace hM := Lib.hid (hM.out.snoc hp hb); clear hp hb)
         | (skip)
       try go_wp2_with fail
       refine hK.out _ _ (by (first | (trivial))) (fun hHeld => ?_)
       clear hK K
       try simp only [Act.put, List.setIfInBounds_toArray, List.set_cons_zero, List.set_cons_succ])
  first
    | (refine wpAnyH_take (i := 21) (v := undef) (by simp only [List.getElem?_toArray, List.getElem?_cons_succ, List.getElem?_cons_zero]; rfl) (by kernel_rfl) (by kernel_rfl) (by kernel_rfl) (fun _ _ _ h => h) (Or.inr ⟨by rfl, rfl⟩) (by assumption) ?_; try simp only [Act.put, List.setIfInBounds_toArray, List.set_cons_zero, List.set_cons_succ])
    | (refine wpAnyH_take (i := 21) (v := ?_) (by simp only [List.getElem?_toArray, List.getElem?_cons_succ, List.getElem?_cons_zero]; rfl) (by kernel_rfl) (by kernel_rfl) (by kernel_rfl) (fun _ _ _ h => h) (Or.inl ⟨by rfl, ?_⟩) (by assumption) ?_
       rotate_left
       · (intro ww hSw; (try dsimp only at hSw); go_simp; (try with_reducible rfl))
       try simp only [Act.put, List.setIfInBounds_toArray, List.set_cons_zero, List.set_cons_succ])
    | (refine wpAnyH_ready (rs := [21]) (by kernel_rfl) (by simp) (AllReadyH.cons (by simp only [List.getElem?_toArray, List.getElem?_cons_succ, List.getElem?_cons_zero]; rfl) (fun K hK => ?_) AllReadyH.nil)
       go_simp
       first
         | (go_at_call 44; (first | (with_reducible refine (number_who B _).mono ?_) | (with_reducible refine (number_pay B _).mono ?_) | (with_reducible refine (number_fee B _).mono ?_)); rintro e w9 ⟨pv, tv, rfl, hp, hb⟩; obtain ⟨F, fs, G, gs, rfl, rfl⟩ := hp.funcs; replace hM := Lib.hid (hM.out.snoc hp hb); clear hp hb)
         | (go_at_call 67; (first | (with_reducible refine (nums_gives B _).mono ?_) | (with_reducible refine (nums_wants B _).mono ?_)); rintro e w9 ⟨pv, tv, rfl, hp, hb⟩; obtain ⟨F, fs, G, gs, rfl, rfl⟩ := hp.funcs; replace hM := Lib.hid (hM.out.snoc hp hb); clear hp hb)
         | (go_at_call 45; (first | (with_reducible refine (word_give B _).mono ?_) | (with_reducible refine (word_coins B _).mono ?_) | (with_reducible refine (word_for B _).mono ?_)); rintro e w9 ⟨pv, tv, rfl, hp, hb⟩; obtain ⟨F, fs, G, gs, rfl, rfl⟩ := hp.funcs; replace hM := Lib.hid (hM.out.snoc hp hb); clear hp hb)
         | (skip)
       try go_wp2_with fail
       refine hK.out _ _ (by (first | (trivial))) (fun hHeld => ?_)
       clear hK K
       try simp only [Act.put, List.setIfInBounds_toArray, List.set_cons_zero, List.set_cons_succ])
  first
    | (refine wpAnyH_take (i := 22) (v := undef) (by simp only [List.getElem?_toArray, List.getElem?_cons_succ, List.getElem?_cons_zero]; rfl) (by kernel_rfl) (by kernel_rfl) (by kernel_rfl) (fun _ _ _ h => h) (Or.inr ⟨by rfl, rfl⟩) (by assumption) ?_; try simp only [Act.put, List.setIfInBounds_toArray, List.set_cons_zero, List.set_cons_succ])
    | (refine wpAnyH_take (i := 22) (v := ?_) (by simp only [List.getElem?_toArray, List.getElem?_cons_succ, List.getElem?_cons_zero]; rfl) (by kernel_rfl) (by kernel_rfl) (by kernel_rfl) (fun _ _ _ h => h) (Or.inl ⟨by rfl, ?_⟩) (by assumption) ?_
       rotate_left
       · (intro ww hSw; (try dsimp only at hSw); go_simp; (try with_reducible rfl))
       try simp only [Act.put, List.setIfInBounds_toArray, List.set_cons_zero, List.set_cons_succ])
    | (refine wpAnyH_ready (rs := [22]) (by kernel_rfl) (by simp) (AllReadyH.cons (by simp only [List.getElem?_toArray, List.getElem?_cons_succ, List.getElem?_cons_zero]; rfl) (fun K hK => ?_) AllReadyH.nil)
       go_simp
       first
         | (go_at_call 44; (first | (with_reducible refine (number_who B _).mono ?_) | (with_reducible refine (number_pay B _).mono ?_) | (with_reducible refine (number_fee B _).mono ?_)); rintro e w9 ⟨pv, tv, rfl, hp, hb⟩; obtain ⟨F, fs, G, gs, rfl, rfl⟩ := hp.funcs; replace hM := Lib.hid (hM.out.snoc hp hb); clear hp hb)
         | (go_at_call 67; (first | (with_reducible refine (nums_gives B _).mono ?_) | (with_reducible refine (nums_wants B _).mono ?_)); rintro e w9 ⟨pv, tv, rfl, hp, hb⟩; obtain ⟨F, fs, G, gs, rfl, rfl⟩ := hp.funcs; replace hM := Lib.hid (hM.out.snoc hp hb); clear hp hb)
         | (go_at_call 45; (first | (with_reducible refine (word_give B _).mono ?_) | (with_reducible refine (word_coins B _).mono ?_) | (with_reducible refine (word_for B _).mono ?_)); rintro e w9 ⟨pv, tv, rfl, hp, hb⟩; obtain ⟨F, fs, G, gs, rfl, rfl⟩ := hp.funcs; replace hM := Lib.hid (hM.out.snoc hp hb); clear hp hb)
         | (skip)
       try go_wp2_with fail
       refine hK.out _ _ (by (first | (trivial))) (fun hHeld => ?_)
       clear hK K
       try simp only [Act.put, List.setIfInBounds_toArray, List.set_cons_zero, List.set_cons_succ])
  first
    | (refine wpAnyH_take (i := 3) (v := undef) (by simp only [List.getElem?_toArray, List.getElem?_cons_succ, List.getElem?_cons_zero]; rfl) (by kernel_rfl) (by kernel_rfl) (by kernel_rfl) (fun _ _ _ h => h) (Or.inr ⟨by rfl, rfl⟩) (by assumption) ?_; try simp only [Act.put, List.setIfInBounds_toArray, List.set_cons_zero, List.set_cons_succ])
    | (refine wpAnyH_take (i := 3) (v := ?_) (by simp only [List.getElem?_toArray, List.getElem?_cons_succ, List.getElem?_cons_zero]; rfl) (by kernel_rfl) (by kernel_rfl) (by kernel_rfl) (fun _ _ _ h => h) (Or.inl ⟨by rfl, ?_⟩) (by assumption) ?_
       rotate_left
       · (intro ww hSw; (try dsimp only at hSw); go_simp; (try with_reducible rfl))
       try simp only [Act.put, List.setIfInBounds_toArray, List.set_cons_zero, List.set_cons_succ])
    | (refine wpAnyH_ready (rs := [3]) (by kernel_rfl) (by simp) (AllReadyH.cons (by simp only [List.getElem?_toArray, List.getElem?_cons_succ, List.getElem?_cons_zero]; rfl) (fun K hK => ?_) AllReadyH.nil)
       go_simp
       first
         | (go_at_call 44; (first | (with_reducible refine (number_who B _).mono ?_) | (with_reducible refine (number_pay B _).mono ?_) | (with_reducible refine (number_fee B _).mono ?_)); rintro e w9 ⟨pv, tv, rfl, hp, hb⟩; obtain ⟨F, fs, G, gs, rfl, rfl⟩ := hp.funcs; replace hM := Lib.hid (hM.out.snoc hp hb); clear hp hb)
         | (go_at_call 67; (first | (with_reducible refine (nums_gives B _).mono ?_) | (with_reducible refine (nums_wants B _).mono ?_)); rintro e w9 ⟨pv, tv, rfl, hp, hb⟩; obtain ⟨F, fs, G, gs, rfl, rfl⟩ := hp.funcs; replace hM := Lib.hid (hM.out.snoc hp hb); clear hp hb)
         | (go_at_call 45; (first | (with_reducible refine (word_give B _).mono ?_) | (with_reducible refine (word_coins B _).mono ?_) | (with_reducible refine (word_for B _).mono ?_)); rintro e w9 ⟨pv, tv, rfl, hp, hb⟩; obtain ⟨F, fs, G, gs, rfl, rfl⟩ := hp.funcs; replace hM := Lib.hid (hM.out.snoc hp hb); clear hp hb)
         | (skip)
       try go_wp2_with fail
       refine hK.out _ _ (by (first | (trivial))) (fun hHeld => ?_)
       clear hK K
       try simp only [Act.put, List.setIfInBounds_toArray, List.set_cons_zero, List.set_cons_succ])
  first
    | (refine wpAnyH_take (i := 4) (v := undef) (by simp only [List.getElem?_toArray, List.getElem?_cons_succ, List.getElem?_cons_zero]; rfl) (by kernel_rfl) (by kernel_rfl) (by kernel_rfl) (fun _ _ _ h => h) (Or.inr ⟨by rfl, rfl⟩) (by assumption) ?_; try simp only [Act.put, List.setIfInBounds_toArray, List.set_cons_zero, List.set_cons_succ])
    | (refine wpAnyH_take (i := 4) (v := ?_) (by simp only [List.getElem?_toArray, List.getElem?_cons_succ, List.getElem?_cons_zero]; rfl) (by kernel_rfl) (by kernel_rfl) (by kernel_rfl) (fun _ _ _ h => h) (Or.inl ⟨by rfl, ?_⟩) (by assumption) ?_
       rotate_left
       · (intro ww hSw; (try dsimp only at hSw); go_simp; (try with_reducible rfl))
       try simp only [Act.put, List.setIfInBounds_toArray, List.set_cons_zero, List.set_cons_succ])
    | (refine wpAnyH_ready (rs := [4]) (by kernel_rfl) (by simp) (AllReadyH.cons (by simp only [List.getElem?_toArray, List.getElem?_cons_succ, List.getElem?_cons_zero]; rfl) (fun K hK => ?_) AllReadyH.nil)
       go_simp
       first
         | (go_at_call 44; (first | (with_reducible refine (number_who B _).mono ?_) | (with_reducible refine (number_pay B _).mono ?_) | (with_reducible refine (number_fee B _).mono ?_)); rintro e w9 ⟨pv, tv, rfl, hp, hb⟩; obtain ⟨F, fs, G, gs, rfl, rfl⟩ := hp.funcs; replace hM := Lib.hid (hM.out.snoc hp hb); clear hp hb)
         | (go_at_call 67; (first | (with_reducible refine (nums_gives B _).mono ?_) | (with_reducible refine (nums_wants B _).mono ?_)); rintro e w9 ⟨pv, tv, rfl, hp, hb⟩; obtain ⟨F, fs, G, gs, rfl, rfl⟩ := hp.funcs; replace hM := Lib.hid (hM.out.snoc hp hb); clear hp hb)
         | (go_at_call 45; (first | (with_reducible refine (word_give B _).mono ?_) | (with_reducible refine (word_coins B _).mono ?_) | (with_reducible refine (word_for B _).mono ?_)); rintro e w9 ⟨pv, tv, rfl, hp, hb⟩; obtain ⟨F, fs, G, gs, rfl, rfl⟩ := hp.funcs; replace hM := Lib.hid (hM.out.snoc hp hb); clear hp hb)
         | (skip)
       try go_wp2_with fail
       refine hK.out _ _ (by (first | (trivial))) (fun hHeld => ?_)
       clear hK K
       try simp only [Act.put, List.setIfInBounds_toArray, List.set_cons_zero, List.set_cons_succ])
  first
    | (refine wpAnyH_take (i := 8) (v := undef) (by simp only [List.getElem?_toArray, List.getElem?_cons_succ, List.getElem?_cons_zero]; rfl) (by kernel_rfl) (by kernel_rfl) (by kernel_rfl) (fun _ _ _ h => h) (Or.inr ⟨by rfl, rfl⟩) (by assumption) ?_; try simp only [Act.put, List.setIfInBounds_toArray, List.set_cons_zero, List.set_cons_succ])
    | (refine wpAnyH_take (i := 8) (v := ?_) (by simp only [List.getElem?_toArray, List.getElem?_cons_succ, List.getElem?_cons_zero]; rfl) (by kernel_rfl) (by kernel_rfl) (by kernel_rfl) (fun _ _ _ h => h) (Or.inl ⟨by rfl, ?_⟩) (by assumption) ?_
       rotate_left
       · (intro ww hSw; (try dsimp only at hSw); go_simp; (try with_reducible rfl))
       try simp only [Act.put, List.setIfInBounds_toArray, List.set_cons_zero, List.set_cons_succ])
    | (refine wpAnyH_ready (rs := [8]) (by kernel_rfl) (by simp) (AllReadyH.cons (by simp only [List.getElem?_toArray, List.getElem?_cons_succ, List.getElem?_cons_zero]; rfl) (fun K hK => ?_) AllReadyH.nil)
       go_simp
       first
         | (go_at_call 44; (first | (with_reducible refine (number_who B _).mono ?_) | (with_reducible refine (number_pay B _).mono ?_) | (with_reducible refine (number_fee B _).mono ?_)); rintro e w9 ⟨pv, tv, rfl, hp, hb⟩; obtain ⟨F, fs, G, gs, rfl, rfl⟩ := hp.funcs; replace hM := Lib.hid (hM.out.snoc hp hb); clear hp hb)
         | (go_at_call 67; (first | (with_reducible refine (nums_gives B _).mono ?_) | (with_reducible refine (nums_wants B _).mono ?_)); rintro e w9 ⟨pv, tv, rfl, hp, hb⟩; obtain ⟨F, fs, G, gs, rfl, rfl⟩ := hp.funcs; replace hM := Lib.hid (hM.out.snoc hp hb); clear hp hb)
         | (go_at_call 45; (first | (with_reducible refine (word_give B _).mono ?_) | (with_reducible refine (word_coins B _).mono ?_) | (with_reducible refine (word_for B _).mono ?_)); rintro e w9 ⟨pv, tv, rfl, hp, hb⟩; obtain ⟨F, fs, G, gs, rfl, rfl⟩ := hp.funcs; replace hM := Lib.hid (hM.out.snoc hp hb); clear hp hb)
         | (skip)
       try go_wp2_with fail
       refine hK.out _ _ (by (first | (trivial))) (fun hHeld => ?_)
       clear hK K
       try simp only [Act.put, List.setIfInBounds_toArray, List.set_cons_zero, List.set_cons_succ])
  first
    | (refine wpAnyH_take (i := 9) (v := undef) (by simp only [List.getElem?_toArray, List.getElem?_cons_succ, List.getElem?_cons_zero]; rfl) (by kernel_rfl) (by kernel_rfl) (by kernel_rfl) (fun _ _ _ h => h) (Or.inr ⟨by rfl, rfl⟩) (by assumption) ?_; try simp only [Act.put, List.setIfInBounds_toArray, List.set_cons_zero, List.set_cons_succ])
    | (refine wpAnyH_take (i := 9) (v := ?_) (by simp only [List.getElem?_toArray, List.getElem?_cons_succ, List.getElem?_cons_zero]; rfl) (by kernel_rfl) (by kernel_rfl) (by kernel_rfl) (fun _ _ _ h => h) (Or.inl ⟨by rfl, ?_⟩) (by assumption) ?_
       rotate_left
       · (intro ww hSw; (try dsimp only at hSw); go_simp; (try with_reducible rfl))
       try simp only [Act.put, List.setIfInBounds_toArray, List.set_cons_zero, List.set_cons_succ])
    | (refine wpAnyH_ready (rs := [9]) (by kernel_rfl) (by simp) (AllReadyH.cons (by simp only [List.getElem?_toArray, List.getElem?_cons_succ, List.getElem?_cons_zero]; rfl) (fun K hK => ?_) AllReadyH.nil)
       go_simp
       first
         | (go_at_call 44; (first | (with_reducible refine (number_who B _).mono ?_) | (with_reducible refine (number_pay B _).mono ?_) | (with_reducible refine (number_fee B _).mono ?_)); rintro e w9 ⟨pv, tv, rfl, hp, hb⟩; obtain ⟨F, fs, G, gs, rfl, rfl⟩ := hp.funcs; replace hM := Lib.hid (hM.out.snoc hp hb); clear hp hb)
         | (go_at_call 67; (first | (with_reducible refine (nums_gives B _).mono ?_) | (with_reducible refine (nums_wants B _).mono ?_)); rintro e w9 ⟨pv, tv, rfl, hp, hb⟩; obtain ⟨F, fs, G, gs, rfl, rfl⟩ := hp.funcs; replace hM := Lib.hid (hM.out.snoc hp hb); clear hp hb)
         | (go_at_call 45; (first | (with_reducible refine (word_give B _).mono ?_) | (with_reducible refine (word_coins B _).mono ?_) | (with_reducible refine (word_for B _).mono ?_)); rintro e w9 ⟨pv, tv, rfl, hp, hb⟩; obtain ⟨F, fs, G, gs, rfl, rfl⟩ := hp.funcs; replace hM := Lib.hid (hM.out.snoc hp hb); clear hp hb)
         | (skip)
       try go_wp2_with fail
       refine hK.out _ _ (by (first | (trivial))) (fun hHeld => ?_)
       clear hK K
       try simp only [Act.put, List.setIfInBounds_toArray, List.set_cons_zero, List.set_cons_succ])
  first
    | (refine wpAnyH_take (i := 13) (v := undef) (by simp only [List.getElem?_toArray, List.getElem?_cons_succ, List.getElem?_cons_zero]; rfl) (by kernel_rfl) (by kernel_rfl) (by kernel_rfl) (fun _ _ _ h => h) (Or.inr ⟨by rfl, rfl⟩) (by assumption) ?_; try simp only [Act.put, List.setIfInBounds_toArray, List.set_cons_zero, List.set_cons_succ])
    | (refine wpAnyH_take (i := 13) (v := ?_) (by simp only [List.getElem?_toArray, List.getElem?_cons_succ, List.getElem?_cons_zero]; rfl) (by kernel_rfl) (by kernel_rfl) (by kernel_rfl) (fun _ _ _ h => h) (Or.inl ⟨by rfl, ?_⟩) (by assumption) ?_
       rotate_left
       · (intro ww hSw; (try dsimp only at hSw); go_simp; (try with_reducible rfl))
       try simp only [Act.put, List.setIfInBounds_toArray, List.set_cons_zero, List.set_cons_succ])
    | (refine wpAnyH_ready (rs := [13]) (by kernel_rfl) (by simp) (AllReadyH.cons (by simp only [List.getElem?_toArray, List.getElem?_cons_succ, List.getElem?_cons_zero]; rfl) (fun K hK => ?_) AllReadyH.nil)
       go_simp
       first
         | (go_at_call 44; (first | (with_reducible refine (number_who B _).mono ?_) | (with_reducible refine (number_pay B _).mono ?_) | (with_reducible refine (number_fee B _).mono ?_)); rintro e w9 ⟨pv, tv, rfl, hp, hb⟩; obtain ⟨F, fs, G, gs, rfl, rfl⟩ := hp.funcs; replace hM := Lib.hid (hM.out.snoc hp hb); clear hp hb)
         | (go_at_call 67; (first | (with_reducible refine (nums_gives B _).mono ?_) | (with_reducible refine (nums_wants B _).mono ?_)); rintro e w9 ⟨pv, tv, rfl, hp, hb⟩; obtain ⟨F, fs, G, gs, rfl, rfl⟩ := hp.funcs; replace hM := Lib.hid (hM.out.snoc hp hb); clear hp hb)
         | (go_at_call 45; (first | (with_reducible refine (word_give B _).mono ?_) | (with_reducible refine (word_coins B _).mono ?_) | (with_reducible refine (word_for B _).mono ?_)); rintro e w9 ⟨pv, tv, rfl, hp, hb⟩; obtain ⟨F, fs, G, gs, rfl, rfl⟩ := hp.funcs; replace hM := Lib.hid (hM.out.snoc hp hb); clear hp hb)
         | (skip)
       try go_wp2_with fail
       refine hK.out _ _ (by (first | (trivial))) (fun hHeld => ?_)
       clear hK K
       try simp only [Act.put, List.setIfInBounds_toArray, List.set_cons_zero, List.set_cons_succ])
  first
    | (refine wpAnyH_take (i := 14) (v := undef) (by simp only [List.getElem?_toArray, List.getElem?_cons_succ, List.getElem?_cons_zero]; rfl) (by kernel_rfl) (by kernel_rfl) (by kernel_rfl) (fun _ _ _ h => h) (Or.inr ⟨by rfl, rfl⟩) (by assumption) ?_; try simp only [Act.put, List.setIfInBounds_toArray, List.set_cons_zero, List.set_cons_succ])
    | (refine wpAnyH_take (i := 14) (v := ?_) (by simp only [List.getElem?_toArray, List.getElem?_cons_succ, List.getElem?_cons_zero]; rfl) (by kernel_rfl) (by kernel_rfl) (by kernel_rfl) (fun _ _ _ h => h) (Or.inl ⟨by rfl, ?_⟩) (by assumption) ?_
       rotate_left
       · (intro ww hSw; (try dsimp only at hSw); go_simp; (try with_reducible rfl))
       try simp only [Act.put, List.setIfInBounds_toArray, List.set_cons_zero, List.set_cons_succ])
    | (refine wpAnyH_ready (rs := [14]) (by kernel_rfl) (by simp) (AllReadyH.cons (by simp only [List.getElem?_toArray, List.getElem?_cons_succ, List.getElem?_cons_zero]; rfl) (fun K hK => ?_) AllReadyH.nil)
       go_simp
       first
         | (go_at_call 44; (first | (with_reducible refine (number_who B _).mono ?_) | (with_reducible refine (number_pay B _).mono ?_) | (with_reducible refine (number_fee B _).mono ?_)); rintro e w9 ⟨pv, tv, rfl, hp, hb⟩; obtain ⟨F, fs, G, gs, rfl, rfl⟩ := hp.funcs; replace hM := Lib.hid (hM.out.snoc hp hb); clear hp hb)
         | (go_at_call 67; (first | (with_reducible refine (nums_gives B _).mono ?_) | (with_reducible refine (nums_wants B _).mono ?_)); rintro e w9 ⟨pv, tv, rfl, hp, hb⟩; obtain ⟨F, fs, G, gs, rfl, rfl⟩ := hp.funcs; replace hM := Lib.hid (hM.out.snoc hp hb); clear hp hb)
         | (go_at_call 45; (first | (with_reducible refine (word_give B _).mono ?_) | (with_reducible refine (word_coins B _).mono ?_) | (with_reducible refine (word_for B _).mono ?_)); rintro e w9 ⟨pv, tv, rfl, hp, hb⟩; obtain ⟨F, fs, G, gs, rfl, rfl⟩ := hp.funcs; replace hM := Lib.hid (hM.out.snoc hp hb); clear hp hb)
         | (skip)
       try go_wp2_with fail
       refine hK.out _ _ (by (first | (trivial))) (fun hHeld => ?_)
       clear hK K
       try simp only [Act.put, List.setIfInBounds_toArray, List.set_cons_zero, List.set_cons_succ])
  first
    | (refine wpAnyH_take (i := 18) (v := undef) (by simp only [List.getElem?_toArray, List.getElem?_cons_succ, List.getElem?_cons_zero]; rfl) (by kernel_rfl) (by kernel_rfl) (by kernel_rfl) (fun _ _ _ h => h) (Or.inr ⟨by rfl, rfl⟩) (by assumption) ?_; try simp only [Act.put, List.setIfInBounds_toArray, List.set_cons_zero, List.set_cons_succ])
    | (refine wpAnyH_take (i := 18) (v := ?_) (by simp only [List.getElem?_toArray, List.getElem?_cons_succ, List.getElem?_cons_zero]; rfl) (by kernel_rfl) (by kernel_rfl) (by kernel_rfl) (fun _ _ _ h => h) (Or.inl ⟨by rfl, ?_⟩) (by assumption) ?_
       rotate_left
       · (intro ww hSw; (try dsimp only at hSw); go_simp; (try with_reducible rfl))
       try simp only [Act.put, List.setIfInBounds_toArray, List.set_cons_zero, List.set_cons_succ])
    | (refine wpAnyH_ready (rs := [18]) (by kernel_rfl) (by simp) (AllReadyH.cons (by simp only [List.getElem?_toArray, List.getElem?_cons_succ, List.getElem?_cons_zero]; rfl) (fun K hK => ?_) AllReadyH.nil)
       go_simp
       first
         | (go_at_call 44; (first | (with_reducible refine (number_who B _).mono ?_) | (with_reducible refine (number_pay B _).mono ?_) | (with_reducible refine (number_fee B _).mono ?_)); rintro e w9 ⟨pv, tv, rfl, hp, hb⟩; obtain ⟨F, fs, G, gs, rfl, rfl⟩ := hp.funcs; replace hM := Lib.hid (hM.out.snoc hp hb); clear hp hb)
         | (go_at_call 67; (first | (with_reducible refine (nums_gives B _).mono ?_) | (with_reducible refine (nums_wants B _).mono ?_)); rintro e w9 ⟨pv, tv, rfl, hp, hb⟩; obtain ⟨F, fs, G, gs, rfl, rfl⟩ := hp.funcs; replace hM := Lib.hid (hM.out.snoc hp hb); clear hp hb)
         | (go_at_call 45; (first | (with_reducible refine (word_give B _).mono ?_) | (with_reducible refine (word_coins B _).mono ?_) | (with_reducible refine (word_for B _).mono ?_)); rintro e w9 ⟨pv, tv, rfl, hp, hb⟩; obtain ⟨F, fs, G, gs, rfl, rfl⟩ := hp.funcs; replace hM := Lib.hid (hM.out.snoc hp hb); clear hp hb)
         | (skip)
       try go_wp2_with fail
       refine hK.out _ _ (by (first | (trivial))) (fun hHeld => ?_)
       clear hK K
       try simp only [Act.put, List.setIfInBounds_toArray, List.set_cons_zero, List.set_cons_succ])
  first
    | (refine wpAnyH_take (i := 19) (v := undef) (by simp only [List.getElem?_toArray, List.getElem?_cons_succ, List.getElem?_cons_zero]; rfl) (by kernel_rfl) (by kernel_rfl) (by kernel_rfl) (fun _ _ _ h => h) (Or.inr ⟨by rfl, rfl⟩) (by assumption) ?_; try simp only [Act.put, List.setIfInBounds_toArray, List.set_cons_zero, List.set_cons_succ])
    | (refine wpAnyH_take (i := 19) (v := ?_) (by simp only [List.getElem?_toArray, List.getElem?_cons_succ, List.getElem?_cons_zero]; rfl) (by kernel_rfl) (by kernel_rfl) (by kernel_rfl) (fun _ _ _ h => h) (Or.inl ⟨by rfl, ?_⟩) (by assumption) ?_
       rotate_left
       · (intro ww hSw; (try dsimp only at hSw); go_simp; (try with_reducible rfl))
       try simp only [Act.put, List.setIfInBounds_toArray, List.set_cons_zero, List.set_cons_succ])
    | (refine wpAnyH_ready (rs := [19]) (by kernel_rfl) (by simp) (AllReadyH.cons (by simp only [List.getElem?_toArray, List.getElem?_cons_succ, List.getElem?_cons_zero]; rfl) (fun K hK => ?_) AllReadyH.nil)
       go_simp
       first
         | (go_at_call 44; (first | (with_reducible refine (number_who B _).mono ?_) | (with_reducible refine (number_pay B _).mono ?_) | (with_reducible refine (number_fee B _).mono ?_)); rintro e w9 ⟨pv, tv, rfl, hp, hb⟩; obtain ⟨F, fs, G, gs, rfl, rfl⟩ := hp.funcs; replace hM := Lib.hid (hM.out.snoc hp hb); clear hp hb)
         | (go_at_call 67; (first | (with_reducible refine (nums_gives B _).mono ?_) | (with_reducible refine (nums_wants B _).mono ?_)); rintro e w9 ⟨pv, tv, rfl, hp, hb⟩; obtain ⟨F, fs, G, gs, rfl, rfl⟩ := hp.funcs; replace hM := Lib.hid (hM.out.snoc hp hb); clear hp hb)
         | (go_at_call 45; (first | (with_reducible refine (word_give B _).mono ?_) | (with_reducible refine (word_coins B _).mono ?_) | (with_reducible refine (word_for B _).mono ?_)); rintro e w9 ⟨pv, tv, rfl, hp, hb⟩; obtain ⟨F, fs, G, gs, rfl, rfl⟩ := hp.funcs; replace hM := Lib.hid (hM.out.snoc hp hb); clear hp hb)
         | (skip)
       try go_wp2_with fail
       refine hK.out _ _ (by (first | (trivial))) (fun hHeld => ?_)
       clear hK K
       try simp only [Act.put, List.setIfInBounds_toArray, List.set_cons_zero, List.set_cons_succ])
  first
    | (refine wpAnyH_take (i := 23) (v := undef) (by simp only [List.getElem?_toArray, List.getElem?_cons_succ, List.getElem?_cons_zero]; rfl) (by kernel_rfl) (by kernel_rfl) (by kernel_rfl) (fun _ _ _ h => h) (Or.inr ⟨by rfl, rfl⟩) (by assumption) ?_; try simp only [Act.put, List.setIfInBounds_toArray, List.set_cons_zero, List.set_cons_succ])
    | (refine wpAnyH_take (i := 23) (v := ?_) (by simp only [List.getElem?_toArray, List.getElem?_cons_succ, List.getElem?_cons_zero]; rfl) (by kernel_rfl) (by kernel_rfl) (by kernel_rfl) (fun _ _ _ h => h) (Or.inl ⟨by rfl, ?_⟩) (by assumption) ?_
       rotate_left
       · (intro ww hSw; (try dsimp only at hSw); go_simp; (try with_reducible rfl))
       try simp only [Act.put, List.setIfInBounds_toArray, List.set_cons_zero, List.set_cons_succ])
    | (refine wpAnyH_ready (rs := [23]) (by kernel_rfl) (by simp) (AllReadyH.cons (by simp only [List.getElem?_toArray, List.getElem?_cons_succ, List.getElem?_cons_zero]; rfl) (fun K hK => ?_) AllReadyH.nil)
       go_simp
       first
         | (go_at_call 44; (first | (with_reducible refine (number_who B _).mono ?_) | (with_reducible refine (number_pay B _).mono ?_) | (with_reducible refine (number_fee B _).mono ?_)); rintro e w9 ⟨pv, tv, rfl, hp, hb⟩; obtain ⟨F, fs, G, gs, rfl, rfl⟩ := hp.funcs; replace hM := Lib.hid (hM.out.snoc hp hb); clear hp hb)
         | (go_at_call 67; (first | (with_reducible refine (nums_gives B _).mono ?_) | (with_reducible refine (nums_wants B _).mono ?_)); rintro e w9 ⟨pv, tv, rfl, hp, hb⟩; obtain ⟨F, fs, G, gs, rfl, rfl⟩ := hp.funcs; replace hM := Lib.hid (hM.out.snoc hp hb); clear hp hb)
         | (go_at_call 45; (first | (with_reducible refine (word_give B _).mono ?_) | (with_reducible refine (word_coins B _).mono ?_) | (with_reducible refine (word_for B _).mono ?_)); rintro e w9 ⟨pv, tv, rfl, hp, hb⟩; obtain ⟨F, fs, G, gs, rfl, rfl⟩ := hp.funcs; replace hM := Lib.hid (hM.out.snoc hp hb); clear hp hb)
         | (skip)
       try go_wp2_with fail
       refine hK.out _ _ (by (first | (trivial))) (fun hHeld => ?_)
       clear hK K
       try simp only [Act.put, List.setIfInBounds_toArray, List.set_cons_zero, List.set_cons_succ])
  first
    | (refine wpAnyH_take (i := 24) (v := undef) (by simp only [List.getElem?_toArray, List.getElem?_cons_succ, List.getElem?_cons_zero]; rfl) (by kernel_rfl) (by kernel_rfl) (by kernel_rfl) (fun _ _ _ h => h) (Or.inr ⟨by rfl, rfl⟩) (by assumption) ?_; try simp only [Act.put, List.setIfInBounds_toArray, List.set_cons_zero, List.set_cons_succ])
    | (refine wpAnyH_take (i := 24) (v := ?_) (by simp only [List.getElem?_toArray, List.getElem?_cons_succ, List.getElem?_cons_zero]; rfl) (by kernel_rfl) (by kernel_rfl) (by kernel_rfl) (fun _ _ _ h => h) (Or.inl ⟨by rfl, ?_⟩) (by assumption) ?_
       rotate_left
       · (intro ww hSw; (try dsimp only at hSw); go_simp; (try with_reducible rfl))
       try simp only [Act.put, List.setIfInBounds_toArray, List.set_cons_zero, List.set_cons_succ])
    | (refine wpAnyH_ready (rs := [24]) (by kernel_rfl) (by simp) (AllReadyH.cons (by simp only [List.getElem?_toArray, List.getElem?_cons_succ, List.getElem?_cons_zero]; rfl) (fun K hK => ?_) AllReadyH.nil)
       go_simp
       first
         | (go_at_call 44; (first | (with_reducible refine (number_who B _).mono ?_) | (with_reducible refine (number_pay B _).mono ?_) | (with_reducible refine (number_fee B _).mono ?_)); rintro e w9 ⟨pv, tv, rfl, hp, hb⟩; obtain ⟨F, fs, G, gs, rfl, rfl⟩ := hp.funcs; replace hM := Lib.hid (hM.out.snoc hp hb); clear hp hb)
         | (go_at_call 67; (first | (with_reducible refine (nums_gives B _).mono ?_) | (with_reducible refine (nums_wants B _).mono ?_)); rintro e w9 ⟨pv, tv, rfl, hp, hb⟩; obtain ⟨F, fs, G, gs, rfl, rfl⟩ := hp.funcs; replace hM := Lib.hid (hM.out.snoc hp hb); clear hp hb)
         | (go_at_call 45; (first | (with_reducible refine (word_give B _).mono ?_) | (with_reducible refine (word_coins B _).mono ?_) | (with_reducible refine (word_for B _).mono ?_)); rintro e w9 ⟨pv, tv, rfl, hp, hb⟩; obtain ⟨F, fs, G, gs, rfl, rfl⟩ := hp.funcs; replace hM := Lib.hid (hM.out.snoc hp hb); clear hp hb)
         | (skip)
       try go_wp2_with fail
       refine hK.out _ _ (by (first | (trivial))) (fun hHeld => ?_)
       clear hK K
       try simp only [Act.put, List.setIfInBounds_toArray, List.set_cons_zero, List.set_cons_succ])
  first
    | (refine wpAnyH_take (i := 25) (v := undef) (by simp only [List.getElem?_toArray, List.getElem?_cons_succ, List.getElem?_cons_zero]; rfl) (by kernel_rfl) (by kernel_rfl) (by kernel_rfl) (fun _ _ _ h => h) (Or.inr ⟨by rfl, rfl⟩) (by assumption) ?_; try simp only [Act.put, List.setIfInBounds_toArray, List.set_cons_zero, List.set_cons_succ])
    | (refine wpAnyH_take (i := 25) (v := ?_) (by simp only [List.getElem?_toArray, List.getElem?_cons_succ, List.getElem?_cons_zero]; rfl) (by kernel_rfl) (by kernel_rfl) (by kernel_rfl) (fun _ _ _ h => h) (Or.inl ⟨by rfl, ?_⟩) (by assumption) ?_
       rotate_left
       · (intro ww hSw; (try dsimp only at hSw); go_simp; (try with_reducible rfl))
       try simp only [Act.put, List.setIfInBounds_toArray, List.set_cons_zero, List.set_cons_succ])
    | (refine wpAnyH_ready (rs := [25]) (by kernel_rfl) (by simp) (AllReadyH.cons (by simp only [List.getElem?_toArray, List.getElem?_cons_succ, List.getElem?_cons_zero]; rfl) (fun K hK => ?_) AllReadyH.nil)
       go_simp
       first
         | (go_at_call 44; (first | (with_reducible refine (number_who B _).mono ?_) | (with_reducible refine (number_pay B _).mono ?_) | (with_reducible refine (number_fee B _).mono ?_)); rintro e w9 ⟨pv, tv, rfl, hp, hb⟩; obtain ⟨F, fs, G, gs, rfl, rfl⟩ := hp.funcs; replace hM := Lib.hid (hM.out.snoc hp hb); clear hp hb)
         | (go_at_call 67; (first | (with_reducible refine (nums_gives B _).mono ?_) | (with_reducible refine (nums_wants B _).mono ?_)); rintro e w9 ⟨pv, tv, rfl, hp, hb⟩; obtain ⟨F, fs, G, gs, rfl, rfl⟩ := hp.funcs; replace hM := Lib.hid (hM.out.snoc hp hb); clear hp hb)
         | (go_at_call 45; (first | (with_reducible refine (word_give B _).mono ?_) | (with_reducible refine (word_coins B _).mono ?_) | (with_reducible refine (word_for B _).mono ?_)); rintro e w9 ⟨pv, tv, rfl, hp, hb⟩; obtain ⟨F, fs, G, gs, rfl, rfl⟩ := hp.funcs; replace hM := Lib.hid (hM.out.snoc hp hb); clear hp hb)
         | (skip)
       try go_wp2_with fail
       refine hK.out _ _ (by (first | (trivial))) (fun hHeld => ?_)
       clear hK K
       try simp only [Act.put, List.setIfInBounds_toArray, List.set_cons_zero, List.set_cons_succ])
  refine wpAnyH_done (by kernel_rfl) ?_ _
  refine NoPanic.normal ?_
  go_wp2_with fail
  go_ret
  exact ⟨_, rfl, hM.out.built (by simp) rfl⟩
end Go.Proofs.YtinjpkbpdhihjaaDoor
