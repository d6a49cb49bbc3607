import Derived.Test.YtameelaiigljjaaRows
import Derived.Test.YtameelaiigljjaaKit
import Derived.Test.YtameelaiigljjaaJMem
import Derived.Test.YtameelaiigljjaaCoin
import Derived.Test.YtameelaiigljjaaJWorld
import Derived.Test.YtameelaiigljjaaJTreeAbove
import Derived.Test.YtameelaiigljjaaJRefA
import Derived.WalkKit
import Derived.ProofKit
import Derived.OpenShut
import Derived.IntWalk
/- tree.Within: is an item within another one? -/
namespace Go.Proofs.Ytameelaiigljjaa
open Go.ChangeShapes Go.WideShapes Go.ChangeAt Go.RowKit
set_option linter.unusedVariables false
open Go.RowKit Go.Shelf
attribute [local go_sem] Oper.semAt_some
theorem twithin_same (x : Wd) (p : Wp) (i : Nat) (w : World) : Calls Try.prog 25 #[.agg #[.slice p.d.ex x.d.exits.length p.d.exc, .slice p.d.pl x.d.players.length p.d.plc, .slice p.d.co x.d.coins.length p.d.coc, .slice p.d.it x.d.items.length p.d.itc, .slice p.d.bo x.d.boxes.length p.d.boc, .int .i64 x.d.room, .int .i64 x.d.player, .int .i64 x.d.box, .slice p.at_ x.at_.length p.atc, .slice p.co x.coins.length p.coc, .slice p.wh x.wher.length p.whc], .int .i64 (i : Int), .int .i64 (i : Int)] w fun e w' => e = .returned (.bool true) ∧ Below w.heap.size w w' := by
  have HB := Lib.hid ((((Below.refl w.heap.size w).alloc (Nat.le_refl _) (.cells #[.slice p.d.ex x.d.exits.length p.d.exc, .slice p.d.pl x.d.players.length p.d.plc, .slice p.d.co x.d.coins.length p.d.coc, .slice p.d.it x.d.items.length p.d.itc, .slice p.d.bo x.d.boxes.length p.d.boc, .int .i64 x.d.room, .int .i64 x.d.player, .int .i64 x.d.box, .slice p.at_ x.at_.length p.atc, .slice p.co x.coins.length p.coc, .slice p.wh x.wher.length p.whc] 29)).alloc (by simp) (.cells #[.int .i64 (i : Int)] 3)).alloc (by simp; omega) (.cells #[.bool true] 4))
  go_enter Try.func25, Try.ntmps25
  go_wp2_with fail
  refine bodyPost_ret (v := .bool true) (by simp [results, Try.results25, go_sem]) rfl ?_
  exact ⟨rfl, HB.out⟩
set_option maxRecDepth 100000 in
set_option maxHeartbeats 1000000 in
theorem twithin_go (x : Wd) (p : Wp) (hT : Tr x.wher) (i j : Nat) (hi : i < x.wher.length) (hij : ¬ i = j) (w : World) (hr : PlsAt w p.wh x.wher) : Calls Try.prog 25 #[.agg #[.slice p.d.ex x.d.exits.length p.d.exc, .slice p.d.pl x.d.players.length p.d.plc, .slice p.d.co x.d.coins.length p.d.coc, .slice p.d.it x.d.items.length p.d.itc, .slice p.d.bo x.d.boxes.length p.d.boc, .int .i64 x.d.room, .int .i64 x.d.player, .int .i64 x.d.box, .slice p.at_ x.at_.length p.atc, .slice p.co x.coins.length p.coc, .slice p.wh x.wher.length p.whc], .int .i64 (i : Int), .int .i64 (j : Int)] w fun e w' => e = .returned (.bool (wB x.wher i j)) ∧ Below w.heap.size w w' := by
  refine (callsIn_wide (n := 6)).1 ?_
  refine callsIn_of_wp_marks Try.func25 rfl trivial ?_ rfl
  simp only [Try.ntmps25, List.size_toArray, List.length_cons, List.length_nil, Nat.reduceAdd, Nat.reduceSub, Array.replicate_succ, Array.replicate_zero, List.push_toArray, List.append_toArray, List.nil_append, List.cons_append]
  have q0 : ((i : Int) == (j : Int)) = false := by simp; omega
  gi_wp2_with (refine ⟨trivial, ?_⟩; gi_at_call 35; refine (callsIn_wide.2 (above_any _ _ _ _)).mono ?_; rintro e w' ⟨rfl, rfl⟩)
  have hb0 : Below w.heap.size w (((w.alloc (.cells #[.slice p.d.ex x.d.exits.length p.d.exc, .slice p.d.pl x.d.players.length p.d.plc, .slice p.d.co x.d.coins.length p.d.coc, .slice p.d.it x.d.items.length p.d.itc, .slice p.d.bo x.d.boxes.length p.d.boc, .int .i64 x.d.room, .int .i64 x.d.player, .int .i64 x.d.box, .slice p.at_ x.at_.length p.atc, .slice p.co x.coins.length p.coc, .slice p.wh x.wher.length p.whc] 29)).alloc (.cells #[.int .i64 (j : Int)] 3)).alloc (.cells #[.bool false] 4)) := (((Below.refl _ w).alloc (Nat.le_refl _) _).alloc (by simp) _).alloc (by simp; omega) _
  have j0 := ((Blk.newn (w.alloc (.cells #[.slice p.d.ex x.d.exits.length p.d.exc, .slice p.d.pl x.d.players.length p.d.plc, .slice p.d.co x.d.coins.length p.d.coc, .slice p.d.it x.d.items.length p.d.itc, .slice p.d.bo x.d.boxes.length p.d.boc, .int .i64 x.d.room, .int .i64 x.d.player, .int .i64 x.d.box, .slice p.at_ x.at_.length p.atc, .slice p.co x.coins.length p.coc, .slice p.wh x.wher.length p.whc] 29)) 3 #[.int .i64 (j : Int)] (n := w.heap.size + 1) (by simp)).alloc (.cells #[.bool false] 4)).call (aboveW_below x p i _)
  have r0 := (Blk.newn ((w.alloc (.cells #[.slice p.d.ex x.d.exits.length p.d.exc, .slice p.d.pl x.d.players.length p.d.plc, .slice p.d.co x.d.coins.length p.d.coc, .slice p.d.it x.d.items.length p.d.itc, .slice p.d.bo x.d.boxes.length p.d.boc, .int .i64 x.d.room, .int .i64 x.d.player, .int .i64 x.d.box, .slice p.at_ x.at_.length p.atc, .slice p.co x.coins.length p.coc, .slice p.wh x.wher.length p.whc] 29)).alloc (.cells #[.int .i64 (j : Int)] 3)) 4 #[.bool false] (n := w.heap.size + 1 + 1) (by simp)).call (aboveW_below x p i _)
  have y0 : (((w.alloc (.cells #[.slice p.d.ex x.d.exits.length p.d.exc, .slice p.d.pl x.d.players.length p.d.plc, .slice p.d.co x.d.coins.length p.d.coc, .slice p.d.it x.d.items.length p.d.itc, .slice p.d.bo x.d.boxes.length p.d.boc, .int .i64 x.d.room, .int .i64 x.d.player, .int .i64 x.d.box, .slice p.at_ x.at_.length p.atc, .slice p.co x.coins.length p.coc, .slice p.wh x.wher.length p.whc] 29)).alloc (.cells #[.int .i64 (j : Int)] 3)).alloc (.cells #[.bool false] 4)).heap.size = w.heap.size + 1 + 1 + 1 := by simp
  generalize (((w.alloc (.cells #[.slice p.d.ex x.d.exits.length p.d.exc, .slice p.d.pl x.d.players.length p.d.plc, .slice p.d.co x.d.coins.length p.d.coc, .slice p.d.it x.d.items.length p.d.itc, .slice p.d.bo x.d.boxes.length p.d.boc, .int .i64 x.d.room, .int .i64 x.d.player, .int .i64 x.d.box, .slice p.at_ x.at_.length p.atc, .slice p.co x.coins.length p.coc, .slice p.wh x.wher.length p.whc] 29)).alloc (.cells #[.int .i64 (j : Int)] 3)).alloc (.cells #[.bool false] 4)) = V0 at *
  have hbV := hb0.trans ((aboveW_below x p i V0).mono hb0.size)
  have hw1 := aboveW_w x p i V0
  have hi1 := aboveW_i x p i V0
  have y1 := aboveW_size x p i V0
  rw [y0] at hw1 hi1 y1
  generalize aboveW x p i V0 = V at *
  clear hb0 y0
  refine wpIn_rangeFunc_ownH rfl (by omega) (gf := 41) (lb := #[.pointer (some ⟨w.heap.size + 1 + 1 + 1 + 1, 0, none⟩), .pointer (some ⟨w.heap.size + 1 + 1 + 1, 0, none⟩)]) rfl trivial (enters_of Try.func41 (by kernel_rfl) rfl)
    (above_stops (6 - 1) (by omega) x p hT i hi (w.heap.size + 1 + 1 + 1) (w.heap.size + 1 + 1 + 1 + 1) (w.heap.size + 1 + 1) V hw1 hi1 (by omega) (by omega) (by omega) (hr.below hbV (Nat.le_refl _)) (fun q hq => by have := pls_lt hr hi q hq; omega)) Kq.trans (fun W l o o' _ hl hc _ => Kq.put _ W l o o' hl hc) (Below.refl _ _) (fun _ => rfl)
    (fun pre W => ((Blk W (w.heap.size + 1) 3 #[.int .i64 (j : Int)] ∧ Blk W (w.heap.size + 1 + 1) 4 #[.bool false]) ∧ ∀ q ∈ pre, ¬ q = box j) ∧ Below w.heap.size w W)
    (fun c pre W => (Blk W (w.heap.size + 1 + 1) 4 #[.bool true] ∧ (c = .ret ∧ box j ∈ pre)) ∧ Below w.heap.size w W)
    (OwnFrom.and (OwnFrom.and (OwnFrom.and (blk_own _ _ _ (fun _ => #[.int .i64 (j : Int)])) (blk_own _ _ _ (fun _ => #[.bool false]))) (ownFrom_pure _ (fun pre => ∀ q ∈ pre, ¬ q = box j))) (ownFrom_below (Nat.le_refl _) (by omega)))
    (fun c => OwnFrom.and (OwnFrom.and (blk_own _ _ _ (fun _ => #[.bool true])) (ownFrom_pure _ (fun pre => c = .ret ∧ box j ∈ pre))) (ownFrom_below (Nat.le_refl _) (by omega)))
    ⟨⟨⟨j0, r0⟩, fun q hq => by cases hq⟩, hbV⟩
    (fun z a' W => ∃ Bx, w.heap.size + 1 + 1 < Bx ∧ Blk W Bx 31 #[.int .i64 z.kind, .int .i64 z.id] ∧ a' = { tmps := #[.agg #[.slice p.d.ex x.d.exits.length p.d.exc, .slice p.d.pl x.d.players.length p.d.plc, .slice p.d.co x.d.coins.length p.d.coc, .slice p.d.it x.d.items.length p.d.itc, .slice p.d.bo x.d.boxes.length p.d.boc, .int .i64 x.d.room, .int .i64 x.d.player, .int .i64 x.d.box, .slice p.at_ x.at_.length p.atc, .slice p.co x.coins.length p.coc, .slice p.wh x.wher.length p.whc], .int .i64 (i : Int), .int .i64 (j : Int), .pointer (some ⟨w.heap.size, 0, none⟩), undef, .pointer (some ⟨w.heap.size + 1, 0, none⟩), .pointer (some ⟨w.heap.size + 1 + 1, 0, none⟩), .pointer (some ⟨Bx, 0, none⟩), .int .i64 (i : Int), .int .i64 (j : Int), .bool false, .agg #[.slice p.d.ex x.d.exits.length p.d.exc, .slice p.d.pl x.d.players.length p.d.plc, .slice p.d.co x.d.coins.length p.d.coc, .slice p.d.it x.d.items.length p.d.itc, .slice p.d.bo x.d.boxes.length p.d.boc, .int .i64 x.d.room, .int .i64 x.d.player, .int .i64 x.d.box, .slice p.at_ x.at_.length p.atc, .slice p.co x.coins.length p.coc, .slice p.wh x.wher.length p.whc], .int .i64 (i : Int), .func (.func 41) #[] #[.pointer (some ⟨w.heap.size + 1 + 1 + 1 + 1, 0, none⟩), .pointer (some ⟨w.heap.size + 1 + 1 + 1, 0, none⟩)], .agg #[.int .i64 z.kind, .int .i64 z.id], undef, undef, undef, undef], defers := [] })
    (fun z a' _ X Y row hs hg hr => by obtain ⟨Bx, h1, h2, h3⟩ := hs; exact ⟨Bx, h1, blk_own V.heap.size Bx 31 (fun (_ : Unit) => #[.int .i64 z.kind, .int .i64 z.id]) () X Y row h2 hg hr, h3⟩)
    ?assign ?body ?done ?stop
  case assign =>
    rintro l pre z W K ⟨⟨⟨hj1, hr1⟩, hn1⟩, hB1⟩ hK
    gi_wp2
    exact hK _ _ ((KeepsOthers.alloc _ _).from _) ((Kq.refl _ W).alloc _) ⟨⟨⟨hj1.alloc _, hr1.alloc _⟩, hn1⟩, hB1.alloc hB1.size _⟩ ⟨W.heap.size, hr1.lt, Blk.new W _ _, rfl⟩
  case body =>
    rintro l pre ⟨zk, zi⟩ a' W hl _ ⟨⟨⟨hj1, hr1⟩, hn1⟩, hB1⟩ ⟨Bx, hBx, bX, rfl⟩ hlt
    have cX := bX.cell
    have lX := bX.lt
    have cJ := hj1.cell
    have lJ := hj1.lt
    have cR := hr1.cell
    have fR := hr1.frozen
    have lR := hr1.lt
    have HJ := Lib.hid hj1
    have HR := Lib.hid hr1
    have HB := Lib.hid hB1
    have HN := Lib.hid hn1
    have hrun := run_pleq zk zi 2 (j : Int)
    clear hj1 hr1 hn1 hB1 bX hlt
    by_cases he : (⟨zk, zi⟩ : Pl) = ⟨2, (j : Int)⟩
    · have HE := Lib.hid he
      simp only [he, decide_true] at hrun
      clear he
      gi_wp2
      exact ⟨(KeepsOthers.setCell _ _ _).from _, ⟨HR.out.set_ 0 _, rfl, by rw [HE.out]; simp [box]⟩, HB.out.setCell (by show w.heap.size ≤ w.heap.size + 1 + 1; omega) _⟩
    · have HE := Lib.hid he
      simp only [he, decide_false] at hrun
      clear he
      gi_wp2
      refine ⟨KeepsFrom.refl _ _, Kq.refl _ _, ⟨⟨HJ.out, HR.out⟩, fun q hq => ?_⟩, HB.out⟩
      rcases List.mem_append.1 hq with h | h
      · exact HN.out q h
      · rw [List.mem_singleton.1 h]; exact HE.out
  case done =>
    rintro D ys W hD rfl ⟨⟨⟨hj1, hr1⟩, hn1⟩, hB1⟩ hK
    have HE := Lib.hid (show wB x.wher i j = false by
      simp only [wB, Bool.or_eq_false_iff, decide_eq_false_iff_not, List.any_eq_false, decide_eq_true_eq]
      exact ⟨hij, hn1⟩)
    have fR := hr1.frozen
    have cR := hr1.cell
    have lR := hr1.lt
    have HR := Lib.hid hr1
    have HB := Lib.hid hB1
    clear hj1 hr1 hn1 hB1 hij
    gi_wp2
    have hK1 := (KeepsOthers.setCell W ⟨w.heap.size + 1 + 1, 0, none⟩ (.bool false)).same D _ hK rfl
    have hR2 := (HR.out.set_ 0 (.bool false)).put_ (.deferred none) hK1 rfl
    have cR2 := hR2.cell
    have hB2 := HB.out.setCell (p := ⟨w.heap.size + 1 + 1, 0, none⟩) (by show w.heap.size ≤ w.heap.size + 1 + 1; omega) (.bool false)
    refine ⟨by simp, .inl ⟨_, _, rfl, run_takeDeferred hK1, ?_⟩⟩
    refine ⟨.bool false, ?_, by rw [HE.out], hB2.trans (belowK_b (w := w) (Nat.le_refl _) _ D _ _ (by omega) hK1 rfl rfl)⟩
    clear hB2 hK1 hK
    generalize World.putObj _ D _ = Z at *
    simp [results, Try.f25, go_sem, cR2]
  case stop =>
    rintro D c pre W hD hpre ⟨⟨hr1, rfl, hin⟩, hB1⟩ hK
    have HE := Lib.hid (show wB x.wher i j = true by
      simp only [wB, Bool.or_eq_true, decide_eq_true_eq, List.any_eq_true]
      exact .inr ⟨_, hpre.subset hin, rfl⟩)
    gi_wp2
    refine ⟨by simp, .inl ⟨_, _, rfl, run_takeDeferred hK, ?_⟩⟩
    have hR2 := hr1.put_ (.deferred none) hK rfl
    have cR2 := hR2.cell
    refine ⟨.bool true, ?_, by rw [HE.out], hB1.trans (belowK_b (w := w) (Nat.le_refl _) _ D _ _ (by omega) hK rfl rfl)⟩
    clear hR2
    generalize World.putObj _ D _ = Z at *
    simp [results, Try.f25, go_sem, cR2]
theorem twithin_any (x : Wd) (p : Wp) (hT : Tr x.wher) (i j : Nat) (hi : i < x.wher.length) (w : World) (hr : PlsAt w p.wh x.wher) : Calls Try.prog 25 #[.agg #[.slice p.d.ex x.d.exits.length p.d.exc, .slice p.d.pl x.d.players.length p.d.plc, .slice p.d.co x.d.coins.length p.d.coc, .slice p.d.it x.d.items.length p.d.itc, .slice p.d.bo x.d.boxes.length p.d.boc, .int .i64 x.d.room, .int .i64 x.d.player, .int .i64 x.d.box, .slice p.at_ x.at_.length p.atc, .slice p.co x.coins.length p.coc, .slice p.wh x.wher.length p.whc], .int .i64 (i : Int), .int .i64 (j : Int)] w fun e w' => e = .returned (.bool (wB x.wher i j)) ∧ Below w.heap.size w w' := by
  by_cases h : i = j
  · subst h; rw [wB_self]; exact twithin_same x p i w
  · exact twithin_go x p hT i j hi h w hr
end Go.Proofs.Ytameelaiigljjaa
