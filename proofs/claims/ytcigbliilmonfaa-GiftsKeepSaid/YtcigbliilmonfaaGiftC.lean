/- gifts: what is wrong with those who trade, with their items. -/
import Derived.Test.YtcigbliilmonfaaRows
import Derived.Test.YtcigbliilmonfaaKit
import Derived.Test.YtcigbliilmonfaaGMem
import Derived.Test.YtcigbliilmonfaaCoin
import Derived.Test.YtcigbliilmonfaaGWorld
import Derived.Test.YtcigbliilmonfaaGCopy
import Derived.Test.YtcigbliilmonfaaGRight
import Derived.Test.YtcigbliilmonfaaGRefD
import Derived.Test.YtcigbliilmonfaaGEq
import Derived.Test.YtcigbliilmonfaaGAs
import Derived.Test.YtcigbliilmonfaaGTreeL
import Derived.Test.YtcigbliilmonfaaGHoldA
import Derived.Test.YtcigbliilmonfaaGiftMath
import Derived.Test.YtcigbliilmonfaaGiftMath2
import Derived.Test.YtcigbliilmonfaaGiftMath4
import Derived.Test.YtcigbliilmonfaaGiftA
import Derived.Test.YtcigbliilmonfaaGiftRep
import Derived.Deep.QuietTactic
import Derived.BigQuiet
import Derived.Deep.RegionHeld3
import Derived.WalkKit
import Derived.ProofKit
import Derived.OpenShut
import Derived.IntWalk
namespace Go.Proofs.Ytcigbliilmonfaa
open Go.ChangeShapes Go.WideShapes Go.ChangeAt Go.RowKit
set_option linter.unusedVariables false
open Go.RowKit
theorem two_Sc {t s : TypeId} {w v : World} {cs z : Array Value} (h : Two t s w v cs z) : Below w.heap.size w v ∧ (∀ i, v.cell? ⟨w.heap.size, i, none⟩ = cs[i]?) ∧ (∀ i, v.cell? ⟨w.heap.size + 1, i, none⟩ = z[i]?) := ⟨h.b, h.a.cell, h.r.cell⟩
theorem ret_n11 {a b : Int} (h : b = a) : Ending.returned (.int .i64 a) = .returned (.int .i64 b) := by rw [h]
theorem all_both {α : Type} (f : α → Bool) (a b : List α) : (a ++ b).all f = (a.all f && b.all f) := List.all_append
set_option maxRecDepth 100000 in
set_option maxHeartbeats 400000 in
theorem partners_any (x : Wd) (pd : Dp) (pa pk pw : Option Addr) (pac pkc pwc : Nat) (i : Nat) (kd di it bx who pay fee : Int) (gl wl : List Int) (ga wa : Option Addr) (gc wc : Nat) (w : World) (hx : rightW x = true) (h : IntsAt w pa x.at_) (hi : i < x.at_.length) (hg : IntsAt w ga gl) (hw : IntsAt w wa wl) :
    Calls Try.prog 28 #[.agg #[.slice pd.ex x.d.exits.length pd.exc, .slice pd.pl x.d.players.length pd.plc, .slice pd.co x.d.coins.length pd.coc, .slice pd.it x.d.items.length pd.itc, .slice pd.bo x.d.boxes.length pd.boc, .int .i64 x.d.room, .int .i64 x.d.player, .int .i64 x.d.box, .slice pa x.at_.length pac, .slice pk x.coins.length pkc, .slice pw x.wher.length pwc], .int .i64 (i : Int), .agg #[.int .i64 kd, .int .i64 di, .int .i64 it, .int .i64 bx, .int .i64 who, .slice ga gl.length gc, .int .i64 pay, .slice wa wl.length wc, .int .i64 fee]] w fun e w' => e = .returned (.int .i64 (partE x i who gl wl)) ∧ Below w.heap.size w w' := by
  have C0 := Lib.hid (Two.start 29 31 w #[.slice pd.ex x.d.exits.length pd.exc, .slice pd.pl x.d.players.length pd.plc, .slice pd.co x.d.coins.length pd.coc, .slice pd.it x.d.items.length pd.itc, .slice pd.bo x.d.boxes.length pd.boc, .int .i64 x.d.room, .int .i64 x.d.player, .int .i64 x.d.box, .slice pa x.at_.length pac, .slice pk x.coins.length pkc, .slice pw x.wher.length pwc] #[.int .i64 kd, .int .i64 di, .int .i64 it, .int .i64 bx, .int .i64 who, .slice ga gl.length gc, .int .i64 pay, .slice wa wl.length wc, .int .i64 fee])
  have H := Lib.hid h
  have HX := Lib.hid hx
  have HG := Lib.hid hg
  have HW := Lib.hid hw
  have HC := Lib.hid ((right_lens hx).2.2.1)
  have HI := Lib.hid (show inB (i : Int) x.at_.length = true by simp [inB, hi])
  obtain ⟨E, hE⟩ : ∃ E, E = partE x i who gl wl := ⟨_, rfl⟩
  have HE := Lib.hid (show E = if inB who x.at_.length = false ∨ (gl.all (fun k => inB k x.wher.length) && wl.all (fun k => inB k x.wher.length)) = false then 3 else if who = i then 12 else if roomOf x i = roomOf x who.toNat then 0 else 5 by rw [hE]; unfold partE; rw [all_both])
  rw [← hE]
  clear h hx hg hw hE
  go_enter Try.func28, Try.ntmps28
  go_wp2_with fail
  refine (isplayer_any x ⟨pd, pa, pac, pk, pkc, pw, pwc⟩ who _ HC.out).mono ?_
  rintro e w1 ⟨rfl, b1⟩
  have C1 := Lib.hid (C0.out.call b1)
  have hca := C1.out.a.cell
  have hla := C1.out.a.lt
  have hcm : ∀ i, World.cell? _ ⟨w.heap.size + 1, i, none⟩ = _ := C1.out.r.cell
  have hlm := C1.out.r.lt
  clear b1
  cases hq : inB who x.at_.length
  · have H3 := Lib.hid (show E = 3 by rw [HE.out, if_pos (.inl hq)])
    clear hq
    go_wp2_with fail
    go_ret
    exact ⟨ret_n11 H3.out, C1.out.b⟩
  have HQ := Lib.hid hq
  clear hq
  go_wp2_with fail
  refine (areitems_any x ⟨pd, pa, pac, pk, pkc, pw, pwc⟩ gl ga gc _ (HG.out.below C1.out.b (Nat.le_refl _))).mono ?_
  rintro e w2 ⟨rfl, b2⟩
  have C2 := Lib.hid (C1.out.call b2)
  clear b2 hca hla hcm hlm
  have hca := C2.out.a.cell
  have hla := C2.out.a.lt
  have hcm : ∀ i, World.cell? _ ⟨w.heap.size + 1, i, none⟩ = _ := C2.out.r.cell
  have hlm := C2.out.r.lt
  cases hgl : gl.all (fun k => inB k x.wher.length)
  · have H3 := Lib.hid (show E = 3 by rw [HE.out, if_pos (.inr (by rw [hgl]; rfl))])
    clear hgl
    go_wp2_with fail
    go_ret
    exact ⟨ret_n11 H3.out, C2.out.b⟩
  have HGL := Lib.hid hgl
  clear hgl
  go_wp2_with fail
  refine (areitems_any x ⟨pd, pa, pac, pk, pkc, pw, pwc⟩ wl wa wc _ (HW.out.below C2.out.b (Nat.le_refl _))).mono ?_
  rintro e w3 ⟨rfl, b3⟩
  have C3 := Lib.hid (C2.out.call b3)
  clear b3 hca hla hcm hlm
  have hca := C3.out.a.cell
  have hla := C3.out.a.lt
  have hcm : ∀ i, World.cell? _ ⟨w.heap.size + 1, i, none⟩ = _ := C3.out.r.cell
  have hlm := C3.out.r.lt
  cases hwl : wl.all (fun k => inB k x.wher.length)
  · have H3 := Lib.hid (show E = 3 by rw [HE.out, if_pos (.inr (by rw [hwl, HGL.out]; rfl))])
    clear hwl
    go_wp2_with fail
    go_ret
    exact ⟨ret_n11 H3.out, C3.out.b⟩
  have HN3 := Lib.hid (show ¬ (inB who x.at_.length = false ∨ (gl.all (fun k => inB k x.wher.length) && wl.all (fun k => inB k x.wher.length)) = false) by rw [HQ.out, HGL.out, hwl]; decide)
  clear hwl
  obtain ⟨q, rfl, hql⟩ : ∃ q : Nat, who = (q : Int) ∧ q < x.at_.length := ⟨who.toNat, by have := (inB_iff _ _).1 HQ.out; omega, by have := (inB_iff _ _).1 HQ.out; omega⟩
  by_cases hs : q = i
  · have H3 := Lib.hid (show E = 12 by rw [HE.out, if_neg HN3.out, if_pos (by omega)])
    subst hs
    go_wp2_with fail
    go_ret
    exact ⟨ret_n11 H3.out, C3.out.b⟩
  have hs2 : ((q : Int) == (i : Int)) = false := by simp; omega
  have HE2 := Lib.hid (show E = if roomOf x i = roomOf x q then 0 else 5 by rw [HE.out, if_neg HN3.out, if_neg (by omega), Int.toNat_natCast])
  obtain ⟨ab, ao, rfl, hab, hat⟩ := H.out.at_ hi
  have c1 := hat i hi
  have c2 := hat q hql
  rw [(room_at HX.out hi).1] at c1
  rw [(room_at HX.out hql).1] at c2
  have c1 := cell_call c1 C3.out.b
  have c2 := cell_call c2 C3.out.b
  have qi : ¬ (x.at_.length : Int) ≤ (i : Int) := by omega
  have qi2 : (x.at_.length ≤ i) = False := by simp; omega
  have qq : ¬ (x.at_.length : Int) ≤ (q : Int) := by omega
  have qq2 : (x.at_.length ≤ q) = False := by simp; omega
  clear hat hab hs
  generalize roomOf x i = r1 at *
  generalize roomOf x q = r2 at *
  go_wp2_with fail
  refine wp_region_noPanic ?_
  refine wp_region_held_drew (S := (fun w' => Below w.heap.size w w' ∧ (∀ i, w'.cell? ⟨w.heap.size, i, none⟩ = (#[.slice pd.ex x.d.exits.length pd.exc, .slice pd.pl x.d.players.length pd.plc, .slice pd.co x.d.coins.length pd.coc, .slice pd.it x.d.items.length pd.itc, .slice pd.bo x.d.boxes.length pd.boc, .int .i64 x.d.room, .int .i64 x.d.player, .int .i64 x.d.box, .slice (some ⟨ab, ao, none⟩) x.at_.length pac, .slice pk x.coins.length pkc, .slice pw x.wher.length pwc][i]? : Option Value)) ∧ (∀ j, w'.cell? ⟨w.heap.size + 1, j, none⟩ = (#[.int .i64 kd, .int .i64 di, .int .i64 it, .int .i64 bx, .int .i64 (q : Int), .slice ga gl.length gc, .int .i64 pay, .slice wa wl.length wc, .int .i64 fee][j]? : Option Value)) ∧ w'.cell? ⟨ab, ao + i, none⟩ = some (.int .i64 (r1 : Int)) ∧ w'.cell? ⟨ab, ao + q, none⟩ = some (.int .i64 (r2 : Int)))) (by kernel_rfl) (by (first | (exact ⟨C3.out.drew.b, C3.out.drew.a.cell, C3.out.drew.r.cell, c1, c2⟩))) (fun hHeld => ?_)
  refine wpAnyH_take (i := 0) (v := ?_) (by simp only [List.getElem?_toArray, List.getElem?_cons_zero]; rfl) (by kernel_rfl) (by kernel_rfl) (by kernel_rfl) (fun _ _ _ h => h) (Or.inl ⟨by rfl, ?_⟩) (by assumption) ?_
  rotate_left
  · (intro ww hSw; (try dsimp only at hSw); go_simp; (try with_reducible rfl))
  try simp only [Act.put, List.setIfInBounds_toArray, List.set_cons_zero, List.set_cons_succ]
  refine wpAnyH_take (i := 1) (v := ?_) (by simp only [List.getElem?_toArray, List.getElem?_cons_succ, List.getElem?_cons_zero]; rfl) (by kernel_rfl) (by kernel_rfl) (by kernel_rfl) (fun _ _ _ h => h) (Or.inl ⟨by rfl, ?_⟩) (by assumption) ?_
  rotate_left
  · (intro ww hSw; (try dsimp only at hSw); go_simp; (try with_reducible rfl))
  try simp only [Act.put, List.setIfInBounds_toArray, List.set_cons_zero, List.set_cons_succ]
  have K1 := Lib.hid hHeld.2.2.2
  refine wpAnyH_ready (rs := [2]) (by kernel_rfl) (by simp) (AllReadyH.cons (by simp only [List.getElem?_toArray, List.getElem?_cons_succ, List.getElem?_cons_zero]; rfl) (fun K hK => ?_) AllReadyH.nil)
  go_simp
  refine (isplayer_any x ⟨pd, some ⟨ab, ao, none⟩, pac, pk, pkc, pw, pwc⟩ (i : Int) _ HC.out).mono ?_; rintro e w4 ⟨rfl, hb4⟩; rw [HI.out]; have C4 := Lib.hid (C3.out.drew.call hb4)
  try go_wp2_with fail
  refine hK.out _ _ (by (first | (with_reducible exact ⟨C4.out.b, C4.out.a.cell, C4.out.r.cell, cell_call K1.out.1 hb4, cell_call K1.out.2 hb4⟩))) (fun hHeld => ?_)
  clear hK K
  try simp only [Act.put, List.setIfInBounds_toArray, List.set_cons_zero, List.set_cons_succ]
  clear hca hla hcm hlm
  refine wpAnyH_take (i := 3) (v := ?_) (by simp only [List.getElem?_toArray, List.getElem?_cons_succ, List.getElem?_cons_zero]; rfl) (by kernel_rfl) (by kernel_rfl) (by kernel_rfl) (fun _ _ _ h => h) (Or.inl ⟨by rfl, ?_⟩) (by assumption) ?_
  rotate_left
  · (intro ww hSw; (try dsimp only at hSw); go_simp; (try with_reducible rfl))
  try simp only [Act.put, List.setIfInBounds_toArray, List.set_cons_zero, List.set_cons_succ]
  refine wpAnyH_take (i := 4) (v := ?_) (by simp only [List.getElem?_toArray, List.getElem?_cons_succ, List.getElem?_cons_zero]; rfl) (by kernel_rfl) (by kernel_rfl) (by kernel_rfl) (fun _ _ _ h => h) (Or.inl ⟨by rfl, ?_⟩) (by assumption) ?_
  rotate_left
  · (intro ww hSw; (try dsimp only at hSw); go_simp; (try with_reducible rfl))
  try simp only [Act.put, List.setIfInBounds_toArray, List.set_cons_zero, List.set_cons_succ]
  refine wpAnyH_take (i := 5) (v := ?_) (by simp only [List.getElem?_toArray, List.getElem?_cons_succ, List.getElem?_cons_zero]; rfl) (by kernel_rfl) (by kernel_rfl) (by kernel_rfl) (fun _ _ _ h => h) (Or.inl ⟨by rfl, ?_⟩) (by assumption) ?_
  rotate_left
  · (intro ww hSw; (try dsimp only at hSw); go_simp; (try with_reducible rfl))
  try simp only [Act.put, List.setIfInBounds_toArray, List.set_cons_zero, List.set_cons_succ]
  refine wpAnyH_take (i := 6) (v := ?_) (by simp only [List.getElem?_toArray, List.getElem?_cons_succ, List.getElem?_cons_zero]; rfl) (by kernel_rfl) (by kernel_rfl) (by kernel_rfl) (fun _ _ _ h => h) (Or.inl ⟨by rfl, ?_⟩) (by assumption) ?_
  rotate_left
  · (intro ww hSw; (try dsimp only at hSw); go_simp; (try with_reducible rfl))
  try simp only [Act.put, List.setIfInBounds_toArray, List.set_cons_zero, List.set_cons_succ]
  refine wpAnyH_take (i := 7) (v := ?_) (by simp only [List.getElem?_toArray, List.getElem?_cons_succ, List.getElem?_cons_zero]; rfl) (by kernel_rfl) (by kernel_rfl) (by kernel_rfl) (fun _ _ _ h => h) (Or.inl ⟨by rfl, ?_⟩) (by assumption) ?_
  rotate_left
  · (intro ww hSw; (try dsimp only at hSw); go_simp; (try with_reducible rfl))
  try simp only [Act.put, List.setIfInBounds_toArray, List.set_cons_zero, List.set_cons_succ]
  refine wpAnyH_take (i := 8) (v := ?_) (by simp only [List.getElem?_toArray, List.getElem?_cons_succ, List.getElem?_cons_zero]; rfl) (by kernel_rfl) (by kernel_rfl) (by kernel_rfl) (fun _ _ _ h => h) (Or.inl ⟨by rfl, ?_⟩) (by assumption) ?_
  rotate_left
  · (intro ww hSw; (try dsimp only at hSw); go_simp; (try with_reducible rfl))
  try simp only [Act.put, List.setIfInBounds_toArray, List.set_cons_zero, List.set_cons_succ]
  refine wpAnyH_take (i := 9) (v := ?_) (by simp only [List.getElem?_toArray, List.getElem?_cons_succ, List.getElem?_cons_zero]; rfl) (by kernel_rfl) (by kernel_rfl) (by kernel_rfl) (fun _ _ _ h => h) (Or.inl ⟨by rfl, ?_⟩) (by assumption) ?_
  rotate_left
  · (intro ww hSw; (try dsimp only at hSw); go_simp; (try with_reducible rfl))
  try simp only [Act.put, List.setIfInBounds_toArray, List.set_cons_zero, List.set_cons_succ]
  refine wpAnyH_take (i := 10) (v := ?_) (by simp only [List.getElem?_toArray, List.getElem?_cons_succ, List.getElem?_cons_zero]; rfl) (by kernel_rfl) (by kernel_rfl) (by kernel_rfl) (fun _ _ _ h => h) (Or.inl ⟨by rfl, ?_⟩) (by assumption) ?_
  rotate_left
  · (intro ww hSw; (try dsimp only at hSw); go_simp; (try with_reducible rfl))
  try simp only [Act.put, List.setIfInBounds_toArray, List.set_cons_zero, List.set_cons_succ]
  refine wpAnyH_take (i := 11) (v := ?_) (by simp only [List.getElem?_toArray, List.getElem?_cons_succ, List.getElem?_cons_zero]; rfl) (by kernel_rfl) (by kernel_rfl) (by kernel_rfl) (fun _ _ _ h => h) (Or.inl ⟨by rfl, ?_⟩) (by assumption) ?_
  rotate_left
  · (intro ww hSw; (try dsimp only at hSw); go_simp; (try with_reducible rfl))
  try simp only [Act.put, List.setIfInBounds_toArray, List.set_cons_zero, List.set_cons_succ]
  refine wpAnyH_take (i := 12) (v := ?_) (by simp only [List.getElem?_toArray, List.getElem?_cons_succ, List.getElem?_cons_zero]; rfl) (by kernel_rfl) (by kernel_rfl) (by kernel_rfl) (fun _ _ _ h => h) (Or.inl ⟨by rfl, ?_⟩) (by assumption) ?_
  rotate_left
  · (intro ww hSw; (try dsimp only at hSw); go_simp; (try with_reducible rfl))
  try simp only [Act.put, List.setIfInBounds_toArray, List.set_cons_zero, List.set_cons_succ]
  refine wpAnyH_take (i := 13) (v := ?_) (by simp only [List.getElem?_toArray, List.getElem?_cons_succ, List.getElem?_cons_zero]; rfl) (by kernel_rfl) (by kernel_rfl) (by kernel_rfl) (fun _ _ _ h => h) (Or.inl ⟨by rfl, ?_⟩) (by assumption) ?_
  rotate_left
  · (intro ww hSw; (try dsimp only at hSw); go_simp; (try with_reducible rfl))
  try simp only [Act.put, List.setIfInBounds_toArray, List.set_cons_zero, List.set_cons_succ]
  refine wpAnyH_take (i := 14) (v := ?_) (by simp only [List.getElem?_toArray, List.getElem?_cons_succ, List.getElem?_cons_zero]; rfl) (by kernel_rfl) (by kernel_rfl) (by kernel_rfl) (fun _ _ _ h => h) (Or.inl ⟨by rfl, ?_⟩) (by assumption) ?_
  rotate_left
  · (intro ww hSw; (try dsimp only at hSw); go_simp; (try with_reducible rfl))
  try simp only [Act.put, List.setIfInBounds_toArray, List.set_cons_zero, List.set_cons_succ]
  refine wpAnyH_take (i := 15) (v := ?_) (by simp only [List.getElem?_toArray, List.getElem?_cons_succ, List.getElem?_cons_zero]; rfl) (by kernel_rfl) (by kernel_rfl) (by kernel_rfl) (fun _ _ _ h => h) (Or.inl ⟨by rfl, ?_⟩) (by assumption) ?_
  rotate_left
  · (intro ww hSw; (try dsimp only at hSw); go_simp; (try with_reducible rfl))
  try simp only [Act.put, List.setIfInBounds_toArray, List.set_cons_zero, List.set_cons_succ]
  refine wpAnyH_take (i := 16) (v := ?_) (by simp only [List.getElem?_toArray, List.getElem?_cons_succ, List.getElem?_cons_zero]; rfl) (by kernel_rfl) (by kernel_rfl) (by kernel_rfl) (fun _ _ _ h => h) (Or.inl ⟨by rfl, ?_⟩) (by assumption) ?_
  rotate_left
  · (intro ww hSw; (try dsimp only at hSw); go_simp; (try with_reducible rfl))
  try simp only [Act.put, List.setIfInBounds_toArray, List.set_cons_zero, List.set_cons_succ]
  refine wpAnyH_take (i := 17) (v := ?_) (by simp only [List.getElem?_toArray, List.getElem?_cons_succ, List.getElem?_cons_zero]; rfl) (by kernel_rfl) (by kernel_rfl) (by kernel_rfl) (fun _ _ _ h => h) (Or.inl ⟨by rfl, ?_⟩) (by assumption) ?_
  rotate_left
  · (intro ww hSw; (try dsimp only at hSw); go_simp; (try with_reducible rfl))
  try simp only [Act.put, List.setIfInBounds_toArray, List.set_cons_zero, List.set_cons_succ]
  refine wpAnyH_done (by kernel_rfl) ?_ _
  refine NoPanic.normal ?_
  have HB := Lib.hid hHeld.1
  clear hHeld
  by_cases hr : r1 = r2
  · have H3 := Lib.hid (show E = 0 by rw [HE2.out, if_pos hr])
    subst hr
    go_wp2_with fail
    go_ret
    exact ⟨ret_n11 H3.out, HB.out⟩
  · have H3 := Lib.hid (show E = 5 by rw [HE2.out, if_neg hr])
    have hr2 : ((r2 : Int) != (r1 : Int)) = true := by simp; omega
    go_wp2_with fail
    go_ret
    exact ⟨ret_n11 H3.out, HB.out⟩
end Go.Proofs.Ytcigbliilmonfaa
