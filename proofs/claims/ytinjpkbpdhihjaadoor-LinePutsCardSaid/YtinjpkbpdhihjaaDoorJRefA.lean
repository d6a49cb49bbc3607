import Derived.Test.YtinjpkbpdhihjaaDoorRows
import Derived.Test.YtinjpkbpdhihjaaDoorKit
import Derived.Test.YtinjpkbpdhihjaaDoorStrs
import Derived.Test.YtinjpkbpdhihjaaDoorJTab
import Derived.Test.YtinjpkbpdhihjaaDoorJBlk
import Derived.Test.YtinjpkbpdhihjaaDoorJMath
import Derived.Test.YtinjpkbpdhihjaaDoorJCut
import Derived.Test.YtinjpkbpdhihjaaDoorJTokRefWord
import Derived.Test.YtinjpkbpdhihjaaDoorJAppend
import Derived.Test.YtinjpkbpdhihjaaDoorJGrown
import Derived.Test.YtinjpkbpdhihjaaDoorJCmd
import Derived.Test.YtinjpkbpdhihjaaDoorJCmdNames1
import Derived.Test.YtinjpkbpdhihjaaDoorJCmdRefNames
import Derived.Test.YtinjpkbpdhihjaaDoorJLinePut
import Derived.Test.YtinjpkbpdhihjaaDoorJWords
import Derived.OwnWalk
import Derived.Deep.RegionHeld3
import Derived.WalkKit
import Derived.ProofKit
import Derived.OpenShut
import Derived.IntWalk
import Derived.Test.YtinjpkbpdhihjaaDoorJPut
/- line: the document's own words of a command. -/
namespace Go.Proofs.YtinjpkbpdhihjaaDoor
open Go.ChangeShapes Go.WideShapes Go.ChangeAt Go.RowKit
set_option linter.unusedVariables false
open Go.RowKit Go
theorem n_any (x : Int) (w : World) (h0 : 0 ≤ x) (h1 : x ≤ 1073741824) : Calls Tryd.prog 50 #[.int .i64 x] w fun e w' => e = .returned (.string ⟨(wd x).toArray⟩) ∧ Below w.heap.size w w' := by
  have hr := refword_any x.toNat
  rw [show ((x.toNat : Nat) : Int) = x by omega] at hr
  go_enter Tryd.func50, Tryd.ntmps50
  go_wp2_with fail
  refine (hr _ (by omega)).mono ?_
  rintro e w1 ⟨rfl, b1⟩
  go_wp2_with fail
  go_ret
  exact ⟨rfl, b1⟩
theorem refway_b (n : Int) (w : World) : Calls Tryd.prog 49 #[.int .i64 n] w fun e w' => e = .returned (.string ⟨(wayOf n).toArray⟩) ∧ Below w.heap.size w w' :=
  (refway_any n w).mono fun e w' ⟨h1, h2⟩ => ⟨h1, h2 ▸ Below.refl _ _⟩
/-- The command in its block, and the words so far. -/
def RefAt (w : World) (c : Cm) (ga wa : Option Addr) (gc wc : Nat) (u : Value) (ws : List (List UInt8)) (wr : World) : Prop :=
  PutAt w c ga wa gc wc wr ∧ wr.ownsRow (w.heap.size + 1) 9 1 u ws.length (ws.map str)
section
variable {w wr w1 : World} {c : Cm} {ga wa : Option Addr} {gc wc : Nat} {u : Value} {ws : List (List UInt8)}
theorem RefAt.cells (h : RefAt w c ga wa gc wc u ws wr) : ∀ i, wr.cell? ⟨w.heap.size, i, none⟩ = (#[.int .i64 c.kind, .int .i64 c.dir, .int .i64 c.item, .int .i64 c.box, .int .i64 c.who, .slice ga c.gives.length gc, .int .i64 c.pay, .slice wa c.wants.length wc, .int .i64 c.fee][i]? : Option Value) := h.1.2.2.cell
theorem RefAt.call (h : RefAt w c ga wa gc wc u ws wr) (hb : Below wr.heap.size wr w1) : RefAt w c ga wa gc wc u ws w1 := ⟨h.1.call hb, row_below h.2 hb⟩
theorem RefAt.alloc (h : RefAt w c ga wa gc wc u ws wr) (o : Obj) : RefAt w c ga wa gc wc u ws (wr.alloc o) := h.call ((Below.refl _ _).alloc (Nat.le_refl _) _)
theorem RefAt.drew (h : RefAt w c ga wa gc wc u ws wr) : RefAt w c ga wa gc wc u ws wr.drew := ⟨⟨⟨h.1.1.os, h.1.1.tape, h.1.1.output, h.1.1.size, h.1.1.block⟩, h.1.2⟩, h.2⟩
theorem ref_append (h : RefAt w c ga wa gc wc u ws wr) (xs : List (List UInt8)) (hl : ws.length + xs.length ≤ 1000000) (cs : Array Value) (hcs : cs = (xs.map str).toArray) (n : Nat) (hn : n = xs.length) :
    ∃ v' W', (Builtin.append_ #[39, 39] 39 #[u, .slice (some ⟨wr.heap.size, 0, none⟩) n n]).run Tryd.prog (wr.alloc (.cells cs 9)) = .ok v' W' ∧ RefAt w c ga wa gc wc v' (ws ++ xs) W' := by
  subst hcs hn
  have hA := h.alloc (.cells (xs.map str).toArray 9)
  have hS : Strs (wr.alloc (.cells (xs.map str).toArray 9)) (.slice (some ⟨wr.heap.size, 0, none⟩) xs.length xs.length) xs := by
    refine ⟨_, _, rfl, by unfold maxLen; omega, .inr ⟨wr.heap.size, 0, rfl, by simp, fun i hi => ?_⟩⟩
    rw [Nat.zero_add, World.cell?_alloc_at _ _ _ _ rfl]
    simp [hi]
  obtain ⟨v', W', hr, h1, h2⟩ := append_strs 39 hA.2 hS hl hA.1.2.1
  have hb := below_base hA.2 hA.1.2.1 h2
  refine ⟨v', W', hr, ⟨hA.1.1.trans (hb.mono (by omega)), Nat.le_trans hA.1.2.1 h2.size, hA.1.2.2.below hb (by omega)⟩, by simpa using h1⟩
theorem ref_start (h : PutAt w c ga wa gc wc wr) (x : List UInt8) : RefAt w c ga wa gc wc (.slice (some ⟨wr.heap.size, 0, none⟩) 1 1) [x] (wr.alloc (.cells #[.string ⟨x.toArray⟩] 9)) :=
  ⟨h.call ((Below.refl _ _).alloc (Nat.le_refl _) _), rfl, .inr ⟨wr.heap.size, 1, #[str x], rfl, h.2.1, by show (wr.heap.push _)[wr.heap.size]? = some _; simp [str], Nat.le_refl _, by unfold maxLen; omega, rfl, rfl⟩⟩
theorem ref_done (h : RefAt w c ga wa gc wc u ws wr) (hl : ws.length ≤ 1000) : GivesStrs ws w (.returned u) wr := ⟨u, rfl, strs_of_row h.2 (by unfold maxLen; omega), h.1.1⟩
end
set_option maxRecDepth 100000 in
set_option maxHeartbeats 2000000 in
theorem refwords_9 (d i b h p f : Int) (gs ws : List Int) (ga wa : Option Addr) (gc wc : Nat) (w : World) :
    Calls Tryd.prog 26 #[.agg #[.int .i64 9, .int .i64 d, .int .i64 i, .int .i64 b, .int .i64 h, .slice ga gs.length gc, .int .i64 p, .slice wa ws.length wc, .int .i64 f]] w (GivesStrs ([nameOf 9]) w) := by
  go_enter Tryd.func26, Tryd.ntmps26
  go_wp2_with fail
  have P0 := Lib.hid (PutAt.new w ⟨9, d, i, b, h, gs, p, ws, f⟩ ga wa gc wc)
  refine (refname_any 9 _).mono ?_
  rintro e w1 ⟨rfl, b1⟩
  have R0 := Lib.hid (ref_start (P0.out.call b1) (nameOf 9))
  have hA := R0.out.cells
  clear b1 P0
  go_wp2_with fail
  go_ret
  exact ref_done R0.out (by simp)
set_option maxRecDepth 100000 in
set_option maxHeartbeats 2000000 in
theorem refwords_10 (d i b h p f : Int) (gs ws : List Int) (ga wa : Option Addr) (gc wc : Nat) (w : World) :
    Calls Tryd.prog 26 #[.agg #[.int .i64 10, .int .i64 d, .int .i64 i, .int .i64 b, .int .i64 h, .slice ga gs.length gc, .int .i64 p, .slice wa ws.length wc, .int .i64 f]] w (GivesStrs ([nameOf 10]) w) := by
  go_enter Tryd.func26, Tryd.ntmps26
  go_wp2_with fail
  have P0 := Lib.hid (PutAt.new w ⟨10, d, i, b, h, gs, p, ws, f⟩ ga wa gc wc)
  refine (refname_any 10 _).mono ?_
  rintro e w1 ⟨rfl, b1⟩
  have R0 := Lib.hid (ref_start (P0.out.call b1) (nameOf 10))
  have hA := R0.out.cells
  clear b1 P0
  go_wp2_with fail
  go_ret
  exact ref_done R0.out (by simp)
set_option maxRecDepth 100000 in
set_option maxHeartbeats 2000000 in
theorem refwords_1 (d i b h p f : Int) (gs ws : List Int) (ga wa : Option Addr) (gc wc : Nat) (w : World) :
    Calls Tryd.prog 26 #[.agg #[.int .i64 1, .int .i64 d, .int .i64 i, .int .i64 b, .int .i64 h, .slice ga gs.length gc, .int .i64 p, .slice wa ws.length wc, .int .i64 f]] w (GivesStrs ([nameOf 1, wayOf d]) w) := by
  go_enter Tryd.func26, Tryd.ntmps26
  go_wp2_with fail
  have P0 := Lib.hid (PutAt.new w ⟨1, d, i, b, h, gs, p, ws, f⟩ ga wa gc wc)
  refine (refname_any 1 _).mono ?_
  rintro e w1 ⟨rfl, b1⟩
  have R0 := Lib.hid (ref_start (P0.out.call b1) (nameOf 1))
  have hA := R0.out.cells
  clear b1 P0
  go_wp2_with fail
  refine (refway_b d _).mono ?_
  rintro e w2 ⟨rfl, b2⟩
  have R1 := Lib.hid (R0.out.call b2)
  obtain ⟨v', W2, hrun, hR⟩ := ref_append R1.out [wayOf d] (by simp) #[.string ⟨(wayOf d).toArray⟩] rfl 1 rfl
  have R2 := Lib.hid hR
  have HN := Lib.hid hrun
  clear hA b2 hrun hR
  go_wp2_with (at_builtin; refine append_step rfl (.tmp 14) (.tmp 18) 39 rfl _ _ v' W2 rfl rfl HN.out ?_)
  go_ret
  exact ref_done R2.out (by simp)
set_option maxRecDepth 100000 in
set_option maxHeartbeats 2000000 in
theorem refwords_3 (d i b h p f : Int) (gs ws : List Int) (ga wa : Option Addr) (gc wc : Nat) (w : World) (h0 : 0 ≤ i) (h1 : i ≤ 1073741824) :
    Calls Tryd.prog 26 #[.agg #[.int .i64 3, .int .i64 d, .int .i64 i, .int .i64 b, .int .i64 h, .slice ga gs.length gc, .int .i64 p, .slice wa ws.length wc, .int .i64 f]] w (GivesStrs ([nameOf 3, wd i]) w) := by
  go_enter Tryd.func26, Tryd.ntmps26
  go_wp2_with fail
  have P0 := Lib.hid (PutAt.new w ⟨3, d, i, b, h, gs, p, ws, f⟩ ga wa gc wc)
  refine (refname_any 3 _).mono ?_
  rintro e w1 ⟨rfl, b1⟩
  have R0 := Lib.hid (ref_start (P0.out.call b1) (nameOf 3))
  have hA := R0.out.cells
  clear b1 P0
  go_wp2_with fail
  refine (n_any i _ h0 h1).mono ?_
  rintro e w2 ⟨rfl, b2⟩
  have R1 := Lib.hid (R0.out.call b2)
  obtain ⟨v', W2, hrun, hR⟩ := ref_append R1.out [wd i] (by simp) #[.string ⟨(wd i).toArray⟩] rfl 1 rfl
  have R2 := Lib.hid hR
  have HN := Lib.hid hrun
  clear hA b2 hrun hR
  go_wp2_with (at_builtin; refine append_step rfl (.tmp 34) (.tmp 38) 39 rfl _ _ v' W2 rfl rfl HN.out ?_)
  go_ret
  exact ref_done R2.out (by simp)
set_option maxRecDepth 100000 in
set_option maxHeartbeats 2000000 in
theorem refwords_4 (d i b h p f : Int) (gs ws : List Int) (ga wa : Option Addr) (gc wc : Nat) (w : World) (h0 : 0 ≤ i) (h1 : i ≤ 1073741824) :
    Calls Tryd.prog 26 #[.agg #[.int .i64 4, .int .i64 d, .int .i64 i, .int .i64 b, .int .i64 h, .slice ga gs.length gc, .int .i64 p, .slice wa ws.length wc, .int .i64 f]] w (GivesStrs ([nameOf 4, wd i]) w) := by
  go_enter Tryd.func26, Tryd.ntmps26
  go_wp2_with fail
  have P0 := Lib.hid (PutAt.new w ⟨4, d, i, b, h, gs, p, ws, f⟩ ga wa gc wc)
  refine (refname_any 4 _).mono ?_
  rintro e w1 ⟨rfl, b1⟩
  have R0 := Lib.hid (ref_start (P0.out.call b1) (nameOf 4))
  have hA := R0.out.cells
  clear b1 P0
  go_wp2_with fail
  refine (n_any i _ h0 h1).mono ?_
  rintro e w2 ⟨rfl, b2⟩
  have R1 := Lib.hid (R0.out.call b2)
  obtain ⟨v', W2, hrun, hR⟩ := ref_append R1.out [wd i] (by simp) #[.string ⟨(wd i).toArray⟩] rfl 1 rfl
  have R2 := Lib.hid hR
  have HN := Lib.hid hrun
  clear hA b2 hrun hR
  go_wp2_with (at_builtin; refine append_step rfl (.tmp 34) (.tmp 38) 39 rfl _ _ v' W2 rfl rfl HN.out ?_)
  go_ret
  exact ref_done R2.out (by simp)
set_option maxRecDepth 100000 in
set_option maxHeartbeats 2000000 in
theorem refwords_2 (d i b h p f : Int) (gs ws : List Int) (ga wa : Option Addr) (gc wc : Nat) (w : World) (h0 : 0 ≤ h) (h1 : h ≤ 1073741824) :
    Calls Tryd.prog 26 #[.agg #[.int .i64 2, .int .i64 d, .int .i64 i, .int .i64 b, .int .i64 h, .slice ga gs.length gc, .int .i64 p, .slice wa ws.length wc, .int .i64 f]] w (GivesStrs (nameOf 2 :: [wd h, wayOf d]) w) := by
  go_enter Tryd.func26, Tryd.ntmps26
  go_wp2_with fail
  have P0 := Lib.hid (PutAt.new w ⟨2, d, i, b, h, gs, p, ws, f⟩ ga wa gc wc)
  refine (refname_any 2 _).mono ?_
  rintro e w1 ⟨rfl, b1⟩
  have R0 := Lib.hid (ref_start (P0.out.call b1) (nameOf 2))
  have hA := R0.out.cells
  clear b1 P0
  have S0 := Lib.hid R0.out.drew
  go_wp2_with fail
  clear hA
  refine wp_region_noPanic ?_
  refine wp_region_held_drew (S := (fun w' => ∀ j, w'.cell? ⟨w.heap.size, j, none⟩ = (#[.int .i64 2, .int .i64 d, .int .i64 i, .int .i64 b, .int .i64 h, .slice ga gs.length gc, .int .i64 p, .slice wa ws.length wc, .int .i64 f][j]? : Option Value))) (by kernel_rfl) (by (first | (exact HR.out.cells) | (exact (S0.out.alloc _).cells) | (exact S0.out.cells))) (fun hHeld => ?_)
  first
    | (refine wpAnyH_take (i := 0) (v := undef) (by simp only [List.getElem?_toArray, List.getElem?_cons_zero]; rfl) (by kernel_rfl) (by kernel_rfl) (by kernel_rfl) (fun _ _ _ h => h) (Or.inr ⟨by rfl, rfl⟩) (by assumption) ?_; try simp only [Act.put, List.setIfInBounds_toArray, List.set_cons_zero, List.set_cons_succ])
    | (refine wpAnyH_take (i := 0) (v := ?_) (by simp only [List.getElem?_toArray, List.getElem?_cons_zero]; rfl) (by kernel_rfl) (by kernel_rfl) (by kernel_rfl) (fun _ _ _ h => h) (Or.inl ⟨by rfl, ?_⟩) (by assumption) ?_
       rotate_left
       · (intro ww hSw; (try dsimp only at hSw); go_simp; (try with_reducible rfl))
       try simp only [Act.put, List.setIfInBounds_toArray, List.set_cons_zero, List.set_cons_succ])
    | (refine wpAnyH_ready (rs := [0]) (by kernel_rfl) (by simp) (AllReadyH.cons (by simp only [List.getElem?_toArray, List.getElem?_cons_succ, List.getElem?_cons_zero]; rfl) (fun K hK => ?_) AllReadyH.nil)
       go_simp
       first
         | (go_at_call 50; (first | (with_reducible refine (n_any h _ h0 h1).mono ?_)); rintro e w9 ⟨rfl, hb⟩; replace S0 := Lib.hid (S0.out.call hb); clear hb)
         | (go_at_call 49; (first | (with_reducible refine (refway_b d _).mono ?_)); rintro e w9 ⟨rfl, hb⟩; replace S0 := Lib.hid (S0.out.call hb); clear hb)
         | (skip)
       try go_wp2_with fail
       refine hK.out _ _ (by (first | (exact HR.out.cells) | (exact (S0.out.alloc _).cells) | (exact S0.out.cells))) (fun hHeld => ?_)
       clear hK K
       try simp only [Act.put, List.setIfInBounds_toArray, List.set_cons_zero, List.set_cons_succ])
  first
    | (refine wpAnyH_take (i := 1) (v := undef) (by simp only [List.getElem?_toArray, List.getElem?_cons_succ, List.getElem?_cons_zero]; rfl) (by kernel_rfl) (by kernel_rfl) (by kernel_rfl) (fun _ _ _ h => h) (Or.inr ⟨by rfl, rfl⟩) (by assumption) ?_; try simp only [Act.put, List.setIfInBounds_toArray, List.set_cons_zero, List.set_cons_succ])
    | (refine wpAnyH_take (i := 1) (v := ?_) (by simp only [List.getElem?_toArray, List.getElem?_cons_succ, List.getElem?_cons_zero]; rfl) (by kernel_rfl) (by kernel_rfl) (by kernel_rfl) (fun _ _ _ h => h) (Or.inl ⟨by rfl, ?_⟩) (by assumption) ?_
       rotate_left
       · (intro ww hSw; (try dsimp only at hSw); go_simp; (try with_reducible rfl))
       try simp only [Act.put, List.setIfInBounds_toArray, List.set_cons_zero, List.set_cons_succ])
    | (refine wpAnyH_ready (rs := [1]) (by kernel_rfl) (by simp) (AllReadyH.cons (by simp only [List.getElem?_toArray, List.getElem?_cons_succ, List.getElem?_cons_zero]; rfl) (fun K hK => ?_) AllReadyH.nil)
       go_simp
       first
         | (go_at_call 50; (first | (with_reducible refine (n_any h _ h0 h1).mono ?_)); rintro e w9 ⟨rfl, hb⟩; replace S0 := Lib.hid (S0.out.call hb); clear hb)
         | (go_at_call 49; (first | (with_reducible refine (refway_b d _).mono ?_)); rintro e w9 ⟨rfl, hb⟩; replace S0 := Lib.hid (S0.out.call hb); clear hb)
         | (skip)
       try go_wp2_with fail
       refine hK.out _ _ (by (first | (exact HR.out.cells) | (exact (S0.out.alloc _).cells) | (exact S0.out.cells))) (fun hHeld => ?_)
       clear hK K
       try simp only [Act.put, List.setIfInBounds_toArray, List.set_cons_zero, List.set_cons_succ])
  first
    | (refine wpAnyH_take (i := 2) (v := undef) (by simp only [List.getElem?_toArray, List.getElem?_cons_succ, List.getElem?_cons_zero]; rfl) (by kernel_rfl) (by kernel_rfl) (by kernel_rfl) (fun _ _ _ h => h) (Or.inr ⟨by rfl, rfl⟩) (by assumption) ?_; try simp only [Act.put, List.setIfInBounds_toArray, List.set_cons_zero, List.set_cons_succ])
    | (refine wpAnyH_take (i := 2) (v := ?_) (by simp only [List.getElem?_toArray, List.getElem?_cons_succ, List.getElem?_cons_zero]; rfl) (by kernel_rfl) (by kernel_rfl) (by kernel_rfl) (fun _ _ _ h => h) (Or.inl ⟨by rfl, ?_⟩) (by assumption) ?_
       rotate_left
       · (intro ww hSw; (try dsimp only at hSw); go_simp; (try with_reducible rfl))
       try simp only [Act.put, List.setIfInBounds_toArray, List.set_cons_zero, List.set_cons_succ])
    | (refine wpAnyH_ready (rs := [2]) (by kernel_rfl) (by simp) (AllReadyH.cons (by simp only [List.getElem?_toArray, List.getElem?_cons_succ, List.getElem?_cons_zero]; rfl) (fun K hK => ?_) AllReadyH.nil)
       go_simp
       first
         | (go_at_call 50; (first | (with_reducible refine (n_any h _ h0 h1).mono ?_)); rintro e w9 ⟨rfl, hb⟩; replace S0 := Lib.hid (S0.out.call hb); clear hb)
         | (go_at_call 49; (first | (with_reducible refine (refway_b d _).mono ?_)); rintro e w9 ⟨rfl, hb⟩; replace S0 := Lib.hid (S0.out.call hb); clear hb)
         | (skip)
       try go_wp2_with fail
       refine hK.out _ _ (by (first | (exact HR.out.cells) | (exact (S0.out.alloc _).cells) | (exact S0.out.cells))) (fun hHeld => ?_)
       clear hK K
       try simp only [Act.put, List.setIfInBounds_toArray, List.set_cons_zero, List.set_cons_succ])
  first
    | (refine wpAnyH_take (i := 4) (v := undef) (by simp only [List.getElem?_toArray, List.getElem?_cons_succ, List.getElem?_cons_zero]; rfl) (by kernel_rfl) (by kernel_rfl) (by kernel_rfl) (fun _ _ _ h => h) (Or.inr ⟨by rfl, rfl⟩) (by assumption) ?_; try simp only [Act.put, List.setIfInBounds_toArray, List.set_cons_zero, List.set_cons_succ])
    | (refine wpAnyH_take (i := 4) (v := ?_) (by simp only [List.getElem?_toArray, List.getElem?_cons_succ, List.getElem?_cons_zero]; rfl) (by kernel_rfl) (by kernel_rfl) (by kernel_rfl) (fun _ _ _ h => h) (Or.inl ⟨by rfl, ?_⟩) (by assumption) ?_
       rotate_left
       · (intro ww hSw; (try dsimp only at hSw); go_simp; (try with_reducible rfl))
       try simp only [Act.put, List.setIfInBounds_toArray, List.set_cons_zero, List.set_cons_succ])
    | (refine wpAnyH_ready (rs := [4]) (by kernel_rfl) (by simp) (AllReadyH.cons (by simp only [List.getElem?_toArray, List.getElem?_cons_succ, List.getElem?_cons_zero]; rfl) (fun K hK => ?_) AllReadyH.nil)
       go_simp
       first
         | (go_at_call 50; (first | (with_reducible refine (n_any h _ h0 h1).mono ?_)); rintro e w9 ⟨rfl, hb⟩; replace S0 := Lib.hid (S0.out.call hb); clear hb)
         | (go_at_call 49; (first | (with_reducible refine (refway_b d _).mono ?_)); rintro e w9 ⟨rfl, hb⟩; replace S0 := Lib.hid (S0.out.call hb); clear hb)
         | (skip)
       try go_wp2_with fail
       refine hK.out _ _ (by (first | (exact HR.out.cells) | (exact (S0.out.alloc _).cells) | (exact S0.out.cells))) (fun hHeld => ?_)
       clear hK K
       try simp only [Act.put, List.setIfInBounds_toArray, List.set_cons_zero, List.set_cons_succ])
  first
    | (refine wpAnyH_take (i := 5) (v := undef) (by simp only [List.getElem?_toArray, List.getElem?_cons_succ, List.getElem?_cons_zero]; rfl) (by kernel_rfl) (by kernel_rfl) (by kernel_rfl) (fun _ _ _ h => h) (Or.inr ⟨by rfl, rfl⟩) (by assumption) ?_; try simp only [Act.put, List.setIfInBounds_toArray, List.set_cons_zero, List.set_cons_succ])
    | (refine wpAnyH_take (i := 5) (v := ?_) (by simp only [List.getElem?_toArray, List.getElem?_cons_succ, List.getElem?_cons_zero]; rfl) (by kernel_rfl) (by kernel_rfl) (by kernel_rfl) (fun _ _ _ h => h) (Or.inl ⟨by rfl, ?_⟩) (by assumption) ?_
       rotate_left
       · (intro ww hSw; (try dsimp only at hSw); go_simp; (try with_reducible rfl))
       try simp only [Act.put, List.setIfInBounds_toArray, List.set_cons_zero, List.set_cons_succ])
    | (refine wpAnyH_ready (rs := [5]) (by kernel_rfl) (by simp) (AllReadyH.cons (by simp only [List.getElem?_toArray, List.getElem?_cons_succ, List.getElem?_cons_zero]; rfl) (fun K hK => ?_) AllReadyH.nil)
       go_simp
       first
         | (go_at_call 50; (first | (with_reducible refine (n_any h _ h0 h1).mono ?_)); rintro e w9 ⟨rfl, hb⟩; replace S0 := Lib.hid (S0.out.call hb); clear hb)
         | (go_at_call 49; (first | (with_reducible refine (refway_b d _).mono ?_)); rintro e w9 ⟨rfl, hb⟩; replace S0 := Lib.hid (S0.out.call hb); clear hb)
         | (skip)
       try go_wp2_with fail
       refine hK.out _ _ (by (first | (exact HR.out.cells) | (exact (S0.out.alloc _).cells) | (exact S0.out.cells))) (fun hHeld => ?_)
       clear hK K
       try simp only [Act.put, List.setIfInBounds_toArray, List.set_cons_zero, List.set_cons_succ])
  first
    | (refine wpAnyH_take (i := 3) (v := undef) (by simp only [List.getElem?_toArray, List.getElem?_cons_succ, List.getElem?_cons_zero]; rfl) (by kernel_rfl) (by kernel_rfl) (by kernel_rfl) (fun _ _ _ h => h) (Or.inr ⟨by rfl, rfl⟩) (by assumption) ?_; try simp only [Act.put, List.setIfInBounds_toArray, List.set_cons_zero, List.set_cons_succ])
    | (refine wpAnyH_take (i := 3) (v := ?_) (by simp only [List.getElem?_toArray, List.getElem?_cons_succ, List.getElem?_cons_zero]; rfl) (by kernel_rfl) (by kernel_rfl) (by kernel_rfl) (fun _ _ _ h => h) (Or.inl ⟨by rfl, ?_⟩) (by assumption) ?_
       rotate_left
       · (intro ww hSw; (try dsimp only at hSw); go_simp; (try with_reducible rfl))
       try simp only [Act.put, List.setIfInBounds_toArray, List.set_cons_zero, List.set_cons_succ])
    | (refine wpAnyH_ready (rs := [3]) (by kernel_rfl) (by simp) (AllReadyH.cons (by simp only [List.getElem?_toArray, List.getElem?_cons_succ, List.getElem?_cons_zero]; rfl) (fun K hK => ?_) AllReadyH.nil)
       go_simp
       first
         | (go_at_call 50; (first | (with_reducible refine (n_any h _ h0 h1).mono ?_)); rintro e w9 ⟨rfl, hb⟩; replace S0 := Lib.hid (S0.out.call hb); clear hb)
         | (go_at_call 49; (first | (with_reducible refine (refway_b d _).mono ?_)); rintro e w9 ⟨rfl, hb⟩; replace S0 := Lib.hid (S0.out.call hb); clear hb)
         | (skip)
       try go_wp2_with fail
       refine hK.out _ _ (by (first | (exact HR.out.cells) | (exact (S0.out.alloc _).cells) | (exact S0.out.cells))) (fun hHeld => ?_)
       clear hK K
       try simp only [Act.put, List.setIfInBounds_toArray, List.set_cons_zero, List.set_cons_succ])
  first
    | (refine wpAnyH_take (i := 6) (v := undef) (by simp only [List.getElem?_toArray, List.getElem?_cons_succ, List.getElem?_cons_zero]; rfl) (by kernel_rfl) (by kernel_rfl) (by kernel_rfl) (fun _ _ _ h => h) (Or.inr ⟨by rfl, rfl⟩) (by assumption) ?_; try simp only [Act.put, List.setIfInBounds_toArray, List.set_cons_zero, List.set_cons_succ])
    | (refine wpAnyH_take (i := 6) (v := ?_) (by simp only [List.getElem?_toArray, List.getElem?_cons_succ, List.getElem?_cons_zero]; rfl) (by kernel_rfl) (by kernel_rfl) (by kernel_rfl) (fun _ _ _ h => h) (Or.inl ⟨by rfl, ?_⟩) (by assumption) ?_
       rotate_left
       · (intro ww hSw; (try dsimp only at hSw); go_simp; (try with_reducible rfl))
       try simp only [Act.put, List.setIfInBounds_toArray, List.set_cons_zero, List.set_cons_succ])
    | (refine wpAnyH_ready (rs := [6]) (by kernel_rfl) (by simp) (AllReadyH.cons (by simp only [List.getElem?_toArray, List.getElem?_cons_succ, List.getElem?_cons_zero]; rfl) (fun K hK => ?_) AllReadyH.nil)
       go_simp
       first
         | (go_at_call 50; (first | (with_reducible refine (n_any h _ h0 h1).mono ?_)); rintro e w9 ⟨rfl, hb⟩; replace S0 := Lib.hid (S0.out.call hb); clear hb)
         | (go_at_call 49; (first | (with_reducible refine (refway_b d _).mono ?_)); rintro e w9 ⟨rfl, hb⟩; replace S0 := Lib.hid (S0.out.call hb); clear hb)
         | (skip)
       try go_wp2_with fail
       refine hK.out _ _ (by (first | (exact HR.out.cells) | (exact (S0.out.alloc _).cells) | (exact S0.out.cells))) (fun hHeld => ?_)
       clear hK K
       try simp only [Act.put, List.setIfInBounds_toArray, List.set_cons_zero, List.set_cons_succ])
  first
    | (refine wpAnyH_take (i := 7) (v := undef) (by simp only [List.getElem?_toArray, List.getElem?_cons_succ, List.getElem?_cons_zero]; rfl) (by kernel_rfl) (by kernel_rfl) (by kernel_rfl) (fun _ _ _ h => h) (Or.inr ⟨by rfl, rfl⟩) (by assumption) ?_; try simp only [Act.put, List.setIfInBounds_toArray, List.set_cons_zero, List.set_cons_succ])
    | (refine wpAnyH_take (i := 7) (v := ?_) (by simp only [List.getElem?_toArray, List.getElem?_cons_succ, List.getElem?_cons_zero]; rfl) (by kernel_rfl) (by kernel_rfl) (by kernel_rfl) (fun _ _ _ h => h) (Or.inl ⟨by rfl, ?_⟩) (by assumption) ?_
       rotate_left
       · (intro ww hSw; (try dsimp only at hSw); go_simp; (try with_reducible rfl))
       try simp only [Act.put, List.setIfInBounds_toArray, List.set_cons_zero, List.set_cons_succ])
    | (refine wpAnyH_ready (rs := [7]) (by kernel_rfl) (by simp) (AllReadyH.cons (by simp only [List.getElem?_toArray, List.getElem?_cons_succ, List.getElem?_cons_zero]; rfl) (fun K hK => ?_) AllReadyH.nil)
       go_simp
       first
         | (go_at_call 50; (first | (with_reducible refine (n_any h _ h0 h1).mono ?_)); rintro e w9 ⟨rfl, hb⟩; replace S0 := Lib.hid (S0.out.call hb); clear hb)
         | (go_at_call 49; (first | (with_reducible refine (refway_b d _).mono ?_)); rintro e w9 ⟨rfl, hb⟩; replace S0 := Lib.hid (S0.out.call hb); clear hb)
         | (skip)
       try go_wp2_with fail
       refine hK.out _ _ (by (first | (exact HR.out.cells) | (exact (S0.out.alloc _).cells) | (exact S0.out.cells))) (fun hHeld => ?_)
       clear hK K
       try simp only [Act.put, List.setIfInBounds_toArray, List.set_cons_zero, List.set_cons_succ])
  refine wpAnyH_ready (rs := [8]) (by kernel_rfl) (by simp) (AllReadyH.cons (by simp only [List.getElem?_toArray, List.getElem?_cons_succ, List.getElem?_cons_zero]; rfl) (fun K hK => ?_) AllReadyH.nil)
  (obtain ⟨v', W2, hrun, hR⟩ := ref_append S0.out [wd h, wayOf d] (by simp) #[.string ⟨(wd h).toArray⟩, .string ⟨(wayOf d).toArray⟩] rfl 2 rfl); have HR := Lib.hid hR; clear hR; refine step_append rfl (.tmp 22) (.tmp 29) 39 rfl _ _ v' W2 rfl rfl hrun ?_; clear hrun
  refine hK.out _ _ (by (first | (exact HR.out.cells) | (exact (S0.out.alloc _).cells) | (exact S0.out.cells))) (fun hHeld => ?_)
  clear hK K
  try simp only [Act.put, List.setIfInBounds_toArray, List.set_cons_zero, List.set_cons_succ]
  first
    | (refine wpAnyH_take (i := 9) (v := undef) (by simp only [List.getElem?_toArray, List.getElem?_cons_succ, List.getElem?_cons_zero]; rfl) (by kernel_rfl) (by kernel_rfl) (by kernel_rfl) (fun _ _ _ h => h) (Or.inr ⟨by rfl, rfl⟩) (by assumption) ?_; try simp only [Act.put, List.setIfInBounds_toArray, List.set_cons_zero, List.set_cons_succ])
    | (refine wpAnyH_take (i := 9) (v := ?_) (by simp only [List.getElem?_toArray, List.getElem?_cons_succ, List.getElem?_cons_zero]; rfl) (by kernel_rfl) (by kernel_rfl) (by kernel_rfl) (fun _ _ _ h => h) (Or.inl ⟨by rfl, ?_⟩) (by assumption) ?_
       rotate_left
       · (intro ww hSw; (try dsimp only at hSw); go_simp; (try with_reducible rfl))
       try simp only [Act.put, List.setIfInBounds_toArray, List.set_cons_zero, List.set_cons_succ])
    | (refine wpAnyH_ready (rs := [9]) (by kernel_rfl) (by simp) (AllReadyH.cons (by simp only [List.getElem?_toArray, List.getElem?_cons_succ, List.getElem?_cons_zero]; rfl) (fun K hK => ?_) AllReadyH.nil)
       go_simp
       first
         | (go_at_call 50; (first | (with_reducible refine (n_any h _ h0 h1).mono ?_)); rintro e w9 ⟨rfl, hb⟩; replace S0 := Lib.hid (S0.out.call hb); clear hb)
         | (go_at_call 49; (first | (with_reducible refine (refway_b d _).mono ?_)); rintro e w9 ⟨rfl, hb⟩; replace S0 := Lib.hid (S0.out.call hb); clear hb)
         | (skip)
       try go_wp2_with fail
       refine hK.out _ _ (by (first | (exact HR.out.cells) | (exact (S0.out.alloc _).cells) | (exact S0.out.cells))) (fun hHeld => ?_)
       clear hK K
       try simp only [Act.put, List.setIfInBounds_toArray, List.set_cons_zero, List.set_cons_succ])
  refine wpAnyH_done (by kernel_rfl) ?_ _
  refine NoPanic.normal ?_
  go_wp2_with fail
  go_ret
  exact ref_done HR.out (by simp)
set_option maxRecDepth 100000 in
set_option maxHeartbeats 2000000 in
theorem refwords_5 (d i b h p f : Int) (gs ws : List Int) (ga wa : Option Addr) (gc wc : Nat) (w : World) (h0 : 0 ≤ i) (h1 : i ≤ 1073741824) (h2 : 0 ≤ b) (h3 : b ≤ 1073741824) :
    Calls Tryd.prog 26 #[.agg #[.int .i64 5, .int .i64 d, .int .i64 i, .int .i64 b, .int .i64 h, .slice ga gs.length gc, .int .i64 p, .slice wa ws.length wc, .int .i64 f]] w (GivesStrs (nameOf 5 :: [wd i, sIn, wd b]) w) := by
  go_enter Tryd.func26, Tryd.ntmps26
  go_wp2_with fail
  have P0 := Lib.hid (PutAt.new w ⟨5, d, i, b, h, gs, p, ws, f⟩ ga wa gc wc)
  refine (refname_any 5 _).mono ?_
  rintro e w1 ⟨rfl, b1⟩
  have R0 := Lib.hid (ref_start (P0.out.call b1) (nameOf 5))
  have hA := R0.out.cells
  clear b1 P0
  have S0 := Lib.hid R0.out.drew
  go_wp2_with fail
  clear hA
  refine wp_region_noPanic ?_
  refine wp_region_held_drew (S := (fun w' => ∀ j, w'.cell? ⟨w.heap.size, j, none⟩ = (#[.int .i64 5, .int .i64 d, .int .i64 i, .int .i64 b, .int .i64 h, .slice ga gs.length gc, .int .i64 p, .slice wa ws.length wc, .int .i64 f][j]? : Option Value))) (by kernel_rfl) (by (first | (exact HR.out.cells) | (exact (S0.out.alloc _).cells) | (exact S0.out.cells))) (fun hHeld => ?_)
  first
    | (refine wpAnyH_take (i := 0) (v := undef) (by simp only [List.getElem?_toArray, List.getElem?_cons_zero]; rfl) (by kernel_rfl) (by kernel_rfl) (by kernel_rfl) (fun _ _ _ h => h) (Or.inr ⟨by rfl, rfl⟩) (by assumption) ?_; try simp only [Act.put, List.setIfInBounds_toArray, List.set_cons_zero, List.set_cons_succ])
    | (refine wpAnyH_take (i := 0) (v := ?_) (by simp only [List.getElem?_toArray, List.getElem?_cons_zero]; rfl) (by kernel_rfl) (by kernel_rfl) (by kernel_rfl) (fun _ _ _ h => h) (Or.inl ⟨by rfl, ?_⟩) (by assumption) ?_
       rotate_left
       · (intro ww hSw; (try dsimp only at hSw); go_simp; (try with_reducible rfl))
       try simp only [Act.put, List.setIfInBounds_toArray, List.set_cons_zero, List.set_cons_succ])
    | (refine wpAnyH_ready (rs := [0]) (by kernel_rfl) (by simp) (AllReadyH.cons (by simp only [List.getElem?_toArray, List.getElem?_cons_succ, List.getElem?_cons_zero]; rfl) (fun K hK => ?_) AllReadyH.nil)
       go_simp
       first
         | (go_at_call 50; (first | (with_reducible refine (n_any i _ h0 h1).mono ?_) | (with_reducible refine (n_any b _ h2 h3).mono ?_)); rintro e w9 ⟨rfl, hb⟩; replace S0 := Lib.hid (S0.out.call hb); clear hb)
         | (skip)
       try go_wp2_with fail
       refine hK.out _ _ (by (first | (exact HR.out.cells) | (exact (S0.out.alloc _).cells) | (exact S0.out.cells))) (fun hHeld => ?_)
       clear hK K
       try simp only [Act.put, List.setIfInBounds_toArray, List.set_cons_zero, List.set_cons_succ])
  first
    | (refine wpAnyH_take (i := 1) (v := undef) (by simp only [List.getElem?_toArray, List.getElem?_cons_succ, List.getElem?_cons_zero]; rfl) (by kernel_rfl) (by kernel_rfl) (by kernel_rfl) (fun _ _ _ h => h) (Or.inr ⟨by rfl, rfl⟩) (by assumption) ?_; try simp only [Act.put, List.setIfInBounds_toArray, List.set_cons_zero, List.set_cons_succ])
    | (refine wpAnyH_take (i := 1) (v := ?_) (by simp only [List.getElem?_toArray, List.getElem?_cons_succ, List.getElem?_cons_zero]; rfl) (by kernel_rfl) (by kernel_rfl) (by kernel_rfl) (fun _ _ _ h => h) (Or.inl ⟨by rfl, ?_⟩) (by assumption) ?_
       rotate_left
       · (intro ww hSw; (try dsimp only at hSw); go_simp; (try with_reducible rfl))
       try simp only [Act.put, List.setIfInBounds_toArray, List.set_cons_zero, List.set_cons_succ])
    | (refine wpAnyH_ready (rs := [1]) (by kernel_rfl) (by simp) (AllReadyH.cons (by simp only [List.getElem?_toArray, List.getElem?_cons_succ, List.getElem?_cons_zero]; rfl) (fun K hK => ?_) AllReadyH.nil)
       go_simp
       first
         | (go_at_call 50; (first | (with_reducible refine (n_any i _ h0 h1).mono ?_) | (with_reducible refine (n_any b _ h2 h3).mono ?_)); rintro e w9 ⟨rfl, hb⟩; replace S0 := Lib.hid (S0.out.call hb); clear hb)
         | (skip)
       try go_wp2_with fail
       refine hK.out _ _ (by (first | (exact HR.out.cells) | (exact (S0.out.alloc _).cells) | (exact S0.out.cells))) (fun hHeld => ?_)
       clear hK K
       try simp only [Act.put, List.setIfInBounds_toArray, List.set_cons_zero, List.set_cons_succ])
  first
    | (refine wpAnyH_take (i := 2) (v := undef) (by simp only [List.getElem?_toArray, List.getElem?_cons_succ, List.getElem?_cons_zero]; rfl) (by kernel_rfl) (by kernel_rfl) (by kernel_rfl) (fun _ _ _ h => h) (Or.inr ⟨by rfl, rfl⟩) (by assumption) ?_; try simp only [Act.put, List.setIfInBounds_toArray, List.set_cons_zero, List.set_cons_succ])
    | (refine wpAnyH_take (i := 2) (v := ?_) (by simp only [List.getElem?_toArray, List.getElem?_cons_succ, List.getElem?_cons_zero]; rfl) (by kernel_rfl) (by kernel_rfl) (by kernel_rfl) (fun _ _ _ h => h) (Or.inl ⟨by rfl, ?_⟩) (by assumption) ?_
       rotate_left
       · (intro ww hSw; (try dsimp only at hSw); go_simp; (try with_reducible rfl))
       try simp only [Act.put, List.setIfInBounds_toArray, List.set_cons_zero, List.set_cons_succ])
    | (refine wpAnyH_ready (rs := [2]) (by kernel_rfl) (by simp) (AllReadyH.cons (by simp only [List.getElem?_toArray, List.getElem?_cons_succ, List.getElem?_cons_zero]; rfl) (fun K hK => ?_) AllReadyH.nil)
       go_simp
       first
         | (go_at_call 50; (first | (with_reducible refine (n_any i _ h0 h1).mono ?_) | (with_reducible refine (n_any b _ h2 h3).mono ?_)); rintro e w9 ⟨rfl, hb⟩; replace S0 := Lib.hid (S0.out.call hb); clear hb)
         | (skip)
       try go_wp2_with fail
       refine hK.out _ _ (by (first | (exact HR.out.cells) | (exact (S0.out.alloc _).cells) | (exact S0.out.cells))) (fun hHeld => ?_)
       clear hK K
       try simp only [Act.put, List.setIfInBounds_toArray, List.set_cons_zero, List.set_cons_succ])
  first
    | (refine wpAnyH_take (i := 4) (v := undef) (by simp only [List.getElem?_toArray, List.getElem?_cons_succ, List.getElem?_cons_zero]; rfl) (by kernel_rfl) (by kernel_rfl) (by kernel_rfl) (fun _ _ _ h => h) (Or.inr ⟨by rfl, rfl⟩) (by assumption) ?_; try simp only [Act.put, List.setIfInBounds_toArray, List.set_cons_zero, List.set_cons_succ])
    | (refine wpAnyH_take (i := 4) (v := ?_) (by simp only [List.getElem?_toArray, List.getElem?_cons_succ, List.getElem?_cons_zero]; rfl) (by kernel_rfl) (by kernel_rfl) (by kernel_rfl) (fun _ _ _ h => h) (Or.inl ⟨by rfl, ?_⟩) (by assumption) ?_
       rotate_left
       · (intro ww hSw; (try dsimp only at hSw); go_simp; (try with_reducible rfl))
       try simp only [Act.put, List.setIfInBounds_toArray, List.set_cons_zero, List.set_cons_succ])
    | (refine wpAnyH_ready (rs := [4]) (by kernel_rfl) (by simp) (AllReadyH.cons (by simp only [List.getElem?_toArray, List.getElem?_cons_succ, List.getElem?_cons_zero]; rfl) (fun K hK => ?_) AllReadyH.nil)
       go_simp
       first
         | (go_at_call 50; (first | (with_reducible refine (n_any i _ h0 h1).mono ?_) | (with_reducible refine (n_any b _ h2 h3).mono ?_)); rintro e w9 ⟨rfl, hb⟩; replace S0 := Lib.hid (S0.out.call hb); clear hb)
         | (skip)
       try go_wp2_with fail
       refine hK.out _ _ (by (first | (exact HR.out.cells) | (exact (S0.out.alloc _).cells) | (exact S0.out.cells))) (fun hHeld => ?_)
       clear hK K
       try simp only [Act.put, List.setIfInBounds_toArray, List.set_cons_zero, List.set_cons_succ])
  first
    | (refine wpAnyH_take (i := 5) (v := undef) (by simp only [List.getElem?_toArray, List.getElem?_cons_succ, List.getElem?_cons_zero]; rfl) (by kernel_rfl) (by kernel_rfl) (by kernel_rfl) (fun _ _ _ h => h) (Or.inr ⟨by rfl, rfl⟩) (by assumption) ?_; try simp only [Act.put, List.setIfInBounds_toArray, List.set_cons_zero, List.set_cons_succ])
    | (refine wpAnyH_take (i := 5) (v := ?_) (by simp only [List.getElem?_toArray, List.getElem?_cons_succ, List.getElem?_cons_zero]; rfl) (by kernel_rfl) (by kernel_rfl) (by kernel_rfl) (fun _ _ _ h => h) (Or.inl ⟨by rfl, ?_⟩) (by assumption) ?_
       rotate_left
       · (intro ww hSw; (try dsimp only at hSw); go_simp; (try with_reducible rfl))
       try simp only [Act.put, List.setIfInBounds_toArray, List.set_cons_zero, List.set_cons_succ])
    | (refine wpAnyH_ready (rs := [5]) (by kernel_rfl) (by simp) (AllReadyH.cons (by simp only [List.getElem?_toArray, List.getElem?_cons_succ, List.getElem?_cons_zero]; rfl) (fun K hK => ?_) AllReadyH.nil)
       go_simp
       first
         | (go_at_call 50; (first | (with_reducible refine (n_any i _ h0 h1).mono ?_) | (with_reducible refine (n_any b _ h2 h3).mono ?_)); rintro e w9 ⟨rfl, hb⟩; replace S0 := Lib.hid (S0.out.call hb); clear hb)
         | (skip)
       try go_wp2_with fail
       refine hK.out _ _ (by (first | (exact HR.out.cells) | (exact (S0.out.alloc _).cells) | (exact S0.out.cells))) (fun hHeld => ?_)
       clear hK K
       try simp only [Act.put, List.setIfInBounds_toArray, List.set_cons_zero, List.set_cons_succ])
  first
    | (refine wpAnyH_take (i := 3) (v := undef) (by simp only [List.getElem?_toArray, List.getElem?_cons_succ, List.getElem?_cons_zero]; rfl) (by kernel_rfl) (by kernel_rfl) (by kernel_rfl) (fun _ _ _ h => h) (Or.inr ⟨by rfl, rfl⟩) (by assumption) ?_; try simp only [Act.put, List.setIfInBounds_toArray, List.set_cons_zero, List.set_cons_succ])
    | (refine wpAnyH_take (i := 3) (v := ?_) (by simp only [List.getElem?_toArray, List.getElem?_cons_succ, List.getElem?_cons_zero]; rfl) (by kernel_rfl) (by kernel_rfl) (by kernel_rfl) (fun _ _ _ h => h) (Or.inl ⟨by rfl, ?_⟩) (by assumption) ?_
       rotate_left
       · (intro ww hSw; (try dsimp only at hSw); go_simp; (try with_reducible rfl))
       try simp only [Act.put, List.setIfInBounds_toArray, List.set_cons_zero, List.set_cons_succ])
    | (refine wpAnyH_ready (rs := [3]) (by kernel_rfl) (by simp) (AllReadyH.cons (by simp only [List.getElem?_toArray, List.getElem?_cons_succ, List.getElem?_cons_zero]; rfl) (fun K hK => ?_) AllReadyH.nil)
       go_simp
       first
         | (go_at_call 50; (first | (with_reducible refine (n_any i _ h0 h1).mono ?_) | (with_reducible refine (n_any b _ h2 h3).mono ?_)); rintro e w9 ⟨rfl, hb⟩; replace S0 := Lib.hid (S0.out.call hb); clear hb)
         | (skip)
       try go_wp2_with fail
       refine hK.out _ _ (by (first | (exact HR.out.cells) | (exact (S0.out.alloc _).cells) | (exact S0.out.cells))) (fun hHeld => ?_)
       clear hK K
       try simp only [Act.put, List.setIfInBounds_toArray, List.set_cons_zero, List.set_cons_succ])
  first
    | (refine wpAnyH_take (i := 6) (v := undef) (by simp only [List.getElem?_toArray, List.getElem?_cons_succ, List.getElem?_cons_zero]; rfl) (by kernel_rfl) (by kernel_rfl) (by kernel_rfl) (fun _ _ _ h => h) (Or.inr ⟨by rfl, rfl⟩) (by assumption) ?_; try simp only [Act.put, List.setIfInBounds_toArray, List.set_cons_zero, List.set_cons_succ])
    | (refine wpAnyH_take (i := 6) (v := ?_) (by simp only [List.getElem?_toArray, List.getElem?_cons_succ, List.getElem?_cons_zero]; rfl) (by kernel_rfl) (by kernel_rfl) (by kernel_rfl) (fun _ _ _ h => h) (Or.inl ⟨by rfl, ?_⟩) (by assumption) ?_
       rotate_left
       · (intro ww hSw; (try dsimp only at hSw); go_simp; (try with_reducible rfl))
       try simp only [Act.put, List.setIfInBounds_toArray, List.set_cons_zero, List.set_cons_succ])
    | (refine wpAnyH_ready (rs := [6]) (by kernel_rfl) (by simp) (AllReadyH.cons (by simp only [List.getElem?_toArray, List.getElem?_cons_succ, List.getElem?_cons_zero]; rfl) (fun K hK => ?_) AllReadyH.nil)
       go_simp
       first
         | (go_at_call 50; (first | (with_reducible refine (n_any i _ h0 h1).mono ?_) | (with_reducible refine (n_any b _ h2 h3).mono ?_)); rintro e w9 ⟨rfl, hb⟩; replace S0 := Lib.hid (S0.out.call hb); clear hb)
         | (skip)
       try go_wp2_with fail
       refine hK.out _ _ (by (first | (exact HR.out.cells) | (exact (S0.out.alloc _).cells) | (exact S0.out.cells))) (fun hHeld => ?_)
       clear hK K
       try simp only [Act.put, List.setIfInBounds_toArray, List.set_cons_zero, List.set_cons_succ])
  first
    | (refine wpAnyH_take (i := 7) (v := undef) (by simp only [List.getElem?_toArray, List.getElem?_cons_succ, List.getElem?_cons_zero]; rfl) (by kernel_rfl) (by kernel_rfl) (by kernel_rfl) (fun _ _ _ h => h) (Or.inr ⟨by rfl, rfl⟩) (by assumption) ?_; try simp only [Act.put, List.setIfInBounds_toArray, List.set_cons_zero, List.set_cons_succ])
    | (refine wpAnyH_take (i := 7) (v := ?_) (by simp only [List.getElem?_toArray, List.getElem?_cons_succ, List.getElem?_cons_zero]; rfl) (by kernel_rfl) (by kernel_rfl) (by kernel_rfl) (fun _ _ _ h => h) (Or.inl ⟨by rfl, ?_⟩) (by assumption) ?_
       rotate_left
       · (intro ww hSw; (try dsimp only at hSw); go_simp; (try with_reducible rfl))
       try simp only [Act.put, List.setIfInBounds_toArray, List.set_cons_zero, List.set_cons_succ])
    | (refine wpAnyH_ready (rs := [7]) (by kernel_rfl) (by simp) (AllReadyH.cons (by simp only [List.getElem?_toArray, List.getElem?_cons_succ, List.getElem?_cons_zero]; rfl) (fun K hK => ?_) AllReadyH.nil)
       go_simp
       first
         | (go_at_call 50; (first | (with_reducible refine (n_any i _ h0 h1).mono ?_) | (with_reducible refine (n_any b _ h2 h3).mono ?_)); rintro e w9 ⟨rfl, hb⟩; replace S0 := Lib.hid (S0.out.call hb); clear hb)
         | (skip)
       try go_wp2_with fail
       refine hK.out _ _ (by (first | (exact HR.out.cells) | (exact (S0.out.alloc _).cells) | (exact S0.out.cells))) (fun hHeld => ?_)
       clear hK K
       try simp only [Act.put, List.setIfInBounds_toArray, List.set_cons_zero, List.set_cons_succ])
  refine wpAnyH_ready (rs := [8]) (by kernel_rfl) (by simp) (AllReadyH.cons (by simp only [List.getElem?_toArray, List.getElem?_cons_succ, List.getElem?_cons_zero]; rfl) (fun K hK => ?_) AllReadyH.nil)
  (obtain ⟨v', W2, hrun, hR⟩ := ref_append S0.out [wd i, sIn, wd b] (by simp) #[.string ⟨(wd i).toArray⟩, .string ⟨#[105, 110]⟩, .string ⟨(wd b).toArray⟩] rfl 3 rfl); have HR := Lib.hid hR; clear hR; refine step_append rfl (.tmp 42) (.tmp 49) 39 rfl _ _ v' W2 rfl rfl hrun ?_; clear hrun
  refine hK.out _ _ (by (first | (exact HR.out.cells) | (exact (S0.out.alloc _).cells) | (exact S0.out.cells))) (fun hHeld => ?_)
  clear hK K
  try simp only [Act.put, List.setIfInBounds_toArray, List.set_cons_zero, List.set_cons_succ]
  first
    | (refine wpAnyH_take (i := 9) (v := undef) (by simp only [List.getElem?_toArray, List.getElem?_cons_succ, List.getElem?_cons_zero]; rfl) (by kernel_rfl) (by kernel_rfl) (by kernel_rfl) (fun _ _ _ h => h) (Or.inr ⟨by rfl, rfl⟩) (by assumption) ?_; try simp only [Act.put, List.setIfInBounds_toArray, List.set_cons_zero, List.set_cons_succ])
    | (refine wpAnyH_take (i := 9) (v := ?_) (by simp only [List.getElem?_toArray, List.getElem?_cons_succ, List.getElem?_cons_zero]; rfl) (by kernel_rfl) (by kernel_rfl) (by kernel_rfl) (fun _ _ _ h => h) (Or.inl ⟨by rfl, ?_⟩) (by assumption) ?_
       rotate_left
       · (intro ww hSw; (try dsimp only at hSw); go_simp; (try with_reducible rfl))
       try simp only [Act.put, List.setIfInBounds_toArray, List.set_cons_zero, List.set_cons_succ])
    | (refine wpAnyH_ready (rs := [9]) (by kernel_rfl) (by simp) (AllReadyH.cons (by simp only [List.getElem?_toArray, List.getElem?_cons_succ, List.getElem?_cons_zero]; rfl) (fun K hK => ?_) AllReadyH.nil)
       go_simp
       first
         | (go_at_call 50; (first | (with_reducible refine (n_any i _ h0 h1).mono ?_) | (with_reducible refine (n_any b _ h2 h3).mono ?_)); rintro e w9 ⟨rfl, hb⟩; replace S0 := Lib.hid (S0.out.call hb); clear hb)
         | (skip)
       try go_wp2_with fail
       refine hK.out _ _ (by (first | (exact HR.out.cells) | (exact (S0.out.alloc _).cells) | (exact S0.out.cells))) (fun hHeld => ?_)
       clear hK K
       try simp only [Act.put, List.setIfInBounds_toArray, List.set_cons_zero, List.set_cons_succ])
  refine wpAnyH_done (by kernel_rfl) ?_ _
  refine NoPanic.normal ?_
  go_wp2_with fail
  go_ret
  exact ref_done HR.out (by simp)
set_option maxRecDepth 100000 in
set_option maxHeartbeats 2000000 in
theorem refwords_6 (d i b h p f : Int) (gs ws : List Int) (ga wa : Option Addr) (gc wc : Nat) (w : World) (h0 : 0 ≤ i) (h1 : i ≤ 1073741824) (h2 : 0 ≤ b) (h3 : b ≤ 1073741824) :
    Calls Tryd.prog 26 #[.agg #[.int .i64 6, .int .i64 d, .int .i64 i, .int .i64 b, .int .i64 h, .slice ga gs.length gc, .int .i64 p, .slice wa ws.length wc, .int .i64 f]] w (GivesStrs (nameOf 6 :: [wd i, sFrom, wd b]) w) := by
  go_enter Tryd.func26, Tryd.ntmps26
  go_wp2_with fail
  have P0 := Lib.hid (PutAt.new w ⟨6, d, i, b, h, gs, p, ws, f⟩ ga wa gc wc)
  refine (refname_any 6 _).mono ?_
  rintro e w1 ⟨rfl, b1⟩
  have R0 := Lib.hid (ref_start (P0.out.call b1) (nameOf 6))
  have hA := R0.out.cells
  clear b1 P0
  have S0 := Lib.hid R0.out.drew
  go_wp2_with fail
  clear hA
  refine wp_region_noPanic ?_
  refine wp_region_held_drew (S := (fun w' => ∀ j, w'.cell? ⟨w.heap.size, j, none⟩ = (#[.int .i64 6, .int .i64 d, .int .i64 i, .int .i64 b, .int .i64 h, .slice ga gs.length gc, .int .i64 p, .slice wa ws.length wc, .int .i64 f][j]? : Option Value))) (by kernel_rfl) (by (first | (exact HR.out.cells) | (exact (S0.out.alloc _).cells) | (exact S0.out.cells))) (fun hHeld => ?_)
  first
    | (refine wpAnyH_take (i := 0) (v := undef) (by simp only [List.getElem?_toArray, List.getElem?_cons_zero]; rfl) (by kernel_rfl) (by kernel_rfl) (by kernel_rfl) (fun _ _ _ h => h) (Or.inr ⟨by rfl, rfl⟩) (by assumption) ?_; try simp only [Act.put, List.setIfInBounds_toArray, List.set_cons_zero, List.set_cons_succ])
    | (refine wpAnyH_take (i := 0) (v := ?_) (by simp only [List.getElem?_toArray, List.getElem?_cons_zero]; rfl) (by kernel_rfl) (by kernel_rfl) (by kernel_rfl) (fun _ _ _ h => h) (Or.inl ⟨by rfl, ?_⟩) (by assumption) ?_
       rotate_left
       · (intro ww hSw; (try dsimp only at hSw); go_simp; (try with_reducible rfl))
       try simp only [Act.put, List.setIfInBounds_toArray, List.set_cons_zero, List.set_cons_succ])
    | (refine wpAnyH_ready (rs := [0]) (by kernel_rfl) (by simp) (AllReadyH.cons (by simp only [List.getElem?_toArray, List.getElem?_cons_succ, List.getElem?_cons_zero]; rfl) (fun K hK => ?_) AllReadyH.nil)
       go_simp
       first
         | (go_at_call 50; (first | (with_reducible refine (n_any i _ h0 h1).mono ?_) | (with_reducible refine (n_any b _ h2 h3).mono ?_)); rintro e w9 ⟨rfl, hb⟩; replace S0 := Lib.hid (S0.out.call hb); clear hb)
         | (skip)
       try go_wp2_with fail
       refine hK.out _ _ (by (first | (exact HR.out.cells) | (exact (S0.out.alloc _).cells) | (exact S0.out.cells))) (fun hHeld => ?_)
       clear hK K
       try simp only [Act.put, List.setIfInBounds_toArray, List.set_cons_zero, List.set_cons_succ])
  first
    | (refine wpAnyH_take (i := 1) (v := undef) (by simp only [List.getElem?_toArray, List.getElem?_cons_succ, List.getElem?_cons_zero]; rfl) (by kernel_rfl) (by kernel_rfl) (by kernel_rfl) (fun _ _ _ h => h) (Or.inr ⟨by rfl, rfl⟩) (by assumption) ?_; try simp only [Act.put, List.setIfInBounds_toArray, List.set_cons_zero, List.set_cons_succ])
    | (refine wpAnyH_take (i := 1) (v := ?_) (by simp only [List.getElem?_toArray, List.getElem?_cons_succ, List.getElem?_cons_zero]; rfl) (by kernel_rfl) (by kernel_rfl) (by kernel_rfl) (fun _ _ _ h => h) (Or.inl ⟨by rfl, ?_⟩) (by assumption) ?_
       rotate_left
       · (intro ww hSw; (try dsimp only at hSw); go_simp; (try with_reducible rfl))
       try simp only [Act.put, List.setIfInBounds_toArray, List.set_cons_zero, List.set_cons_succ])
    | (refine wpAnyH_ready (rs := [1]) (by kernel_rfl) (by simp) (AllReadyH.cons (by simp only [List.getElem?_toArray, List.getElem?_cons_succ, List.getElem?_cons_zero]; rfl) (fun K hK => ?_) AllReadyH.nil)
       go_simp
       first
         | (go_at_call 50; (first | (with_reducible refine (n_any i _ h0 h1).mono ?_) | (with_reducible refine (n_any b _ h2 h3).mono ?_)); rintro e w9 ⟨rfl, hb⟩; replace S0 := Lib.hid (S0.out.call hb); clear hb)
         | (skip)
       try go_wp2_with fail
       refine hK.out _ _ (by (first | (exact HR.out.cells) | (exact (S0.out.alloc _).cells) | (exact S0.out.cells))) (fun hHeld => ?_)
       clear hK K
       try simp only [Act.put, List.setIfInBounds_toArray, List.set_cons_zero, List.set_cons_succ])
  first
    | (refine wpAnyH_take (i := 2) (v := undef) (by simp only [List.getElem?_toArray, List.getElem?_cons_succ, List.getElem?_cons_zero]; rfl) (by kernel_rfl) (by kernel_rfl) (by kernel_rfl) (fun _ _ _ h => h) (Or.inr ⟨by rfl, rfl⟩) (by assumption) ?_; try simp only [Act.put, List.setIfInBounds_toArray, List.set_cons_zero, List.set_cons_succ])
    | (refine wpAnyH_take (i := 2) (v := ?_) (by simp only [List.getElem?_toArray, List.getElem?_cons_succ, List.getElem?_cons_zero]; rfl) (by kernel_rfl) (by kernel_rfl) (by kernel_rfl) (fun _ _ _ h => h) (Or.inl ⟨by rfl, ?_⟩) (by assumption) ?_
       rotate_left
       · (intro ww hSw; (try dsimp only at hSw); go_simp; (try with_reducible rfl))
       try simp only [Act.put, List.setIfInBounds_toArray, List.set_cons_zero, List.set_cons_succ])
    | (refine wpAnyH_ready (rs := [2]) (by kernel_rfl) (by simp) (AllReadyH.cons (by simp only [List.getElem?_toArray, List.getElem?_cons_succ, List.getElem?_cons_zero]; rfl) (fun K hK => ?_) AllReadyH.nil)
       go_simp
       first
         | (go_at_call 50; (first | (with_reducible refine (n_any i _ h0 h1).mono ?_) | (with_reducible refine (n_any b _ h2 h3).mono ?_)); rintro e w9 ⟨rfl, hb⟩; replace S0 := Lib.hid (S0.out.call hb); clear hb)
         | (skip)
       try go_wp2_with fail
       refine hK.out _ _ (by (first | (exact HR.out.cells) | (exact (S0.out.alloc _).cells) | (exact S0.out.cells))) (fun hHeld => ?_)
       clear hK K
       try simp only [Act.put, List.setIfInBounds_toArray, List.set_cons_zero, List.set_cons_succ])
  first
    | (refine wpAnyH_take (i := 4) (v := undef) (by simp only [List.getElem?_toArray, List.getElem?_cons_succ, List.getElem?_cons_zero]; rfl) (by kernel_rfl) (by kernel_rfl) (by kernel_rfl) (fun _ _ _ h => h) (Or.inr ⟨by rfl, rfl⟩) (by assumption) ?_; try simp only [Act.put, List.setIfInBounds_toArray, List.set_cons_zero, List.set_cons_succ])
    | (refine wpAnyH_take (i := 4) (v := ?_) (by simp only [List.getElem?_toArray, List.getElem?_cons_succ, List.getElem?_cons_zero]; rfl) (by kernel_rfl) (by kernel_rfl) (by kernel_rfl) (fun _ _ _ h => h) (Or.inl ⟨by rfl, ?_⟩) (by assumption) ?_
       rotate_left
       · (intro ww hSw; (try dsimp only at hSw); go_simp; (try with_reducible rfl))
       try simp only [Act.put, List.setIfInBounds_toArray, List.set_cons_zero, List.set_cons_succ])
    | (refine wpAnyH_ready (rs := [4]) (by kernel_rfl) (by simp) (AllReadyH.cons (by simp only [List.getElem?_toArray, List.getElem?_cons_succ, List.getElem?_cons_zero]; rfl) (fun K hK => ?_) AllReadyH.nil)
       go_simp
       first
         | (go_at_call 50; (first | (with_reducible refine (n_any i _ h0 h1).mono ?_) | (with_reducible refine (n_any b _ h2 h3).mono ?_)); rintro e w9 ⟨rfl, hb⟩; replace S0 := Lib.hid (S0.out.call hb); clear hb)
         | (skip)
       try go_wp2_with fail
       refine hK.out _ _ (by (first | (exact HR.out.cells) | (exact (S0.out.alloc _).cells) | (exact S0.out.cells))) (fun hHeld => ?_)
       clear hK K
       try simp only [Act.put, List.setIfInBounds_toArray, List.set_cons_zero, List.set_cons_succ])
  first
    | (refine wpAnyH_take (i := 5) (v := undef) (by simp only [List.getElem?_toArray, List.getElem?_cons_succ, List.getElem?_cons_zero]; rfl) (by kernel_rfl) (by kernel_rfl) (by kernel_rfl) (fun _ _ _ h => h) (Or.inr ⟨by rfl, rfl⟩) (by assumption) ?_; try simp only [Act.put, List.setIfInBounds_toArray, List.set_cons_zero, List.set_cons_succ])
    | (refine wpAnyH_take (i := 5) (v := ?_) (by simp only [List.getElem?_toArray, List.getElem?_cons_succ, List.getElem?_cons_zero]; rfl) (by kernel_rfl) (by kernel_rfl) (by kernel_rfl) (fun _ _ _ h => h) (Or.inl ⟨by rfl, ?_⟩) (by assumption) ?_
       rotate_left
       · (intro ww hSw; (try dsimp only at hSw); go_simp; (try with_reducible rfl))
       try simp only [Act.put, List.setIfInBounds_toArray, List.set_cons_zero, List.set_cons_succ])
    | (refine wpAnyH_ready (rs := [5]) (by kernel_rfl) (by simp) (AllReadyH.cons (by simp only [List.getElem?_toArray, List.getElem?_cons_succ, List.getElem?_cons_zero]; rfl) (fun K hK => ?_) AllReadyH.nil)
       go_simp
       first
         | (go_at_call 50; (first | (with_reducible refine (n_any i _ h0 h1).mono ?_) | (with_reducible refine (n_any b _ h2 h3).mono ?_)); rintro e w9 ⟨rfl, hb⟩; replace S0 := Lib.hid (S0.out.call hb); clear hb)
         | (skip)
       try go_wp2_with fail
       refine hK.out _ _ (by (first | (exact HR.out.cells) | (exact (S0.out.alloc _).cells) | (exact S0.out.cells))) (fun hHeld => ?_)
       clear hK K
       try simp only [Act.put, List.setIfInBounds_toArray, List.set_cons_zero, List.set_cons_succ])
  first
    | (refine wpAnyH_take (i := 3) (v := undef) (by simp only [List.getElem?_toArray, List.getElem?_cons_succ, List.getElem?_cons_zero]; rfl) (by kernel_rfl) (by kernel_rfl) (by kernel_rfl) (fun _ _ _ h => h) (Or.inr ⟨by rfl, rfl⟩) (by assumption) ?_; try simp only [Act.put, List.setIfInBounds_toArray, List.set_cons_zero, List.set_cons_succ])
    | (refine wpAnyH_take (i := 3) (v := ?_) (by simp only [List.getElem?_toArray, List.getElem?_cons_succ, List.getElem?_cons_zero]; rfl) (by kernel_rfl) (by kernel_rfl) (by kernel_rfl) (fun _ _ _ h => h) (Or.inl ⟨by rfl, ?_⟩) (by assumption) ?_
       rotate_left
       · (intro ww hSw; (try dsimp only at hSw); go_simp; (try with_reducible rfl))
       try simp only [Act.put, List.setIfInBounds_toArray, List.set_cons_zero, List.set_cons_succ])
    | (refine wpAnyH_ready (rs := [3]) (by kernel_rfl) (by simp) (AllReadyH.cons (by simp only [List.getElem?_toArray, List.getElem?_cons_succ, List.getElem?_cons_zero]; rfl) (fun K hK => ?_) AllReadyH.nil)
       go_simp
       first
         | (go_at_call 50; (first | (with_reducible refine (n_any i _ h0 h1).mono ?_) | (with_reducible refine (n_any b _ h2 h3).mono ?_)); rintro e w9 ⟨rfl, hb⟩; replace S0 := Lib.hid (S0.out.call hb); clear hb)
         | (skip)
       try go_wp2_with fail
       refine hK.out _ _ (by (first | (exact HR.out.cells) | (exact (S0.out.alloc _).cells) | (exact S0.out.cells))) (fun hHeld => ?_)
       clear hK K
       try simp only [Act.put, List.setIfInBounds_toArray, List.set_cons_zero, List.set_cons_succ])
  first
    | (refine wpAnyH_take (i := 6) (v := undef) (by simp only [List.getElem?_toArray, List.getElem?_cons_succ, List.getElem?_cons_zero]; rfl) (by kernel_rfl) (by kernel_rfl) (by kernel_rfl) (fun _ _ _ h => h) (Or.inr ⟨by rfl, rfl⟩) (by assumption) ?_; try simp only [Act.put, List.setIfInBounds_toArray, List.set_cons_zero, List.set_cons_succ])
    | (refine wpAnyH_take (i := 6) (v := ?_) (by simp only [List.getElem?_toArray, List.getElem?_cons_succ, List.getElem?_cons_zero]; rfl) (by kernel_rfl) (by kernel_rfl) (by kernel_rfl) (fun _ _ _ h => h) (Or.inl ⟨by rfl, ?_⟩) (by assumption) ?_
       rotate_left
       · (intro ww hSw; (try dsimp only at hSw); go_simp; (try with_reducible rfl))
       try simp only [Act.put, List.setIfInBounds_toArray, List.set_cons_zero, List.set_cons_succ])
    | (refine wpAnyH_ready (rs := [6]) (by kernel_rfl) (by simp) (AllReadyH.cons (by simp only [List.getElem?_toArray, List.getElem?_cons_succ, List.getElem?_cons_zero]; rfl) (fun K hK => ?_) AllReadyH.nil)
       go_simp
       first
         | (go_at_call 50; (first | (with_reducible refine (n_any i _ h0 h1).mono ?_) | (with_reducible refine (n_any b _ h2 h3).mono ?_)); rintro e w9 ⟨rfl, hb⟩; replace S0 := Lib.hid (S0.out.call hb); clear hb)
         | (skip)
       try go_wp2_with fail
       refine hK.out _ _ (by (first | (exact HR.out.cells) | (exact (S0.out.alloc _).cells) | (exact S0.out.cells))) (fun hHeld => ?_)
       clear hK K
       try simp only [Act.put, List.setIfInBounds_toArray, List.set_cons_zero, List.set_cons_succ])
  first
    | (refine wpAnyH_take (i := 7) (v := undef) (by simp only [List.getElem?_toArray, List.getElem?_cons_succ, List.getElem?_cons_zero]; rfl) (by kernel_rfl) (by kernel_rfl) (by kernel_rfl) (fun _ _ _ h => h) (Or.inr ⟨by rfl, rfl⟩) (by assumption) ?_; try simp only [Act.put, List.setIfInBounds_toArray, List.set_cons_zero, List.set_cons_succ])
    | (refine wpAnyH_take (i := 7) (v := ?_) (by simp only [List.getElem?_toArray, List.getElem?_cons_succ, List.getElem?_cons_zero]; rfl) (by kernel_rfl) (by kernel_rfl) (by kernel_rfl) (fun _ _ _ h => h) (Or.inl ⟨by rfl, ?_⟩) (by assumption) ?_
       rotate_left
       · (intro ww hSw; (try dsimp only at hSw); go_simp; (try with_reducible rfl))
       try simp only [Act.put, List.setIfInBounds_toArray, List.set_cons_zero, List.set_cons_succ])
    | (refine wpAnyH_ready (rs := [7]) (by kernel_rfl) (by simp) (AllReadyH.cons (by simp only [List.getElem?_toArray, List.getElem?_cons_succ, List.getElem?_cons_zero]; rfl) (fun K hK => ?_) AllReadyH.nil)
       go_simp
       first
         | (go_at_call 50; (first | (with_reducible refine (n_any i _ h0 h1).mono ?_) | (with_reducible refine (n_any b _ h2 h3).mono ?_)); rintro e w9 ⟨rfl, hb⟩; replace S0 := Lib.hid (S0.out.call hb); clear hb)
         | (skip)
       try go_wp2_with fail
       refine hK.out _ _ (by (first | (exact HR.out.cells) | (exact (S0.out.alloc _).cells) | (exact S0.out.cells))) (fun hHeld => ?_)
       clear hK K
       try simp only [Act.put, List.setIfInBounds_toArray, List.set_cons_zero, List.set_cons_succ])
  refine wpAnyH_ready (rs := [8]) (by kernel_rfl) (by simp) (AllReadyH.cons (by simp only [List.getElem?_toArray, List.getElem?_cons_succ, List.getElem?_cons_zero]; rfl) (fun K hK => ?_) AllReadyH.nil)
  (obtain ⟨v', W2, hrun, hR⟩ := ref_append S0.out [wd i, sFrom, wd b] (by simp) #[.string ⟨(wd i).toArray⟩, .string ⟨#[102, 114, 111, 109]⟩, .string ⟨(wd b).toArray⟩] rfl 3 rfl); have HR := Lib.hid hR; clear hR; refine step_append rfl (.tmp 53) (.tmp 60) 39 rfl _ _ v' W2 rfl rfl hrun ?_; clear hrun
  refine hK.out _ _ (by (first | (exact HR.out.cells) | (exact (S0.out.alloc _).cells) | (exact S0.out.cells))) (fun hHeld => ?_)
  clear hK K
  try simp only [Act.put, List.setIfInBounds_toArray, List.set_cons_zero, List.set_cons_succ]
  first
    | (refine wpAnyH_take (i := 9) (v := undef) (by simp only [List.getElem?_toArray, List.getElem?_cons_succ, List.getElem?_cons_zero]; rfl) (by kernel_rfl) (by kernel_rfl) (by kernel_rfl) (fun _ _ _ h => h) (Or.inr ⟨by rfl, rfl⟩) (by assumption) ?_; try simp only [Act.put, List.setIfInBounds_toArray, List.set_cons_zero, List.set_cons_succ])
    | (refine wpAnyH_take (i := 9) (v := ?_) (by simp only [List.getElem?_toArray, List.getElem?_cons_succ, List.getElem?_cons_zero]; rfl) (by kernel_rfl) (by kernel_rfl) (by kernel_rfl) (fun _ _ _ h => h) (Or.inl ⟨by rfl, ?_⟩) (by assumption) ?_
       rotate_left
       · (intro ww hSw; (try dsimp only at hSw); go_simp; (try with_reducible rfl))
       try simp only [Act.put, List.setIfInBounds_toArray, List.set_cons_zero, List.set_cons_succ])
    | (refine wpAnyH_ready (rs := [9]) (by kernel_rfl) (by simp) (AllReadyH.cons (by simp only [List.getElem?_toArray, List.getElem?_cons_succ, List.getElem?_cons_zero]; rfl) (fun K hK => ?_) AllReadyH.nil)
       go_simp
       first
         | (go_at_call 50; (first | (with_reducible refine (n_any i _ h0 h1).mono ?_) | (with_reducible refine (n_any b _ h2 h3).mono ?_)); rintro e w9 ⟨rfl, hb⟩; replace S0 := Lib.hid (S0.out.call hb); clear hb)
         | (skip)
       try go_wp2_with fail
       refine hK.out _ _ (by (first | (exact HR.out.cells) | (exact (S0.out.alloc _).cells) | (exact S0.out.cells))) (fun hHeld => ?_)
       clear hK K
       try simp only [Act.put, List.setIfInBounds_toArray, List.set_cons_zero, List.set_cons_succ])
  refine wpAnyH_done (by kernel_rfl) ?_ _
  refine NoPanic.normal ?_
  go_wp2_with fail
  go_ret
  exact ref_done HR.out (by simp)
set_option maxRecDepth 100000 in
set_option maxHeartbeats 2000000 in
theorem refwords_7 (d i b h p f : Int) (gs ws : List Int) (ga wa : Option Addr) (gc wc : Nat) (w : World) (h0 : 0 ≤ i) (h1 : i ≤ 1073741824) (h2 : 0 ≤ h) (h3 : h ≤ 1073741824) :
    Calls Tryd.prog 26 #[.agg #[.int .i64 7, .int .i64 d, .int .i64 i, .int .i64 b, .int .i64 h, .slice ga gs.length gc, .int .i64 p, .slice wa ws.length wc, .int .i64 f]] w (GivesStrs (nameOf 7 :: [wd i, sTo, wd h]) w) := by
  go_enter Tryd.func26, Tryd.ntmps26
  go_wp2_with fail
  have P0 := Lib.hid (PutAt.new w ⟨7, d, i, b, h, gs, p, ws, f⟩ ga wa gc wc)
  refine (refname_any 7 _).mono ?_
  rintro e w1 ⟨rfl, b1⟩
  have R0 := Lib.hid (ref_start (P0.out.call b1) (nameOf 7))
  have hA := R0.out.cells
  clear b1 P0
  have S0 := Lib.hid R0.out.drew
  go_wp2_with fail
  clear hA
  refine wp_region_noPanic ?_
  refine wp_region_held_drew (S := (fun w' => ∀ j, w'.cell? ⟨w.heap.size, j, none⟩ = (#[.int .i64 7, .int .i64 d, .int .i64 i, .int .i64 b, .int .i64 h, .slice ga gs.length gc, .int .i64 p, .slice wa ws.length wc, .int .i64 f][j]? : Option Value))) (by kernel_rfl) (by (first | (exact HR.out.cells) | (exact (S0.out.alloc _).cells) | (exact S0.out.cells))) (fun hHeld => ?_)
  first
    | (refine wpAnyH_take (i := 0) (v := undef) (by simp only [List.getElem?_toArray, List.getElem?_cons_zero]; rfl) (by kernel_rfl) (by kernel_rfl) (by kernel_rfl) (fun _ _ _ h => h) (Or.inr ⟨by rfl, rfl⟩) (by assumption) ?_; try simp only [Act.put, List.setIfInBounds_toArray, List.set_cons_zero, List.set_cons_succ])
    | (refine wpAnyH_take (i := 0) (v := ?_) (by simp only [List.getElem?_toArray, List.getElem?_cons_zero]; rfl) (by kernel_rfl) (by kernel_rfl) (by kernel_rfl) (fun _ _ _ h => h) (Or.inl ⟨by rfl, ?_⟩) (by assumption) ?_
       rotate_left
       · (intro ww hSw; (try dsimp only at hSw); go_simp; (try with_reducible rfl))
       try simp only [Act.put, List.setIfInBounds_toArray, List.set_cons_zero, List.set_cons_succ])
    | (refine wpAnyH_ready (rs := [0]) (by kernel_rfl) (by simp) (AllReadyH.cons (by simp only [List.getElem?_toArray, List.getElem?_cons_succ, List.getElem?_cons_zero]; rfl) (fun K hK => ?_) AllReadyH.nil)
       go_simp
       first
         | (go_at_call 50; (first | (with_reducible refine (n_any i _ h0 h1).mono ?_) | (with_reducible refine (n_any h _ h2 h3).mono ?_)); rintro e w9 ⟨rfl, hb⟩; replace S0 := Lib.hid (S0.out.call hb); clear hb)
         | (skip)
       try go_wp2_with fail
       refine hK.out _ _ (by (first | (exact HR.out.cells) | (exact (S0.out.alloc _).cells) | (exact S0.out.cells))) (fun hHeld => ?_)
       clear hK K
       try simp only [Act.put, List.setIfInBounds_toArray, List.set_cons_zero, List.set_cons_succ])
  first
    | (refine wpAnyH_take (i := 1) (v := undef) (by simp only [List.getElem?_toArray, List.getElem?_cons_succ, List.getElem?_cons_zero]; rfl) (by kernel_rfl) (by kernel_rfl) (by kernel_rfl) (fun _ _ _ h => h) (Or.inr ⟨by rfl, rfl⟩) (by assumption) ?_; try simp only [Act.put, List.setIfInBounds_toArray, List.set_cons_zero, List.set_cons_succ])
    | (refine wpAnyH_take (i := 1) (v := ?_) (by simp only [List.getElem?_toArray, List.getElem?_cons_succ, List.getElem?_cons_zero]; rfl) (by kernel_rfl) (by kernel_rfl) (by kernel_rfl) (fun _ _ _ h => h) (Or.inl ⟨by rfl, ?_⟩) (by assumption) ?_
       rotate_left
       · (intro ww hSw; (try dsimp only at hSw); go_simp; (try with_reducible rfl))
       try simp only [Act.put, List.setIfInBounds_toArray, List.set_cons_zero, List.set_cons_succ])
    | (refine wpAnyH_ready (rs := [1]) (by kernel_rfl) (by simp) (AllReadyH.cons (by simp only [List.getElem?_toArray, List.getElem?_cons_succ, List.getElem?_cons_zero]; rfl) (fun K hK => ?_) AllReadyH.nil)
       go_simp
       first
         | (go_at_call 50; (first | (with_reducible refine (n_any i _ h0 h1).mono ?_) | (with_reducible refine (n_any h _ h2 h3).mono ?_)); rintro e w9 ⟨rfl, hb⟩; replace S0 := Lib.hid (S0.out.call hb); clear hb)
         | (skip)
       try go_wp2_with fail
       refine hK.out _ _ (by (first | (exact HR.out.cells) | (exact (S0.out.alloc _).cells) | (exact S0.out.cells))) (fun hHeld => ?_)
       clear hK K
       try simp only [Act.put, List.setIfInBounds_toArray, List.set_cons_zero, List.set_cons_succ])
  first
    | (refine wpAnyH_take (i := 2) (v := undef) (by simp only [List.getElem?_toArray, List.getElem?_cons_succ, List.getElem?_cons_zero]; rfl) (by kernel_rfl) (by kernel_rfl) (by kernel_rfl) (fun _ _ _ h => h) (Or.inr ⟨by rfl, rfl⟩) (by assumption) ?_; try simp only [Act.put, List.setIfInBounds_toArray, List.set_cons_zero, List.set_cons_succ])
    | (refine wpAnyH_take (i := 2) (v := ?_) (by simp only [List.getElem?_toArray, List.getElem?_cons_succ, List.getElem?_cons_zero]; rfl) (by kernel_rfl) (by kernel_rfl) (by kernel_rfl) (fun _ _ _ h => h) (Or.inl ⟨by rfl, ?_⟩) (by assumption) ?_
       rotate_left
       · (intro ww hSw; (try dsimp only at hSw); go_simp; (try with_reducible rfl))
       try simp only [Act.put, List.setIfInBounds_toArray, List.set_cons_zero, List.set_cons_succ])
    | (refine wpAnyH_ready (rs := [2]) (by kernel_rfl) (by simp) (AllReadyH.cons (by simp only [List.getElem?_toArray, List.getElem?_cons_succ, List.getElem?_cons_zero]; rfl) (fun K hK => ?_) AllReadyH.nil)
       go_simp
       first
         | (go_at_call 50; (first | (with_reducible refine (n_any i _ h0 h1).mono ?_) | (with_reducible refine (n_any h _ h2 h3).mono ?_)); rintro e w9 ⟨rfl, hb⟩; replace S0 := Lib.hid (S0.out.call hb); clear hb)
         | (skip)
       try go_wp2_with fail
       refine hK.out _ _ (by (first | (exact HR.out.cells) | (exact (S0.out.alloc _).cells) | (exact S0.out.cells))) (fun hHeld => ?_)
       clear hK K
       try simp only [Act.put, List.setIfInBounds_toArray, List.set_cons_zero, List.set_cons_succ])
  first
    | (refine wpAnyH_take (i := 4) (v := undef) (by simp only [List.getElem?_toArray, List.getElem?_cons_succ, List.getElem?_cons_zero]; rfl) (by kernel_rfl) (by kernel_rfl) (by kernel_rfl) (fun _ _ _ h => h) (Or.inr ⟨by rfl, rfl⟩) (by assumption) ?_; try simp only [Act.put, List.setIfInBounds_toArray, List.set_cons_zero, List.set_cons_succ])
    | (refine wpAnyH_take (i := 4) (v := ?_) (by simp only [List.getElem?_toArray, List.getElem?_cons_succ, List.getElem?_cons_zero]; rfl) (by kernel_rfl) (by kernel_rfl) (by kernel_rfl) (fun _ _ _ h => h) (Or.inl ⟨by rfl, ?_⟩) (by assumption) ?_
       rotate_left
       · (intro ww hSw; (try dsimp only at hSw); go_simp; (try with_reducible rfl))
       try simp only [Act.put, List.setIfInBounds_toArray, List.set_cons_zero, List.set_cons_succ])
    | (refine wpAnyH_ready (rs := [4]) (by kernel_rfl) (by simp) (AllReadyH.cons (by simp only [List.getElem?_toArray, List.getElem?_cons_succ, List.getElem?_cons_zero]; rfl) (fun K hK => ?_) AllReadyH.nil)
       go_simp
       first
         | (go_at_call 50; (first | (with_reducible refine (n_any i _ h0 h1).mono ?_) | (with_reducible refine (n_any h _ h2 h3).mono ?_)); rintro e w9 ⟨rfl, hb⟩; replace S0 := Lib.hid (S0.out.call hb); clear hb)
         | (skip)
       try go_wp2_with fail
       refine hK.out _ _ (by (first | (exact HR.out.cells) | (exact (S0.out.alloc _).cells) | (exact S0.out.cells))) (fun hHeld => ?_)
       clear hK K
       try simp only [Act.put, List.setIfInBounds_toArray, List.set_cons_zero, List.set_cons_succ])
  first
    | (refine wpAnyH_take (i := 5) (v := undef) (by simp only [List.getElem?_toArray, List.getElem?_cons_succ, List.getElem?_cons_zero]; rfl) (by kernel_rfl) (by kernel_rfl) (by kernel_rfl) (fun _ _ _ h => h) (Or.inr ⟨by rfl, rfl⟩) (by assumption) ?_; try simp only [Act.put, List.setIfInBounds_toArray, List.set_cons_zero, List.set_cons_succ])
    | (refine wpAnyH_take (i := 5) (v := ?_) (by simp only [List.getElem?_toArray, List.getElem?_cons_succ, List.getElem?_cons_zero]; rfl) (by kernel_rfl) (by kernel_rfl) (by kernel_rfl) (fun _ _ _ h => h) (Or.inl ⟨by rfl, ?_⟩) (by assumption) ?_
       rotate_left
       · (intro ww hSw; (try dsimp only at hSw); go_simp; (try with_reducible rfl))
       try simp only [Act.put, List.setIfInBounds_toArray, List.set_cons_zero, List.set_cons_succ])
    | (refine wpAnyH_ready (rs := [5]) (by kernel_rfl) (by simp) (AllReadyH.cons (by simp only [List.getElem?_toArray, List.getElem?_cons_succ, List.getElem?_cons_zero]; rfl) (fun K hK => ?_) AllReadyH.nil)
       go_simp
       first
         | (go_at_call 50; (first | (with_reducible refine (n_any i _ h0 h1).mono ?_) | (with_reducible refine (n_any h _ h2 h3).mono ?_)); rintro e w9 ⟨rfl, hb⟩; replace S0 := Lib.hid (S0.out.call hb); clear hb)
         | (skip)
       try go_wp2_with fail
       refine hK.out _ _ (by (first | (exact HR.out.cells) | (exact (S0.out.alloc _).cells) | (exact S0.out.cells))) (fun hHeld => ?_)
       clear hK K
       try simp only [Act.put, List.setIfInBounds_toArray, List.set_cons_zero, List.set_cons_succ])
  first
    | (refine wpAnyH_take (i := 3) (v := undef) (by simp only [List.getElem?_toArray, List.getElem?_cons_succ, List.getElem?_cons_zero]; rfl) (by kernel_rfl) (by kernel_rfl) (by kernel_rfl) (fun _ _ _ h => h) (Or.inr ⟨by rfl, rfl⟩) (by assumption) ?_; try simp only [Act.put, List.setIfInBounds_toArray, List.set_cons_zero, List.set_cons_succ])
    | (refine wpAnyH_take (i := 3) (v := ?_) (by simp only [List.getElem?_toArray, List.getElem?_cons_succ, List.getElem?_cons_zero]; rfl) (by kernel_rfl) (by kernel_rfl) (by kernel_rfl) (fun _ _ _ h => h) (Or.inl ⟨by rfl, ?_⟩) (by assumption) ?_
       rotate_left
       · (intro ww hSw; (try dsimp only at hSw); go_simp; (try with_reducible rfl))
       try simp only [Act.put, List.setIfInBounds_toArray, List.set_cons_zero, List.set_cons_succ])
    | (refine wpAnyH_ready (rs := [3]) (by kernel_rfl) (by simp) (AllReadyH.cons (by simp only [List.getElem?_toArray, List.getElem?_cons_succ, List.getElem?_cons_zero]; rfl) (fun K hK => ?_) AllReadyH.nil)
       go_simp
       first
         | (go_at_call 50; (first | (with_reducible refine (n_any i _ h0 h1).mono ?_) | (with_reducible refine (n_any h _ h2 h3).mono ?_)); rintro e w9 ⟨rfl, hb⟩; replace S0 := Lib.hid (S0.out.call hb); clear hb)
         | (skip)
       try go_wp2_with fail
       refine hK.out _ _ (by (first | (exact HR.out.cells) | (exact (S0.out.alloc _).cells) | (exact S0.out.cells))) (fun hHeld => ?_)
       clear hK K
       try simp only [Act.put, List.setIfInBounds_toArray, List.set_cons_zero, List.set_cons_succ])
  first
    | (refine wpAnyH_take (i := 6) (v := undef) (by simp only [List.getElem?_toArray, List.getElem?_cons_succ, List.getElem?_cons_zero]; rfl) (by kernel_rfl) (by kernel_rfl) (by kernel_rfl) (fun _ _ _ h => h) (Or.inr ⟨by rfl, rfl⟩) (by assumption) ?_; try simp only [Act.put, List.setIfInBounds_toArray, List.set_cons_zero, List.set_cons_succ])
    | (refine wpAnyH_take (i := 6) (v := ?_) (by simp only [List.getElem?_toArray, List.getElem?_cons_succ, List.getElem?_cons_zero]; rfl) (by kernel_rfl) (by kernel_rfl) (by kernel_rfl) (fun _ _ _ h => h) (Or.inl ⟨by rfl, ?_⟩) (by assumption) ?_
       rotate_left
       · (intro ww hSw; (try dsimp only at hSw); go_simp; (try with_reducible rfl))
       try simp only [Act.put, List.setIfInBounds_toArray, List.set_cons_zero, List.set_cons_succ])
    | (refine wpAnyH_ready (rs := [6]) (by kernel_rfl) (by simp) (AllReadyH.cons (by simp only [List.getElem?_toArray, List.getElem?_cons_succ, List.getElem?_cons_zero]; rfl) (fun K hK => ?_) AllReadyH.nil)
       go_simp
       first
         | (go_at_call 50; (first | (with_reducible refine (n_any i _ h0 h1).mono ?_) | (with_reducible refine (n_any h _ h2 h3).mono ?_)); rintro e w9 ⟨rfl, hb⟩; replace S0 := Lib.hid (S0.out.call hb); clear hb)
         | (skip)
       try go_wp2_with fail
       refine hK.out _ _ (by (first | (exact HR.out.cells) | (exact (S0.out.alloc _).cells) | (exact S0.out.cells))) (fun hHeld => ?_)
       clear hK K
       try simp only [Act.put, List.setIfInBounds_toArray, List.set_cons_zero, List.set_cons_succ])
  first
    | (refine wpAnyH_take (i := 7) (v := undef) (by simp only [List.getElem?_toArray, List.getElem?_cons_succ, List.getElem?_cons_zero]; rfl) (by kernel_rfl) (by kernel_rfl) (by kernel_rfl) (fun _ _ _ h => h) (Or.inr ⟨by rfl, rfl⟩) (by assumption) ?_; try simp only [Act.put, List.setIfInBounds_toArray, List.set_cons_zero, List.set_cons_succ])
    | (refine wpAnyH_take (i := 7) (v := ?_) (by simp only [List.getElem?_toArray, List.getElem?_cons_succ, List.getElem?_cons_zero]; rfl) (by kernel_rfl) (by kernel_rfl) (by kernel_rfl) (fun _ _ _ h => h) (Or.inl ⟨by rfl, ?_⟩) (by assumption) ?_
       rotate_left
       · (intro ww hSw; (try dsimp only at hSw); go_simp; (try with_reducible rfl))
       try simp only [Act.put, List.setIfInBounds_toArray, List.set_cons_zero, List.set_cons_succ])
    | (refine wpAnyH_ready (rs := [7]) (by kernel_rfl) (by simp) (AllReadyH.cons (by simp only [List.getElem?_toArray, List.getElem?_cons_succ, List.getElem?_cons_zero]; rfl) (fun K hK => ?_) AllReadyH.nil)
       go_simp
       first
         | (go_at_call 50; (first | (with_reducible refine (n_any i _ h0 h1).mono ?_) | (with_reducible refine (n_any h _ h2 h3).mono ?_)); rintro e w9 ⟨rfl, hb⟩; replace S0 := Lib.hid (S0.out.call hb); clear hb)
         | (skip)
       try go_wp2_with fail
       refine hK.out _ _ (by (first | (exact HR.out.cells) | (exact (S0.out.alloc _).cells) | (exact S0.out.cells))) (fun hHeld => ?_)
       clear hK K
       try simp only [Act.put, List.setIfInBounds_toArray, List.set_cons_zero, List.set_cons_succ])
  refine wpAnyH_ready (rs := [8]) (by kernel_rfl) (by simp) (AllReadyH.cons (by simp only [List.getElem?_toArray, List.getElem?_cons_succ, List.getElem?_cons_zero]; rfl) (fun K hK => ?_) AllReadyH.nil)
  (obtain ⟨v', W2, hrun, hR⟩ := ref_append S0.out [wd i, sTo, wd h] (by simp) #[.string ⟨(wd i).toArray⟩, .string ⟨#[116, 111]⟩, .string ⟨(wd h).toArray⟩] rfl 3 rfl); have HR := Lib.hid hR; clear hR; refine step_append rfl (.tmp 64) (.tmp 71) 39 rfl _ _ v' W2 rfl rfl hrun ?_; clear hrun
  refine hK.out _ _ (by (first | (exact HR.out.cells) | (exact (S0.out.alloc _).cells) | (exact S0.out.cells))) (fun hHeld => ?_)
  clear hK K
  try simp only [Act.put, List.setIfInBounds_toArray, List.set_cons_zero, List.set_cons_succ]
  first
    | (refine wpAnyH_take (i := 9) (v := undef) (by simp only [List.getElem?_toArray, List.getElem?_cons_succ, List.getElem?_cons_zero]; rfl) (by kernel_rfl) (by kernel_rfl) (by kernel_rfl) (fun _ _ _ h => h) (Or.inr ⟨by rfl, rfl⟩) (by assumption) ?_; try simp only [Act.put, List.setIfInBounds_toArray, List.set_cons_zero, List.set_cons_succ])
    | (refine wpAnyH_take (i := 9) (v := ?_) (by simp only [List.getElem?_toArray, List.getElem?_cons_succ, List.getElem?_cons_zero]; rfl) (by kernel_rfl) (by kernel_rfl) (by kernel_rfl) (fun _ _ _ h => h) (Or.inl ⟨by rfl, ?_⟩) (by assumption) ?_
       rotate_left
       · (intro ww hSw; (try dsimp only at hSw); go_simp; (try with_reducible rfl))
       try simp only [Act.put, List.setIfInBounds_toArray, List.set_cons_zero, List.set_cons_succ])
    | (refine wpAnyH_ready (rs := [9]) (by kernel_rfl) (by simp) (AllReadyH.cons (by simp only [List.getElem?_toArray, List.getElem?_cons_succ, List.getElem?_cons_zero]; rfl) (fun K hK => ?_) AllReadyH.nil)
       go_simp
       first
         | (go_at_call 50; (first | (with_reducible refine (n_any i _ h0 h1).mono ?_) | (with_reducible refine (n_any h _ h2 h3).mono ?_)); rintro e w9 ⟨rfl, hb⟩; replace S0 := Lib.hid (S0.out.call hb); clear hb)
         | (skip)
       try go_wp2_with fail
       refine hK.out _ _ (by (first | (exact HR.out.cells) | (exact (S0.out.alloc _).cells) | (exact S0.out.cells))) (fun hHeld => ?_)
       clear hK K
       try simp only [Act.put, List.setIfInBounds_toArray, List.set_cons_zero, List.set_cons_succ])
  refine wpAnyH_done (by kernel_rfl) ?_ _
  refine NoPanic.normal ?_
  go_wp2_with fail
  go_ret
  exact ref_done HR.out (by simp)
end Go.Proofs.YtinjpkbpdhihjaaDoor
/- line: the document's own words of a trade, and of whatever command that may be. -/
namespace Go.Proofs.YtinjpkbpdhihjaaDoor
open Go.ChangeShapes Go.WideShapes Go.ChangeAt Go.RowKit
set_option linter.unusedVariables false
open Go.RowKit Go
set_option maxRecDepth 100000 in
set_option maxHeartbeats 4000000 in
theorem refwords_8 (d i b h p f : Int) (gs ws : List Int) (ga wa : Option Addr) (gc wc : Nat) (w : World) (h0 : 0 ≤ h) (h1 : h ≤ 1073741824) (h2 : 0 ≤ p) (h3 : p ≤ 1073741824) (h4 : 0 ≤ f) (h5 : f ≤ 1073741824) (hg : areB gs = true) (hw : areB ws = true) (gl : gs.length ≤ 16) (wl : ws.length ≤ 16) (I1 : IntsAt w ga gs) (I2 : IntsAt w wa ws) :
    Calls Tryd.prog 26 #[.agg #[.int .i64 8, .int .i64 d, .int .i64 i, .int .i64 b, .int .i64 h, .slice ga gs.length gc, .int .i64 p, .slice wa ws.length wc, .int .i64 f]] w (GivesStrs (([nameOf 8, wd h, sGive] ++ gs.map wd ++ [sCoins, wd p, sFor]) ++ ws.map wd ++ [sCoins, wd f]) w) := by
  have HG := Lib.hid hg
  have HW := Lib.hid hw
  have J1 := Lib.hid I1
  have J2 := Lib.hid I2
  clear hg hw I1 I2
  go_enter Tryd.func26, Tryd.ntmps26
  go_wp2_with fail
  have P0 := Lib.hid (PutAt.new w ⟨8, d, i, b, h, gs, p, ws, f⟩ ga wa gc wc)
  refine (refname_any 8 _).mono ?_
  rintro e w1 ⟨rfl, b1⟩
  have R0 := Lib.hid (ref_start (P0.out.call b1) (nameOf 8))
  have hA := R0.out.cells
  clear b1 P0
  go_wp2_with fail
  refine (n_any h _ h0 h1).mono ?_
  rintro e w2 ⟨rfl, b2⟩
  have R1 := Lib.hid (R0.out.call b2)
  obtain ⟨v1, W1, hrun, hR⟩ := ref_append R1.out [wd h, sGive] (by simp) #[.string ⟨(wd h).toArray⟩, .string ⟨#[103, 105, 118, 101]⟩] rfl 2 rfl
  have R2 := Lib.hid hR
  have HN := Lib.hid hrun
  clear hA b2 hrun hR R0 R1
  go_wp2_with (at_builtin; refine append_step rfl (.tmp 75) (.tmp 79) 39 rfl _ _ v1 W1 rfl rfl HN.out ?_)
  clear HN
  go_loopw [3, 4] (fun u t wr => ∃ k : Nat, k ≤ gs.length ∧ t = .int .i64 k ∧ RefAt w ⟨8, d, i, b, h, gs, p, ws, f⟩ ga wa gc wc u ([nameOf 8, wd h, sGive] ++ (gs.take k).map wd) wr) (fun _ t _ => gs.length - (intOf t).toNat)
  case atStart => exact ⟨0, Nat.zero_le _, rfl, by simpa using R2.out⟩
  case round =>
    clear R2
    obtain ⟨k, hk, rfl, hr⟩ := hrel
    have R3 := Lib.hid hr
    have hA := hr.cells
    clear hr
    by_cases hlt : k < gs.length
    · obtain ⟨lb, lo, rfl, -, hc⟩ := (J1.out.below R3.out.1.1 (Nat.le_refl _)).at_ hlt
      have hcell := hc k hlt
      obtain ⟨n0, n1⟩ := areB_get HG.out k hlt
      have HE := Lib.hid (show [nameOf 8, wd h, sGive] ++ (gs.take (k + 1)).map wd = ([nameOf 8, wd h, sGive] ++ (gs.take k).map wd) ++ [wd gs[k]] by rw [List.take_succ_eq_append_getElem hlt]; simp only [List.map_append, List.map_cons, List.map_nil, List.append_assoc])
      generalize gs[k] = n at *
      clear hc
      go_wp2_with fail
      refine (n_any n _ n0 n1).mono ?_
      rintro e w3 ⟨rfl, b3⟩
      obtain ⟨v2, W2, hrun, hR⟩ := ref_append (R3.out.call b3) [wd n] (by simp; omega) #[.string ⟨(wd n).toArray⟩] rfl 1 rfl
      have R4 := Lib.hid hR
      have HN := Lib.hid hrun
      clear hA b3 hrun hR hcell
      go_wp2_with (at_builtin; refine append_step rfl (.tmp 88) (.tmp 95) 39 rfl _ _ v2 W2 rfl rfl HN.out ?_)
      go_roundw
      case rel => exact ⟨k + 1, by omega, by go_num, by rw [HE.out]; exact R4.out⟩
      case measure => simp [intOf]; omega
    · have hke : k = gs.length := by omega
      subst hke
      have HE := Lib.hid (show (gs.take gs.length).map wd = gs.map wd by rw [List.take_of_length_le (Nat.le_refl _)])
      go_wp2_with fail
      refine (n_any p _ h2 h3).mono ?_
      rintro e w3 ⟨rfl, b3⟩
      have R3' := R3.out
      rw [HE.out] at R3'
      obtain ⟨v2, W2, hrun, hR⟩ := ref_append (R3'.call b3) [sCoins, wd p, sFor] (by simp; omega) #[.string ⟨#[99, 111, 105, 110, 115]⟩, .string ⟨(wd p).toArray⟩, .string ⟨#[102, 111, 114]⟩] rfl 3 rfl
      have R4 := Lib.hid hR
      have HN := Lib.hid hrun
      clear hA b3 hrun hR R3' R3 HE
      go_wp2_with (at_builtin; refine append_step rfl (.tmp 97) (.tmp 101) 39 rfl _ _ v2 W2 rfl rfl HN.out ?_)
      clear HN
      have HP : Hid (([nameOf 8, wd h, sGive] ++ gs.map wd ++ [sCoins, wd p, sFor]).length ≤ 100) := Lib.hid (by simp; omega)
      generalize hpre : [nameOf 8, wd h, sGive] ++ gs.map wd ++ [sCoins, wd p, sFor] = pre at *
      have HQ := Lib.hid hpre
      clear hpre
      go_loopw [3, 5] (fun u t wr => ∃ k : Nat, k ≤ ws.length ∧ t = .int .i64 k ∧ RefAt w ⟨8, d, i, b, h, gs, p, ws, f⟩ ga wa gc wc u (pre ++ (ws.take k).map wd) wr) (fun _ t _ => ws.length - (intOf t).toNat)
      case atStart => exact ⟨0, Nat.zero_le _, rfl, by simpa using R4.out⟩
      case round =>
        clear R4
        obtain ⟨k, hk, rfl, hr⟩ := hrel
        have R5 := Lib.hid hr
        have hA := hr.cells
        clear hr
        by_cases hlt : k < ws.length
        · obtain ⟨lb, lo, rfl, -, hc⟩ := (J2.out.below R5.out.1.1 (Nat.le_refl _)).at_ hlt
          have hcell := hc k hlt
          obtain ⟨n0, n1⟩ := areB_get HW.out k hlt
          have HE := Lib.hid (show pre ++ (ws.take (k + 1)).map wd = (pre ++ (ws.take k).map wd) ++ [wd ws[k]] by rw [List.take_succ_eq_append_getElem hlt]; simp only [List.map_append, List.map_cons, List.map_nil, List.append_assoc])
          generalize ws[k] = n at *
          clear hc
          go_wp2_with fail
          refine (n_any n _ n0 n1).mono ?_
          rintro e w4 ⟨rfl, b4⟩
          obtain ⟨v3, W3, hrun, hR⟩ := ref_append (R5.out.call b4) [wd n] (by have := HP.out; simp; omega) #[.string ⟨(wd n).toArray⟩] rfl 1 rfl
          have R6 := Lib.hid hR
          have HN := Lib.hid hrun
          clear hA b4 hrun hR hcell
          go_wp2_with (at_builtin; refine append_step rfl (.tmp 110) (.tmp 117) 39 rfl _ _ v3 W3 rfl rfl HN.out ?_)
          go_roundw
          case rel => exact ⟨k + 1, by omega, by go_num, by rw [HE.out]; exact R6.out⟩
          case measure => simp [intOf]; omega
        · have hke : k = ws.length := by omega
          subst hke
          have HE := Lib.hid (show (ws.take ws.length).map wd = ws.map wd by rw [List.take_of_length_le (Nat.le_refl _)])
          go_wp2_with fail
          refine (n_any f _ h4 h5).mono ?_
          rintro e w4 ⟨rfl, b4⟩
          have R5' := R5.out
          rw [HE.out] at R5'
          obtain ⟨v3, W3, hrun, hR⟩ := ref_append (R5'.call b4) [sCoins, wd f] (by have := HP.out; simp; omega) #[.string ⟨#[99, 111, 105, 110, 115]⟩, .string ⟨(wd f).toArray⟩] rfl 2 rfl
          have R6 := Lib.hid hR
          have HN := Lib.hid hrun
          clear hA b4 hrun hR R5' R5 HE
          go_wp2_with (at_builtin; refine append_step rfl (.tmp 119) (.tmp 123) 39 rfl _ _ v3 W3 rfl rfl HN.out ?_)
          go_ret
          have h6 := ref_done R6.out (by have := HP.out; simp; omega)
          rw [← HQ.out] at h6
          simp only [List.cons_append, List.nil_append, List.append_assoc] at h6 ⊢
          exact h6
theorem refwords_any (c : Cm) (ga wa : Option Addr) (gc wc : Nat) (w : World) (hm : mayB c = true) (I1 : IntsAt w ga c.gives) (I2 : IntsAt w wa c.wants) : Calls Tryd.prog 26 #[.agg #[.int .i64 c.kind, .int .i64 c.dir, .int .i64 c.item, .int .i64 c.box, .int .i64 c.who, .slice ga c.gives.length gc, .int .i64 c.pay, .slice wa c.wants.length wc, .int .i64 c.fee]] w (GivesStrs (wordsOf c) w) := by
  obtain ⟨hk, h2, h3, h4, h5, h6, h7, h8, h9, -, l1, l2⟩ := may_fields hm
  obtain ⟨k, d, i, b, h, gs, p, ws, f⟩ := c
  simp only [okN, Bool.and_eq_true, decide_eq_true_eq] at h3 h4 h5 h6 h7
  simp only at hk
  rcases kinds hk with rfl | rfl | rfl | rfl | rfl | rfl | rfl | rfl | rfl | rfl
  · exact refwords_1 d i b h p f gs ws ga wa gc wc w
  · exact refwords_2 d i b h p f gs ws ga wa gc wc w h5.1 h5.2
  · exact refwords_3 d i b h p f gs ws ga wa gc wc w h3.1 h3.2
  · exact refwords_4 d i b h p f gs ws ga wa gc wc w h3.1 h3.2
  · exact refwords_5 d i b h p f gs ws ga wa gc wc w h3.1 h3.2 h4.1 h4.2
  · exact refwords_6 d i b h p f gs ws ga wa gc wc w h3.1 h3.2 h4.1 h4.2
  · exact refwords_7 d i b h p f gs ws ga wa gc wc w h3.1 h3.2 h5.1 h5.2
  · have := refwords_8 d i b h p f gs ws ga wa gc wc w h5.1 h5.2 h6.1 h6.2 h7.1 h7.2 h8 h9 l1 l2 I1 I2
    rw [show wordsOf ⟨8, d, i, b, h, gs, p, ws, f⟩ = ([nameOf 8, wd h, sGive] ++ gs.map wd ++ [sCoins, wd p, sFor]) ++ ws.map wd ++ [sCoins, wd f] by simp [wordsOf, partsOf, putP, getF, getL, Kd.word]]
    exact this
  · exact refwords_9 d i b h p f gs ws ga wa gc wc w
  · exact refwords_10 d i b h p f gs ws ga wa gc wc w
end Go.Proofs.YtinjpkbpdhihjaaDoor
