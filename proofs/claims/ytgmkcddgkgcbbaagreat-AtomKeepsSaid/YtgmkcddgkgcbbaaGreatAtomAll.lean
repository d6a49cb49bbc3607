/- atom.All: commands, one behind the other, and their answers. -/
import Derived.Test.YtgmkcddgkgcbbaaGreatAtomMath2
import Derived.Test.YtgmkcddgkgcbbaaGreatAtomB
import Derived.Test.YtgmkcddgkgcbbaaGreatAtomArg
import Derived.Deep.MidRow
namespace Go.Proofs.YtgmkcddgkgcbbaaGreat
open Go.ChangeShapes Go.WideShapes Go.ChangeAt Go.RowKit
open Lib (hid)
set_option linter.unusedVariables false
open Go.RowKit
/-- The world behind the first so many of the calls, and their answers. -/
def stW (x : Wd) (ls : List Cl) : Nat → Wd
 | 0 => x
 | k + 1 => match ls[k]? with
   | some l => (doW (stW x ls k) l.player.toNat l.c).1
   | none => stW x ls k
def ansW (x : Wd) (ls : List Cl) : Nat → List Rp
 | 0 => []
 | k + 1 => match ls[k]? with
   | some l => ansW x ls k ++ [(doW (stW x ls k) l.player.toNat l.c).2]
   | none => ansW x ls k
theorem stW_succ {x : Wd} {ls : List Cl} {k : Nat} (h : k < ls.length) : stW x ls (k + 1) = (doW (stW x ls k) ls[k].player.toNat ls[k].c).1 := by simp [stW, List.getElem?_eq_getElem h]
theorem ansW_succ {x : Wd} {ls : List Cl} {k : Nat} (h : k < ls.length) : ansW x ls (k + 1) = ansW x ls k ++ [(doW (stW x ls k) ls[k].player.toNat ls[k].c).2] := by simp [ansW, List.getElem?_eq_getElem h]
/-- Each call is a player's that there is. -/
def PlaysAll (x : Wd) (ls : List Cl) : Prop := ∀ l ∈ ls, ∃ i : Nat, l.player = i ∧ i < x.at_.length
theorem st_shape (x : Wd) (ls : List Cl) : ∀ k, Shape x (stW x ls k)
 | 0 => Shape.refl x
 | k + 1 => by
   have ih := st_shape x ls k
   by_cases h : k < ls.length
   ·rw [stW_succ h]; exact ih.trans' (do_shape _ _ _)
   ·simp [stW, List.getElem?_eq_none (Nat.le_of_not_lt h)]; exact ih
theorem st_right {x : Wd} (hx : rightW x = true) {ls : List Cl} (hp : PlaysAll x ls) : ∀ k, rightW (stW x ls k) = true
 | 0 => hx
 | k + 1 => by
   have ih := st_right hx hp k
   by_cases h : k < ls.length
   ·rw [stW_succ h]
    obtain ⟨i, e, hi⟩ := hp _ (List.getElem_mem h)
    rw [e]
    exact do_right ih (by have := (st_shape x ls k).at_; omega) _
   ·simp [stW, List.getElem?_eq_none (Nat.le_of_not_lt h)]; exact ih
/-- An answer as it lies. -/
structure Rl where
 r : Rp
 pa : Option Addr
 pc : Nat
 ia : Option Addr
 ic : Nat
def rlC (l : Rl) : List Value := [.int .i64 l.r.err, .int .i64 l.r.kind, .int .i64 l.r.room, .slice l.pa l.r.players.length l.pc, .slice l.ia l.r.items.length l.ic, .int .i64 l.r.coins]
/-- A row of N answers, the first of which were given; their lists are new memory. -/
structure RowR (n : Nat) (W : World) (b N : Nat) (rs : List Rl) : Prop where
 blk : ∃ cs, Blk W b 38 cs ∧ cs.size = N * 6 ∧ ∀ j (hj : j < rs.length) t, t < 6 → cs[j * 6 + t]? = (rlC rs[j])[t]?
 own : ∀ l ∈ rs, NewR n W l.pa l.ia l.r
theorem RowR.call {n : Nat} {W W' : World} {b N : Nat} {rs : List Rl} (h : RowR n W b N rs) (hb : Below W.heap.size W W') : RowR n W' b N rs := by
 obtain ⟨⟨cs, h1, h2, h3⟩, h4⟩ := h
 exact ⟨⟨cs, h1.call hb, h2, h3⟩, fun l hl => (h4 l hl).call hb⟩
theorem RowR.set {n : Nat} {W : World} {b N : Nat} {rs : List Rl} (h : RowR n W b N rs) {q : Nat} (hq : q < n) (hqb : b ≠ q) (i : Nat) (u : Value) : RowR n (W.setCell ⟨q, i, none⟩ u) b N rs := by
 obtain ⟨⟨cs, h1, h2, h3⟩, h4⟩ := h
 exact ⟨⟨cs, h1.far hqb _, h2, h3⟩, fun l hl => (h4 l hl).set hq i u⟩
theorem RowR.lt {n : Nat} {W : World} {b N : Nat} {rs : List Rl} (h : RowR n W b N rs) : b < W.heap.size := by obtain ⟨⟨cs, h1, _⟩, _⟩ := h; exact h1.lt
theorem RowR.frozen {n : Nat} {W : World} {b N : Nat} {rs : List Rl} (h : RowR n W b N rs) (i : Nat) : W.frozen? ⟨b, i, none⟩ = false := by obtain ⟨⟨cs, h1, _⟩, _⟩ := h; exact h1.frozen i
theorem RowR.spot {n : Nat} {W : World} {b N : Nat} {rs : List Rl} (h : RowR n W b N rs) {k t : Nat} (hk : k < N) (ht : t < 6) : ∃ v, W.cell? ⟨b, k * 6 + t, none⟩ = some v := by
 obtain ⟨⟨cs, h1, h2, _⟩, _⟩ := h
 rw [h1.cell]
 exact ⟨cs[k * 6 + t]'(by omega), Array.getElem?_eq_getElem (by omega)⟩
theorem RowR.there {n : Nat} {W : World} {b N : Nat} {rs : List Rl} (h : RowR n W b N rs) {k : Nat} (hk : k < N) : W.there b (k * 6) 6 := fun t ht => ⟨by obtain ⟨v, e⟩ := h.spot hk ht; rw [e]; rfl, h.frozen _⟩
theorem RowR.put {n : Nat} {W : World} {b N : Nat} {rs : List Rl} (h : RowR n W b N rs) {k : Nat} (hk : rs.length = k) (hN : k < N) (hb : b < n) (l : Rl) (hl : NewR n W l.pa l.ia l.r) :
 RowR n ((((((W.setCell ⟨b, k * 6, none⟩ (.int .i64 l.r.err)).setCell ⟨b, k * 6 + 1, none⟩ (.int .i64 l.r.kind)).setCell ⟨b, k * 6 + 2, none⟩ (.int .i64 l.r.room)).setCell ⟨b, k * 6 + 3, none⟩ (.slice l.pa l.r.players.length l.pc)).setCell ⟨b, k * 6 + 4, none⟩ (.slice l.ia l.r.items.length l.ic)).setCell ⟨b, k * 6 + 5, none⟩ (.int .i64 l.r.coins)) b N (rs ++ [l]) := by
 obtain ⟨⟨cs, h1, h2, h3⟩, h4⟩ := h
 refine ⟨⟨_, ((((((h1.set_ (k * 6) _).set_ (k * 6 + 1) _).set_ (k * 6 + 2) _).set_ (k * 6 + 3) _).set_ (k * 6 + 4) _).set_ (k * 6 + 5) _), by simp [h2], fun j hj t ht => ?_⟩, fun l' hl' => ?_⟩
 ·simp only [List.length_append, List.length_singleton] at hj
  by_cases hjk : j < rs.length
  ·rw [List.getElem_append_left hjk, ← h3 j hjk t ht]
   repeat rw [Array.getElem?_setIfInBounds_ne (by omega)]
  ·obtain rfl : j = k := by omega
   rw [List.getElem_append_right (by omega)]
   simp only [hk, Nat.sub_self, List.getElem_singleton]
   obtain rfl | rfl | rfl | rfl | rfl | rfl : t = 0 ∨ t = 1 ∨ t = 2 ∨ t = 3 ∨ t = 4 ∨ t = 5 := by omega
   all_goals simp [rlC, Array.getElem?_setIfInBounds, h2]
   all_goals omega
 ·rcases List.mem_append.1 hl' with hm | hm
  ·have := h4 l' hm
   iterate 6 refine NewR.set ?_ hb _ _
   exact this
  ·obtain rfl : l' = l := by simpa using hm
   iterate 6 refine NewR.set ?_ hb _ _
   exact hl
theorem rep_info : (Tryz.prog.info? 38).map (fun i => (i.zero, i.size, i.bytes)) = some (some (.agg #[.int .i64 0, .int .i64 0, .int .i64 0, .slice none 0 0, .slice none 0 0, .int .i64 0]), 6, 80) := by kernel_rfl
theorem make_reps (n : Nat) (h : n ≤ 1000000) (W : World) : (Instr.makeSlice 52 (.int .i64 (n : Int)) (.int .i64 (n : Int))).run Tryz.prog W = .ok (.slice (some ⟨W.heap.size, 0, none⟩) n n) (W.alloc (.cells (madeCells (Value.agg #[.int .i64 0, .int .i64 0, .int .i64 0, .slice none 0 0, .slice none 0 0, .int .i64 0]).cells (n * 6)) 38)) := by
 obtain ⟨i0, hi0, hz0, hz1, hz2⟩ := info_parts rep_info
 have hr := run_make (P := Tryz.prog) W 52 38 i0 (.agg #[.int .i64 0, .int .i64 0, .int .i64 0, .slice none 0 0, .slice none 0 0, .int .i64 0]) Tryz.underlying52 hi0 hz0 .i64 .i64 n n (by omega) (by omega) (by rw [hz2]; omega) (by omega)
 rw [Int.toNat_natCast, hz1] at hr
 exact hr
theorem gen_wp {P : Program} {c : Code} {K : Exit → Act → World → Prop} {a : Act} {W : World} (F : World → Prop) (hF : F W) (h : ∀ V, F V → Code.wp P c K a V) : Code.wp P c K a W := h W hF
/-- Do, over a value of one shape. -/
theorem ado_as {x y : Wd} (hs : Shape x y) (p : Wp) (i : Nat) (c : Cm) (ga wa : Option Addr) (gc wc : Nat) (w : World) (hy : rightW y = true) (h : WorldAt w p y) (hi : i < y.at_.length) (hg : IntsAt w ga c.gives) (hw : IntsAt w wa c.wants) {R : Wd × Rp} (hR : doW y i c = R) :
 Calls Tryz.prog 8 #[.agg (wC x p), .int .i64 (i : Int), .agg #[.int .i64 c.kind, .int .i64 c.dir, .int .i64 c.item, .int .i64 c.box, .int .i64 c.who, .slice ga c.gives.length gc, .int .i64 c.pay, .slice wa c.wants.length wc, .int .i64 c.fee]] w fun e w' => ∃ (q : Wp) (qa ia : Option Addr) (qc ic : Nat), e = .returned (.tuple #[.agg (wC x q), .agg #[.int .i64 R.2.err, .int .i64 R.2.kind, .int .i64 R.2.room, .slice qa R.2.players.length qc, .slice ia R.2.items.length ic, .int .i64 R.2.coins]]) ∧ Did w.heap.size w' p q y qa ia R ∧ Below w.heap.size w w' := by
 have := ado_any y p i c ga wa gc wc w hy h hi hg hw
 rw [hs.val, hR] at this
 refine this.mono fun e w' ⟨q, qa, ia, qc, ic, he, hd, hb⟩ => ⟨q, qa, ia, qc, ic, by rw [← hs.val]; exact he, hd, hb⟩
/-- A call in its row. -/
theorem call_range {W : World} {b o : Nat} {l : Cl} (h : ∀ t, t < 18 → W.cell? ⟨b, o + t, none⟩ = (clC l)[t]?) : W.rangeAt b o (clC l) := fun t v hv => by
 have ht : t < 18 := by
  have := (List.getElem?_eq_some_iff.1 hv).1
  rwa [clC_len] at this
 rw [h t ht, hv]
theorem RowR.new (n N : Nat) (W : World) {b : Nat} (hb : W.heap.size = b) : RowR n (W.alloc (.cells (madeCells #[.int .i64 0, .int .i64 0, .int .i64 0, .slice none 0 0, .slice none 0 0, .int .i64 0] (N * 6)) 38)) b N [] :=
 ⟨⟨_, Blk.newn W _ _ hb, by simp [size_madeCells], fun j hj => by simp at hj⟩, fun l hl => by simp at hl⟩
/-- Behind the first k calls. -/
structure AllRel (x : Wd) (p : Wp) (ls : List Cl) (w W : World) (k : Nat) (q : Wp) (rs : List Rl) : Prop where
 a : Blk W w.heap.size 29 (wC x q)
 r : Blk W (w.heap.size + 1) 29 #[.slice none 0 0, .slice none 0 0, .slice none 0 0, .slice none 0 0, .slice none 0 0, .int .i64 0, .int .i64 0, .int .i64 0, .slice none 0 0, .slice none 0 0, .slice none 0 0]
 row : RowR (w.heap.size + 3) W (w.heap.size + 2) ls.length rs
 len : rs.length = k
 ans : rs.map (·.r) = ansW x ls k
 own : (stW x ls k = x ∧ q = p) ∨ WorldOwn (w.heap.size + 3) W q (stW x ls k)
 b : Below w.heap.size w W
theorem AllRel.call {x : Wd} {p : Wp} {ls : List Cl} {w W W' : World} {k : Nat} {q : Wp} {rs : List Rl} (h : AllRel x p ls w W k q rs) (hb : Below W.heap.size W W') : AllRel x p ls w W' k q rs :=
 ⟨h.a.call hb, h.r.call hb, h.row.call hb, h.len, h.ans, h.own.imp id (fun h => h.call hb), bl h.b hb⟩
theorem AllRel.world {x : Wd} {p : Wp} {ls : List Cl} {w W : World} {k : Nat} {q : Wp} {rs : List Rl} (h : AllRel x p ls w W k q rs) (hw : WorldAt w p x) : WorldAt W q (stW x ls k) := by
 rcases h.own with ⟨h1, h2⟩ | h2
 ·rw [h1, h2]; exact hw.below h.b (Nat.le_refl _)
 ·exact h2.world
/-- The world is laid; the answer is to be laid. -/
structure AllP (x : Wd) (p : Wp) (ls : List Cl) (w W : World) (k : Nat) (q : Wp) (rs : List Rl) (R : Wd × Rp) (qa ia : Option Addr) : Prop where
 a : Blk W w.heap.size 29 (wC x q)
 r : Blk W (w.heap.size + 1) 29 #[.slice none 0 0, .slice none 0 0, .slice none 0 0, .slice none 0 0, .slice none 0 0, .int .i64 0, .int .i64 0, .int .i64 0, .slice none 0 0, .slice none 0 0, .slice none 0 0]
 row : RowR (w.heap.size + 3) W (w.heap.size + 2) ls.length rs
 len : rs.length = k
 ans : rs.map (·.r) = ansW x ls k
 own : (R.1 = x ∧ q = p) ∨ WorldOwn (w.heap.size + 3) W q R.1
 new : NewR (w.heap.size + 3) W qa ia R.2
 b : Below w.heap.size w W
theorem gen_list {P : Program} {ops : Array Oper} {l : List Oper} {Q : Exit → Act → World → Prop} {a : Act} {W : World} (F : World → Prop) (hF : F W) (h : ∀ V, F V → wpList P ops Q l a V) : wpList P ops Q l a W := h W hF
theorem allP_set {x : Wd} {p : Wp} {ls : List Cl} {w W : World} {k : Nat} {q q2 : Wp} {rs : List Rl} {R : Wd × Rp} {qa ia : Option Addr} (h : AllRel x p ls w W k q rs) (hd : Did (w.heap.size + 3) W q q2 (stW x ls k) qa ia R) :
 AllP x p ls w (((((((((((W.setCell ⟨w.heap.size, 0, none⟩ (.slice q2.d.ex x.d.exits.length q2.d.exc)).setCell ⟨w.heap.size, 1, none⟩ (.slice q2.d.pl x.d.players.length q2.d.plc)).setCell ⟨w.heap.size, 2, none⟩ (.slice q2.d.co x.d.coins.length q2.d.coc)).setCell ⟨w.heap.size, 3, none⟩ (.slice q2.d.it x.d.items.length q2.d.itc)).setCell ⟨w.heap.size, 4, none⟩ (.slice q2.d.bo x.d.boxes.length q2.d.boc)).setCell ⟨w.heap.size, 5, none⟩ (.int .i64 x.d.room)).setCell ⟨w.heap.size, 6, none⟩ (.int .i64 x.d.player)).setCell ⟨w.heap.size, 7, none⟩ (.int .i64 x.d.box)).setCell ⟨w.heap.size, 8, none⟩ (.slice q2.at_ x.at_.length q2.atc)).setCell ⟨w.heap.size, 9, none⟩ (.slice q2.co x.coins.length q2.coc)).setCell ⟨w.heap.size, 10, none⟩ (.slice q2.wh x.wher.length q2.whc)) k q2 rs R qa ia := by
 refine ⟨blk_set11 h.a, ?_, ?_, h.len, h.ans, ?_, ?_, ?_⟩
 ·iterate 11 refine Blk.far ?_ (by show w.heap.size + 1 ≠ w.heap.size; omega) _
  exact h.r
 ·iterate 11 refine RowR.set ?_ (by omega) (by omega) _ _
  exact h.row
 ·rcases hd.1 with ⟨e1, e2⟩ | ho
  ·rcases h.own with ⟨e3, e4⟩ | ho
   ·exact .inl ⟨e1.trans e3, e2.trans e4⟩
   ·refine .inr ?_
    rw [e1, e2]
    iterate 11 refine WorldOwn.set ?_ (by omega) _ _
    exact ho
  ·refine .inr ?_
   iterate 11 refine WorldOwn.set ?_ (by omega) _ _
   exact ho
 ·iterate 11 refine NewR.set ?_ (by omega) _ _
  exact hd.2
 ·iterate 11 refine Below.setCell ?_ (by show w.heap.size ≤ w.heap.size; omega) _
  exact h.b
theorem allP_put {x : Wd} {p : Wp} {ls : List Cl} {w V : World} {k : Nat} {q : Wp} {rs : List Rl} {R : Wd × Rp} {qa ia : Option Addr} (h : AllP x p ls w V k q rs R qa ia) (hk : k < ls.length) (qc ic : Nat) (h1 : stW x ls (k + 1) = R.1) (h2 : ansW x ls (k + 1) = ansW x ls k ++ [R.2]) :
 AllRel x p ls w (V.setCells (w.heap.size + 2) (k * 6) [.int .i64 R.2.err, .int .i64 R.2.kind, .int .i64 R.2.room, .slice qa R.2.players.length qc, .slice ia R.2.items.length ic, .int .i64 R.2.coins]) (k + 1) q (rs ++ [⟨R.2, qa, qc, ia, ic⟩]) := by
 show AllRel x p ls w ((((((V.setCell ⟨w.heap.size + 2, k * 6, none⟩ (.int .i64 R.2.err)).setCell ⟨w.heap.size + 2, k * 6 + 1, none⟩ (.int .i64 R.2.kind)).setCell ⟨w.heap.size + 2, k * 6 + 2, none⟩ (.int .i64 R.2.room)).setCell ⟨w.heap.size + 2, k * 6 + 3, none⟩ (.slice qa R.2.players.length qc)).setCell ⟨w.heap.size + 2, k * 6 + 4, none⟩ (.slice ia R.2.items.length ic)).setCell ⟨w.heap.size + 2, k * 6 + 5, none⟩ (.int .i64 R.2.coins)) (k + 1) q (rs ++ [⟨R.2, qa, qc, ia, ic⟩])
 refine ⟨?_, ?_, RowR.put h.row h.len hk (by omega) ⟨R.2, qa, qc, ia, ic⟩ h.new, ?_, ?_, ?_, ?_⟩
 ·iterate 6 refine Blk.far ?_ (by show w.heap.size ≠ w.heap.size + 2; omega) _
  exact h.a
 ·iterate 6 refine Blk.far ?_ (by show w.heap.size + 1 ≠ w.heap.size + 2; omega) _
  exact h.r
 ·rw [List.length_append, h.len]; rfl
 ·rw [List.map_append, h.ans, h2]; rfl
 ·rw [h1]
  refine h.own.imp id (fun ho => ?_)
  iterate 6 refine WorldOwn.set ?_ (by omega) _ _
  exact ho
 ·iterate 6 refine Below.setCell ?_ (by show w.heap.size ≤ w.heap.size + 2; omega) _
  exact h.b
set_option maxRecDepth 100000 in
set_option maxHeartbeats 2000000 in
theorem aall_any (x : Wd) (p : Wp) (a : Option Addr) (cap : Nat) (ls : List Cl) (w : World) (hx : rightW x = true) (h : WorldAt w p x) (hc : CallsAt w a ls) (hp : PlaysAll x ls) (hl : ls.length ≤ 1000000) :
 Calls Tryz.prog 16 #[.agg (wC x p), .slice a ls.length cap] w fun e w' => ∃ (q : Wp) (b : Nat) (rs : List Rl), e = .returned (.tuple #[.agg (wC x q), .slice (some ⟨b, 0, none⟩) ls.length ls.length]) ∧ w.heap.size ≤ b ∧ WorldAt w' q (stW x ls ls.length) ∧ RowR (w.heap.size + 3) w' b ls.length rs ∧ rs.map (·.r) = ansW x ls ls.length ∧ Below w.heap.size w w' := by
 have hmk := make_reps ls.length hl ((w.alloc (.cells (wC x p) 29)).alloc (.cells #[.slice none 0 0, .slice none 0 0, .slice none 0 0, .slice none 0 0, .slice none 0 0, .int .i64 0, .int .i64 0, .int .i64 0, .slice none 0 0, .slice none 0 0, .slice none 0 0] 29))
 have H := hid h
 have HX := hid hx
 have HC := hid hc
 have HP := hid hp
 have T0 := hid (Two.start 29 29 w (wC x p) #[.slice none 0 0, .slice none 0 0, .slice none 0 0, .slice none 0 0, .slice none 0 0, .int .i64 0, .int .i64 0, .int .i64 0, .slice none 0 0, .slice none 0 0, .slice none 0 0])
 have R0 := hid (RowR.new (w.heap.size + 3) ls.length ((w.alloc (.cells (wC x p) 29)).alloc (.cells #[.slice none 0 0, .slice none 0 0, .slice none 0 0, .slice none 0 0, .slice none 0 0, .int .i64 0, .int .i64 0, .int .i64 0, .slice none 0 0, .slice none 0 0, .slice none 0 0] 29)) (b := w.heap.size + 2) (by simp))
 have hm63 := hc.row.len
 clear hx h hc hp hl
 have hWC := @wC.eq_1
 go_enter Tryz.func16, Tryz.ntmps16
 go_upto_region 2 with fail
 refine gen_wp (fun V => AllRel x p ls w V 0 p []) ⟨T0.out.a.alloc _, T0.out.r.alloc _, R0.out, rfl, rfl, .inl ⟨rfl, rfl⟩, T0.out.b.alloc T0.out.b.size _⟩ (fun V0 hV => ?_)
 have A0 := hid hV
 clear hV hmk T0 R0
 go_wp2_with fail
 go_loopw [14] (fun n wr => ∃ (j : Nat) (q : Wp) (rs : List Rl), j ≤ ls.length ∧ n = .int .i64 j ∧ AllRel x p ls w wr j q rs) (fun n _ => ls.length - (intOf n).toNat)
 case atStart => exact ⟨0, p, [], Nat.zero_le _, rfl, A0.out⟩
 case round =>
  obtain ⟨j, q, rs, hj, rfl, hA⟩ := hrel
  have HA := hid hA
  clear hA
  by_cases hlt : j < ls.length
  ·obtain ⟨i, hpi, hi⟩ := HP.out _ (List.getElem_mem hlt)
   have hok := HC.out.ok _ (List.getElem_mem hlt)
   obtain ⟨cb, co, ea, hcb, hcc⟩ := HC.out.row.at_ hlt
   have hcell := hcc j hlt
   have S1 := stW_succ (x := x) hlt
   have S2 := ansW_succ (x := x) hlt
   generalize ls[j] = l at *
   obtain ⟨lp, lc, lga, lgc, lwa, lwc, lfr, lto, lr, lpa, lpc, lia, lic⟩ := l
   simp only at hpi hok S1 S2
   subst hpi
   rw [Int.toNat_natCast] at S1 S2
   subst ea
   have hld := call_range (l := ⟨(i : Int), lc, lga, lgc, lwa, lwc, lfr, lto, lr, lpa, lpc, lia, lic⟩) (W := wr) (fun t ht => (HA.out.b.cell (p := ⟨cb, co + j * 18 + t, none⟩) hcb).trans (hcell t ht))
   have hcbr : cb < wr.heap.size := Nat.lt_of_lt_of_le hcb HA.out.b.size
   have HOK := hid hok
   obtain ⟨R, hR⟩ : ∃ R, doW (stW x ls j) i lc = R := ⟨_, rfl⟩
   rw [hR] at S1 S2
   have HR := hid hR
   have HS1 := hid S1
   have HS2 := hid S2
   have hca := HA.out.a.cell
   have hla := HA.out.a.lt
   clear hcc hcell hok S1 S2 hR
   go_upto_region 4 with fail
   refine wp_region_list ?_
   refine wpList_plain rfl (fun K hK => ?_)
   go_simp
   refine hK _ _ ?_
   clear hK K
   refine wpList_plain rfl (fun K hK => ?_)
   go_simp
   refine hK _ _ ?_
   clear hK K
   refine wpList_load_mid rfl 46 (.tmp 17) rfl cb (co + j * 18) rfl (clC ⟨(i : Int), lc, lga, lgc, lwa, lwc, lfr, lto, lr, lpa, lpc, lia, lic⟩) _ hld Tryz.underlying46 rfl (by kernel_rfl) ?_
   simp only [clC]
   clear hld hca hla hcbr
   go_upto_region 5 with fail
   obtain ⟨m, hm⟩ : ∃ m, wr.heap.size = m := ⟨_, rfl⟩
   simp only [hm]
   refine gen_wp (fun V => AllRel x p ls w V j q rs ∧ Blk V m 46 #[.int .i64 (i : Int), .int .i64 lc.kind, .int .i64 lc.dir, .int .i64 lc.item, .int .i64 lc.box, .int .i64 lc.who, .slice lga lc.gives.length lgc, .int .i64 lc.pay, .slice lwa lc.wants.length lwc, .int .i64 lc.fee, .int .i64 lfr, .int .i64 lto, .int .i64 lr.err, .int .i64 lr.kind, .int .i64 lr.room, .slice lpa lr.players.length lpc, .slice lia lr.items.length lic, .int .i64 lr.coins]) ⟨HA.out.call ((Below.refl _ _).alloc (Nat.le_refl _) _), Blk.newn wr _ _ hm⟩ (fun V1 hV => ?_)
   have HV := hid hV.1
   have hcm := hV.2.cell
   have hlm := hV.2.lt
   have hca := HV.out.a.cell
   have hla := HV.out.a.lt
   clear hV HA hm
   go_wp2_with fail
   refine (ado_as (st_shape x ls j) q i lc lga lwa lgc lwc _ (st_right HX.out HP.out j) (HV.out.world H.out) (by rw [(st_shape x ls j).at_]; exact hi) (HOK.out.1.below HV.out.b (Nat.le_refl _)) (HOK.out.2.1.below HV.out.b (Nat.le_refl _)) HR.out).mono ?_
   rintro e w2 ⟨q2, qa, ia, qc, ic, rfl, hd, b2⟩
   have HSV := hid (show w.heap.size + 3 ≤ V1.heap.size from HV.out.row.lt)
   have A2 := hid (HV.out.call b2)
   have HD := hid (hd.less HSV.out)
   clear hd b2 hcm hlm hca hla HV
   have hca := A2.out.a.cell
   have hla := A2.out.a.lt
   have hza := A2.out.a.frozen
   rename_i ht
   refine ht _ _ ?_
   refine wpList_plain rfl (fun K hK => ?_)
   go_simp
   refine hK _ _ ?_
   clear hK K
   refine wpList_plain rfl (fun K hK => ?_)
   go_simp
   refine hK _ _ ?_
   clear hK K
   refine wpList_plain rfl (fun K hK => ?_)
   go_simp
   refine hK _ _ ?_
   clear hK K
   refine wpList_plain rfl (fun K hK => ?_)
   go_simp
   refine hK _ _ ?_
   clear hK K hca hla hza
   refine gen_list (fun V => AllP x p ls w V j q2 rs R qa ia) (allP_set A2.out HD.out) (fun V2 hV => ?_)
   have A3 := hid hV
   clear hV A2 HD
   refine wpList_plain rfl (fun K hK => ?_)
   go_simp
   refine hK _ _ ?_
   clear hK K
   refine wpList_store_mid rfl 38 (.tmp 30) (.tmp 29) rfl (w.heap.size + 1 + 1) (j * 6) #[.int .i64 R.2.err, .int .i64 R.2.kind, .int .i64 R.2.room, .slice qa R.2.players.length qc, .slice ia R.2.items.length ic, .int .i64 R.2.coins] rfl rfl (A3.out.row.there hlt) (by kernel_rfl) (by simp [Value.oneCell']) ?_
   refine gen_list (fun V => AllRel x p ls w V (j + 1) q2 (rs ++ [⟨R.2, qa, qc, ia, ic⟩])) (allP_put A3.out hlt qc ic HS1.out HS2.out) (fun V3 hV => ?_)
   have A4 := hid hV
   clear hV A3
   go_wp2_with fail
   go_roundw
   case rel => exact ⟨j + 1, q2, rs ++ [⟨R.2, qa, qc, ia, ic⟩], by omega, by go_num, A4.out⟩
   case measure => simp [intOf]; omega
  ·obtain rfl : j = ls.length := by omega
   have hca := HA.out.a.cell
   have hla := HA.out.a.lt
   have hcr := HA.out.r.cell
   have hlr := HA.out.r.lt
   have hzr := HA.out.r.frozen
   go_wp2_with fail
   refine bodyPost_ret (v := .tuple #[.agg (wC x q), .slice (some ⟨w.heap.size + 2, 0, none⟩) ls.length ls.length]) (by simp [results, Tryz.results16, go_sem, hcr]) rfl ⟨q, w.heap.size + 2, rs, rfl, by omega, ?_, ?_, HA.out.ans, ?_⟩
   ·rcases HA.out.own with ⟨h1, h2⟩ | h2
    ·rw [h1, h2]
     refine H.out.below (B := w.heap.size) ?_ (Nat.le_refl _)
     iterate 11 refine Below.setCell ?_ (by show w.heap.size ≤ w.heap.size + 1; omega) _
     exact HA.out.b
    ·refine WorldOwn.world (n := w.heap.size + 3) ?_
     iterate 11 refine WorldOwn.set ?_ (by omega) _ _
     exact h2
   ·iterate 11 refine RowR.set ?_ (by omega) (by omega) _ _
    exact HA.out.row
   ·iterate 11 refine Below.setCell ?_ (by show w.heap.size ≤ w.heap.size + 1; omega) _
    exact HA.out.b
end Go.Proofs.YtgmkcddgkgcbbaaGreat
