/- What the laws of atom begin with: answers that the document fixes; whether a world fits. -/
import Derived.Test.YtgmkcddgkgcbbaaGreatGRepR
import Derived.Test.YtgmkcddgkgcbbaaGreatAtomAll
namespace Go.Proofs.YtgmkcddgkgcbbaaGreat
open Go.ChangeShapes Go.WideShapes Go.ChangeAt Go.RowKit
open Lib (hid)
set_option linter.unusedVariables false
set_option maxRecDepth 100000
open Go.RowKit
def aD13 : Ds := ⟨[⟨1, -1, -1, -1⟩, ⟨-1, -1, 0, -1⟩], [0, 0], [5, 2], [0, 0], [true, false], 4, 2, 1⟩
def aP13 (n : Nat) : Dp := ⟨some ⟨n, 0, none⟩, 2, some ⟨n + 1, 0, none⟩, 2, some ⟨n + 1 + 1, 0, none⟩, 2, some ⟨n + 1 + 1 + 1, 0, none⟩, 2, some ⟨n + 1 + 1 + 1 + 1, 0, none⟩, 2⟩
def aN13 : Wd := newW aD13
def aA13 : Wd := putW aN13 1 ⟨1, 0⟩
def aB13 : Wd := goW aA13 0 1
theorem aN13_right : rightW aN13 = true := by decide +kernel
theorem aA13_right : rightW aA13 = true := by decide +kernel
theorem aw13_e1 : doW aN13 0 ⟨3, 0, 1, 0, 0, [], 0, [], 0⟩ = (aA13, okR 3 0) := by decide +kernel
theorem aw13_e2 : doW aA13 1 ⟨3, 0, 1, 0, 0, [], 0, [], 0⟩ = (aA13, errR 5) := by decide +kernel
theorem aw13_e3 : doW aA13 1 ⟨2, 0, 0, 0, 0, [], 0, [], 0⟩ = (aB13, okR 2 1) := by decide +kernel
theorem aw13_e4 : doW aA13 0 ⟨9, 0, 1, 0, 0, [], 0, [], 0⟩ = (aA13, errR 2) := by decide +kernel
def aL13 : List Cl := [⟨0, ⟨3, 0, 1, 0, 0, [], 0, [], 0⟩, none, 0, none, 0, 0, 0, ⟨0, 0, 0, [], [], 0⟩, none, 0, none, 0⟩, ⟨0, ⟨5, 0, 1, 0, 0, [], 0, [], 0⟩, none, 0, none, 0, 0, 0, ⟨0, 0, 0, [], [], 0⟩, none, 0, none, 0⟩, ⟨1, ⟨9, 0, 0, 0, 0, [], 0, [], 0⟩, none, 0, none, 0, 0, 0, ⟨0, 0, 0, [], [], 0⟩, none, 0, none, 0⟩]
def aR13 : Rp := ⟨0, 9, 0, [0, 1], [⟨0, 0, 0⟩, ⟨1, 2, 0⟩], 0⟩
theorem aw13_e5 : ansW aN13 aL13 3 = [okR 3 0, okR 5 0, aR13] := by decide +kernel
theorem aL13_plays : PlaysAll aN13 aL13 := by
 intro l hl
 simp only [aL13, List.mem_cons, List.not_mem_nil, or_false] at hl
 rcases hl with rfl | rfl | rfl
 ·exact ⟨0, rfl, by decide⟩
 ·exact ⟨0, rfl, by decide⟩
 ·exact ⟨1, rfl, by decide⟩
theorem row13 {α : Type} {k : Nat} {enc : α → List Value} {W : World} {g : Nat} {t : TypeId} {cs : Array Value} {xs : List α} (h : Blk W g t cs) (hl : xs.length ≤ maxLen) (hc : ∀ i (hi : i < xs.length) j, j < k → cs[i * k + j]? = (enc xs[i])[j]?) : RowAt k enc W (some ⟨g, 0, none⟩) xs :=
 ⟨hl, .inr ⟨g, 0, rfl, h.lt, fun i hi j hj => by rw [Nat.zero_add, h.cell]; exact hc i hi j hj⟩⟩
theorem aD13_at {W : World} {n : Nat} (h0 : Blk W n 51 #[.int .i64 1, .int .i64 (-1), .int .i64 (-1), .int .i64 (-1), .int .i64 (-1), .int .i64 (-1), .int .i64 0, .int .i64 (-1)]) (h1 : Blk W (n + 1) 3 #[.int .i64 0, .int .i64 0]) (h2 : Blk W (n + 1 + 1) 3 #[.int .i64 5, .int .i64 2])
 (h3 : Blk W (n + 1 + 1 + 1) 3 #[.int .i64 0, .int .i64 0]) (h4 : Blk W (n + 1 + 1 + 1 + 1) 4 #[.bool true, .bool false]) : DescAt W (aP13 n) aD13 := by
 refine ⟨row13 h0 (by simp [aD13, maxLen]) ?_, ints_row.2 (row13 h1 (by simp [aD13, maxLen]) ?_), ints_row.2 (row13 h2 (by simp [aD13, maxLen]) ?_), ints_row.2 (row13 h3 (by simp [aD13, maxLen]) ?_), row13 h4 (by simp [aD13, maxLen]) ?_⟩
 ·intro i hi j hj
  obtain rfl | rfl : i = 0 ∨ i = 1 := by simp [aD13] at hi; omega
  all_goals obtain rfl | rfl | rfl | rfl : j = 0 ∨ j = 1 ∨ j = 2 ∨ j = 3 := by omega
  all_goals rfl
 all_goals
  intro i hi j hj
  obtain rfl : j = 0 := by omega
  obtain rfl | rfl : i = 0 ∨ i = 1 := by simp [aD13] at hi; omega
  all_goals rfl
theorem aw13_start (w : World) : DescAt (((((w.alloc (.cells #[.int .i64 1, .int .i64 (-1), .int .i64 (-1), .int .i64 (-1), .int .i64 (-1), .int .i64 (-1), .int .i64 0, .int .i64 (-1)] 51)).alloc (.cells #[.int .i64 0, .int .i64 0] 3)).alloc (.cells #[.int .i64 5, .int .i64 2] 3)).alloc (.cells #[.int .i64 0, .int .i64 0] 3)).alloc (.cells #[.bool true, .bool false] 4)) (aP13 w.heap.size) aD13 ∧ Below w.heap.size w (((((w.alloc (.cells #[.int .i64 1, .int .i64 (-1), .int .i64 (-1), .int .i64 (-1), .int .i64 (-1), .int .i64 (-1), .int .i64 0, .int .i64 (-1)] 51)).alloc (.cells #[.int .i64 0, .int .i64 0] 3)).alloc (.cells #[.int .i64 5, .int .i64 2] 3)).alloc (.cells #[.int .i64 0, .int .i64 0] 3)).alloc (.cells #[.bool true, .bool false] 4)) := by
 have b0 := Blk.newn w 51 #[.int .i64 1, .int .i64 (-1), .int .i64 (-1), .int .i64 (-1), .int .i64 (-1), .int .i64 (-1), .int .i64 0, .int .i64 (-1)] (n := w.heap.size) rfl
 have b1 := Blk.newn (w.alloc (.cells #[.int .i64 1, .int .i64 (-1), .int .i64 (-1), .int .i64 (-1), .int .i64 (-1), .int .i64 (-1), .int .i64 0, .int .i64 (-1)] 51)) 3 #[.int .i64 0, .int .i64 0] (n := w.heap.size + 1) (by simp)
 have b2 := Blk.newn ((w.alloc (.cells #[.int .i64 1, .int .i64 (-1), .int .i64 (-1), .int .i64 (-1), .int .i64 (-1), .int .i64 (-1), .int .i64 0, .int .i64 (-1)] 51)).alloc (.cells #[.int .i64 0, .int .i64 0] 3)) 3 #[.int .i64 5, .int .i64 2] (n := w.heap.size + 1 + 1) (by simp)
 have b3 := Blk.newn (((w.alloc (.cells #[.int .i64 1, .int .i64 (-1), .int .i64 (-1), .int .i64 (-1), .int .i64 (-1), .int .i64 (-1), .int .i64 0, .int .i64 (-1)] 51)).alloc (.cells #[.int .i64 0, .int .i64 0] 3)).alloc (.cells #[.int .i64 5, .int .i64 2] 3)) 3 #[.int .i64 0, .int .i64 0] (n := w.heap.size + 1 + 1 + 1) (by simp)
 have b4 := Blk.newn ((((w.alloc (.cells #[.int .i64 1, .int .i64 (-1), .int .i64 (-1), .int .i64 (-1), .int .i64 (-1), .int .i64 (-1), .int .i64 0, .int .i64 (-1)] 51)).alloc (.cells #[.int .i64 0, .int .i64 0] 3)).alloc (.cells #[.int .i64 5, .int .i64 2] 3)).alloc (.cells #[.int .i64 0, .int .i64 0] 3)) 4 #[.bool true, .bool false] (n := w.heap.size + 1 + 1 + 1 + 1) (by simp)
 exact ⟨aD13_at ((((b0.alloc _).alloc _).alloc _).alloc _) (((b1.alloc _).alloc _).alloc _) ((b2.alloc _).alloc _) (b3.alloc _) b4, (((((Below.refl _ _).alloc (Nat.le_refl _) _).alloc (by simp) _).alloc (by simp; omega) _).alloc (by simp; omega) _).alloc (by simp; omega) _⟩
/-- awake's world, as New answers it. -/
theorem aw13_new (n : Nat) (W : World) (h : DescAt W (aP13 n) aD13) : Calls Tryz.prog 15 #[.agg #[.slice (some ⟨n, 0, none⟩) 2 2, .slice (some ⟨n + 1, 0, none⟩) 2 2, .slice (some ⟨n + 1 + 1, 0, none⟩) 2 2, .slice (some ⟨n + 1 + 1 + 1, 0, none⟩) 2 2, .slice (some ⟨n + 1 + 1 + 1 + 1, 0, none⟩) 2 2, .int .i64 4, .int .i64 2, .int .i64 1]] W fun e w' => ∃ q1 : Wp, e = .returned (.agg #[.slice q1.d.ex 2 q1.d.exc, .slice q1.d.pl 2 q1.d.plc, .slice q1.d.co 2 q1.d.coc, .slice q1.d.it 2 q1.d.itc, .slice q1.d.bo 2 q1.d.boc, .int .i64 4, .int .i64 2, .int .i64 1, .slice q1.at_ 2 q1.atc, .slice q1.co 2 q1.coc, .slice q1.wh 2 q1.whc]) ∧ WorldAt w' q1 aN13 ∧ Below W.heap.size W w' := by
 refine (refnew_any aD13 (aP13 n) W h (by decide +kernel)).mono ?_
 rintro e w' ⟨x, q, rfl, rfl, hw, hb⟩
 exact ⟨q, rfl, hw, hb⟩
theorem aw13_do {y z : Wd} {R : Rp} (i : Nat) (c : Cm) (q0 : Wp) (W : World) (hy : rightW y = true) (h : WorldAt W q0 y) (hi : i < y.at_.length) (hR : doW y i c = (z, R)) (hg : c.gives = []) (hw : c.wants = []) :
 Calls Tryz.prog 8 #[.agg (wC y q0), .int .i64 (i : Int), .agg #[.int .i64 c.kind, .int .i64 c.dir, .int .i64 c.item, .int .i64 c.box, .int .i64 c.who, .slice none c.gives.length 0, .int .i64 c.pay, .slice none c.wants.length 0, .int .i64 c.fee]] W fun e w' => ∃ (q : Wp) (qa ia : Option Addr) (qc ic : Nat), e = .returned (.tuple #[.agg (wC y q), .agg #[.int .i64 R.err, .int .i64 R.kind, .int .i64 R.room, .slice qa R.players.length qc, .slice ia R.items.length ic, .int .i64 R.coins]]) ∧ WorldAt w' q z ∧ NewR W.heap.size w' qa ia R ∧ Below W.heap.size W w' := by
 refine (ado_as (Shape.refl y) q0 i c none none 0 0 W hy h hi (by rw [hg]; exact IntsAt.nil _ _) (by rw [hw]; exact IntsAt.nil _ _) hR).mono ?_
 rintro e w' ⟨q, qa, ia, qc, ic, he, hd, hb⟩
 exact ⟨q, qa, ia, qc, ic, he, hd.world (h.call hb), hd.2, hb⟩
theorem aw13_do1 (q0 : Wp) (W : World) (h : WorldAt W q0 aN13) : Calls Tryz.prog 8 #[.agg #[.slice q0.d.ex 2 q0.d.exc, .slice q0.d.pl 2 q0.d.plc, .slice q0.d.co 2 q0.d.coc, .slice q0.d.it 2 q0.d.itc, .slice q0.d.bo 2 q0.d.boc, .int .i64 4, .int .i64 2, .int .i64 1, .slice q0.at_ 2 q0.atc, .slice q0.co 2 q0.coc, .slice q0.wh 2 q0.whc], .int .i64 0, .agg #[.int .i64 3, .int .i64 0, .int .i64 1, .int .i64 0, .int .i64 0, .slice none 0 0, .int .i64 0, .slice none 0 0, .int .i64 0]] W fun e w' => ∃ (q1 : Wp) (qa ia : Option Addr) (qc ic : Nat), e = .returned (.tuple #[.agg #[.slice q1.d.ex 2 q1.d.exc, .slice q1.d.pl 2 q1.d.plc, .slice q1.d.co 2 q1.d.coc, .slice q1.d.it 2 q1.d.itc, .slice q1.d.bo 2 q1.d.boc, .int .i64 4, .int .i64 2, .int .i64 1, .slice q1.at_ 2 q1.atc, .slice q1.co 2 q1.coc, .slice q1.wh 2 q1.whc], .agg #[.int .i64 0, .int .i64 3, .int .i64 0, .slice qa 0 qc, .slice ia 0 ic, .int .i64 0]]) ∧ WorldAt w' q1 aA13 ∧ NewR W.heap.size w' qa ia (okR 3 0) ∧ Below W.heap.size W w' :=
 aw13_do 0 ⟨3, 0, 1, 0, 0, [], 0, [], 0⟩ q0 W aN13_right h (by decide) aw13_e1 rfl rfl
theorem aw13_do2 (q0 : Wp) (W : World) (h : WorldAt W q0 aA13) : Calls Tryz.prog 8 #[.agg #[.slice q0.d.ex 2 q0.d.exc, .slice q0.d.pl 2 q0.d.plc, .slice q0.d.co 2 q0.d.coc, .slice q0.d.it 2 q0.d.itc, .slice q0.d.bo 2 q0.d.boc, .int .i64 4, .int .i64 2, .int .i64 1, .slice q0.at_ 2 q0.atc, .slice q0.co 2 q0.coc, .slice q0.wh 2 q0.whc], .int .i64 1, .agg #[.int .i64 3, .int .i64 0, .int .i64 1, .int .i64 0, .int .i64 0, .slice none 0 0, .int .i64 0, .slice none 0 0, .int .i64 0]] W fun e w' => ∃ (q1 : Wp) (qa ia : Option Addr) (qc ic : Nat), e = .returned (.tuple #[.agg #[.slice q1.d.ex 2 q1.d.exc, .slice q1.d.pl 2 q1.d.plc, .slice q1.d.co 2 q1.d.coc, .slice q1.d.it 2 q1.d.itc, .slice q1.d.bo 2 q1.d.boc, .int .i64 4, .int .i64 2, .int .i64 1, .slice q1.at_ 2 q1.atc, .slice q1.co 2 q1.coc, .slice q1.wh 2 q1.whc], .agg #[.int .i64 5, .int .i64 0, .int .i64 0, .slice qa 0 qc, .slice ia 0 ic, .int .i64 0]]) ∧ WorldAt w' q1 aA13 ∧ NewR W.heap.size w' qa ia (errR 5) ∧ Below W.heap.size W w' :=
 aw13_do 1 ⟨3, 0, 1, 0, 0, [], 0, [], 0⟩ q0 W aA13_right h (by decide) aw13_e2 rfl rfl
theorem aw13_do3a (q0 : Wp) (W : World) (h : WorldAt W q0 aA13) : Calls Tryz.prog 8 #[.agg #[.slice q0.d.ex 2 q0.d.exc, .slice q0.d.pl 2 q0.d.plc, .slice q0.d.co 2 q0.d.coc, .slice q0.d.it 2 q0.d.itc, .slice q0.d.bo 2 q0.d.boc, .int .i64 4, .int .i64 2, .int .i64 1, .slice q0.at_ 2 q0.atc, .slice q0.co 2 q0.coc, .slice q0.wh 2 q0.whc], .int .i64 1, .agg #[.int .i64 2, .int .i64 0, .int .i64 0, .int .i64 0, .int .i64 0, .slice none 0 0, .int .i64 0, .slice none 0 0, .int .i64 0]] W fun e w' => ∃ (q1 : Wp) (qa ia : Option Addr) (qc ic : Nat), e = .returned (.tuple #[.agg #[.slice q1.d.ex 2 q1.d.exc, .slice q1.d.pl 2 q1.d.plc, .slice q1.d.co 2 q1.d.coc, .slice q1.d.it 2 q1.d.itc, .slice q1.d.bo 2 q1.d.boc, .int .i64 4, .int .i64 2, .int .i64 1, .slice q1.at_ 2 q1.atc, .slice q1.co 2 q1.coc, .slice q1.wh 2 q1.whc], .agg #[.int .i64 0, .int .i64 2, .int .i64 1, .slice qa 0 qc, .slice ia 0 ic, .int .i64 0]]) ∧ WorldAt w' q1 aB13 ∧ NewR W.heap.size w' qa ia (okR 2 1) ∧ Below W.heap.size W w' :=
 aw13_do 1 ⟨2, 0, 0, 0, 0, [], 0, [], 0⟩ q0 W aA13_right h (by decide) aw13_e3 rfl rfl
theorem aw13_do4 (q0 : Wp) (W : World) (h : WorldAt W q0 aA13) : Calls Tryz.prog 8 #[.agg #[.slice q0.d.ex 2 q0.d.exc, .slice q0.d.pl 2 q0.d.plc, .slice q0.d.co 2 q0.d.coc, .slice q0.d.it 2 q0.d.itc, .slice q0.d.bo 2 q0.d.boc, .int .i64 4, .int .i64 2, .int .i64 1, .slice q0.at_ 2 q0.atc, .slice q0.co 2 q0.coc, .slice q0.wh 2 q0.whc], .int .i64 0, .agg #[.int .i64 9, .int .i64 0, .int .i64 1, .int .i64 0, .int .i64 0, .slice none 0 0, .int .i64 0, .slice none 0 0, .int .i64 0]] W fun e w' => ∃ (q1 : Wp) (qa ia : Option Addr) (qc ic : Nat), e = .returned (.tuple #[.agg #[.slice q1.d.ex 2 q1.d.exc, .slice q1.d.pl 2 q1.d.plc, .slice q1.d.co 2 q1.d.coc, .slice q1.d.it 2 q1.d.itc, .slice q1.d.bo 2 q1.d.boc, .int .i64 4, .int .i64 2, .int .i64 1, .slice q1.at_ 2 q1.atc, .slice q1.co 2 q1.coc, .slice q1.wh 2 q1.whc], .agg #[.int .i64 2, .int .i64 0, .int .i64 0, .slice qa 0 qc, .slice ia 0 ic, .int .i64 0]]) ∧ WorldAt w' q1 aA13 ∧ NewR W.heap.size w' qa ia (errR 2) ∧ Below W.heap.size W w' :=
 aw13_do 0 ⟨9, 0, 1, 0, 0, [], 0, [], 0⟩ q0 W aA13_right h (by decide) aw13_e4 rfl rfl
theorem aw13_calls {W : World} {g : Nat} (h : Blk W g 46 #[.int .i64 0, .int .i64 3, .int .i64 0, .int .i64 1, .int .i64 0, .int .i64 0, .slice none 0 0, .int .i64 0, .slice none 0 0, .int .i64 0, .int .i64 0, .int .i64 0, .int .i64 0, .int .i64 0, .int .i64 0, .slice none 0 0, .slice none 0 0, .int .i64 0, .int .i64 0, .int .i64 5, .int .i64 0, .int .i64 1, .int .i64 0, .int .i64 0, .slice none 0 0, .int .i64 0, .slice none 0 0, .int .i64 0, .int .i64 0, .int .i64 0, .int .i64 0, .int .i64 0, .int .i64 0, .slice none 0 0, .slice none 0 0, .int .i64 0, .int .i64 1, .int .i64 9, .int .i64 0, .int .i64 0, .int .i64 0, .int .i64 0, .slice none 0 0, .int .i64 0, .slice none 0 0, .int .i64 0, .int .i64 0, .int .i64 0, .int .i64 0, .int .i64 0, .int .i64 0, .slice none 0 0, .slice none 0 0, .int .i64 0]) : CallsAt W (some ⟨g, 0, none⟩) aL13 := by
 refine ⟨row13 h (by simp [aL13, maxLen]) ?_, fun l hl => ?_⟩
 ·intro i hi j hj
  obtain rfl | rfl | rfl : i = 0 ∨ i = 1 ∨ i = 2 := by simp [aL13] at hi; omega
  all_goals obtain rfl | rfl | rfl | rfl | rfl | rfl | rfl | rfl | rfl | rfl | rfl | rfl | rfl | rfl | rfl | rfl | rfl | rfl : j = 0 ∨ j = 1 ∨ j = 2 ∨ j = 3 ∨ j = 4 ∨ j = 5 ∨ j = 6 ∨ j = 7 ∨ j = 8 ∨ j = 9 ∨ j = 10 ∨ j = 11 ∨ j = 12 ∨ j = 13 ∨ j = 14 ∨ j = 15 ∨ j = 16 ∨ j = 17 := by omega
  all_goals rfl
 ·simp only [aL13, List.mem_cons, List.not_mem_nil, or_false] at hl
  rcases hl with rfl | rfl | rfl
  all_goals exact ⟨IntsAt.nil _ _, IntsAt.nil _ _, IntsAt.nil _ _, SnsAt.nil _ _⟩
/-- A number that lies there. -/
def At1 (W : World) (b o : Nat) (v : Int) : Prop := W.cell? ⟨b, o, none⟩ = some (.int .i64 v) ∧ b < W.heap.size
theorem At1.call {W W' : World} {b o : Nat} {v : Int} (h : At1 W b o v) (hb : Below W.heap.size W W') : At1 W' b o v := ⟨cell_call h.1 hb, Nat.lt_of_lt_of_le h.2 hb.size⟩
theorem gen_calls {P : Program} {f : FuncId} {args : Array Value} {Q : Ending → World → Prop} {W : World} (F : World → Prop) (hF : F W) (h : ∀ V, F V → Calls P f args V Q) : Calls P f args W Q := h W hF
/-- What lies there. -/
def CellAt (W : World) (b o : Nat) (v : Value) : Prop := W.cell? ⟨b, o, none⟩ = some v ∧ b < W.heap.size
theorem CellAt.call {W W' : World} {b o : Nat} {v : Value} (h : CellAt W b o v) (hb : Below W.heap.size W W') : CellAt W' b o v := ⟨cell_call h.1 hb, Nat.lt_of_lt_of_le h.2 hb.size⟩
theorem aw13_do3 (q0 : Wp) (W : World) (h : WorldAt W q0 aA13) : Calls Tryz.prog 8 #[.agg #[.slice q0.d.ex 2 q0.d.exc, .slice q0.d.pl 2 q0.d.plc, .slice q0.d.co 2 q0.d.coc, .slice q0.d.it 2 q0.d.itc, .slice q0.d.bo 2 q0.d.boc, .int .i64 4, .int .i64 2, .int .i64 1, .slice q0.at_ 2 q0.atc, .slice q0.co 2 q0.coc, .slice q0.wh 2 q0.whc], .int .i64 1, .agg #[.int .i64 2, .int .i64 0, .int .i64 0, .int .i64 0, .int .i64 0, .slice none 0 0, .int .i64 0, .slice none 0 0, .int .i64 0]] W fun e w' => ∃ (d1 : Dp) (ab1 ao1 aac1 : Nat) (k1 wh1 : Option Addr) (kc1 whc1 : Nat) (qa ia : Option Addr) (qc ic : Nat), e = .returned (.tuple #[.agg #[.slice d1.ex 2 d1.exc, .slice d1.pl 2 d1.plc, .slice d1.co 2 d1.coc, .slice d1.it 2 d1.itc, .slice d1.bo 2 d1.boc, .int .i64 4, .int .i64 2, .int .i64 1, .slice (some ⟨ab1, ao1, none⟩) 2 aac1, .slice k1 2 kc1, .slice wh1 2 whc1], .agg #[.int .i64 0, .int .i64 2, .int .i64 1, .slice qa 0 qc, .slice ia 0 ic, .int .i64 0]]) ∧ At1 w' ab1 ao1 1 ∧ NewR W.heap.size w' qa ia (okR 2 1) ∧ Below W.heap.size W w' := by
 refine (aw13_do3a q0 W h).mono ?_
 rintro e w' ⟨⟨d, a, ac, k, kc, wh, whc⟩, qa, ia, qc, ic, rfl, hw, hn, hb⟩
 obtain ⟨ab, ao, ea, hlt, hc⟩ := hw.at_.at_ (k := 0) (by decide)
 simp only at ea
 subst ea
 exact ⟨d, ab, ao, ac, k, wh, kc, whc, qa, ia, qc, ic, rfl, ⟨hc 0 (by decide), hlt⟩, hn, hb⟩
/-- What the three calls come to. -/
theorem aw13_all (q0 : Wp) (a : Option Addr) (W : World) (h : WorldAt W q0 aN13) (hc : CallsAt W a aL13) : Calls Tryz.prog 16 #[.agg #[.slice q0.d.ex 2 q0.d.exc, .slice q0.d.pl 2 q0.d.plc, .slice q0.d.co 2 q0.d.coc, .slice q0.d.it 2 q0.d.itc, .slice q0.d.bo 2 q0.d.boc, .int .i64 4, .int .i64 2, .int .i64 1, .slice q0.at_ 2 q0.atc, .slice q0.co 2 q0.coc, .slice q0.wh 2 q0.whc], .slice a 3 3] W fun e w' => ∃ (q1 : Wp) (b : Nat) (ia : Option Addr) (ic : Nat), e = .returned (.tuple #[.agg #[.slice q1.d.ex 2 q1.d.exc, .slice q1.d.pl 2 q1.d.plc, .slice q1.d.co 2 q1.d.coc, .slice q1.d.it 2 q1.d.itc, .slice q1.d.bo 2 q1.d.boc, .int .i64 4, .int .i64 2, .int .i64 1, .slice q1.at_ 2 q1.atc, .slice q1.co 2 q1.coc, .slice q1.wh 2 q1.whc], .slice (some ⟨b, 0, none⟩) 3 3]) ∧ (w'.cell? ⟨b, 7, none⟩ = some (.int .i64 5) ∧ w'.cell? ⟨b, 16, none⟩ = some (.slice ia 2 ic) ∧ b < w'.heap.size) ∧ Below W.heap.size W w' := by
 refine (aall_any aN13 q0 a 3 aL13 W aN13_right h hc aL13_plays (by decide)).mono ?_
 rintro e w' ⟨q, b, rs, rfl, _, _, hr, ha, hb⟩
 rw [show aL13.length = 3 from rfl, aw13_e5] at ha
 have hlen : rs.length = 3 := by simpa using congrArg List.length ha
 obtain ⟨r0, r1, r2, rfl⟩ : ∃ r0 r1 r2, rs = [r0, r1, r2] := by
  match rs, hlen with
  | [r0, r1, r2], _ => exact ⟨r0, r1, r2, rfl⟩
 simp only [List.map_cons, List.map_nil, List.cons.injEq, and_true] at ha
 obtain ⟨h0, h1, h2⟩ := ha
 obtain ⟨⟨cs, hB, hs, hcs⟩, _⟩ := hr
 refine ⟨q, b, r2.ia, r2.ic, rfl, ⟨?_, ?_, hB.lt⟩, hb⟩
 ·rw [hB.cell]
  have := hcs 1 (by simp) 1 (by omega)
  rw [this]
  simp [rlC, h1, okR]
 ·rw [hB.cell]
  have := hcs 2 (by simp) 4 (by omega)
  rw [this]
  simp [rlC, h2, aR13]
theorem aw13_same1 (qa ia : Option Addr) (qc ic : Nat) (W : World) (h1 : IntsAt W qa []) (h2 : SnsAt W ia []) : Calls Tryz.prog 11 #[.agg #[.int .i64 0, .int .i64 3, .int .i64 0, .slice qa 0 qc, .slice ia 0 ic, .int .i64 0], .agg #[.int .i64 0, .int .i64 3, .int .i64 0, .slice none 0 0, .slice none 0 0, .int .i64 0]] W fun e w' => e = .returned (.bool true) ∧ Below W.heap.size W w' :=
 rrefsame_any (okR 3 0) (okR 3 0) qa ia none none qc ic 0 0 W h1 h2 (IntsAt.nil _ _) (SnsAt.nil _ _)
theorem aw13_same2 (qa ia : Option Addr) (qc ic : Nat) (W : World) (h1 : IntsAt W qa []) (h2 : SnsAt W ia []) : Calls Tryz.prog 11 #[.agg #[.int .i64 5, .int .i64 0, .int .i64 0, .slice qa 0 qc, .slice ia 0 ic, .int .i64 0], .agg #[.int .i64 5, .int .i64 0, .int .i64 0, .slice none 0 0, .slice none 0 0, .int .i64 0]] W fun e w' => e = .returned (.bool true) ∧ Below W.heap.size W w' :=
 rrefsame_any (errR 5) (errR 5) qa ia none none qc ic 0 0 W h1 h2 (IntsAt.nil _ _) (SnsAt.nil _ _)
theorem aw13_same3 (qa ia : Option Addr) (qc ic : Nat) (W : World) (h1 : IntsAt W qa []) (h2 : SnsAt W ia []) : Calls Tryz.prog 11 #[.agg #[.int .i64 0, .int .i64 2, .int .i64 1, .slice qa 0 qc, .slice ia 0 ic, .int .i64 0], .agg #[.int .i64 0, .int .i64 2, .int .i64 1, .slice none 0 0, .slice none 0 0, .int .i64 0]] W fun e w' => e = .returned (.bool true) ∧ Below W.heap.size W w' :=
 rrefsame_any (okR 2 1) (okR 2 1) qa ia none none qc ic 0 0 W h1 h2 (IntsAt.nil _ _) (SnsAt.nil _ _)
theorem aw13_same4 (qa ia : Option Addr) (qc ic : Nat) (W : World) (h1 : IntsAt W qa []) (h2 : SnsAt W ia []) : Calls Tryz.prog 11 #[.agg #[.int .i64 2, .int .i64 0, .int .i64 0, .slice qa 0 qc, .slice ia 0 ic, .int .i64 0], .agg #[.int .i64 2, .int .i64 0, .int .i64 0, .slice none 0 0, .slice none 0 0, .int .i64 0]] W fun e w' => e = .returned (.bool true) ∧ Below W.heap.size W w' :=
 rrefsame_any (errR 2) (errR 2) qa ia none none qc ic 0 0 W h1 h2 (IntsAt.nil _ _) (SnsAt.nil _ _)
set_option maxHeartbeats 4000000 in
theorem awake13_any (w : World) : Calls Tryz.prog 5 #[] w fun e w' => e = .returned (.bool true) ∧ Below w.heap.size w w' := by
 have A0 := hid (aw13_start w)
 have hWC := @wC.eq_1
 go_enter Tryz.func5, Tryz.ntmps5
 go_wp2_with fail
 generalize (((((w.alloc (.cells #[.int .i64 1, .int .i64 (-1), .int .i64 (-1), .int .i64 (-1), .int .i64 (-1), .int .i64 (-1), .int .i64 0, .int .i64 (-1)] 51)).alloc (.cells #[.int .i64 0, .int .i64 0] 3)).alloc (.cells #[.int .i64 5, .int .i64 2] 3)).alloc (.cells #[.int .i64 0, .int .i64 0] 3)).alloc (.cells #[.bool true, .bool false] 4)) = V1 at *
 have B_0 := hid A0.out.2
 refine (aw13_new w.heap.size _ A0.out.1).mono ?_
 rintro e u1 ⟨q1, rfl, g, b1⟩
 have B_1 := hid (bl B_0.out b1)
 clear b1 B_0
 have WN_1 := hid g
 clear g A0
 go_wp2_with fail
 have s2 : (u1.alloc (.cells #[.slice q1.d.ex 2 q1.d.exc, .slice q1.d.pl 2 q1.d.plc, .slice q1.d.co 2 q1.d.coc, .slice q1.d.it 2 q1.d.itc, .slice q1.d.bo 2 q1.d.boc, .int .i64 4, .int .i64 2, .int .i64 1, .slice q1.at_ 2 q1.atc, .slice q1.co 2 q1.coc, .slice q1.wh 2 q1.whc] 29)).heap.size = u1.heap.size + 1 := by simp
 have B_2 := hid (B_1.out.alloc B_1.out.size (.cells #[.slice q1.d.ex 2 q1.d.exc, .slice q1.d.pl 2 q1.d.plc, .slice q1.d.co 2 q1.d.coc, .slice q1.d.it 2 q1.d.itc, .slice q1.d.bo 2 q1.d.boc, .int .i64 4, .int .i64 2, .int .i64 1, .slice q1.at_ 2 q1.atc, .slice q1.co 2 q1.coc, .slice q1.wh 2 q1.whc] 29))
 have WN_2 := hid (WN_1.out.call ((Below.refl _ _).alloc (Nat.le_refl _) (.cells #[.slice q1.d.ex 2 q1.d.exc, .slice q1.d.pl 2 q1.d.plc, .slice q1.d.co 2 q1.d.coc, .slice q1.d.it 2 q1.d.itc, .slice q1.d.bo 2 q1.d.boc, .int .i64 4, .int .i64 2, .int .i64 1, .slice q1.at_ 2 q1.atc, .slice q1.co 2 q1.coc, .slice q1.wh 2 q1.whc] 29)))
 have X_2 := hid (Holds.newb (w := w) (A := #[.slice q1.d.ex 2 q1.d.exc, .slice q1.d.pl 2 q1.d.plc, .slice q1.d.co 2 q1.d.coc, .slice q1.d.it 2 q1.d.itc, .slice q1.d.bo 2 q1.d.boc, .int .i64 4, .int .i64 2, .int .i64 1, .slice q1.at_ 2 q1.atc, .slice q1.co 2 q1.coc, .slice q1.wh 2 q1.whc]) (t := 29) (n := u1.heap.size) B_1.out rfl)
 clear B_1 WN_1
 generalize u1.alloc (.cells #[.slice q1.d.ex 2 q1.d.exc, .slice q1.d.pl 2 q1.d.plc, .slice q1.d.co 2 q1.d.coc, .slice q1.d.it 2 q1.d.itc, .slice q1.d.bo 2 q1.d.boc, .int .i64 4, .int .i64 2, .int .i64 1, .slice q1.at_ 2 q1.atc, .slice q1.co 2 q1.coc, .slice q1.wh 2 q1.whc] 29) = V2 at *
 have hcX := X_2.out.2.2
 have hlX := X_2.out.2.1
 clear s2
 refine (aw13_do1 q1 _ WN_2.out).mono ?_
 rintro e u3 ⟨q2, qa2, ia2, qc2, ic2, rfl, g, g2, b3⟩
 clear hcX hlX
 have B_3 := hid (bl B_2.out b3)
 have X_3 := hid (X_2.out.call b3)
 have WN_3 := hid (WN_2.out.call b3)
 clear b3 B_2 X_2 WN_2
 have hcX := X_3.out.2.2
 have hlX := X_3.out.2.1
 have WAA_3 := hid g
 have NA_3 := hid g2
 clear g g2
 go_wp2_with fail
 clear hcX hlX
 have s4 : (u3.alloc (.cells #[.slice q2.d.ex 2 q2.d.exc, .slice q2.d.pl 2 q2.d.plc, .slice q2.d.co 2 q2.d.coc, .slice q2.d.it 2 q2.d.itc, .slice q2.d.bo 2 q2.d.boc, .int .i64 4, .int .i64 2, .int .i64 1, .slice q2.at_ 2 q2.atc, .slice q2.co 2 q2.coc, .slice q2.wh 2 q2.whc] 29)).heap.size = u3.heap.size + 1 := by simp
 have B_4 := hid (B_3.out.alloc B_3.out.size (.cells #[.slice q2.d.ex 2 q2.d.exc, .slice q2.d.pl 2 q2.d.plc, .slice q2.d.co 2 q2.d.coc, .slice q2.d.it 2 q2.d.itc, .slice q2.d.bo 2 q2.d.boc, .int .i64 4, .int .i64 2, .int .i64 1, .slice q2.at_ 2 q2.atc, .slice q2.co 2 q2.coc, .slice q2.wh 2 q2.whc] 29))
 have X_4 := hid (X_3.out.alloc (.cells #[.slice q2.d.ex 2 q2.d.exc, .slice q2.d.pl 2 q2.d.plc, .slice q2.d.co 2 q2.d.coc, .slice q2.d.it 2 q2.d.itc, .slice q2.d.bo 2 q2.d.boc, .int .i64 4, .int .i64 2, .int .i64 1, .slice q2.at_ 2 q2.atc, .slice q2.co 2 q2.coc, .slice q2.wh 2 q2.whc] 29))
 have WN_4 := hid (WN_3.out.call ((Below.refl _ _).alloc (Nat.le_refl _) (.cells #[.slice q2.d.ex 2 q2.d.exc, .slice q2.d.pl 2 q2.d.plc, .slice q2.d.co 2 q2.d.coc, .slice q2.d.it 2 q2.d.itc, .slice q2.d.bo 2 q2.d.boc, .int .i64 4, .int .i64 2, .int .i64 1, .slice q2.at_ 2 q2.atc, .slice q2.co 2 q2.coc, .slice q2.wh 2 q2.whc] 29)))
 have WAA_4 := hid (WAA_3.out.call ((Below.refl _ _).alloc (Nat.le_refl _) (.cells #[.slice q2.d.ex 2 q2.d.exc, .slice q2.d.pl 2 q2.d.plc, .slice q2.d.co 2 q2.d.coc, .slice q2.d.it 2 q2.d.itc, .slice q2.d.bo 2 q2.d.boc, .int .i64 4, .int .i64 2, .int .i64 1, .slice q2.at_ 2 q2.atc, .slice q2.co 2 q2.coc, .slice q2.wh 2 q2.whc] 29)))
 have NA_4 := hid (NA_3.out.call ((Below.refl _ _).alloc (Nat.le_refl _) (.cells #[.slice q2.d.ex 2 q2.d.exc, .slice q2.d.pl 2 q2.d.plc, .slice q2.d.co 2 q2.d.coc, .slice q2.d.it 2 q2.d.itc, .slice q2.d.bo 2 q2.d.boc, .int .i64 4, .int .i64 2, .int .i64 1, .slice q2.at_ 2 q2.atc, .slice q2.co 2 q2.coc, .slice q2.wh 2 q2.whc] 29)))
 have AA_4 := hid (Holds.newb (w := w) (A := #[.slice q2.d.ex 2 q2.d.exc, .slice q2.d.pl 2 q2.d.plc, .slice q2.d.co 2 q2.d.coc, .slice q2.d.it 2 q2.d.itc, .slice q2.d.bo 2 q2.d.boc, .int .i64 4, .int .i64 2, .int .i64 1, .slice q2.at_ 2 q2.atc, .slice q2.co 2 q2.coc, .slice q2.wh 2 q2.whc]) (t := 29) (n := u3.heap.size) B_3.out rfl)
 clear B_3 X_3 WN_3 WAA_3 NA_3
 generalize u3.alloc (.cells #[.slice q2.d.ex 2 q2.d.exc, .slice q2.d.pl 2 q2.d.plc, .slice q2.d.co 2 q2.d.coc, .slice q2.d.it 2 q2.d.itc, .slice q2.d.bo 2 q2.d.boc, .int .i64 4, .int .i64 2, .int .i64 1, .slice q2.at_ 2 q2.atc, .slice q2.co 2 q2.coc, .slice q2.wh 2 q2.whc] 29) = V4 at *
 have s5 : (V4.alloc (.cells #[.int .i64 0, .int .i64 3, .int .i64 0, .slice qa2 0 qc2, .slice ia2 0 ic2, .int .i64 0] 38)).heap.size = V4.heap.size + 1 := by simp
 have B_5 := hid (B_4.out.alloc B_4.out.size (.cells #[.int .i64 0, .int .i64 3, .int .i64 0, .slice qa2 0 qc2, .slice ia2 0 ic2, .int .i64 0] 38))
 have X_5 := hid (X_4.out.alloc (.cells #[.int .i64 0, .int .i64 3, .int .i64 0, .slice qa2 0 qc2, .slice ia2 0 ic2, .int .i64 0] 38))
 have AA_5 := hid (AA_4.out.alloc (.cells #[.int .i64 0, .int .i64 3, .int .i64 0, .slice qa2 0 qc2, .slice ia2 0 ic2, .int .i64 0] 38))
 have WN_5 := hid (WN_4.out.call ((Below.refl _ _).alloc (Nat.le_refl _) (.cells #[.int .i64 0, .int .i64 3, .int .i64 0, .slice qa2 0 qc2, .slice ia2 0 ic2, .int .i64 0] 38)))
 have WAA_5 := hid (WAA_4.out.call ((Below.refl _ _).alloc (Nat.le_refl _) (.cells #[.int .i64 0, .int .i64 3, .int .i64 0, .slice qa2 0 qc2, .slice ia2 0 ic2, .int .i64 0] 38)))
 have NA_5 := hid (NA_4.out.call ((Below.refl _ _).alloc (Nat.le_refl _) (.cells #[.int .i64 0, .int .i64 3, .int .i64 0, .slice qa2 0 qc2, .slice ia2 0 ic2, .int .i64 0] 38)))
 have AAr_5 := hid (Holds.newb (w := w) (A := #[.int .i64 0, .int .i64 3, .int .i64 0, .slice qa2 0 qc2, .slice ia2 0 ic2, .int .i64 0]) (t := 38) (n := u3.heap.size + 1) B_4.out (by omega))
 clear B_4 X_4 AA_4 WN_4 WAA_4 NA_4
 generalize V4.alloc (.cells #[.int .i64 0, .int .i64 3, .int .i64 0, .slice qa2 0 qc2, .slice ia2 0 ic2, .int .i64 0] 38) = V5 at *
 have SZ2 := hid (show V5.heap.size = u3.heap.size + 1 + 1 by omega)
 clear s4 s5
 have hcX := X_5.out.2.2
 have hlX := X_5.out.2.1
 have hcAA := AA_5.out.2.2
 have hlAA := AA_5.out.2.1
 have hcAAr := AAr_5.out.2.2
 have hlAAr := AAr_5.out.2.1
 refine (aw13_do2 q2 _ WAA_5.out).mono ?_
 rintro e u6 ⟨q3, qa3, ia3, qc3, ic3, rfl, g, g2, b6⟩
 clear hcX hlX hcAA hlAA hcAAr hlAAr
 have B_6 := hid (bl B_5.out b6)
 have X_6 := hid (X_5.out.call b6)
 have AA_6 := hid (AA_5.out.call b6)
 have AAr_6 := hid (AAr_5.out.call b6)
 have WN_6 := hid (WN_5.out.call b6)
 have WAA_6 := hid (WAA_5.out.call b6)
 have NA_6 := hid (NA_5.out.call b6)
 clear b6 B_5 X_5 AA_5 AAr_5 WN_5 WAA_5 NA_5
 have hcX := X_6.out.2.2
 have hlX := X_6.out.2.1
 have hcAA := AA_6.out.2.2
 have hlAA := AA_6.out.2.1
 have hcAAr := AAr_6.out.2.2
 have hlAAr := AAr_6.out.2.1
 have WBB_6 := hid g
 have NB_6 := hid g2
 clear g g2
 go_wp2_with fail
 clear hcX hlX hcAA hlAA hcAAr hlAAr
 have s7 : (u6.alloc (.cells #[.slice q3.d.ex 2 q3.d.exc, .slice q3.d.pl 2 q3.d.plc, .slice q3.d.co 2 q3.d.coc, .slice q3.d.it 2 q3.d.itc, .slice q3.d.bo 2 q3.d.boc, .int .i64 4, .int .i64 2, .int .i64 1, .slice q3.at_ 2 q3.atc, .slice q3.co 2 q3.coc, .slice q3.wh 2 q3.whc] 29)).heap.size = u6.heap.size + 1 := by simp
 have B_7 := hid (B_6.out.alloc B_6.out.size (.cells #[.slice q3.d.ex 2 q3.d.exc, .slice q3.d.pl 2 q3.d.plc, .slice q3.d.co 2 q3.d.coc, .slice q3.d.it 2 q3.d.itc, .slice q3.d.bo 2 q3.d.boc, .int .i64 4, .int .i64 2, .int .i64 1, .slice q3.at_ 2 q3.atc, .slice q3.co 2 q3.coc, .slice q3.wh 2 q3.whc] 29))
 have X_7 := hid (X_6.out.alloc (.cells #[.slice q3.d.ex 2 q3.d.exc, .slice q3.d.pl 2 q3.d.plc, .slice q3.d.co 2 q3.d.coc, .slice q3.d.it 2 q3.d.itc, .slice q3.d.bo 2 q3.d.boc, .int .i64 4, .int .i64 2, .int .i64 1, .slice q3.at_ 2 q3.atc, .slice q3.co 2 q3.coc, .slice q3.wh 2 q3.whc] 29))
 have AA_7 := hid (AA_6.out.alloc (.cells #[.slice q3.d.ex 2 q3.d.exc, .slice q3.d.pl 2 q3.d.plc, .slice q3.d.co 2 q3.d.coc, .slice q3.d.it 2 q3.d.itc, .slice q3.d.bo 2 q3.d.boc, .int .i64 4, .int .i64 2, .int .i64 1, .slice q3.at_ 2 q3.atc, .slice q3.co 2 q3.coc, .slice q3.wh 2 q3.whc] 29))
 have AAr_7 := hid (AAr_6.out.alloc (.cells #[.slice q3.d.ex 2 q3.d.exc, .slice q3.d.pl 2 q3.d.plc, .slice q3.d.co 2 q3.d.coc, .slice q3.d.it 2 q3.d.itc, .slice q3.d.bo 2 q3.d.boc, .int .i64 4, .int .i64 2, .int .i64 1, .slice q3.at_ 2 q3.atc, .slice q3.co 2 q3.coc, .slice q3.wh 2 q3.whc] 29))
 have WN_7 := hid (WN_6.out.call ((Below.refl _ _).alloc (Nat.le_refl _) (.cells #[.slice q3.d.ex 2 q3.d.exc, .slice q3.d.pl 2 q3.d.plc, .slice q3.d.co 2 q3.d.coc, .slice q3.d.it 2 q3.d.itc, .slice q3.d.bo 2 q3.d.boc, .int .i64 4, .int .i64 2, .int .i64 1, .slice q3.at_ 2 q3.atc, .slice q3.co 2 q3.coc, .slice q3.wh 2 q3.whc] 29)))
 have WAA_7 := hid (WAA_6.out.call ((Below.refl _ _).alloc (Nat.le_refl _) (.cells #[.slice q3.d.ex 2 q3.d.exc, .slice q3.d.pl 2 q3.d.plc, .slice q3.d.co 2 q3.d.coc, .slice q3.d.it 2 q3.d.itc, .slice q3.d.bo 2 q3.d.boc, .int .i64 4, .int .i64 2, .int .i64 1, .slice q3.at_ 2 q3.atc, .slice q3.co 2 q3.coc, .slice q3.wh 2 q3.whc] 29)))
 have NA_7 := hid (NA_6.out.call ((Below.refl _ _).alloc (Nat.le_refl _) (.cells #[.slice q3.d.ex 2 q3.d.exc, .slice q3.d.pl 2 q3.d.plc, .slice q3.d.co 2 q3.d.coc, .slice q3.d.it 2 q3.d.itc, .slice q3.d.bo 2 q3.d.boc, .int .i64 4, .int .i64 2, .int .i64 1, .slice q3.at_ 2 q3.atc, .slice q3.co 2 q3.coc, .slice q3.wh 2 q3.whc] 29)))
 have WBB_7 := hid (WBB_6.out.call ((Below.refl _ _).alloc (Nat.le_refl _) (.cells #[.slice q3.d.ex 2 q3.d.exc, .slice q3.d.pl 2 q3.d.plc, .slice q3.d.co 2 q3.d.coc, .slice q3.d.it 2 q3.d.itc, .slice q3.d.bo 2 q3.d.boc, .int .i64 4, .int .i64 2, .int .i64 1, .slice q3.at_ 2 q3.atc, .slice q3.co 2 q3.coc, .slice q3.wh 2 q3.whc] 29)))
 have NB_7 := hid (NB_6.out.call ((Below.refl _ _).alloc (Nat.le_refl _) (.cells #[.slice q3.d.ex 2 q3.d.exc, .slice q3.d.pl 2 q3.d.plc, .slice q3.d.co 2 q3.d.coc, .slice q3.d.it 2 q3.d.itc, .slice q3.d.bo 2 q3.d.boc, .int .i64 4, .int .i64 2, .int .i64 1, .slice q3.at_ 2 q3.atc, .slice q3.co 2 q3.coc, .slice q3.wh 2 q3.whc] 29)))
 have BB_7 := hid (Holds.newb (w := w) (A := #[.slice q3.d.ex 2 q3.d.exc, .slice q3.d.pl 2 q3.d.plc, .slice q3.d.co 2 q3.d.coc, .slice q3.d.it 2 q3.d.itc, .slice q3.d.bo 2 q3.d.boc, .int .i64 4, .int .i64 2, .int .i64 1, .slice q3.at_ 2 q3.atc, .slice q3.co 2 q3.coc, .slice q3.wh 2 q3.whc]) (t := 29) (n := u6.heap.size) B_6.out rfl)
 clear B_6 X_6 AA_6 AAr_6 WN_6 WAA_6 NA_6 WBB_6 NB_6
 generalize u6.alloc (.cells #[.slice q3.d.ex 2 q3.d.exc, .slice q3.d.pl 2 q3.d.plc, .slice q3.d.co 2 q3.d.coc, .slice q3.d.it 2 q3.d.itc, .slice q3.d.bo 2 q3.d.boc, .int .i64 4, .int .i64 2, .int .i64 1, .slice q3.at_ 2 q3.atc, .slice q3.co 2 q3.coc, .slice q3.wh 2 q3.whc] 29) = V7 at *
 have s8 : (V7.alloc (.cells #[.int .i64 5, .int .i64 0, .int .i64 0, .slice qa3 0 qc3, .slice ia3 0 ic3, .int .i64 0] 38)).heap.size = V7.heap.size + 1 := by simp
 have B_8 := hid (B_7.out.alloc B_7.out.size (.cells #[.int .i64 5, .int .i64 0, .int .i64 0, .slice qa3 0 qc3, .slice ia3 0 ic3, .int .i64 0] 38))
 have X_8 := hid (X_7.out.alloc (.cells #[.int .i64 5, .int .i64 0, .int .i64 0, .slice qa3 0 qc3, .slice ia3 0 ic3, .int .i64 0] 38))
 have AA_8 := hid (AA_7.out.alloc (.cells #[.int .i64 5, .int .i64 0, .int .i64 0, .slice qa3 0 qc3, .slice ia3 0 ic3, .int .i64 0] 38))
 have AAr_8 := hid (AAr_7.out.alloc (.cells #[.int .i64 5, .int .i64 0, .int .i64 0, .slice qa3 0 qc3, .slice ia3 0 ic3, .int .i64 0] 38))
 have BB_8 := hid (BB_7.out.alloc (.cells #[.int .i64 5, .int .i64 0, .int .i64 0, .slice qa3 0 qc3, .slice ia3 0 ic3, .int .i64 0] 38))
 have WN_8 := hid (WN_7.out.call ((Below.refl _ _).alloc (Nat.le_refl _) (.cells #[.int .i64 5, .int .i64 0, .int .i64 0, .slice qa3 0 qc3, .slice ia3 0 ic3, .int .i64 0] 38)))
 have WAA_8 := hid (WAA_7.out.call ((Below.refl _ _).alloc (Nat.le_refl _) (.cells #[.int .i64 5, .int .i64 0, .int .i64 0, .slice qa3 0 qc3, .slice ia3 0 ic3, .int .i64 0] 38)))
 have NA_8 := hid (NA_7.out.call ((Below.refl _ _).alloc (Nat.le_refl _) (.cells #[.int .i64 5, .int .i64 0, .int .i64 0, .slice qa3 0 qc3, .slice ia3 0 ic3, .int .i64 0] 38)))
 have WBB_8 := hid (WBB_7.out.call ((Below.refl _ _).alloc (Nat.le_refl _) (.cells #[.int .i64 5, .int .i64 0, .int .i64 0, .slice qa3 0 qc3, .slice ia3 0 ic3, .int .i64 0] 38)))
 have NB_8 := hid (NB_7.out.call ((Below.refl _ _).alloc (Nat.le_refl _) (.cells #[.int .i64 5, .int .i64 0, .int .i64 0, .slice qa3 0 qc3, .slice ia3 0 ic3, .int .i64 0] 38)))
 have BBr_8 := hid (Holds.newb (w := w) (A := #[.int .i64 5, .int .i64 0, .int .i64 0, .slice qa3 0 qc3, .slice ia3 0 ic3, .int .i64 0]) (t := 38) (n := u6.heap.size + 1) B_7.out (by omega))
 clear B_7 X_7 AA_7 AAr_7 BB_7 WN_7 WAA_7 NA_7 WBB_7 NB_7
 generalize V7.alloc (.cells #[.int .i64 5, .int .i64 0, .int .i64 0, .slice qa3 0 qc3, .slice ia3 0 ic3, .int .i64 0] 38) = V8 at *
 have SZ3 := hid (show V8.heap.size = u6.heap.size + 1 + 1 by omega)
 clear s7 s8
 have hcX := X_8.out.2.2
 have hlX := X_8.out.2.1
 have hcAA := AA_8.out.2.2
 have hlAA := AA_8.out.2.1
 have hcAAr := AAr_8.out.2.2
 have hlAAr := AAr_8.out.2.1
 have hcBB := BB_8.out.2.2
 have hlBB := BB_8.out.2.1
 have hcBBr := BBr_8.out.2.2
 have hlBBr := BBr_8.out.2.1
 refine (aw13_do3 q2 _ WAA_8.out).mono ?_
 rintro e u9 ⟨d4, ab4, ao4, aac4, k4, wh4, kc4, whc4, qa4, ia4, qc4, ic4, rfl, g, g2, b9⟩
 clear hcX hlX hcAA hlAA hcAAr hlAAr hcBB hlBB hcBBr hlBBr
 have B_9 := hid (bl B_8.out b9)
 have X_9 := hid (X_8.out.call b9)
 have AA_9 := hid (AA_8.out.call b9)
 have AAr_9 := hid (AAr_8.out.call b9)
 have BB_9 := hid (BB_8.out.call b9)
 have BBr_9 := hid (BBr_8.out.call b9)
 have WN_9 := hid (WN_8.out.call b9)
 have WAA_9 := hid (WAA_8.out.call b9)
 have NA_9 := hid (NA_8.out.call b9)
 have WBB_9 := hid (WBB_8.out.call b9)
 have NB_9 := hid (NB_8.out.call b9)
 clear b9 B_8 X_8 AA_8 AAr_8 BB_8 BBr_8 WN_8 WAA_8 NA_8 WBB_8 NB_8
 have hcX := X_9.out.2.2
 have hlX := X_9.out.2.1
 have hcAA := AA_9.out.2.2
 have hlAA := AA_9.out.2.1
 have hcAAr := AAr_9.out.2.2
 have hlAAr := AAr_9.out.2.1
 have hcBB := BB_9.out.2.2
 have hlBB := BB_9.out.2.1
 have hcBBr := BBr_9.out.2.2
 have hlBBr := BBr_9.out.2.1
 have WDD_9 := hid g
 have ND_9 := hid g2
 clear g g2
 go_wp2_with fail
 clear hcX hlX hcAA hlAA hcAAr hlAAr hcBB hlBB hcBBr hlBBr
 have s10 : (u9.alloc (.cells #[.slice d4.ex 2 d4.exc, .slice d4.pl 2 d4.plc, .slice d4.co 2 d4.coc, .slice d4.it 2 d4.itc, .slice d4.bo 2 d4.boc, .int .i64 4, .int .i64 2, .int .i64 1, .slice (some ⟨ab4, ao4, none⟩) 2 aac4, .slice k4 2 kc4, .slice wh4 2 whc4] 29)).heap.size = u9.heap.size + 1 := by simp
 have B_10 := hid (B_9.out.alloc B_9.out.size (.cells #[.slice d4.ex 2 d4.exc, .slice d4.pl 2 d4.plc, .slice d4.co 2 d4.coc, .slice d4.it 2 d4.itc, .slice d4.bo 2 d4.boc, .int .i64 4, .int .i64 2, .int .i64 1, .slice (some ⟨ab4, ao4, none⟩) 2 aac4, .slice k4 2 kc4, .slice wh4 2 whc4] 29))
 have X_10 := hid (X_9.out.alloc (.cells #[.slice d4.ex 2 d4.exc, .slice d4.pl 2 d4.plc, .slice d4.co 2 d4.coc, .slice d4.it 2 d4.itc, .slice d4.bo 2 d4.boc, .int .i64 4, .int .i64 2, .int .i64 1, .slice (some ⟨ab4, ao4, none⟩) 2 aac4, .slice k4 2 kc4, .slice wh4 2 whc4] 29))
 have AA_10 := hid (AA_9.out.alloc (.cells #[.slice d4.ex 2 d4.exc, .slice d4.pl 2 d4.plc, .slice d4.co 2 d4.coc, .slice d4.it 2 d4.itc, .slice d4.bo 2 d4.boc, .int .i64 4, .int .i64 2, .int .i64 1, .slice (some ⟨ab4, ao4, none⟩) 2 aac4, .slice k4 2 kc4, .slice wh4 2 whc4] 29))
 have AAr_10 := hid (AAr_9.out.alloc (.cells #[.slice d4.ex 2 d4.exc, .slice d4.pl 2 d4.plc, .slice d4.co 2 d4.coc, .slice d4.it 2 d4.itc, .slice d4.bo 2 d4.boc, .int .i64 4, .int .i64 2, .int .i64 1, .slice (some ⟨ab4, ao4, none⟩) 2 aac4, .slice k4 2 kc4, .slice wh4 2 whc4] 29))
 have BB_10 := hid (BB_9.out.alloc (.cells #[.slice d4.ex 2 d4.exc, .slice d4.pl 2 d4.plc, .slice d4.co 2 d4.coc, .slice d4.it 2 d4.itc, .slice d4.bo 2 d4.boc, .int .i64 4, .int .i64 2, .int .i64 1, .slice (some ⟨ab4, ao4, none⟩) 2 aac4, .slice k4 2 kc4, .slice wh4 2 whc4] 29))
 have BBr_10 := hid (BBr_9.out.alloc (.cells #[.slice d4.ex 2 d4.exc, .slice d4.pl 2 d4.plc, .slice d4.co 2 d4.coc, .slice d4.it 2 d4.itc, .slice d4.bo 2 d4.boc, .int .i64 4, .int .i64 2, .int .i64 1, .slice (some ⟨ab4, ao4, none⟩) 2 aac4, .slice k4 2 kc4, .slice wh4 2 whc4] 29))
 have WN_10 := hid (WN_9.out.call ((Below.refl _ _).alloc (Nat.le_refl _) (.cells #[.slice d4.ex 2 d4.exc, .slice d4.pl 2 d4.plc, .slice d4.co 2 d4.coc, .slice d4.it 2 d4.itc, .slice d4.bo 2 d4.boc, .int .i64 4, .int .i64 2, .int .i64 1, .slice (some ⟨ab4, ao4, none⟩) 2 aac4, .slice k4 2 kc4, .slice wh4 2 whc4] 29)))
 have WAA_10 := hid (WAA_9.out.call ((Below.refl _ _).alloc (Nat.le_refl _) (.cells #[.slice d4.ex 2 d4.exc, .slice d4.pl 2 d4.plc, .slice d4.co 2 d4.coc, .slice d4.it 2 d4.itc, .slice d4.bo 2 d4.boc, .int .i64 4, .int .i64 2, .int .i64 1, .slice (some ⟨ab4, ao4, none⟩) 2 aac4, .slice k4 2 kc4, .slice wh4 2 whc4] 29)))
 have NA_10 := hid (NA_9.out.call ((Below.refl _ _).alloc (Nat.le_refl _) (.cells #[.slice d4.ex 2 d4.exc, .slice d4.pl 2 d4.plc, .slice d4.co 2 d4.coc, .slice d4.it 2 d4.itc, .slice d4.bo 2 d4.boc, .int .i64 4, .int .i64 2, .int .i64 1, .slice (some ⟨ab4, ao4, none⟩) 2 aac4, .slice k4 2 kc4, .slice wh4 2 whc4] 29)))
 have WBB_10 := hid (WBB_9.out.call ((Below.refl _ _).alloc (Nat.le_refl _) (.cells #[.slice d4.ex 2 d4.exc, .slice d4.pl 2 d4.plc, .slice d4.co 2 d4.coc, .slice d4.it 2 d4.itc, .slice d4.bo 2 d4.boc, .int .i64 4, .int .i64 2, .int .i64 1, .slice (some ⟨ab4, ao4, none⟩) 2 aac4, .slice k4 2 kc4, .slice wh4 2 whc4] 29)))
 have NB_10 := hid (NB_9.out.call ((Below.refl _ _).alloc (Nat.le_refl _) (.cells #[.slice d4.ex 2 d4.exc, .slice d4.pl 2 d4.plc, .slice d4.co 2 d4.coc, .slice d4.it 2 d4.itc, .slice d4.bo 2 d4.boc, .int .i64 4, .int .i64 2, .int .i64 1, .slice (some ⟨ab4, ao4, none⟩) 2 aac4, .slice k4 2 kc4, .slice wh4 2 whc4] 29)))
 have WDD_10 := hid (WDD_9.out.call ((Below.refl _ _).alloc (Nat.le_refl _) (.cells #[.slice d4.ex 2 d4.exc, .slice d4.pl 2 d4.plc, .slice d4.co 2 d4.coc, .slice d4.it 2 d4.itc, .slice d4.bo 2 d4.boc, .int .i64 4, .int .i64 2, .int .i64 1, .slice (some ⟨ab4, ao4, none⟩) 2 aac4, .slice k4 2 kc4, .slice wh4 2 whc4] 29)))
 have ND_10 := hid (ND_9.out.call ((Below.refl _ _).alloc (Nat.le_refl _) (.cells #[.slice d4.ex 2 d4.exc, .slice d4.pl 2 d4.plc, .slice d4.co 2 d4.coc, .slice d4.it 2 d4.itc, .slice d4.bo 2 d4.boc, .int .i64 4, .int .i64 2, .int .i64 1, .slice (some ⟨ab4, ao4, none⟩) 2 aac4, .slice k4 2 kc4, .slice wh4 2 whc4] 29)))
 have DD_10 := hid (Holds.newb (w := w) (A := #[.slice d4.ex 2 d4.exc, .slice d4.pl 2 d4.plc, .slice d4.co 2 d4.coc, .slice d4.it 2 d4.itc, .slice d4.bo 2 d4.boc, .int .i64 4, .int .i64 2, .int .i64 1, .slice (some ⟨ab4, ao4, none⟩) 2 aac4, .slice k4 2 kc4, .slice wh4 2 whc4]) (t := 29) (n := u9.heap.size) B_9.out rfl)
 clear B_9 X_9 AA_9 AAr_9 BB_9 BBr_9 WN_9 WAA_9 NA_9 WBB_9 NB_9 WDD_9 ND_9
 generalize u9.alloc (.cells #[.slice d4.ex 2 d4.exc, .slice d4.pl 2 d4.plc, .slice d4.co 2 d4.coc, .slice d4.it 2 d4.itc, .slice d4.bo 2 d4.boc, .int .i64 4, .int .i64 2, .int .i64 1, .slice (some ⟨ab4, ao4, none⟩) 2 aac4, .slice k4 2 kc4, .slice wh4 2 whc4] 29) = V10 at *
 have s11 : (V10.alloc (.cells #[.int .i64 0, .int .i64 2, .int .i64 1, .slice qa4 0 qc4, .slice ia4 0 ic4, .int .i64 0] 38)).heap.size = V10.heap.size + 1 := by simp
 have B_11 := hid (B_10.out.alloc B_10.out.size (.cells #[.int .i64 0, .int .i64 2, .int .i64 1, .slice qa4 0 qc4, .slice ia4 0 ic4, .int .i64 0] 38))
 have X_11 := hid (X_10.out.alloc (.cells #[.int .i64 0, .int .i64 2, .int .i64 1, .slice qa4 0 qc4, .slice ia4 0 ic4, .int .i64 0] 38))
 have AA_11 := hid (AA_10.out.alloc (.cells #[.int .i64 0, .int .i64 2, .int .i64 1, .slice qa4 0 qc4, .slice ia4 0 ic4, .int .i64 0] 38))
 have AAr_11 := hid (AAr_10.out.alloc (.cells #[.int .i64 0, .int .i64 2, .int .i64 1, .slice qa4 0 qc4, .slice ia4 0 ic4, .int .i64 0] 38))
 have BB_11 := hid (BB_10.out.alloc (.cells #[.int .i64 0, .int .i64 2, .int .i64 1, .slice qa4 0 qc4, .slice ia4 0 ic4, .int .i64 0] 38))
 have BBr_11 := hid (BBr_10.out.alloc (.cells #[.int .i64 0, .int .i64 2, .int .i64 1, .slice qa4 0 qc4, .slice ia4 0 ic4, .int .i64 0] 38))
 have DD_11 := hid (DD_10.out.alloc (.cells #[.int .i64 0, .int .i64 2, .int .i64 1, .slice qa4 0 qc4, .slice ia4 0 ic4, .int .i64 0] 38))
 have WN_11 := hid (WN_10.out.call ((Below.refl _ _).alloc (Nat.le_refl _) (.cells #[.int .i64 0, .int .i64 2, .int .i64 1, .slice qa4 0 qc4, .slice ia4 0 ic4, .int .i64 0] 38)))
 have WAA_11 := hid (WAA_10.out.call ((Below.refl _ _).alloc (Nat.le_refl _) (.cells #[.int .i64 0, .int .i64 2, .int .i64 1, .slice qa4 0 qc4, .slice ia4 0 ic4, .int .i64 0] 38)))
 have NA_11 := hid (NA_10.out.call ((Below.refl _ _).alloc (Nat.le_refl _) (.cells #[.int .i64 0, .int .i64 2, .int .i64 1, .slice qa4 0 qc4, .slice ia4 0 ic4, .int .i64 0] 38)))
 have WBB_11 := hid (WBB_10.out.call ((Below.refl _ _).alloc (Nat.le_refl _) (.cells #[.int .i64 0, .int .i64 2, .int .i64 1, .slice qa4 0 qc4, .slice ia4 0 ic4, .int .i64 0] 38)))
 have NB_11 := hid (NB_10.out.call ((Below.refl _ _).alloc (Nat.le_refl _) (.cells #[.int .i64 0, .int .i64 2, .int .i64 1, .slice qa4 0 qc4, .slice ia4 0 ic4, .int .i64 0] 38)))
 have WDD_11 := hid (WDD_10.out.call ((Below.refl _ _).alloc (Nat.le_refl _) (.cells #[.int .i64 0, .int .i64 2, .int .i64 1, .slice qa4 0 qc4, .slice ia4 0 ic4, .int .i64 0] 38)))
 have ND_11 := hid (ND_10.out.call ((Below.refl _ _).alloc (Nat.le_refl _) (.cells #[.int .i64 0, .int .i64 2, .int .i64 1, .slice qa4 0 qc4, .slice ia4 0 ic4, .int .i64 0] 38)))
 have DDr_11 := hid (Holds.newb (w := w) (A := #[.int .i64 0, .int .i64 2, .int .i64 1, .slice qa4 0 qc4, .slice ia4 0 ic4, .int .i64 0]) (t := 38) (n := u9.heap.size + 1) B_10.out (by omega))
 clear B_10 X_10 AA_10 AAr_10 BB_10 BBr_10 DD_10 WN_10 WAA_10 NA_10 WBB_10 NB_10 WDD_10 ND_10
 generalize V10.alloc (.cells #[.int .i64 0, .int .i64 2, .int .i64 1, .slice qa4 0 qc4, .slice ia4 0 ic4, .int .i64 0] 38) = V11 at *
 have SZ4 := hid (show V11.heap.size = u9.heap.size + 1 + 1 by omega)
 clear s10 s11
 have hcX := X_11.out.2.2
 have hlX := X_11.out.2.1
 have hcAA := AA_11.out.2.2
 have hlAA := AA_11.out.2.1
 have hcAAr := AAr_11.out.2.2
 have hlAAr := AAr_11.out.2.1
 have hcBB := BB_11.out.2.2
 have hlBB := BB_11.out.2.1
 have hcBBr := BBr_11.out.2.2
 have hlBBr := BBr_11.out.2.1
 have hcDD := DD_11.out.2.2
 have hlDD := DD_11.out.2.1
 have hcDDr := DDr_11.out.2.2
 have hlDDr := DDr_11.out.2.1
 refine (aw13_do4 q2 _ WAA_11.out).mono ?_
 rintro e u12 ⟨q5, qa5, ia5, qc5, ic5, rfl, g, g2, b12⟩
 clear hcX hlX hcAA hlAA hcAAr hlAAr hcBB hlBB hcBBr hlBBr hcDD hlDD hcDDr hlDDr
 have B_12 := hid (bl B_11.out b12)
 have X_12 := hid (X_11.out.call b12)
 have AA_12 := hid (AA_11.out.call b12)
 have AAr_12 := hid (AAr_11.out.call b12)
 have BB_12 := hid (BB_11.out.call b12)
 have BBr_12 := hid (BBr_11.out.call b12)
 have DD_12 := hid (DD_11.out.call b12)
 have DDr_12 := hid (DDr_11.out.call b12)
 have WN_12 := hid (WN_11.out.call b12)
 have WAA_12 := hid (WAA_11.out.call b12)
 have NA_12 := hid (NA_11.out.call b12)
 have WBB_12 := hid (WBB_11.out.call b12)
 have NB_12 := hid (NB_11.out.call b12)
 have WDD_12 := hid (WDD_11.out.call b12)
 have ND_12 := hid (ND_11.out.call b12)
 clear b12 B_11 X_11 AA_11 AAr_11 BB_11 BBr_11 DD_11 DDr_11 WN_11 WAA_11 NA_11 WBB_11 NB_11 WDD_11 ND_11
 have hcX := X_12.out.2.2
 have hlX := X_12.out.2.1
 have hcAA := AA_12.out.2.2
 have hlAA := AA_12.out.2.1
 have hcAAr := AAr_12.out.2.2
 have hlAAr := AAr_12.out.2.1
 have hcBB := BB_12.out.2.2
 have hlBB := BB_12.out.2.1
 have hcBBr := BBr_12.out.2.2
 have hlBBr := BBr_12.out.2.1
 have hcDD := DD_12.out.2.2
 have hlDD := DD_12.out.2.1
 have hcDDr := DDr_12.out.2.2
 have hlDDr := DDr_12.out.2.1
 have WEE_12 := hid g
 have NE_12 := hid g2
 clear g g2
 go_upto_region 6 with fail
 clear hcX hlX hcAA hlAA hcAAr hlAAr hcBB hlBB hcBBr hlBBr hcDD hlDD hcDDr hlDDr
 have s13 : (u12.alloc (.cells #[.slice q5.d.ex 2 q5.d.exc, .slice q5.d.pl 2 q5.d.plc, .slice q5.d.co 2 q5.d.coc, .slice q5.d.it 2 q5.d.itc, .slice q5.d.bo 2 q5.d.boc, .int .i64 4, .int .i64 2, .int .i64 1, .slice q5.at_ 2 q5.atc, .slice q5.co 2 q5.coc, .slice q5.wh 2 q5.whc] 29)).heap.size = u12.heap.size + 1 := by simp
 have B_13 := hid (B_12.out.alloc B_12.out.size (.cells #[.slice q5.d.ex 2 q5.d.exc, .slice q5.d.pl 2 q5.d.plc, .slice q5.d.co 2 q5.d.coc, .slice q5.d.it 2 q5.d.itc, .slice q5.d.bo 2 q5.d.boc, .int .i64 4, .int .i64 2, .int .i64 1, .slice q5.at_ 2 q5.atc, .slice q5.co 2 q5.coc, .slice q5.wh 2 q5.whc] 29))
 have X_13 := hid (X_12.out.alloc (.cells #[.slice q5.d.ex 2 q5.d.exc, .slice q5.d.pl 2 q5.d.plc, .slice q5.d.co 2 q5.d.coc, .slice q5.d.it 2 q5.d.itc, .slice q5.d.bo 2 q5.d.boc, .int .i64 4, .int .i64 2, .int .i64 1, .slice q5.at_ 2 q5.atc, .slice q5.co 2 q5.coc, .slice q5.wh 2 q5.whc] 29))
 have AA_13 := hid (AA_12.out.alloc (.cells #[.slice q5.d.ex 2 q5.d.exc, .slice q5.d.pl 2 q5.d.plc, .slice q5.d.co 2 q5.d.coc, .slice q5.d.it 2 q5.d.itc, .slice q5.d.bo 2 q5.d.boc, .int .i64 4, .int .i64 2, .int .i64 1, .slice q5.at_ 2 q5.atc, .slice q5.co 2 q5.coc, .slice q5.wh 2 q5.whc] 29))
 have AAr_13 := hid (AAr_12.out.alloc (.cells #[.slice q5.d.ex 2 q5.d.exc, .slice q5.d.pl 2 q5.d.plc, .slice q5.d.co 2 q5.d.coc, .slice q5.d.it 2 q5.d.itc, .slice q5.d.bo 2 q5.d.boc, .int .i64 4, .int .i64 2, .int .i64 1, .slice q5.at_ 2 q5.atc, .slice q5.co 2 q5.coc, .slice q5.wh 2 q5.whc] 29))
 have BB_13 := hid (BB_12.out.alloc (.cells #[.slice q5.d.ex 2 q5.d.exc, .slice q5.d.pl 2 q5.d.plc, .slice q5.d.co 2 q5.d.coc, .slice q5.d.it 2 q5.d.itc, .slice q5.d.bo 2 q5.d.boc, .int .i64 4, .int .i64 2, .int .i64 1, .slice q5.at_ 2 q5.atc, .slice q5.co 2 q5.coc, .slice q5.wh 2 q5.whc] 29))
 have BBr_13 := hid (BBr_12.out.alloc (.cells #[.slice q5.d.ex 2 q5.d.exc, .slice q5.d.pl 2 q5.d.plc, .slice q5.d.co 2 q5.d.coc, .slice q5.d.it 2 q5.d.itc, .slice q5.d.bo 2 q5.d.boc, .int .i64 4, .int .i64 2, .int .i64 1, .slice q5.at_ 2 q5.atc, .slice q5.co 2 q5.coc, .slice q5.wh 2 q5.whc] 29))
 have DD_13 := hid (DD_12.out.alloc (.cells #[.slice q5.d.ex 2 q5.d.exc, .slice q5.d.pl 2 q5.d.plc, .slice q5.d.co 2 q5.d.coc, .slice q5.d.it 2 q5.d.itc, .slice q5.d.bo 2 q5.d.boc, .int .i64 4, .int .i64 2, .int .i64 1, .slice q5.at_ 2 q5.atc, .slice q5.co 2 q5.coc, .slice q5.wh 2 q5.whc] 29))
 have DDr_13 := hid (DDr_12.out.alloc (.cells #[.slice q5.d.ex 2 q5.d.exc, .slice q5.d.pl 2 q5.d.plc, .slice q5.d.co 2 q5.d.coc, .slice q5.d.it 2 q5.d.itc, .slice q5.d.bo 2 q5.d.boc, .int .i64 4, .int .i64 2, .int .i64 1, .slice q5.at_ 2 q5.atc, .slice q5.co 2 q5.coc, .slice q5.wh 2 q5.whc] 29))
 have WN_13 := hid (WN_12.out.call ((Below.refl _ _).alloc (Nat.le_refl _) (.cells #[.slice q5.d.ex 2 q5.d.exc, .slice q5.d.pl 2 q5.d.plc, .slice q5.d.co 2 q5.d.coc, .slice q5.d.it 2 q5.d.itc, .slice q5.d.bo 2 q5.d.boc, .int .i64 4, .int .i64 2, .int .i64 1, .slice q5.at_ 2 q5.atc, .slice q5.co 2 q5.coc, .slice q5.wh 2 q5.whc] 29)))
 have WAA_13 := hid (WAA_12.out.call ((Below.refl _ _).alloc (Nat.le_refl _) (.cells #[.slice q5.d.ex 2 q5.d.exc, .slice q5.d.pl 2 q5.d.plc, .slice q5.d.co 2 q5.d.coc, .slice q5.d.it 2 q5.d.itc, .slice q5.d.bo 2 q5.d.boc, .int .i64 4, .int .i64 2, .int .i64 1, .slice q5.at_ 2 q5.atc, .slice q5.co 2 q5.coc, .slice q5.wh 2 q5.whc] 29)))
 have NA_13 := hid (NA_12.out.call ((Below.refl _ _).alloc (Nat.le_refl _) (.cells #[.slice q5.d.ex 2 q5.d.exc, .slice q5.d.pl 2 q5.d.plc, .slice q5.d.co 2 q5.d.coc, .slice q5.d.it 2 q5.d.itc, .slice q5.d.bo 2 q5.d.boc, .int .i64 4, .int .i64 2, .int .i64 1, .slice q5.at_ 2 q5.atc, .slice q5.co 2 q5.coc, .slice q5.wh 2 q5.whc] 29)))
 have WBB_13 := hid (WBB_12.out.call ((Below.refl _ _).alloc (Nat.le_refl _) (.cells #[.slice q5.d.ex 2 q5.d.exc, .slice q5.d.pl 2 q5.d.plc, .slice q5.d.co 2 q5.d.coc, .slice q5.d.it 2 q5.d.itc, .slice q5.d.bo 2 q5.d.boc, .int .i64 4, .int .i64 2, .int .i64 1, .slice q5.at_ 2 q5.atc, .slice q5.co 2 q5.coc, .slice q5.wh 2 q5.whc] 29)))
 have NB_13 := hid (NB_12.out.call ((Below.refl _ _).alloc (Nat.le_refl _) (.cells #[.slice q5.d.ex 2 q5.d.exc, .slice q5.d.pl 2 q5.d.plc, .slice q5.d.co 2 q5.d.coc, .slice q5.d.it 2 q5.d.itc, .slice q5.d.bo 2 q5.d.boc, .int .i64 4, .int .i64 2, .int .i64 1, .slice q5.at_ 2 q5.atc, .slice q5.co 2 q5.coc, .slice q5.wh 2 q5.whc] 29)))
 have WDD_13 := hid (WDD_12.out.call ((Below.refl _ _).alloc (Nat.le_refl _) (.cells #[.slice q5.d.ex 2 q5.d.exc, .slice q5.d.pl 2 q5.d.plc, .slice q5.d.co 2 q5.d.coc, .slice q5.d.it 2 q5.d.itc, .slice q5.d.bo 2 q5.d.boc, .int .i64 4, .int .i64 2, .int .i64 1, .slice q5.at_ 2 q5.atc, .slice q5.co 2 q5.coc, .slice q5.wh 2 q5.whc] 29)))
 have ND_13 := hid (ND_12.out.call ((Below.refl _ _).alloc (Nat.le_refl _) (.cells #[.slice q5.d.ex 2 q5.d.exc, .slice q5.d.pl 2 q5.d.plc, .slice q5.d.co 2 q5.d.coc, .slice q5.d.it 2 q5.d.itc, .slice q5.d.bo 2 q5.d.boc, .int .i64 4, .int .i64 2, .int .i64 1, .slice q5.at_ 2 q5.atc, .slice q5.co 2 q5.coc, .slice q5.wh 2 q5.whc] 29)))
 have WEE_13 := hid (WEE_12.out.call ((Below.refl _ _).alloc (Nat.le_refl _) (.cells #[.slice q5.d.ex 2 q5.d.exc, .slice q5.d.pl 2 q5.d.plc, .slice q5.d.co 2 q5.d.coc, .slice q5.d.it 2 q5.d.itc, .slice q5.d.bo 2 q5.d.boc, .int .i64 4, .int .i64 2, .int .i64 1, .slice q5.at_ 2 q5.atc, .slice q5.co 2 q5.coc, .slice q5.wh 2 q5.whc] 29)))
 have NE_13 := hid (NE_12.out.call ((Below.refl _ _).alloc (Nat.le_refl _) (.cells #[.slice q5.d.ex 2 q5.d.exc, .slice q5.d.pl 2 q5.d.plc, .slice q5.d.co 2 q5.d.coc, .slice q5.d.it 2 q5.d.itc, .slice q5.d.bo 2 q5.d.boc, .int .i64 4, .int .i64 2, .int .i64 1, .slice q5.at_ 2 q5.atc, .slice q5.co 2 q5.coc, .slice q5.wh 2 q5.whc] 29)))
 have EE_13 := hid (Holds.newb (w := w) (A := #[.slice q5.d.ex 2 q5.d.exc, .slice q5.d.pl 2 q5.d.plc, .slice q5.d.co 2 q5.d.coc, .slice q5.d.it 2 q5.d.itc, .slice q5.d.bo 2 q5.d.boc, .int .i64 4, .int .i64 2, .int .i64 1, .slice q5.at_ 2 q5.atc, .slice q5.co 2 q5.coc, .slice q5.wh 2 q5.whc]) (t := 29) (n := u12.heap.size) B_12.out rfl)
 clear B_12 X_12 AA_12 AAr_12 BB_12 BBr_12 DD_12 DDr_12 WN_12 WAA_12 NA_12 WBB_12 NB_12 WDD_12 ND_12 WEE_12 NE_12
 generalize u12.alloc (.cells #[.slice q5.d.ex 2 q5.d.exc, .slice q5.d.pl 2 q5.d.plc, .slice q5.d.co 2 q5.d.coc, .slice q5.d.it 2 q5.d.itc, .slice q5.d.bo 2 q5.d.boc, .int .i64 4, .int .i64 2, .int .i64 1, .slice q5.at_ 2 q5.atc, .slice q5.co 2 q5.coc, .slice q5.wh 2 q5.whc] 29) = V13 at *
 have s14 : (V13.alloc (.cells #[.int .i64 2, .int .i64 0, .int .i64 0, .slice qa5 0 qc5, .slice ia5 0 ic5, .int .i64 0] 38)).heap.size = V13.heap.size + 1 := by simp
 have B_14 := hid (B_13.out.alloc B_13.out.size (.cells #[.int .i64 2, .int .i64 0, .int .i64 0, .slice qa5 0 qc5, .slice ia5 0 ic5, .int .i64 0] 38))
 have X_14 := hid (X_13.out.alloc (.cells #[.int .i64 2, .int .i64 0, .int .i64 0, .slice qa5 0 qc5, .slice ia5 0 ic5, .int .i64 0] 38))
 have AA_14 := hid (AA_13.out.alloc (.cells #[.int .i64 2, .int .i64 0, .int .i64 0, .slice qa5 0 qc5, .slice ia5 0 ic5, .int .i64 0] 38))
 have AAr_14 := hid (AAr_13.out.alloc (.cells #[.int .i64 2, .int .i64 0, .int .i64 0, .slice qa5 0 qc5, .slice ia5 0 ic5, .int .i64 0] 38))
 have BB_14 := hid (BB_13.out.alloc (.cells #[.int .i64 2, .int .i64 0, .int .i64 0, .slice qa5 0 qc5, .slice ia5 0 ic5, .int .i64 0] 38))
 have BBr_14 := hid (BBr_13.out.alloc (.cells #[.int .i64 2, .int .i64 0, .int .i64 0, .slice qa5 0 qc5, .slice ia5 0 ic5, .int .i64 0] 38))
 have DD_14 := hid (DD_13.out.alloc (.cells #[.int .i64 2, .int .i64 0, .int .i64 0, .slice qa5 0 qc5, .slice ia5 0 ic5, .int .i64 0] 38))
 have DDr_14 := hid (DDr_13.out.alloc (.cells #[.int .i64 2, .int .i64 0, .int .i64 0, .slice qa5 0 qc5, .slice ia5 0 ic5, .int .i64 0] 38))
 have EE_14 := hid (EE_13.out.alloc (.cells #[.int .i64 2, .int .i64 0, .int .i64 0, .slice qa5 0 qc5, .slice ia5 0 ic5, .int .i64 0] 38))
 have WN_14 := hid (WN_13.out.call ((Below.refl _ _).alloc (Nat.le_refl _) (.cells #[.int .i64 2, .int .i64 0, .int .i64 0, .slice qa5 0 qc5, .slice ia5 0 ic5, .int .i64 0] 38)))
 have WAA_14 := hid (WAA_13.out.call ((Below.refl _ _).alloc (Nat.le_refl _) (.cells #[.int .i64 2, .int .i64 0, .int .i64 0, .slice qa5 0 qc5, .slice ia5 0 ic5, .int .i64 0] 38)))
 have NA_14 := hid (NA_13.out.call ((Below.refl _ _).alloc (Nat.le_refl _) (.cells #[.int .i64 2, .int .i64 0, .int .i64 0, .slice qa5 0 qc5, .slice ia5 0 ic5, .int .i64 0] 38)))
 have WBB_14 := hid (WBB_13.out.call ((Below.refl _ _).alloc (Nat.le_refl _) (.cells #[.int .i64 2, .int .i64 0, .int .i64 0, .slice qa5 0 qc5, .slice ia5 0 ic5, .int .i64 0] 38)))
 have NB_14 := hid (NB_13.out.call ((Below.refl _ _).alloc (Nat.le_refl _) (.cells #[.int .i64 2, .int .i64 0, .int .i64 0, .slice qa5 0 qc5, .slice ia5 0 ic5, .int .i64 0] 38)))
 have WDD_14 := hid (WDD_13.out.call ((Below.refl _ _).alloc (Nat.le_refl _) (.cells #[.int .i64 2, .int .i64 0, .int .i64 0, .slice qa5 0 qc5, .slice ia5 0 ic5, .int .i64 0] 38)))
 have ND_14 := hid (ND_13.out.call ((Below.refl _ _).alloc (Nat.le_refl _) (.cells #[.int .i64 2, .int .i64 0, .int .i64 0, .slice qa5 0 qc5, .slice ia5 0 ic5, .int .i64 0] 38)))
 have WEE_14 := hid (WEE_13.out.call ((Below.refl _ _).alloc (Nat.le_refl _) (.cells #[.int .i64 2, .int .i64 0, .int .i64 0, .slice qa5 0 qc5, .slice ia5 0 ic5, .int .i64 0] 38)))
 have NE_14 := hid (NE_13.out.call ((Below.refl _ _).alloc (Nat.le_refl _) (.cells #[.int .i64 2, .int .i64 0, .int .i64 0, .slice qa5 0 qc5, .slice ia5 0 ic5, .int .i64 0] 38)))
 have EEr_14 := hid (Holds.newb (w := w) (A := #[.int .i64 2, .int .i64 0, .int .i64 0, .slice qa5 0 qc5, .slice ia5 0 ic5, .int .i64 0]) (t := 38) (n := u12.heap.size + 1) B_13.out (by omega))
 clear B_13 X_13 AA_13 AAr_13 BB_13 BBr_13 DD_13 DDr_13 EE_13 WN_13 WAA_13 NA_13 WBB_13 NB_13 WDD_13 ND_13 WEE_13 NE_13
 generalize V13.alloc (.cells #[.int .i64 2, .int .i64 0, .int .i64 0, .slice qa5 0 qc5, .slice ia5 0 ic5, .int .i64 0] 38) = V14 at *
 have SZ5 := hid (show V14.heap.size = u12.heap.size + 1 + 1 by omega)
 clear s13 s14
 have hcX := X_14.out.2.2
 have hlX := X_14.out.2.1
 have hcAA := AA_14.out.2.2
 have hlAA := AA_14.out.2.1
 have hcAAr := AAr_14.out.2.2
 have hlAAr := AAr_14.out.2.1
 have hcBB := BB_14.out.2.2
 have hlBB := BB_14.out.2.1
 have hcBBr := BBr_14.out.2.2
 have hlBBr := BBr_14.out.2.1
 have hcDD := DD_14.out.2.2
 have hlDD := DD_14.out.2.1
 have hcDDr := DDr_14.out.2.2
 have hlDDr := DDr_14.out.2.1
 have hcEE := EE_14.out.2.2
 have hlEE := EE_14.out.2.1
 have hcEEr := EEr_14.out.2.2
 have hlEEr := EEr_14.out.2.1
 go_wp2_with fail
 clear hcX hlX hcAA hlAA hcAAr hlAAr hcBB hlBB hcBBr hlBBr hcDD hlDD hcDDr hlDDr hcEE hlEE hcEEr hlEEr
 refine gen_calls (fun V => Below V14.heap.size V14 V ∧ CallsAt V (some ⟨V14.heap.size, 0, none⟩) aL13) ⟨(Below.refl _ _).alloc (Nat.le_refl _) _, aw13_calls (Blk.new V14 46 #[.int .i64 0, .int .i64 3, .int .i64 0, .int .i64 1, .int .i64 0, .int .i64 0, .slice none 0 0, .int .i64 0, .slice none 0 0, .int .i64 0, .int .i64 0, .int .i64 0, .int .i64 0, .int .i64 0, .int .i64 0, .slice none 0 0, .slice none 0 0, .int .i64 0, .int .i64 0, .int .i64 5, .int .i64 0, .int .i64 1, .int .i64 0, .int .i64 0, .slice none 0 0, .int .i64 0, .slice none 0 0, .int .i64 0, .int .i64 0, .int .i64 0, .int .i64 0, .int .i64 0, .int .i64 0, .slice none 0 0, .slice none 0 0, .int .i64 0, .int .i64 1, .int .i64 9, .int .i64 0, .int .i64 0, .int .i64 0, .int .i64 0, .slice none 0 0, .int .i64 0, .slice none 0 0, .int .i64 0, .int .i64 0, .int .i64 0, .int .i64 0, .int .i64 0, .int .i64 0, .slice none 0 0, .slice none 0 0, .int .i64 0])⟩ (fun VL hV => ?_)
 obtain ⟨hvl, hcl⟩ := hV
 have B_15 := hid (bl B_14.out hvl)
 have X_15 := hid (X_14.out.call hvl)
 have AA_15 := hid (AA_14.out.call hvl)
 have AAr_15 := hid (AAr_14.out.call hvl)
 have BB_15 := hid (BB_14.out.call hvl)
 have BBr_15 := hid (BBr_14.out.call hvl)
 have DD_15 := hid (DD_14.out.call hvl)
 have DDr_15 := hid (DDr_14.out.call hvl)
 have EE_15 := hid (EE_14.out.call hvl)
 have EEr_15 := hid (EEr_14.out.call hvl)
 have WN_15 := hid (WN_14.out.call hvl)
 have WAA_15 := hid (WAA_14.out.call hvl)
 have NA_15 := hid (NA_14.out.call hvl)
 have WBB_15 := hid (WBB_14.out.call hvl)
 have NB_15 := hid (NB_14.out.call hvl)
 have WDD_15 := hid (WDD_14.out.call hvl)
 have ND_15 := hid (ND_14.out.call hvl)
 have WEE_15 := hid (WEE_14.out.call hvl)
 have NE_15 := hid (NE_14.out.call hvl)
 have CL_15 := hid hcl
 clear hcl hvl B_14 X_14 AA_14 AAr_14 BB_14 BBr_14 DD_14 DDr_14 EE_14 EEr_14 WN_14 WAA_14 NA_14 WBB_14 NB_14 WDD_14 ND_14 WEE_14 NE_14
 clear X_15 AA_15 BB_15 EE_15 WAA_15 WBB_15 WEE_15
 refine (aw13_all q1 _ _ WN_15.out CL_15.out).mono ?_
 rintro e u15 ⟨q6, b6, ia6, ic6, rfl, g, b15⟩
 have B_16 := hid (bl B_15.out b15)
 have AAr_16 := hid (AAr_15.out.call b15)
 have BBr_16 := hid (BBr_15.out.call b15)
 have DD_16 := hid (DD_15.out.call b15)
 have DDr_16 := hid (DDr_15.out.call b15)
 have EEr_16 := hid (EEr_15.out.call b15)
 have WN_16 := hid (WN_15.out.call b15)
 have NA_16 := hid (NA_15.out.call b15)
 have NB_16 := hid (NB_15.out.call b15)
 have WDD_16 := hid (WDD_15.out.call b15)
 have ND_16 := hid (ND_15.out.call b15)
 have NE_16 := hid (NE_15.out.call b15)
 have CL_16 := hid (CL_15.out.call b15)
 clear b15 B_15 AAr_15 BBr_15 DD_15 DDr_15 EEr_15 WN_15 NA_15 NB_15 WDD_15 ND_15 NE_15 CL_15
 obtain ⟨g1, g2, g3⟩ := g
 have R1_16 := hid (show At1 u15 b6 7 5 from ⟨g1, g3⟩)
 have R2_16 := hid (show CellAt u15 b6 16 (.slice ia6 2 ic6) from ⟨g2, g3⟩)
 clear g1 g2 g3
 clear WN_16 CL_16
 have hcAAr := AAr_16.out.2.2
 have hlAAr := AAr_16.out.2.1
 go_wp2_with fail
 clear hcAAr hlAAr
 have s17 : (u15.alloc (.cells #[.slice q6.d.ex 2 q6.d.exc, .slice q6.d.pl 2 q6.d.plc, .slice q6.d.co 2 q6.d.coc, .slice q6.d.it 2 q6.d.itc, .slice q6.d.bo 2 q6.d.boc, .int .i64 4, .int .i64 2, .int .i64 1, .slice q6.at_ 2 q6.atc, .slice q6.co 2 q6.coc, .slice q6.wh 2 q6.whc] 29)).heap.size = u15.heap.size + 1 := by simp
 have B_17 := hid (B_16.out.alloc B_16.out.size (.cells #[.slice q6.d.ex 2 q6.d.exc, .slice q6.d.pl 2 q6.d.plc, .slice q6.d.co 2 q6.d.coc, .slice q6.d.it 2 q6.d.itc, .slice q6.d.bo 2 q6.d.boc, .int .i64 4, .int .i64 2, .int .i64 1, .slice q6.at_ 2 q6.atc, .slice q6.co 2 q6.coc, .slice q6.wh 2 q6.whc] 29))
 have AAr_17 := hid (AAr_16.out.alloc (.cells #[.slice q6.d.ex 2 q6.d.exc, .slice q6.d.pl 2 q6.d.plc, .slice q6.d.co 2 q6.d.coc, .slice q6.d.it 2 q6.d.itc, .slice q6.d.bo 2 q6.d.boc, .int .i64 4, .int .i64 2, .int .i64 1, .slice q6.at_ 2 q6.atc, .slice q6.co 2 q6.coc, .slice q6.wh 2 q6.whc] 29))
 have BBr_17 := hid (BBr_16.out.alloc (.cells #[.slice q6.d.ex 2 q6.d.exc, .slice q6.d.pl 2 q6.d.plc, .slice q6.d.co 2 q6.d.coc, .slice q6.d.it 2 q6.d.itc, .slice q6.d.bo 2 q6.d.boc, .int .i64 4, .int .i64 2, .int .i64 1, .slice q6.at_ 2 q6.atc, .slice q6.co 2 q6.coc, .slice q6.wh 2 q6.whc] 29))
 have DD_17 := hid (DD_16.out.alloc (.cells #[.slice q6.d.ex 2 q6.d.exc, .slice q6.d.pl 2 q6.d.plc, .slice q6.d.co 2 q6.d.coc, .slice q6.d.it 2 q6.d.itc, .slice q6.d.bo 2 q6.d.boc, .int .i64 4, .int .i64 2, .int .i64 1, .slice q6.at_ 2 q6.atc, .slice q6.co 2 q6.coc, .slice q6.wh 2 q6.whc] 29))
 have DDr_17 := hid (DDr_16.out.alloc (.cells #[.slice q6.d.ex 2 q6.d.exc, .slice q6.d.pl 2 q6.d.plc, .slice q6.d.co 2 q6.d.coc, .slice q6.d.it 2 q6.d.itc, .slice q6.d.bo 2 q6.d.boc, .int .i64 4, .int .i64 2, .int .i64 1, .slice q6.at_ 2 q6.atc, .slice q6.co 2 q6.coc, .slice q6.wh 2 q6.whc] 29))
 have EEr_17 := hid (EEr_16.out.alloc (.cells #[.slice q6.d.ex 2 q6.d.exc, .slice q6.d.pl 2 q6.d.plc, .slice q6.d.co 2 q6.d.coc, .slice q6.d.it 2 q6.d.itc, .slice q6.d.bo 2 q6.d.boc, .int .i64 4, .int .i64 2, .int .i64 1, .slice q6.at_ 2 q6.atc, .slice q6.co 2 q6.coc, .slice q6.wh 2 q6.whc] 29))
 have NA_17 := hid (NA_16.out.call ((Below.refl _ _).alloc (Nat.le_refl _) (.cells #[.slice q6.d.ex 2 q6.d.exc, .slice q6.d.pl 2 q6.d.plc, .slice q6.d.co 2 q6.d.coc, .slice q6.d.it 2 q6.d.itc, .slice q6.d.bo 2 q6.d.boc, .int .i64 4, .int .i64 2, .int .i64 1, .slice q6.at_ 2 q6.atc, .slice q6.co 2 q6.coc, .slice q6.wh 2 q6.whc] 29)))
 have NB_17 := hid (NB_16.out.call ((Below.refl _ _).alloc (Nat.le_refl _) (.cells #[.slice q6.d.ex 2 q6.d.exc, .slice q6.d.pl 2 q6.d.plc, .slice q6.d.co 2 q6.d.coc, .slice q6.d.it 2 q6.d.itc, .slice q6.d.bo 2 q6.d.boc, .int .i64 4, .int .i64 2, .int .i64 1, .slice q6.at_ 2 q6.atc, .slice q6.co 2 q6.coc, .slice q6.wh 2 q6.whc] 29)))
 have WDD_17 := hid (WDD_16.out.call ((Below.refl _ _).alloc (Nat.le_refl _) (.cells #[.slice q6.d.ex 2 q6.d.exc, .slice q6.d.pl 2 q6.d.plc, .slice q6.d.co 2 q6.d.coc, .slice q6.d.it 2 q6.d.itc, .slice q6.d.bo 2 q6.d.boc, .int .i64 4, .int .i64 2, .int .i64 1, .slice q6.at_ 2 q6.atc, .slice q6.co 2 q6.coc, .slice q6.wh 2 q6.whc] 29)))
 have ND_17 := hid (ND_16.out.call ((Below.refl _ _).alloc (Nat.le_refl _) (.cells #[.slice q6.d.ex 2 q6.d.exc, .slice q6.d.pl 2 q6.d.plc, .slice q6.d.co 2 q6.d.coc, .slice q6.d.it 2 q6.d.itc, .slice q6.d.bo 2 q6.d.boc, .int .i64 4, .int .i64 2, .int .i64 1, .slice q6.at_ 2 q6.atc, .slice q6.co 2 q6.coc, .slice q6.wh 2 q6.whc] 29)))
 have NE_17 := hid (NE_16.out.call ((Below.refl _ _).alloc (Nat.le_refl _) (.cells #[.slice q6.d.ex 2 q6.d.exc, .slice q6.d.pl 2 q6.d.plc, .slice q6.d.co 2 q6.d.coc, .slice q6.d.it 2 q6.d.itc, .slice q6.d.bo 2 q6.d.boc, .int .i64 4, .int .i64 2, .int .i64 1, .slice q6.at_ 2 q6.atc, .slice q6.co 2 q6.coc, .slice q6.wh 2 q6.whc] 29)))
 have R1_17 := hid (R1_16.out.call ((Below.refl _ _).alloc (Nat.le_refl _) (.cells #[.slice q6.d.ex 2 q6.d.exc, .slice q6.d.pl 2 q6.d.plc, .slice q6.d.co 2 q6.d.coc, .slice q6.d.it 2 q6.d.itc, .slice q6.d.bo 2 q6.d.boc, .int .i64 4, .int .i64 2, .int .i64 1, .slice q6.at_ 2 q6.atc, .slice q6.co 2 q6.coc, .slice q6.wh 2 q6.whc] 29)))
 have R2_17 := hid (R2_16.out.call ((Below.refl _ _).alloc (Nat.le_refl _) (.cells #[.slice q6.d.ex 2 q6.d.exc, .slice q6.d.pl 2 q6.d.plc, .slice q6.d.co 2 q6.d.coc, .slice q6.d.it 2 q6.d.itc, .slice q6.d.bo 2 q6.d.boc, .int .i64 4, .int .i64 2, .int .i64 1, .slice q6.at_ 2 q6.atc, .slice q6.co 2 q6.coc, .slice q6.wh 2 q6.whc] 29)))
 clear B_16 AAr_16 BBr_16 DD_16 DDr_16 EEr_16 NA_16 NB_16 WDD_16 ND_16 NE_16 R1_16 R2_16
 generalize u15.alloc (.cells #[.slice q6.d.ex 2 q6.d.exc, .slice q6.d.pl 2 q6.d.plc, .slice q6.d.co 2 q6.d.coc, .slice q6.d.it 2 q6.d.itc, .slice q6.d.bo 2 q6.d.boc, .int .i64 4, .int .i64 2, .int .i64 1, .slice q6.at_ 2 q6.atc, .slice q6.co 2 q6.coc, .slice q6.wh 2 q6.whc] 29) = V16 at *
 clear s17 SZ2 SZ3 SZ4 SZ5
 refine (aw13_same1 qa2 ia2 qc2 ic2 _ NA_17.out.ints NA_17.out.sns).mono ?_
 rintro e u17 ⟨rfl, b17⟩
 have B_18 := hid (bl B_17.out b17)
 have AAr_18 := hid (AAr_17.out.call b17)
 have BBr_18 := hid (BBr_17.out.call b17)
 have DD_18 := hid (DD_17.out.call b17)
 have DDr_18 := hid (DDr_17.out.call b17)
 have EEr_18 := hid (EEr_17.out.call b17)
 have NA_18 := hid (NA_17.out.call b17)
 have NB_18 := hid (NB_17.out.call b17)
 have WDD_18 := hid (WDD_17.out.call b17)
 have ND_18 := hid (ND_17.out.call b17)
 have NE_18 := hid (NE_17.out.call b17)
 have R1_18 := hid (R1_17.out.call b17)
 have R2_18 := hid (R2_17.out.call b17)
 clear b17 B_17 AAr_17 BBr_17 DD_17 DDr_17 EEr_17 NA_17 NB_17 WDD_17 ND_17 NE_17 R1_17 R2_17
 have hcBBr := BBr_18.out.2.2
 have hlBBr := BBr_18.out.2.1
 go_wp2_with fail
 refine (aw13_same2 qa3 ia3 qc3 ic3 _ NB_18.out.ints NB_18.out.sns).mono ?_
 rintro e u18 ⟨rfl, b18⟩
 clear hcBBr hlBBr
 have B_19 := hid (bl B_18.out b18)
 have AAr_19 := hid (AAr_18.out.call b18)
 have BBr_19 := hid (BBr_18.out.call b18)
 have DD_19 := hid (DD_18.out.call b18)
 have DDr_19 := hid (DDr_18.out.call b18)
 have EEr_19 := hid (EEr_18.out.call b18)
 have NA_19 := hid (NA_18.out.call b18)
 have NB_19 := hid (NB_18.out.call b18)
 have WDD_19 := hid (WDD_18.out.call b18)
 have ND_19 := hid (ND_18.out.call b18)
 have NE_19 := hid (NE_18.out.call b18)
 have R1_19 := hid (R1_18.out.call b18)
 have R2_19 := hid (R2_18.out.call b18)
 clear b18 B_18 AAr_18 BBr_18 DD_18 DDr_18 EEr_18 NA_18 NB_18 WDD_18 ND_18 NE_18 R1_18 R2_18
 have hcDDr := DDr_19.out.2.2
 have hlDDr := DDr_19.out.2.1
 go_wp2_with fail
 refine (aw13_same3 qa4 ia4 qc4 ic4 _ ND_19.out.ints ND_19.out.sns).mono ?_
 rintro e u19 ⟨rfl, b19⟩
 clear hcDDr hlDDr
 have B_20 := hid (bl B_19.out b19)
 have AAr_20 := hid (AAr_19.out.call b19)
 have BBr_20 := hid (BBr_19.out.call b19)
 have DD_20 := hid (DD_19.out.call b19)
 have DDr_20 := hid (DDr_19.out.call b19)
 have EEr_20 := hid (EEr_19.out.call b19)
 have NA_20 := hid (NA_19.out.call b19)
 have NB_20 := hid (NB_19.out.call b19)
 have WDD_20 := hid (WDD_19.out.call b19)
 have ND_20 := hid (ND_19.out.call b19)
 have NE_20 := hid (NE_19.out.call b19)
 have R1_20 := hid (R1_19.out.call b19)
 have R2_20 := hid (R2_19.out.call b19)
 clear b19 B_19 AAr_19 BBr_19 DD_19 DDr_19 EEr_19 NA_19 NB_19 WDD_19 ND_19 NE_19 R1_19 R2_19
 have hcDD := DD_20.out.2.2
 have hlDD := DD_20.out.2.1
 have hcEEr := EEr_20.out.2.2
 have hlEEr := EEr_20.out.2.1
 have ha1 := WDD_20.out.1
 have ha2 := WDD_20.out.2
 go_wp2_with fail
 clear ha1 ha2
 refine (aw13_same4 qa5 ia5 qc5 ic5 _ NE_20.out.ints NE_20.out.sns).mono ?_
 rintro e u20 ⟨rfl, b20⟩
 clear hcDD hlDD hcEEr hlEEr
 have B_21 := hid (bl B_20.out b20)
 have AAr_21 := hid (AAr_20.out.call b20)
 have BBr_21 := hid (BBr_20.out.call b20)
 have DD_21 := hid (DD_20.out.call b20)
 have DDr_21 := hid (DDr_20.out.call b20)
 have EEr_21 := hid (EEr_20.out.call b20)
 have NA_21 := hid (NA_20.out.call b20)
 have NB_21 := hid (NB_20.out.call b20)
 have WDD_21 := hid (WDD_20.out.call b20)
 have ND_21 := hid (ND_20.out.call b20)
 have NE_21 := hid (NE_20.out.call b20)
 have R1_21 := hid (R1_20.out.call b20)
 have R2_21 := hid (R2_20.out.call b20)
 clear b20 B_20 AAr_20 BBr_20 DD_20 DDr_20 EEr_20 NA_20 NB_20 WDD_20 ND_20 NE_20 R1_20 R2_20
 have hr1 := R1_21.out.1
 have hr2 := R2_21.out.1
 have hr3 := R2_21.out.2
 go_wp2_with fail
 go_ret
 exact ⟨rfl, B_21.out⟩
theorem fits13_any (x : Wd) (p : Wp) (w : World) (h : WorldAt w p x) : Calls Tryz.prog 6 #[.agg (wC x p)] w fun e w' => e = .returned (.bool (fitsB x)) ∧ Below w.heap.size w w' := by
 have HN := hid (Holds.new w (wC x p) 29)
 have H := hid h
 clear h
 cases hf : fewB x
 ·have HF := hid hf
  have HR := hid (show fitsB x = false by simp [fitsB, hf])
  clear hf
  have hWC := @wC.eq_1
  go_enter Tryz.func6, Tryz.ntmps6
  go_wp2_with fail
  refine (few_any x p _).mono ?_
  rintro e w1 ⟨rfl, b1⟩
  rw [HF.out]
  have K1 := hid (HN.out.call b1)
  clear b1
  go_wp2_with fail
  go_ret
  exact ⟨ret_bool HR.out.symm, K1.out.1⟩
 ·have HF := hid hf
  have HR := hid (show fitsB x = rightW x by simp [fitsB, hf])
  obtain ⟨r, hr⟩ : ∃ r, rightW x = r := ⟨_, rfl⟩
  have HRR := hid hr
  clear hf hr
  have hWC := @wC.eq_1
  go_enter Tryz.func6, Tryz.ntmps6
  go_wp2_with fail
  refine (few_any x p _).mono ?_
  rintro e w1 ⟨rfl, b1⟩
  rw [HF.out]
  have K1 := hid (HN.out.call b1)
  have hc := K1.out.2.2
  have hl := K1.out.2.1
  clear b1
  go_wp2_with fail
  refine (refright_any x p _ (H.out.below K1.out.1 (Nat.le_refl _))).mono ?_
  rintro e w2 ⟨rfl, b2⟩
  rw [HRR.out]
  have K2 := hid (K1.out.call b2)
  clear b2 hc hl
  go_wp2_with fail
  go_ret
  exact ⟨ret_bool (by rw [HR.out, HRR.out]), K2.out.1⟩
end Go.Proofs.YtgmkcddgkgcbbaaGreat
