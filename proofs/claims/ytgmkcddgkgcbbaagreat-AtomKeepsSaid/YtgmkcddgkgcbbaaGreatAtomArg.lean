/- Calls that were handed in, as they lie in memory. -/
import Derived.Test.YtgmkcddgkgcbbaaGreatGTreeL
import Derived.Test.YtgmkcddgkgcbbaaGreatRepArg
namespace Go.Proofs.YtgmkcddgkgcbbaaGreat
open Go.ChangeShapes Go.WideShapes Go.ChangeAt Go.RowKit
set_option linter.unusedVariables false
set_option maxRecDepth 100000
open Go.RowKit Go.Deep Go.Joins
/-- A call as it lies: the player, the command, where its lists are. -/
structure Cl where
 player : Int
 c : Cm
 ga : Option Addr
 gc : Nat
 wa : Option Addr
 wc : Nat
 fr : Int
 to_ : Int
 r : Rp
 pa : Option Addr
 pc : Nat
 ia : Option Addr
 ic : Nat
def clC (l : Cl) : List Value := [.int .i64 l.player, .int .i64 l.c.kind, .int .i64 l.c.dir, .int .i64 l.c.item, .int .i64 l.c.box, .int .i64 l.c.who, .slice l.ga l.c.gives.length l.gc, .int .i64 l.c.pay, .slice l.wa l.c.wants.length l.wc, .int .i64 l.c.fee, .int .i64 l.fr, .int .i64 l.to_, .int .i64 l.r.err, .int .i64 l.r.kind, .int .i64 l.r.room, .slice l.pa l.r.players.length l.pc, .slice l.ia l.r.items.length l.ic, .int .i64 l.r.coins]
theorem clC_len (l : Cl) : (clC l).length = 18 := rfl
def ClOk (w : World) (l : Cl) : Prop := IntsAt w l.ga l.c.gives ∧ IntsAt w l.wa l.c.wants ∧ IntsAt w l.pa l.r.players ∧ SnsAt w l.ia l.r.items
/-- A list of calls in memory. -/
structure CallsAt (w : World) (a : Option Addr) (ls : List Cl) : Prop where
 row : RowAt 18 clC w a ls
 ok : ∀ l ∈ ls, ClOk w l
theorem CallsAt.below {w w' : World} {a : Option Addr} {ls : List Cl} (h : CallsAt w a ls) {B : Nat} (hb : Below B w w') (hB : w.heap.size ≤ B) : CallsAt w' a ls :=
 ⟨h.row.below hb hB, fun l hl => have ⟨h1, h2, h3, h4⟩ := h.ok l hl; ⟨h1.below hb hB, h2.below hb hB, h3.below hb hB, h4.below hb hB⟩⟩
theorem CallsAt.call {w w' : World} {a : Option Addr} {ls : List Cl} (h : CallsAt w a ls) (hb : Below w.heap.size w w') : CallsAt w' a ls := h.below hb (Nat.le_refl _)
section
variable {H : Type} {enc : TypeId × Value → H} {P : Program}
/-- A field that is a list of whatever, each of which holds what it says. -/
theorem wread_rowq {α : Type} {k : Nat} {en : α → List Value} {W : World} {t e : TypeId} {fuel : Nat} {v : Value} {x : DataW H × List MemPlace} (Q : α → Prop) (hk : 0 < k) (z : α) (ht : P.underlying t = some (.slice e)) (hc : P.cellsOf e = k) (hl0 : ∀ x, (en x).length = k)
 (hs : ∀ (n : Nat) (cs : List Value) (y : DataW H × List MemPlace), DataW.trod enc P W 0 (fun _ => true) true n e cs = some y → ∃ s : α, cs = en s ∧ Q s)
 (hf : DataW.trod enc P W 0 (fun _ => true) true fuel t [v] = some x) :
 ∃ (a : Option Addr) (cap : Nat) (xs : List α), v = .slice a xs.length cap ∧ RowAt k en W a xs ∧ ∀ s ∈ xs, Q s := by
 rcases open_slice ht hf with ⟨hcs, hx⟩ | ⟨a, len', cap', m, n, D, Pl, hcs, _, hl, hm, hmm, hx, hi⟩
 ·simp at hcs
  subst hcs
  exact ⟨none, 0, [], rfl, RowAt.nil _ _, by simp⟩
 ·simp at hcs
  subst hcs
  simp only [if_true] at hmm
  subst hmm
  have key : ∀ i, i < m → ∃ s : α, Q s ∧ ∀ j u, j < k → (en s)[j]? = some u → W.cell? ((a.add (i * k)).add j) = some u := by
   intro i him
   obtain ⟨cs', h1, h2⟩ := hi i him
   rw [hc] at h1
   obtain ⟨s, rfl, hq⟩ := hs _ _ _ h2
   obtain ⟨_, hcl, hat⟩ := World.cells?_some h1
   exact ⟨s, hq, fun j u hj hu => (hat j hj).trans hu⟩
  obtain ⟨f, hfn⟩ : ∃ f : Nat → α, ∀ i, i < m → Q (f i) ∧ ∀ j u, j < k → (en (f i))[j]? = some u → W.cell? ((a.add (i * k)).add j) = some u :=
   ⟨fun i => if h : i < m then (key i h).choose else z, fun i hi => by simp only [dif_pos hi]; exact (key i hi).choose_spec⟩
  have hlen : ((List.range len').map f).length = len' := by simp
  refine ⟨some a, m, (List.range len').map f, by rw [hlen], ⟨by omega, ?_⟩, fun s hs => ?_⟩
  ·by_cases h0 : len' = 0
   ·left; subst h0; simp
   ·right
    obtain ⟨b, off, spot⟩ := a
    have h1 := (hfn 0 (by omega)).2 0 _ hk (List.getElem?_eq_getElem (by rw [hl0]; exact hk))
    have hspot : spot = none := by simpa [Addr.add] using World.cell?_spot h1
    subst hspot
    refine ⟨b, off, rfl, ?_, fun i hi j hj => ?_⟩
    ·apply Decidable.byContradiction; intro hb
     have e2 : W.heap[b]? = none := by simp; omega
     simp [World.cell?, Addr.add, e2] at h1
    ·have hi2 : i < len' := by simpa using hi
     have ea : ∀ j, (((⟨b, off, none⟩ : Addr).add (i * k)).add j) = ⟨b, off + i * k + j, none⟩ := fun j => by
      by_cases hi0 : i * k = 0 <;> by_cases hj0 : j = 0 <;> simp [Addr.add, hi0, hj0]
     have q0 := (hfn i (by omega)).2 j _ hj (List.getElem?_eq_getElem (by rw [hl0]; exact hj))
     rw [ea] at q0
     simp only [List.getElem_map, List.getElem_range]
     rw [q0, List.getElem?_eq_getElem (by rw [hl0]; exact hj)]
  ·simp only [List.mem_map, List.mem_range] at hs
   obtain ⟨i, hi, rfl⟩ := hs
   exact (hfn i (by omega)).1
end
/-- What the fields of a command read as. -/
theorem read_cmd_cells {H : Type} {enc : TypeId × Value → H} {W : World} {fuel : Nat} {cs : List Value} {x : DataW H × List MemPlace}
 (h : DataW.trod enc Tryz.prog W 0 (fun _ => true) true fuel 31 cs = some x) : ∃ (c : Cm) (ga wa : Option Addr) (gc wc : Nat), cs = (#[.int .i64 c.kind, .int .i64 c.dir, .int .i64 c.item, .int .i64 c.box, .int .i64 c.who, .slice ga c.gives.length gc, .int .i64 c.pay, .slice wa c.wants.length wc, .int .i64 c.fee] : Array Value).toList ∧ IntsAt W ga c.gives ∧ IntsAt W wa c.wants := by
 obtain ⟨xs, n, _, _, hl, hxl, hf⟩ := DataW.trod_struct Tryz.underlying31 h
 rw [show Tryz.prog.cellsOf 31 = 9 by kernel_rfl] at hl
 match cs, hl with
 | [c0, c1, c2, c3, c4, c5, c6, c7, c8], _ =>
   match xs, hxl with
   | [y0, y1, y2, y3, y4, y5, y6, y7, y8], _ =>
     have z2 : Tryz.prog.cellsOf 23 = 1 := by kernel_rfl
     have z4 : Tryz.prog.cellsOf 3 = 1 := by kernel_rfl
     have f0 := hf 0 _ rfl
     have f1 := hf 1 _ rfl
     have f2 := hf 2 _ rfl
     have f3 := hf 3 _ rfl
     have f4 := hf 4 _ rfl
     have f5 := hf 5 _ rfl
     have f6 := hf 6 _ rfl
     have f7 := hf 7 _ rfl
     have f8 := hf 8 _ rfl
     simp [z2, z4] at f0 f1 f2 f3 f4 f5 f6 f7 f8
     have hint : ∀ (n : Nat) (cs : List Value) (y : DataW H × List MemPlace), DataW.trod enc Tryz.prog W 0 (fun _ => true) true n 3 cs = some y → ∃ s : Int, cs = inC s := fun n cs y hy => by
      obtain ⟨k, e, _, _⟩ := DataW.trod_int Tryz.underlying3 hy
      exact ⟨k, e⟩
     obtain ⟨a5, n5, gs, rfl, r5⟩ := wread_row (k := 1) (en := inC) (by decide) 0 Tryz.underlying23 (by kernel_rfl) (fun _ => rfl) hint f5
     obtain ⟨a7, n7, ws, rfl, r7⟩ := wread_row (k := 1) (en := inC) (by decide) 0 Tryz.underlying23 (by kernel_rfl) (fun _ => rfl) hint f7
     obtain ⟨i0, e0, _, _⟩ := DataW.trod_int Tryz.underlying3 f0
     obtain ⟨i1, e1, _, _⟩ := DataW.trod_int Tryz.underlying3 f1
     obtain ⟨i2, e2, _, _⟩ := DataW.trod_int Tryz.underlying3 f2
     obtain ⟨i3, e3, _, _⟩ := DataW.trod_int Tryz.underlying3 f3
     obtain ⟨i4, e4, _, _⟩ := DataW.trod_int Tryz.underlying3 f4
     obtain ⟨i6, e6, _, _⟩ := DataW.trod_int Tryz.underlying3 f6
     obtain ⟨i8, e8, _, _⟩ := DataW.trod_int Tryz.underlying3 f8
     simp only [List.cons.injEq, and_true] at e0 e1 e2 e3 e4 e6 e8
     subst e0 e1 e2 e3 e4 e6 e8
     exact ⟨⟨i0, i1, i2, i3, i4, gs, i6, ws, i8⟩, a5, a7, n5, n7, rfl, ints_row.2 r5, ints_row.2 r7⟩
/-- What the fields of an answer read as. -/
theorem read_rep_cells {H : Type} {enc : TypeId × Value → H} {W : World} {fuel : Nat} {cs : List Value} {x : DataW H × List MemPlace}
 (h : DataW.trod enc Tryz.prog W 0 (fun _ => true) true fuel 38 cs = some x) : ∃ (r : Rp) (pa ia : Option Addr) (pc ic : Nat), cs = (#[.int .i64 r.err, .int .i64 r.kind, .int .i64 r.room, .slice pa r.players.length pc, .slice ia r.items.length ic, .int .i64 r.coins] : Array Value).toList ∧ IntsAt W pa r.players ∧ SnsAt W ia r.items := by
 obtain ⟨xs, n, _, _, hl, hxl, hf⟩ := DataW.trod_struct Tryz.underlying38 h
 rw [show Tryz.prog.cellsOf 38 = 6 by kernel_rfl] at hl
 match cs, hl with
 | [c0, c1, c2, c3, c4, c5], _ =>
   match xs, hxl with
   | [y0, y1, y2, y3, y4, y5], _ =>
     have z1 : Tryz.prog.cellsOf 36 = 1 := by kernel_rfl
     have z2 : Tryz.prog.cellsOf 23 = 1 := by kernel_rfl
     have z3 : Tryz.prog.cellsOf 35 = 1 := by kernel_rfl
     have z4 : Tryz.prog.cellsOf 3 = 1 := by kernel_rfl
     have f0 := hf 0 _ rfl
     have f1 := hf 1 _ rfl
     have f2 := hf 2 _ rfl
     have f3 := hf 3 _ rfl
     have f4 := hf 4 _ rfl
     have f5 := hf 5 _ rfl
     simp [z1, z2, z3, z4] at f0 f1 f2 f3 f4 f5
     obtain ⟨pa, pc, ps, rfl, h3, _, _⟩ := rread_ints Tryz.underlying23 Tryz.underlying3 (by kernel_rfl) f3
     obtain ⟨ia, ic, is, rfl, h4, _⟩ := rread_sns Tryz.underlying36 (by kernel_rfl) (fun n cs y hy => trod_seen Tryz.underlying76 Tryz.underlying73 Tryz.underlying3 (by kernel_rfl) (by kernel_rfl) ⟨rfl, rfl⟩ ⟨rfl, rfl⟩ ⟨rfl, rfl⟩ ⟨rfl, rfl⟩ (by kernel_rfl) hy) f4
     obtain ⟨i0, e0, _, _⟩ := DataW.trod_int Tryz.underlying35 f0
     obtain ⟨i1, e1, _, _⟩ := DataW.trod_int Tryz.underlying3 f1
     obtain ⟨i2, e2, _, _⟩ := DataW.trod_int Tryz.underlying3 f2
     obtain ⟨i5, e5, _, _⟩ := DataW.trod_int Tryz.underlying3 f5
     simp only [List.cons.injEq, and_true] at e0 e1 e2 e5
     subst e0 e1 e2 e5
     exact ⟨⟨i0, i1, i2, ps, is, i5⟩, pa, ia, pc, ic, rfl, h3, h4⟩
theorem trod_call {H : Type} {enc : TypeId × Value → H} {W : World} {fuel : Nat} {cs : List Value} {x : DataW H × List MemPlace}
 (h : DataW.trod enc Tryz.prog W 0 (fun _ => true) true fuel 46 cs = some x) : ∃ l : Cl, cs = clC l ∧ ClOk W l := by
 obtain ⟨xs, n, _, _, hl, hxl, hf⟩ := DataW.trod_struct Tryz.underlying46 h
 rw [show Tryz.prog.cellsOf 46 = 18 by kernel_rfl] at hl
 match cs, hl with
 | [c, c0, c1, c2, c3, c4, c5, c6, c7, c8, g1, g2, r0, r1, r2, r3, r4, r5], _ =>
   match xs, hxl with
   | [y0, y1, y2, y3, y4], _ =>
     have z1 : Tryz.prog.cellsOf 31 = 9 := by kernel_rfl
     have z2 : Tryz.prog.cellsOf 38 = 6 := by kernel_rfl
     have z4 : Tryz.prog.cellsOf 3 = 1 := by kernel_rfl
     have f0 := hf 0 _ rfl
     have f1 := hf 1 _ rfl
     have f2 := hf 2 _ rfl
     have f3 := hf 3 _ rfl
     have f4 := hf 4 _ rfl
     simp [z1, z2, z4] at f0 f1 f2 f3 f4
     obtain ⟨k, e0, _, _⟩ := DataW.trod_int Tryz.underlying3 f0
     obtain ⟨k2, e2, _, _⟩ := DataW.trod_int Tryz.underlying3 f2
     obtain ⟨k3, e3, _, _⟩ := DataW.trod_int Tryz.underlying3 f3
     obtain ⟨m, ga, wa, gc, wc, e1, h1, h2⟩ := read_cmd_cells f1
     obtain ⟨r, pa, ia, pc, ic, e4, h3, h4⟩ := read_rep_cells f4
     simp only [List.cons.injEq, and_true] at e0 e1 e2 e3 e4
     subst e0 e2 e3
     obtain ⟨rfl, rfl, rfl, rfl, rfl, rfl, rfl, rfl, rfl⟩ := e1
     obtain ⟨rfl, rfl, rfl, rfl, rfl, rfl⟩ := e4
     exact ⟨⟨k, m, ga, gc, wa, wc, k2, k3, r, pa, pc, ia, ic⟩, rfl, h1, h2, h3, h4⟩
theorem read_calls {H : Type} {enc : TypeId × Value → H} {W : World} {base : Nat} {v : Value} {d : DataW H} {ps : List MemPlace}
 (hv : Value.okWide Tryz.prog W .any base 44 v) (h : DataW.Trod enc Tryz.prog W 0 (fun _ => true) true 44 v d ps) :
 ∃ (a : Option Addr) (cap : Nat) (ls : List Cl), v = .slice a ls.length cap ∧ CallsAt W a ls := by
 obtain ⟨a0, len, cap, rfl⟩ := okWide_slice Tryz.underlying44 hv
 obtain ⟨fuel, hf⟩ := h
 obtain ⟨a, cap', ls, e, h1, h2⟩ := wread_rowq (k := 18) (en := clC) (ClOk W) (by decide) ⟨0, ⟨0, 0, 0, 0, 0, [], 0, [], 0⟩, none, 0, none, 0, 0, 0, ⟨0, 0, 0, [], [], 0⟩, none, 0, none, 0⟩ Tryz.underlying44 (by kernel_rfl) clC_len (fun n cs y hy => trod_call hy) (show DataW.trod enc Tryz.prog W 0 (fun _ => true) true fuel 44 [.slice a0 len cap] = some _ from hf)
 exact ⟨a, cap', ls, e, h1, h2⟩
end Go.Proofs.YtgmkcddgkgcbbaaGreat
