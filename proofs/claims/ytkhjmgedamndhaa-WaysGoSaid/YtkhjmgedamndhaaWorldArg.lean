/- A description, or a world, that was handed in: its fields, its lists. -/
import Derived.Deep.Slices
import Derived.Deep.Fields
import Derived.Test.YtkhjmgedamndhaaRows
import Derived.Test.YtkhjmgedamndhaaKit
import Derived.Test.YtkhjmgedamndhaaStrs
import Derived.Test.YtkhjmgedamndhaaWorldMath
import Derived.Test.YtkhjmgedamndhaaWorldAt
import Derived.ChangeSame
import Derived.ChangeArms
import Derived.Lib.SmallJoins
import Derived.Laws.IdiomArrays
import Derived.WalkKit
import Derived.ProofKit
import Derived.OpenShut
import Derived.IntWalk
namespace Go.Proofs.Ytkhjmgedamndhaa
open Go.ChangeShapes Go.WideShapes Go.ChangeAt Go.RowKit
set_option linter.unusedVariables false
open Go.RowKit Go.Deep Go.Joins
section
variable {H : Type} {enc : TypeId × Value → H} {P : Program}
/-- A field that is a list of whatever. -/
theorem wread_row {α : Type} {k : Nat} {en : α → List Value} {W : World} {t e : TypeId} {fuel : Nat} {v : Value} {x : DataW H × List MemPlace} (hk : 0 < k) (z : α) (ht : P.underlying t = some (.slice e)) (hc : P.cellsOf e = k) (hl0 : ∀ x, (en x).length = k)
    (hs : ∀ (n : Nat) (cs : List Value) (y : DataW H × List MemPlace), DataW.trod enc P W 0 (fun _ => true) true n e cs = some y → ∃ s : α, cs = en s)
    (hf : DataW.trod enc P W 0 (fun _ => true) true fuel t [v] = some x) :
    ∃ (a : Option Addr) (cap : Nat) (xs : List α), v = .slice a xs.length cap ∧ RowAt k en W a xs := by
  rcases open_slice ht hf with ⟨hcs, hx⟩ | ⟨a, len', cap', m, n, D, Pl, hcs, _, hl, hm, hmm, hx, hi⟩
  · simp at hcs
    subst hcs
    exact ⟨none, 0, [], rfl, RowAt.nil _ _⟩
  · simp at hcs
    subst hcs
    simp only [if_true] at hmm
    subst hmm
    have key : ∀ i, i < m → ∃ s : α, ∀ j u, j < k → (en s)[j]? = some u → W.cell? ((a.add (i * k)).add j) = some u := by
      intro i him
      obtain ⟨cs', h1, h2⟩ := hi i him
      rw [hc] at h1
      obtain ⟨s, rfl⟩ := hs _ _ _ h2
      obtain ⟨_, hcl, hat⟩ := World.cells?_some h1
      exact ⟨s, fun j u hj hu => (hat j hj).trans hu⟩
    obtain ⟨f, hfn⟩ : ∃ f : Nat → α, ∀ i, i < m → ∀ j u, j < k → (en (f i))[j]? = some u → W.cell? ((a.add (i * k)).add j) = some u :=
      ⟨fun i => if h : i < m then (key i h).choose else z, fun i hi => by simp only [dif_pos hi]; exact (key i hi).choose_spec⟩
    have hlen : ((List.range len').map f).length = len' := by simp
    refine ⟨some a, m, (List.range len').map f, by rw [hlen], ⟨by omega, ?_⟩⟩
    by_cases h0 : len' = 0
    · left; subst h0; simp
    · right
      obtain ⟨b, off, spot⟩ := a
      have h1 := hfn 0 (by omega) 0 _ hk (List.getElem?_eq_getElem (by rw [hl0]; exact hk))
      have hspot : spot = none := by simpa [Addr.add] using World.cell?_spot h1
      subst hspot
      refine ⟨b, off, rfl, ?_, fun i hi j hj => ?_⟩
      · apply Decidable.byContradiction; intro hb
        have e2 : W.heap[b]? = none := by simp; omega
        simp [World.cell?, Addr.add, e2] at h1
      · have hi2 : i < len' := by simpa using hi
        have ea : ∀ j, (((⟨b, off, none⟩ : Addr).add (i * k)).add j) = ⟨b, off + i * k + j, none⟩ := fun j => by
          by_cases hi0 : i * k = 0 <;> by_cases hj0 : j = 0 <;> simp [Addr.add, hi0, hj0]
        have q0 := hfn i (by omega) j _ hj (List.getElem?_eq_getElem (by rw [hl0]; exact hj))
        rw [ea] at q0
        simp only [List.getElem_map, List.getElem_range]
        rw [q0, List.getElem?_eq_getElem (by rw [hl0]; exact hj)]
theorem trod_pl {w : World} {base : Nat} {spare : Nat → Bool} {held : Bool} {fuel : Nat} {u e : TypeId} {cs : List Value} {x : DataW H × List MemPlace} {g0 g1 : Field}
    (hu : P.underlying u = some (.struct #[g0, g1])) (he : P.underlying e = some (.int .i64)) (hc : P.cellsOf e = 1) (k0 : g0.offset = 0 ∧ g0.type = e) (k1 : g1.offset = 1 ∧ g1.type = e) (hcu : P.cellsOf u = 2)
    (h : DataW.trod enc P w base spare held fuel u cs = some x) : ∃ s : Pl, cs = plC s := by
  obtain ⟨xs, n, _, _, hl, hxl, hf⟩ := DataW.trod_struct hu h
  rw [hcu] at hl
  match cs, hl with
  | [a, b], _ =>
    have e0 := hf 0 g0 rfl
    have e1 := hf 1 g1 rfl
    match xs, hxl with
    | [y0, y1], _ =>
      rw [k0.1, k0.2, hc] at e0
      rw [k1.1, k1.2, hc] at e1
      simp at e0 e1
      obtain ⟨i, hi, _, _⟩ := DataW.trod_int he e0
      obtain ⟨j, hj, _, _⟩ := DataW.trod_int he e1
      simp only [List.cons.injEq, and_true] at hi hj
      subst hi hj
      exact ⟨⟨i, j⟩, rfl⟩
theorem trod_ex {w : World} {base : Nat} {spare : Nat → Bool} {held : Bool} {fuel : Nat} {t e : TypeId} {cs : List Value} {x : DataW H × List MemPlace}
    (ht : P.underlying t = some (.array 4 e)) (he : P.underlying e = some (.int .i64)) (hc : P.cellsOf e = 1) (hct : P.cellsOf t = 4)
    (h : DataW.trod enc P w base spare held fuel t cs = some x) : ∃ s : Ex, cs = exC s := by
  have hl : cs.length = 4 := by
    obtain ⟨xs, n, _, _, hl, _⟩ := DataW.trod_array ht h
    rw [hct] at hl; exact hl
  match cs, hl with
  | [a, b, c, d], _ =>
    obtain ⟨y0, y1, y2, y3, n, _, h0, h1, h2, h3⟩ := trod_array4 ht hc h
    obtain ⟨i0, e0, _, _⟩ := DataW.trod_int he h0
    obtain ⟨i1, e1, _, _⟩ := DataW.trod_int he h1
    obtain ⟨i2, e2, _, _⟩ := DataW.trod_int he h2
    obtain ⟨i3, e3, _, _⟩ := DataW.trod_int he h3
    simp only [List.cons.injEq, and_true] at e0 e1 e2 e3
    subst e0 e1 e2 e3
    exact ⟨⟨i0, i1, i2, i3⟩, rfl⟩
end
/-- What the fields of a description read as. -/
theorem read_desc_cells {H : Type} {enc : TypeId × Value → H} {W : World} {fuel : Nat} {cs : List Value} {x : DataW H × List MemPlace}
    (h : DataW.trod enc Try.prog W 0 (fun _ => true) true fuel 26 cs = some x) : ∃ (d : Ds) (p : Dp), cs = (#[.slice p.ex d.exits.length p.exc, .slice p.pl d.players.length p.plc, .slice p.co d.coins.length p.coc, .slice p.it d.items.length p.itc, .slice p.bo d.boxes.length p.boc, .int .i64 d.room, .int .i64 d.player, .int .i64 d.box] : Array Value).toList ∧ DescAt W p d := by
  have hu := Try.underlying26
  obtain ⟨xs, n, _, _, hl, hxl, hf⟩ := DataW.trod_struct hu h
  rw [show Try.prog.cellsOf 26 = 8 by kernel_rfl] at hl
  match cs, hl with
  | [c0, c1, c2, c3, c4, c5, c6, c7], _ =>
    match xs, hxl with
    | [y0, y1, y2, y3, y4, y5, y6, y7], _ =>
      have z1 : Try.prog.cellsOf 22 = 1 := by kernel_rfl
      have z2 : Try.prog.cellsOf 23 = 1 := by kernel_rfl
      have z3 : Try.prog.cellsOf 24 = 1 := by kernel_rfl
      have z4 : Try.prog.cellsOf 3 = 1 := by kernel_rfl
      have f0 := hf 0 _ rfl
      have f1 := hf 1 _ rfl
      have f2 := hf 2 _ rfl
      have f3 := hf 3 _ rfl
      have f4 := hf 4 _ rfl
      have f5 := hf 5 _ rfl
      have f6 := hf 6 _ rfl
      have f7 := hf 7 _ rfl
      simp [z1, z2, z3, z4] at f0 f1 f2 f3 f4 f5 f6 f7
      obtain ⟨a0, n0, es, rfl, r0⟩ := wread_row (k := 4) (en := exC) (by decide) ⟨0, 0, 0, 0⟩ Try.underlying22 (by kernel_rfl) (fun _ => rfl) (fun n cs y hy => trod_ex Try.underlying41 Try.underlying3 (by kernel_rfl) (by kernel_rfl) hy) f0
      have hint : ∀ (n : Nat) (cs : List Value) (y : DataW H × List MemPlace), DataW.trod enc Try.prog W 0 (fun _ => true) true n 3 cs = some y → ∃ s : Int, cs = inC s := fun n cs y hy => by
        obtain ⟨k, e, _, _⟩ := DataW.trod_int Try.underlying3 hy
        exact ⟨k, e⟩
      obtain ⟨a1, n1, ps, rfl, r1⟩ := wread_row (k := 1) (en := inC) (by decide) 0 Try.underlying23 (by kernel_rfl) (fun _ => rfl) hint f1
      obtain ⟨a2, n2, qs, rfl, r2⟩ := wread_row (k := 1) (en := inC) (by decide) 0 Try.underlying23 (by kernel_rfl) (fun _ => rfl) hint f2
      obtain ⟨a3, n3, is, rfl, r3⟩ := wread_row (k := 1) (en := inC) (by decide) 0 Try.underlying23 (by kernel_rfl) (fun _ => rfl) hint f3
      obtain ⟨a4, n4, bs, rfl, r4⟩ := wread_row (k := 1) (en := blC) (by decide) false Try.underlying24 (by kernel_rfl) (fun _ => rfl) (fun n cs y hy => by
        obtain ⟨b, e, _⟩ := DataW.trod_bool Try.underlying4 hy
        exact ⟨b, e⟩) f4
      obtain ⟨i5, e5, _, _⟩ := DataW.trod_int Try.underlying3 f5
      obtain ⟨i6, e6, _, _⟩ := DataW.trod_int Try.underlying3 f6
      obtain ⟨i7, e7, _, _⟩ := DataW.trod_int Try.underlying3 f7
      simp only [List.cons.injEq, and_true] at e5 e6 e7
      subst e5 e6 e7
      exact ⟨⟨es, ps, qs, is, bs, i5, i6, i7⟩, ⟨a0, n0, a1, n1, a2, n2, a3, n3, a4, n4⟩, rfl, ⟨r0, ints_row.2 r1, ints_row.2 r2, ints_row.2 r3, r4⟩⟩
theorem read_desc {H : Type} {enc : TypeId × Value → H} {W : World} {base : Nat} {v : Value} {d : DataW H} {ps : List MemPlace}
    (hv : Value.okWide Try.prog W .any base 26 v) (h : DataW.Trod enc Try.prog W 0 (fun _ => true) true 26 v d ps) :
    ∃ (d : Ds) (p : Dp), v = .agg #[.slice p.ex d.exits.length p.exc, .slice p.pl d.players.length p.plc, .slice p.co d.coins.length p.coc, .slice p.it d.items.length p.itc, .slice p.bo d.boxes.length p.boc, .int .i64 d.room, .int .i64 d.player, .int .i64 d.box] ∧ DescAt W p d := by
  obtain ⟨cs, rfl, _⟩ := okWide_struct Try.underlying26 hv
  obtain ⟨fuel, hf⟩ := h
  obtain ⟨d, p, he, hd⟩ := read_desc_cells (show DataW.trod enc Try.prog W 0 (fun _ => true) true fuel 26 cs.toList = some _ from hf)
  refine ⟨d, p, ?_, hd⟩
  rw [← Array.toArray_toList (xs := cs), he]
theorem read_world {H : Type} {enc : TypeId × Value → H} {W : World} {base : Nat} {v : Value} {d : DataW H} {ps : List MemPlace}
    (hv : Value.okWide Try.prog W .any base 29 v) (h : DataW.Trod enc Try.prog W 0 (fun _ => true) true 29 v d ps) :
    ∃ (x : Wd) (p : Wp), v = .agg #[.slice p.d.ex x.d.exits.length p.d.exc, .slice p.d.pl x.d.players.length p.d.plc, .slice p.d.co x.d.coins.length p.d.coc, .slice p.d.it x.d.items.length p.d.itc, .slice p.d.bo x.d.boxes.length p.d.boc, .int .i64 x.d.room, .int .i64 x.d.player, .int .i64 x.d.box, .slice p.at_ x.at_.length p.atc, .slice p.co x.coins.length p.coc, .slice p.wh x.wher.length p.whc] ∧ WorldAt W p x := by
  obtain ⟨cs, rfl, hsz⟩ := okWide_struct Try.underlying29 hv
  obtain ⟨fuel, hf⟩ := h
  obtain ⟨l⟩ := cs
  rw [show Try.prog.cellsOf 29 = 11 by kernel_rfl] at hsz
  match l, hsz with
  | [c0, c1, c2, c3, c4, c5, c6, c7, c8, c9, c10], _ =>
    obtain ⟨xs, n, _, _, hl, hxl, hg⟩ := DataW.trod_struct Try.underlying29 hf
    match xs, hxl with
    | [y0, y1, y2, y3], _ =>
      have z1 : Try.prog.cellsOf 26 = 8 := by kernel_rfl
      have z2 : Try.prog.cellsOf 23 = 1 := by kernel_rfl
      have z3 : Try.prog.cellsOf 27 = 1 := by kernel_rfl
      have f0 := hg 0 _ rfl
      have f1 := hg 1 _ rfl
      have f2 := hg 2 _ rfl
      have f3 := hg 3 _ rfl
      simp [z1, z2, z3, Value.cells] at f0 f1 f2 f3
      obtain ⟨d, p, he, hd⟩ := read_desc_cells f0
      have hint : ∀ (n : Nat) (cs : List Value) (y : DataW H × List MemPlace), DataW.trod enc Try.prog W 0 (fun _ => true) true n 3 cs = some y → ∃ s : Int, cs = inC s := fun n cs y hy => by
        obtain ⟨k, e, _, _⟩ := DataW.trod_int Try.underlying3 hy
        exact ⟨k, e⟩
      obtain ⟨a1, n1, us, rfl, r1⟩ := wread_row (k := 1) (en := inC) (by decide) 0 Try.underlying23 (by kernel_rfl) (fun _ => rfl) hint f1
      obtain ⟨a2, n2, qs, rfl, r2⟩ := wread_row (k := 1) (en := inC) (by decide) 0 Try.underlying23 (by kernel_rfl) (fun _ => rfl) hint f2
      obtain ⟨a3, n3, ws, rfl, r3⟩ := wread_row (k := 2) (en := plC) (by decide) ⟨0, 0⟩ Try.underlying27 (by kernel_rfl) (fun _ => rfl) (fun n cs y hy => trod_pl Try.underlying57 Try.underlying3 (by kernel_rfl) ⟨rfl, rfl⟩ ⟨rfl, rfl⟩ (by kernel_rfl) hy) f3
      simp only [List.cons.injEq, and_true] at he
      obtain ⟨rfl, rfl, rfl, rfl, rfl, rfl, rfl, rfl⟩ := he
      exact ⟨⟨d, us, qs, ws⟩, ⟨p, a1, n1, a2, n2, a3, n3⟩, rfl, ⟨hd, ints_row.2 r1, ints_row.2 r2, r3⟩⟩
end Go.Proofs.Ytkhjmgedamndhaa
