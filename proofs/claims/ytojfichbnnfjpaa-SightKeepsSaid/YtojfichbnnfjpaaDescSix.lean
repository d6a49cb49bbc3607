/- A world in which the cells of some blocks alone were written. -/
import Derived.Test.YtojfichbnnfjpaaRows
import Derived.Test.YtojfichbnnfjpaaKit
import Derived.Test.YtojfichbnnfjpaaGMem
import Derived.Test.YtojfichbnnfjpaaGWorld
import Derived.Test.YtojfichbnnfjpaaGDescN
import Derived.Test.YtojfichbnnfjpaaGCopy
import Derived.Test.YtojfichbnnfjpaaGRefD
import Derived.WalkKit
import Derived.ProofKit
import Derived.OpenShut
import Derived.IntWalk
namespace Go.Proofs.Ytojfichbnnfjpaa
open Go.ChangeShapes Go.WideShapes Go.ChangeAt Go.RowKit
set_option linter.unusedVariables false
open Go.RowKit
/-- wr is V, but for the cells of the blocks in L. -/
structure Six (L : List Nat) (V wr : World) : Prop where
  os : wr.os = V.os
  tp : wr.tape = V.tape
  ot : wr.output = V.output
  s : wr.heap.size = V.heap.size
  f : ∀ b, b ∉ L → wr.heap[b]? = V.heap[b]?
  g : ∀ b ∈ L, ∀ t cs, Blk V b t cs → ∃ cs', Blk wr b t cs' ∧ cs'.size = cs.size
theorem Six.refl (L : List Nat) (V : World) : Six L V V := ⟨rfl, rfl, rfl, rfl, fun _ _ => rfl, fun _ _ _ cs h => ⟨cs, h, rfl⟩⟩
theorem Six.set {L : List Nat} {V wr : World} (h : Six L V wr) {b : Nat} (hb : b ∈ L) (i : Nat) (u : Value) : Six L V (wr.setCell ⟨b, i, none⟩ u) := by
  refine ⟨h.os, h.tp, h.ot, by have := h.s; simpa [World.setCell] using this, fun c hc => ?_, fun c hc t cs hB => ?_⟩
  · rw [Below.heap_setCell wr _ u c (fun e => hc (by rw [e]; exact hb))]
    exact h.f c hc
  · obtain ⟨cs', h1, h2⟩ := h.g c hc t cs hB
    by_cases e : c = b
    · subst e
      exact ⟨_, h1.set_ i u, by simpa using h2⟩
    · exact ⟨cs', h1.far e u, h2⟩
theorem Six.below {L : List Nat} {U V wr : World} (h : Six L V wr) {m : Nat} (hb : Below m U V) (hL : ∀ b ∈ L, m ≤ b) : Below m U wr :=
  ⟨h.os.trans hb.os, h.tp.trans hb.tape, h.ot.trans hb.output, by rw [h.s]; exact hb.size, fun b hl => (h.f b (fun hm => by have := hL b hm; omega)).trans (hb.block b hl)⟩
theorem Six.holds {L : List Nat} {w V wr : World} {n : Nat} {A : Array Value} (h : Six L V wr) (hh : Holds w n A V) (hn : n ∉ L) (hL : ∀ b ∈ L, w.heap.size ≤ b) : Holds w n A wr :=
  ⟨h.below hh.1 hL, by rw [h.s]; exact hh.2.1, fun i => by
    rw [← hh.2.2 i]
    simp [World.cell?, h.f n hn]⟩
/-- A cell of such a block is there, and may be written. -/
theorem Six.cell {L : List Nat} {V wr : World} (h : Six L V wr) {b i : Nat} (hb : b ∈ L) {t : TypeId} {cs : Array Value} (hB : Blk V b t cs) (hi : i < cs.size) : (∃ u, wr.cell? ⟨b, i, none⟩ = some u) ∧ wr.frozen? ⟨b, i, none⟩ = false ∧ b < wr.heap.size := by
  obtain ⟨cs', h1, h2⟩ := h.g b hb t cs hB
  exact ⟨⟨cs'[i]'(by omega), by rw [h1.cell]; exact Array.getElem?_eq_getElem _⟩, h1.frozen i, h1.lt⟩
/-- Where the lists of a world of one's own lie. -/
theorem own_blocks {n : Nat} {W : World} {p : Wp} {x : Wd} (h : WorldOwn n W p x) (ha : 0 < x.at_.length) (hc : 0 < x.coins.length) : ∃ b1 b2 b3 c1 c2 c3, p.at_ = some ⟨b1, 0, none⟩ ∧ p.co = some ⟨b2, 0, none⟩ ∧ n ≤ b1 ∧ b1 < b2 ∧ b2 < b3 ∧ b2 < W.heap.size ∧
    Blk W b1 3 c1 ∧ x.at_.length ≤ c1.size ∧ Blk W b2 3 c2 ∧ x.coins.length ≤ c2.size ∧ (x.wher = [] ∧ b3 = b2 + 1 ∨ p.wh = some ⟨b3, 0, none⟩ ∧ Blk W b3 43 c3 ∧ x.wher.length * 2 ≤ c3.size) := by
  obtain ⟨m1, m2, m3, h1, h2, h3, h4, hd, hdm, ha', ham, hc', hcm, hw⟩ := h.ex
  have sz : ∀ (k : Nat) (cs : Array Value) (l : Nat), 0 < k → (∀ i, i < l → ∀ j, j < k → cs[i * k + j]?.isSome = true) → l * k ≤ cs.size := fun k cs l hk hs => by
    by_cases h0 : l = 0
    · subst h0; simp
    · have := hs (l - 1) (by omega) (k - 1) (by omega)
      rw [Option.isSome_iff_exists] at this
      obtain ⟨v, hv⟩ := this
      have hlt := (Array.getElem?_eq_some_iff.1 hv).1
      have : (l - 1) * k + k = l * k := by rw [← Nat.add_one_mul]; congr 1; omega
      omega
  rcases ha'.2 with ⟨e, _⟩ | ⟨b1, c1, e1, hb1, B1, g1⟩
  · rw [e] at ha; simp at ha
  rcases hc'.2 with ⟨e, _⟩ | ⟨b2, c2, e2, hb2, B2, g2⟩
  · rw [e] at hc; simp at hc
  have l1 := ham _ e1
  have l2 := hcm _ e2
  simp only at l1 l2
  have s1 := sz 1 c1 x.at_.length (by omega) (fun i hi j hj => by rw [g1 i hi j hj]; obtain rfl : j = 0 := by omega
                                                                  rfl)
  have s2 := sz 1 c2 x.coins.length (by omega) (fun i hi j hj => by rw [g2 i hi j hj]; obtain rfl : j = 0 := by omega
                                                                    rfl)
  rcases hw.2 with ⟨e, _⟩ | ⟨b3, c3, e3, hb3, B3, g3⟩
  · exact ⟨b1, b2, b2 + 1, c1, c2, #[], e1, e2, by omega, by omega, by omega, B2.lt, B1, by omega, B2, by omega, .inl ⟨e, rfl⟩⟩
  · have s3 := sz 2 c3 x.wher.length (by omega) (fun i hi j hj => by
      rw [g3 i hi j hj]
      obtain rfl | rfl : j = 0 ∨ j = 1 := by omega
      · rfl
      · rfl)
    exact ⟨b1, b2, b3, c1, c2, c3, e1, e2, by omega, by omega, by omega, B2.lt, B1, by omega, B2, by omega, .inr ⟨e3, B3, s3⟩⟩
end Go.Proofs.Ytojfichbnnfjpaa
