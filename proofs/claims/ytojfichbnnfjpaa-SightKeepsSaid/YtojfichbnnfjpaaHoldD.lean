/- The document's own: an item brought elsewhere, what is got, and dropped. -/
import Derived.Test.YtojfichbnnfjpaaRows
import Derived.Test.YtojfichbnnfjpaaKit
import Derived.Test.YtojfichbnnfjpaaGMem
import Derived.Test.YtojfichbnnfjpaaCoin
import Derived.Test.YtojfichbnnfjpaaGWorld
import Derived.Test.YtojfichbnnfjpaaDescMay
import Derived.Test.YtojfichbnnfjpaaGDescN
import Derived.Test.YtojfichbnnfjpaaGRight
import Derived.Test.YtojfichbnnfjpaaGCopy
import Derived.Test.YtojfichbnnfjpaaGRefD
import Derived.Test.YtojfichbnnfjpaaGEq
import Derived.Test.YtojfichbnnfjpaaGAs
import Derived.Test.YtojfichbnnfjpaaGNew
import Derived.Test.YtojfichbnnfjpaaGTreeL
import Derived.Test.YtojfichbnnfjpaaGHoldA
import Derived.Deep.QuietTactic
import Derived.BigQuiet
import Derived.Deep.RegionHeld3
import Derived.WalkKit
import Derived.ProofKit
import Derived.OpenShut
import Derived.IntWalk
namespace Go.Proofs.Ytojfichbnnfjpaa
open Go.ChangeShapes Go.WideShapes Go.ChangeAt Go.RowKit
set_option linter.unusedVariables false
open Go.RowKit
/-- Item k's place is written, whole. -/
theorem WhOwn.putPlace {n : Nat} {W : World} {p : Dp} {q : Wp} {x : Wd} (h : WhOwn n W p q x) {k : Nat} (hk : k < x.wher.length) : ∃ b, q.wh = some ⟨b, 0, none⟩ ∧ n ≤ b ∧ b < W.heap.size ∧ (W.cell? ⟨b, k * 2, none⟩ = some (.int .i64 x.wher[k].kind) ∧ W.cell? ⟨b, k * 2 + 1, none⟩ = some (.int .i64 x.wher[k].id)) ∧ (∀ r, W.frozen? ⟨b, r, none⟩ = false) ∧
    ∀ y : Pl, WhOwn n ((W.setCell ⟨b, k * 2, none⟩ (.int .i64 y.kind)).setCell ⟨b, k * 2 + 1, none⟩ (.int .i64 y.id)) p q ⟨x.d, x.at_, x.coins, x.wher.set k y⟩ := by
  obtain ⟨h0, m1, m2, g1, g2, h1, l1, h2, l2, h3⟩ := h
  obtain ⟨b, hb, hn, hl, hc, hf, hput⟩ := h3.put hk (j := 0) (by omega)
  refine ⟨b, hb, by omega, hl, ⟨by simpa [plC] using hc 0 (by omega), by simpa [plC] using hc 1 (by omega)⟩, hf, fun y => ⟨h0, m1, m2, g1, g2, (h1.far (fun r hr => by have := l1 r hr; omega) _ _).far (fun r hr => by have := l1 r hr; omega) _ _, l1, (h2.far (fun r hr => by have := l2 r hr; omega) _ _).far (fun r hr => by have := l2 r hr; omega) _ _, l2, ?_⟩⟩
  have h4 := hput (.int .i64 y.kind) ⟨y.kind, x.wher[k].id⟩ rfl (fun r hr => by
    obtain rfl | rfl : r = 0 ∨ r = 1 := by omega
    · rfl
    · rfl)
  obtain ⟨b', hb', _, _, _, _, hput'⟩ := h4.put (i := k) (by simpa using hk) (j := 1) (by omega)
  obtain rfl : b' = b := by simpa using hb'.symm
  have h5 := hput' (.int .i64 y.id) y rfl (fun r hr => by
    obtain rfl | rfl : r = 0 ∨ r = 1 := by omega
    · simp [plC]
    · rfl)
  rw [hb]
  simpa using h5
/-- What the document's own answer is: a world that stays, or one whose own lists are new. -/
def RTook (n : Nat) (W : World) (p q : Wp) (x : Wd) (R : Wd × Int) : Prop := (¬ R.2 = 0 ∧ R.1 = x ∧ q = p) ∨ (R.2 = 0 ∧ R.1.d = x.d ∧ WhOwn n W p.d q R.1)
theorem RTook.world {w W : World} {p q : Wp} {x : Wd} {R : Wd × Int} (h : RTook w.heap.size W p q x R) (hw : WorldAt w p x) (hb : Below w.heap.size w W) : WorldAt W q R.1 := by
  rcases h with ⟨_, h1, h2⟩ | ⟨_, h1, h2⟩
  · rw [h1, h2]; exact hw.call hb
  · exact h2.new.world (by rw [h1]; exact hw.d) hb
theorem rS7 {t s : TypeId} {w v : World} {cs : Array Value} (h : TwoE t s w v cs) {p1 p2 p3 : Addr} {u1 u2 u3 : Value} (c1 : w.cell? p1 = some u1) (c2 : w.cell? p2 = some u2) (c3 : w.cell? p3 = some u3) : Below w.heap.size w v ∧ w.heap.size < v.heap.size ∧ (∀ i, v.cell? ⟨w.heap.size, i, none⟩ = cs[i]?) ∧ w.heap.size + 1 < v.heap.size ∧ v.cell? p1 = some u1 ∧ v.cell? p2 = some u2 ∧ v.cell? p3 = some u3 := by
  obtain ⟨h1, h2, h3, h4⟩ := two_S h
  exact ⟨h1, h2, h3, h4, cell_call c1 h1, cell_call c2 h1, cell_call c3 h1⟩
end Go.Proofs.Ytojfichbnnfjpaa
