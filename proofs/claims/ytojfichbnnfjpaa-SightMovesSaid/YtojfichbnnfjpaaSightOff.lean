/- Where new lists lie; an answer that is stored, field by field. -/
import Derived.Test.YtojfichbnnfjpaaRows
import Derived.Test.YtojfichbnnfjpaaKit
import Derived.Test.YtojfichbnnfjpaaGMem
import Derived.Test.YtojfichbnnfjpaaCoin
import Derived.Test.YtojfichbnnfjpaaGWorld
import Derived.Test.YtojfichbnnfjpaaGRight
import Derived.Test.YtojfichbnnfjpaaGDescN
import Derived.Test.YtojfichbnnfjpaaGCopy
import Derived.Test.YtojfichbnnfjpaaGAs
import Derived.Test.YtojfichbnnfjpaaRepMath
import Derived.Test.YtojfichbnnfjpaaGTreeL
import Derived.Test.YtojfichbnnfjpaaSightMath
import Derived.Test.YtojfichbnnfjpaaSightA
import Derived.Test.YtojfichbnnfjpaaSightB
import Derived.WalkKit
import Derived.ProofKit
import Derived.OpenShut
import Derived.IntWalk
namespace Go.Proofs.Ytojfichbnnfjpaa
open Go.ChangeShapes Go.WideShapes Go.ChangeAt Go.RowKit
set_option linter.unusedVariables false
open Go.RowKit
/-- A list of one's own lies in a block that holds nothing else; or it is empty, and there is such a block, too. -/
theorem own_gap {α : Type} {k : Nat} {e : TypeId} {enc : α → List Value} {n : Nat} {W : World} {a : Option Addr} {xs : List α} (h : OwnR k e enc n W a xs) (hk : 0 < k) (he : ∀ x, (enc x).length = k) :
    ∃ g, n ≤ g ∧ (∀ b t cs, Blk W b t cs → t ≠ e → b ≠ g) ∧ (xs = [] ∨ a = some ⟨g, 0, none⟩ ∧ ∃ cs, Blk W g e cs ∧ xs.length * k ≤ cs.size) := by
  rcases h.2 with ⟨rfl, rfl⟩ | ⟨b, cs, rfl, hn, hB, hc⟩
  · refine ⟨max n W.heap.size, by omega, fun b t cs hb _ => ?_, .inl rfl⟩
    have := hb.lt
    omega
  · refine ⟨b, hn, fun b' t cs' hb hne e2 => ?_, .inr ⟨rfl, cs, hB, ?_⟩⟩
    · subst e2
      have h7 := (show _ = _ from hb).symm.trans (show _ = _ from hB)
      simp only [Option.some.injEq, Obj.cells.injEq] at h7
      exact hne h7.2.1
    · by_cases h0 : xs = []
      · subst h0; simp
      · have hl : 0 < xs.length := List.length_pos_iff.2 h0
        have h1 := hc (xs.length - 1) (by omega) (k - 1) (by omega)
        have h2 : k - 1 < (enc xs[xs.length - 1]).length := by rw [he]; omega
        rw [List.getElem?_eq_getElem h2] at h1
        have h3 := (Array.getElem?_eq_some_iff.1 h1).1
        have h4 : (xs.length - 1) * k + k = xs.length * k := by rw [← Nat.add_one_mul]; congr 1; omega
        omega
theorem blk_six {W : World} {g : Nat} {t : TypeId} {z0 z1 z2 z3 z4 z5 : Value} (h : Blk W g t #[z0, z1, z2, z3, z4, z5]) (v0 v1 v2 v3 v4 v5 : Value) : Blk ((((((W.setCell ⟨g, 0, none⟩ v0).setCell ⟨g, 1, none⟩ v1).setCell ⟨g, 2, none⟩ v2).setCell ⟨g, 3, none⟩ v3).setCell ⟨g, 4, none⟩ v4).setCell ⟨g, 5, none⟩ v5) g t #[v0, v1, v2, v3, v4, v5] := by
  simpa using (((((h.set_ 0 v0).set_ 1 v1).set_ 2 v2).set_ 3 v3).set_ 4 v4).set_ 5 v5
theorem Blk.holds {w W : World} {g : Nat} {t : TypeId} {cs : Array Value} (h : Blk W g t cs) (hb : Below w.heap.size w W) : Holds w g cs W := ⟨hb, h.lt, fun i => h.cell i⟩
section
variable {x y : Wd} (hs : Shape x y) (p : Wp) (i : Nat) (w : World) (hy : rightW y = true) (h : WorldAt w p y)
include hs hy h
theorem slook_as (hi : i < y.at_.length) {R : Rp} (hR : lookR y i = R) : Calls Try.prog 11 #[.agg #[.slice p.d.ex x.d.exits.length p.d.exc, .slice p.d.pl x.d.players.length p.d.plc, .slice p.d.co x.d.coins.length p.d.coc, .slice p.d.it x.d.items.length p.d.itc, .slice p.d.bo x.d.boxes.length p.d.boc, .int .i64 x.d.room, .int .i64 x.d.player, .int .i64 x.d.box, .slice p.at_ x.at_.length p.atc, .slice p.co x.coins.length p.coc, .slice p.wh x.wher.length p.whc], .int .i64 (i : Int)] w fun e w' => ∃ qa ia qc ic, e = .returned (.agg #[.int .i64 R.err, .int .i64 R.kind, .int .i64 R.room, .slice qa R.players.length qc, .slice ia R.items.length ic, .int .i64 R.coins]) ∧ NewR w.heap.size w' qa ia R ∧ Below w.heap.size w w' := by
  have := slook_any y p i w hy h hi hR
  rwa [hs.val] at this
theorem sown_as (hi : i < y.at_.length) {R : Rp} (hR : haveR y i = R) : Calls Try.prog 13 #[.agg #[.slice p.d.ex x.d.exits.length p.d.exc, .slice p.d.pl x.d.players.length p.d.plc, .slice p.d.co x.d.coins.length p.d.coc, .slice p.d.it x.d.items.length p.d.itc, .slice p.d.bo x.d.boxes.length p.d.boc, .int .i64 x.d.room, .int .i64 x.d.player, .int .i64 x.d.box, .slice p.at_ x.at_.length p.atc, .slice p.co x.coins.length p.coc, .slice p.wh x.wher.length p.whc], .int .i64 (i : Int)] w fun e w' => ∃ qa ia qc ic, e = .returned (.agg #[.int .i64 R.err, .int .i64 R.kind, .int .i64 R.room, .slice qa R.players.length qc, .slice ia R.items.length ic, .int .i64 R.coins]) ∧ NewR w.heap.size w' qa ia R ∧ Below w.heap.size w w' := by
  have := sown_any y p i w hy h hi hR
  rwa [hs.val] at this
theorem spresent_as (r : Nat) {l : List Int} (hl : presN y y.at_.length r = l) : Calls Try.prog 16 #[.agg #[.slice p.d.ex x.d.exits.length p.d.exc, .slice p.d.pl x.d.players.length p.d.plc, .slice p.d.co x.d.coins.length p.d.coc, .slice p.d.it x.d.items.length p.d.itc, .slice p.d.bo x.d.boxes.length p.d.boc, .int .i64 x.d.room, .int .i64 x.d.player, .int .i64 x.d.box, .slice p.at_ x.at_.length p.atc, .slice p.co x.coins.length p.coc, .slice p.wh x.wher.length p.whc], .int .i64 (r : Int)] w fun e w' => ∃ a cap, e = .returned (.slice a l.length cap) ∧ OwnR 1 3 inC w.heap.size w' a l ∧ Below w.heap.size w w' := by
  have := spresent_any y p r w hy h.at_
  rw [hs.val, hl] at this
  exact this
end
theorem field_items (v0 v1 v2 v3 v4 v5 : Value) (W : World) : (Instr.field 36 (.agg #[v0, v1, v2, v3, v4, v5]) 4).run Try.prog W = .ok v4 W := by
  simp [Instr.field, run_underlying Try.underlying36, Try.isAgg34, asAgg, Go.part, Result.andThen]
theorem field_room (v0 v1 v2 v3 v4 v5 : Value) (W : World) : (Instr.field 36 (.agg #[v0, v1, v2, v3, v4, v5]) 2).run Try.prog W = .ok v2 W := by
  simp [Instr.field, run_underlying Try.underlying36, Try.isAgg3, asAgg, Go.part, Result.andThen]
/-- Is it among the first n of these? -/
def inT (l : List Int) (n : Nat) (i : Int) : Bool := decide (i ∈ l.take n)
theorem inT_zero (l : List Int) (i : Int) : inT l 0 i = false := by simp [inT]
theorem inT_step {l : List Int} {n : Nat} (h : n < l.length) (i : Int) : inT l (n + 1) i = (inT l n i || decide (l[n] = i)) := by
  have hm : i ∈ l.take (n + 1) ↔ (i ∈ l.take n ∨ l[n] = i) := by
    rw [List.take_succ_eq_append_getElem h, List.mem_append, List.mem_singleton]
    exact ⟨fun h => h.imp id Eq.symm, fun h => h.imp id Eq.symm⟩
  unfold inT
  rw [show decide (i ∈ l.take (n + 1)) = decide (i ∈ l.take n ∨ l[n] = i) from decide_eq_decide.2 hm, Bool.decide_or]
theorem inT_all {l : List Int} {i : Int} (h : i ∈ l) : inT l l.length i = true := by simp [inT, h]
end Go.Proofs.Ytojfichbnnfjpaa
