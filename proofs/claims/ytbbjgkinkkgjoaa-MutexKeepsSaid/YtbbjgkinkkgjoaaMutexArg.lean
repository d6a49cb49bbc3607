/- A list of integers that was handed in, and its capacity; the contracts as the laws take them. -/
import Derived.Test.YtbbjgkinkkgjoaaSlices
import Derived.Test.YtbbjgkinkkgjoaaMutexR
import Derived.Test.YtbbjgkinkkgjoaaMutexAw
namespace Go.Proofs.Ytbbjgkinkkgjoaa
open Go.ChangeShapes Go.WideShapes Go.ChangeAt Go.RowKit
set_option linter.unusedVariables false
open Go.RowKit Go.ChangeShapes Go.WideShapes Go.ChangeAt Go.Deep
def InL (l : List Int) : Prop := ∀ x ∈ l, x ≤ 9223372036854775807
theorem mayL_locks {l : List Int} (h : mayL l = true) (hi : InL l) : Locks l := by
 simp [mayL] at h
 exact ⟨h.2, fun x hx => ⟨h.1 x hx, hi x hx⟩⟩
theorem read_lks {H : Type} {enc : TypeId × Value → H} {W : World} {base : Nat} {v : Value} {d : DataW H} {ps : List MemPlace}
 (hv : Value.okWide Try.prog W .any base 22 v) (h : DataW.Trod enc Try.prog W 0 (fun _ => true) true 22 v d ps) :
 ∃ (a : Option Addr) (cap : Nat) (xs : List Int), v = .slice a xs.length cap ∧ LkAt W a cap xs ∧ InL xs := by
 obtain ⟨a0, len, cap, rfl⟩ := okWide_slice Try.underlying22 hv
 obtain ⟨fuel, hf⟩ := h
 rcases open_ints Try.underlying22 Try.underlying3 (by kernel_rfl) hf with ⟨hcs, hx⟩ | ⟨a, len', cap', zs, hcs, _, hl, hm, hz, hx, hcell, hwz⟩
 ·simp [Value.cells] at hcs
  obtain ⟨rfl, rfl, rfl⟩ := hcs
  exact ⟨none, 0, [], rfl, ⟨IntsAt.nil _ _, by simp, by simp⟩, by simp [InL]⟩
 ·simp [Value.cells] at hcs
  obtain ⟨rfl, rfl, rfl⟩ := hcs
  simp only [if_true] at hz
  have hlen : (zs.take len).length = len := by simp; omega
  refine ⟨some a, cap, zs.take len, by rw [hlen], ⟨⟨by omega, ?_⟩, by omega, hm⟩, fun n hn => ?_⟩
  ·by_cases h0 : len = 0
   ·left; subst h0; simp
   ·right
    obtain ⟨b, off, spot⟩ := a
    have h1 := hcell 0 (by omega)
    have hspot : spot = none := by simpa [Addr.add] using World.cell?_spot h1
    subst hspot
    refine ⟨b, off, rfl, ?_, fun i hi => ?_⟩
    ·apply Decidable.byContradiction; intro hb
     have e2 : W.heap[b]? = none := by simp; omega
     simp [World.cell?, Addr.add, e2] at h1
    ·have := hcell i (by omega)
     rw [List.getElem_take]
     have ea : ((⟨b, off, none⟩ : Addr).add i) = ⟨b, off + i, none⟩ := by
      by_cases hi0 : i = 0 <;> simp [Addr.add, hi0]
     rw [ea] at this
     simpa [List.getD, List.getElem?_eq_getElem (show i < zs.length by omega)] using this
  ·have h := hwz n (List.mem_of_mem_take hn)
   simp [Lit.wf, IntKind.min, IntKind.max, IntKind.signed, IntKind.bits] at h
   omega
theorem LkAt.cell {W : World} {b o cap k : Nat} {l : List Int} (h : LkAt W (some ⟨b, o, none⟩) cap l) (hk : k < l.length) : W.cell? ⟨b, o + k, none⟩ = some (.int .i64 l[k]) := by
 obtain ⟨b2, o2, e, _, hc⟩ := h.1.at_ hk
 cases e
 exact hc k hk
/-- What is answered: these n locks. -/
def TookN (n : Nat) (a : Option Addr) (cap : Nat) (l : List Int) (ok : Bool) (w : World) (e : Ending) (w' : World) : Prop :=
 ∃ g gc, e = .returned (.tuple #[.slice g n gc, .bool ok]) ∧ LkAt w' g gc l ∧ ((g = a ∧ gc = cap ∧ ok = false) ∨ NewA w.heap.size g) ∧ Below w.heap.size w w'
section
variable {a b : Option Addr} {cap c d n : Nat} {l l2 : List Int} {p s : Int} {ok : Bool} {W : World}
theorem take_as (hn : l.length = n) (h : LkAt W a cap l) (hl : Locks l) (h0 : 0 ≤ s) (h1 : s ≤ 1073741824) (h2 : takeL l p s = l2) (hok : freeB l p = ok) : Calls Try.prog 9 #[.slice a n cap, .int .i64 p, .int .i64 s] W fun e w' => TookN n a cap l2 ok W e w' := by
 have h3 := mtake_any a cap l p s W h hl h0 h1
 unfold TookL at h3
 rw [takeL_len, h2, hok, hn] at h3
 exact h3
theorem give_as (hn : l.length = n) (h : LkAt W a cap l) (hl : Locks l) (h0 : 0 ≤ s) (h1 : s ≤ 1073741824) (h2 : giveL l p s = l2) (hok : hasB l p s = ok) : Calls Try.prog 11 #[.slice a n cap, .int .i64 p, .int .i64 s] W fun e w' => TookN n a cap l2 ok W e w' := by
 have h3 := mgive_any a cap l p s W h hl h0 h1
 unfold TookL at h3
 rw [giveL_len, h2, hok, hn] at h3
 exact h3
theorem rtake_as (hn : l.length = n) (h : LkAt W a cap l) (hl : Locks l) (h0 : 0 ≤ s) (h1 : s ≤ 1073741824) (h2 : takeL l p s = l2) (hok : freeB l p = ok) : Calls Try.prog 10 #[.slice a n cap, .int .i64 p, .int .i64 s] W fun e w' => TookN n a cap l2 ok W e w' := by
 have h3 := reftake_any a cap l p s W h hl h0 h1
 unfold TookL at h3
 rw [takeL_len, h2, hok, hn] at h3
 exact h3
theorem rgive_as (hn : l.length = n) (h : LkAt W a cap l) (hl : Locks l) (h0 : 0 ≤ s) (h1 : s ≤ 1073741824) (h2 : giveL l p s = l2) (hok : hasB l p s = ok) : Calls Try.prog 12 #[.slice a n cap, .int .i64 p, .int .i64 s] W fun e w' => TookN n a cap l2 ok W e w' := by
 have h3 := refgive_any a cap l p s W h hl h0 h1
 unfold TookL at h3
 rw [giveL_len, h2, hok, hn] at h3
 exact h3
theorem holder_as {m : Int} (hn : l.length = n) (h : LkAt W a cap l) (hl : Locks l) (h2 : holderN l p = m) (hok : heldB l p = ok) : Calls Try.prog 13 #[.slice a n cap, .int .i64 p] W fun e w' => e = .returned (.tuple #[.int .i64 m, .bool ok]) ∧ Below W.heap.size W w' := by
 have h3 := mholder_any a cap l p W h.1 hl
 rwa [h2, hok, hn] at h3
theorem held_as {m : Nat} (hn : l.length = n) (h : LkAt W a cap l) (hl : Locks l) (h0 : 0 ≤ s) (h2 : ownN l s n = l2) (hm : l2.length = m) : Calls Try.prog 15 #[.slice a n cap, .int .i64 s] W fun e w' =>
 ∃ g gc, e = .returned (.slice g m gc) ∧ LkAt w' g gc l2 ∧ NewA W.heap.size g ∧ (g = none ∨ ∃ q cur, g = some ⟨q, 0, none⟩ ∧ Blk w' q 3 cur ∧ l2.length ≤ cur.size) ∧ Below W.heap.size W w' := by
 have h3 := mheld_any a cap l s W h.1 hl h0
 unfold GivesL at h3
 rw [hn, h2, hm] at h3
 rwa [hm]
theorem rheld_as {m : Nat} (hn : l.length = n) (h : LkAt W a cap l) (hl : Locks l) (h0 : 0 ≤ s) (h1 : s ≤ 1073741824) (h2 : ownN l s n = l2) (hm : l2.length = m) : Calls Try.prog 16 #[.slice a n cap, .int .i64 s] W fun e w' =>
 ∃ g gc, e = .returned (.slice g m gc) ∧ LkAt w' g gc l2 ∧ Below W.heap.size W w' := by
 have h3 := refheld_any a cap l s W h.1 hl h0 h1
 unfold GivesL at h3
 rw [hn, h2, hm] at h3
 exact h3.mono fun e w' ⟨g, gc, h4, h5, _, _, h6⟩ => ⟨g, gc, h4, h5, h6⟩
theorem same_as (hn : l.length = n) (h1 : LkAt W a c l) (h2 : LkAt W b d l) : Calls Try.prog 14 #[.slice a n c, .slice b n d] W fun e w' => e = .returned (.bool true) ∧ Below W.heap.size W w' := aw15_ints a b c d l n hn W h1 h2
end
end Go.Proofs.Ytbbjgkinkkgjoaa
