/- Keys: which is less, sorted, their places: plain mathematics. -/
import Derived.Test.YtgmkcddgkgcbbaaGWorld
namespace Go.Proofs.Ytgmkcddgkgcbbaa
open Go.ChangeShapes Go.WideShapes Go.ChangeAt Go.RowKit
set_option linter.unusedVariables false
open Go.RowKit
def lessK (a b : Pl) : Bool := decide (a.kind < b.kind) || (decide (a.kind = b.kind) && decide (a.id < b.id))
theorem lessK_iff (a b : Pl) : lessK a b = true ↔ (a.kind < b.kind ∨ (a.kind = b.kind ∧ a.id < b.id)) := by simp [lessK]
theorem lessK_self (a : Pl) : lessK a a = false := by simp [lessK]
theorem lessK_trans {a b c : Pl} (h : lessK a b = true) (k : lessK b c = true) : lessK a c = true := by
 rw [lessK_iff] at *
 omega
theorem lessK_one {a b : Pl} (h : lessK a b = true) : lessK b a = false := by
 rw [Bool.eq_false_iff]
 intro k
 rw [lessK_iff] at h k
 omega
theorem lessK_all {a b : Pl} (h : ¬ a = b) : lessK a b = true ∨ lessK b a = true := by
 rw [lessK_iff, lessK_iff]
 obtain ⟨a1, a2⟩ := a
 obtain ⟨b1, b2⟩ := b
 simp only [Pl.mk.injEq] at h
 simp only
 omega
theorem lessK_ne {a b : Pl} (h : lessK a b = true) : ¬ a = b := fun e => by rw [e, lessK_self] at h; cases h
/-- A list's keys, each once, rising. -/
structure IsSort (l s : List Pl) : Prop where
 up : s.Pairwise fun a b => lessK a b = true
 mem : ∀ k, k ∈ s ↔ k ∈ l
theorem rise_eq : ∀ {s t : List Pl}, (s.Pairwise fun a b => lessK a b = true) → (t.Pairwise fun a b => lessK a b = true) → (∀ k, k ∈ s ↔ k ∈ t) → s = t
 | [], [], _, _, _ => rfl
 | [], b :: t, _, _, h => by have := (h b).2 (by simp); simp at this
 | a :: s, [], _, _, h => by have := (h a).1 (by simp); simp at this
 | a :: s, b :: t, hs, ht, h => by
   rw [List.pairwise_cons] at hs ht
   have hab : a = b := by
    apply Decidable.byContradiction
    intro hne
    have h1 : a ∈ t := by
     have := (h a).1 (by simp)
     rw [List.mem_cons] at this
     exact this.resolve_left hne
    have h2 : b ∈ s := by
     have := (h b).2 (by simp)
     rw [List.mem_cons] at this
     exact this.resolve_left (fun e => hne e.symm)
    have h3 := lessK_one (ht.1 a h1)
    rw [hs.1 b h2] at h3
    cases h3
   subst hab
   rw [rise_eq hs.2 ht.2 (fun k => ?_)]
   constructor
   ·intro hk
    have := (h k).1 (List.mem_cons_of_mem _ hk)
    rw [List.mem_cons] at this
    exact this.resolve_left (fun e => by have := hs.1 k hk; rw [e, lessK_self] at this; cases this)
   ·intro hk
    have := (h k).2 (List.mem_cons_of_mem _ hk)
    rw [List.mem_cons] at this
    exact this.resolve_left (fun e => by have := ht.1 k hk; rw [e, lessK_self] at this; cases this)
theorem IsSort.same {l s t : List Pl} (h : IsSort l s) (k : IsSort l t) : s = t := rise_eq h.up k.up (fun q => (h.mem q).trans (k.mem q).symm)
/-- Sorted lists of the same keys are the same. -/
theorem IsSort.like {l m s t : List Pl} (h : IsSort l s) (k : IsSort m t) (e : ∀ q, q ∈ l ↔ q ∈ m) : s = t := rise_eq h.up k.up (fun q => (h.mem q).trans ((e q).trans (k.mem q).symm))
theorem IsSort.again {l s t : List Pl} (h : IsSort l s) (k : IsSort s t) : t = s := rise_eq k.up h.up k.mem
theorem IsSort.len {l s : List Pl} (h : IsSort l s) : s.length ≤ l.length := by
 have hn : s.Nodup := h.up.imp (fun h => lessK_ne h)
 exact List.Nodup.length_le_of_subset hn (fun k hk => (h.mem k).1 hk)
theorem IsSort.nodup {l s : List Pl} (h : IsSort l s) : s.Nodup := h.up.imp (fun h => lessK_ne h)
theorem IsSort.count {l s : List Pl} (h : IsSort l s) {k : Pl} (hk : k ∈ l) : s.count k = 1 := by
 have h1 := List.nodup_iff_count.1 h.nodup k
 have h2 := List.count_pos_iff.2 ((h.mem k).2 hk)
 omega
theorem IsSort.rise {l s : List Pl} (h : IsSort l s) {i j : Nat} (hij : i < j) (hj : j < s.length) : lessK (s[i]'(by omega)) s[j] = true := List.pairwise_iff_getElem.1 h.up i j (by omega) hj hij
/-- Where a key's place is, in a description of so many rooms and players. -/
def placeK (r p : Nat) (k : Pl) : Int := if k.kind = 0 ∧ 0 ≤ k.id ∧ k.id < r then k.id else if k.kind = 1 ∧ 0 ≤ k.id ∧ k.id < p then r + k.id else -1
/-- The key of a place. -/
def keyAt (r p : Nat) (n : Int) : Option Pl := if 0 ≤ n ∧ n < r then some ⟨0, n⟩ else if r ≤ n ∧ n < r + p then some ⟨1, n - r⟩ else none
theorem placeK_lt {r p : Nat} (k : Pl) : -1 ≤ placeK r p k ∧ placeK r p k < r + p := by
 unfold placeK
 split
 ·omega
 ·split <;> omega
theorem keyAt_place {r p : Nat} {k : Pl} (h : 0 ≤ placeK r p k) : keyAt r p (placeK r p k) = some k := by
 obtain ⟨a, b⟩ := k
 unfold placeK at h ⊢
 split at h
 ·rename_i h1
  rw [if_pos h1]
  simp only at h1 ⊢
  unfold keyAt
  rw [if_pos (by omega), h1.1]
 ·rename_i h1
  rw [if_neg h1]
  split at h
  ·rename_i h2
   rw [if_pos h2]
   simp only at h2 ⊢
   unfold keyAt
   rw [if_neg (by omega), if_pos (by omega), h2.1]
   congr 2
   omega
  ·omega
theorem place_keyAt {r p : Nat} {n : Int} {k : Pl} (h : keyAt r p n = some k) : placeK r p k = n := by
 unfold keyAt at h
 split at h
 ·obtain rfl := Option.some.inj h
  unfold placeK
  rw [if_pos ⟨rfl, by simp only; omega, by simp only; omega⟩]
 ·split at h
  ·obtain rfl := Option.some.inj h
   unfold placeK
   rw [if_neg (by simp), if_pos ⟨rfl, by simp only; omega, by simp only; omega⟩]
   simp only
   omega
  ·cases h
theorem keyAt_is {r p : Nat} (n : Int) : (keyAt r p n).isSome = true ↔ (0 ≤ n ∧ n < r + p) := by
 unfold keyAt
 split
 ·simp; omega
 ·split
  ·simp; omega
  ·simp; omega
/-- Keys rise as their places do. -/
theorem place_rise {r p : Nat} {a b : Pl} (h : lessK a b = true) (ha : 0 ≤ placeK r p a) (hb : 0 ≤ placeK r p b) : placeK r p a < placeK r p b := by
 rw [lessK_iff] at h
 unfold placeK at ha hb ⊢
 split at ha
 ·rename_i h1
  rw [if_pos h1]
  split at hb
  ·rename_i h2
   rw [if_pos h2]
   omega
  ·rename_i h2
   rw [if_neg h2]
   split at hb
   ·rename_i h3
    rw [if_pos h3]
    omega
   ·omega
 ·rename_i h1
  rw [if_neg h1]
  split at ha
  ·rename_i h2
   rw [if_pos h2]
   split at hb
   ·rename_i h3
    rw [if_pos h3]
    omega
   ·rename_i h3
    rw [if_neg h3]
    split at hb
    ·rename_i h4
     rw [if_pos h4]
     omega
    ·omega
  ·omega
/-- The greatest place of the first n. -/
def topK (r p : Nat) (s : List Pl) : Nat → Int
 | 0 => -1
 | n + 1 => max (topK r p s n) (placeK r p (s.getD n ⟨0, 0⟩))
theorem topK_less {r p : Nat} {l s : List Pl} (h : IsSort l s) : ∀ n, ∀ (hn : n < s.length), 0 ≤ placeK r p s[n] → topK r p s n < placeK r p s[n] := by
 have key : ∀ m n, m ≤ n → ∀ (hn : n < s.length), 0 ≤ placeK r p s[n] → topK r p s m < placeK r p s[n] := by
  intro m
  induction m with
  | zero => intro n _ hn h0; simp only [topK]; omega
  | succ m ih =>
    intro n hmn hn h0
    have h1 := ih n (by omega) hn h0
    have hm : m < s.length := by omega
    have e : s.getD m ⟨0, 0⟩ = s[m] := by simp [List.getD, List.getElem?_eq_getElem hm]
    simp only [topK, e]
    by_cases h2 : 0 ≤ placeK r p s[m]
    ·have := place_rise (h.rise (show m < n by omega) hn) h2 h0
     omega
    ·omega
 exact fun n hn h0 => key n n (Nat.le_refl _) hn h0
end Go.Proofs.Ytgmkcddgkgcbbaa
