import Derived.Test.YtcabeagmdfpdlaaDoorRows
import Derived.Test.YtcabeagmdfpdlaaDoorKit
import Derived.Test.YtcabeagmdfpdlaaDoorStrs
import Derived.Test.YtcabeagmdfpdlaaDoorJMath
import Derived.Test.YtcabeagmdfpdlaaDoorJTokJoin
import Derived.Test.YtcabeagmdfpdlaaDoorJRepMath
import Derived.WalkKit
import Derived.ProofKit
import Derived.OpenShut
import Derived.IntWalk
/- An answer's words: plain mathematics. -/
namespace Go.Proofs.YtcabeagmdfpdlaaDoor
open Go.ChangeShapes Go.WideShapes Go.ChangeAt Go.RowKit
set_option linter.unusedVariables false
open Go.RowKit
def nw (n : Int) : List UInt8 := Lib.decDigits n.toNat
def sError : List UInt8 := [101, 114, 114, 111, 114]
def sPlayers : List UInt8 := [112, 108, 97, 121, 101, 114, 115]
def sItems : List UInt8 := [105, 116, 101, 109, 115]
def placeNames : List (List UInt8) := [[105, 110], [119, 105, 116, 104], [98, 111, 120]]
def placeOf (k : Int) : List UInt8 := placeNames.getD k.toNat []
def seenW (s : Sn) : List (List UInt8) := [nw s.item, placeOf s.kind, nw s.id]
def itemsW (l : List Sn) : List (List UInt8) := sItems :: l.flatMap seenW
/-- An answer's words. -/
def rwords (r : Rp) : List (List UInt8) :=
  if r.err ≠ 0 then [sError, nw r.err]
  else nameOf r.kind :: (
    if r.kind = 1 ∨ r.kind = 2 then [nw r.room]
    else if r.kind = 9 then [nw r.room, sPlayers] ++ (r.players.map nw ++ itemsW r.items)
    else if r.kind = 10 then nw r.coins :: itemsW r.items
    else [])
theorem okN_nat {n : Int} (h : okN n = true) : 0 ≤ n ∧ n ≤ 1073741824 := by simpa [okN] using h
theorem nw_numB {n : Int} (h : okN n = true) : numB (nw n) = true := by
  have := okN_nat h
  exact word_numB (by omega)
theorem nw_numN {n : Int} (h : okN n = true) : (numN (nw n) : Int) = n := by
  have := okN_nat h
  unfold nw; rw [word_numN (by omega)]; omega
theorem nw_len {n : Int} (h : okN n = true) : (nw n).length ≤ 10 := by
  apply Decidable.byContradiction; intro hn
  have := long_no (l := nw n) (by omega)
  rw [nw_numB h] at this; cases this
theorem nw_plain {n : Int} (h : okN n = true) : plain (nw n) = true := by
  obtain ⟨h0, _, hd, _⟩ := (numB_iff _).1 (nw_numB h)
  unfold plain
  rw [Bool.and_eq_true]
  refine ⟨by simpa [List.isEmpty_iff] using h0, ?_⟩
  rw [List.all_eq_true]
  intro c hc
  have := List.all_eq_true.1 hd c hc
  rw [isD_iff] at this
  simp only [bne_iff_ne, ne_eq]
  intro e; subst e; simp at this
theorem place_plain {k : Int} (h : pkB k = true) : plain (placeOf k) = true ∧ (placeOf k).length ≤ 4 := by
  simp [pkB] at h
  obtain rfl | rfl | rfl : k = 0 ∨ k = 1 ∨ k = 2 := by omega
  all_goals decide
theorem name_plain {k : Int} (h1 : 1 ≤ k) (h2 : k ≤ 10) : plain (nameOf k) = true := by
  obtain rfl | rfl | rfl | rfl | rfl | rfl | rfl | rfl | rfl | rfl : k = 1 ∨ k = 2 ∨ k = 3 ∨ k = 4 ∨ k = 5 ∨ k = 6 ∨ k = 7 ∨ k = 8 ∨ k = 9 ∨ k = 10 := by omega
  all_goals decide
/-- What an answer that may be has. -/
structure Fits (r : Rp) : Prop where
  err : 0 ≤ r.err ∧ r.err ≤ 13
  kind : r.err = 0 → 1 ≤ r.kind ∧ r.kind ≤ 10
  room : okN r.room = true
  coins : okN r.coins = true
  plen : r.players.length ≤ 16
  ilen : r.items.length ≤ 16
  players : ∀ n ∈ r.players, okN n = true
  items : ∀ s ∈ r.items, snB s = true
  own : r = ownR r
theorem fits_of {r : Rp} (h : rmayB r = true) : Fits r := by
  simp only [rmayB, someB, rwithinB, rsameB_iff, areB, plB, itB, Bool.and_eq_true, Bool.or_eq_true, decide_eq_true_eq, List.all_eq_true, List.mem_cons, List.not_mem_nil, or_false, forall_eq_or_imp, forall_eq] at h
  obtain ⟨h0, ⟨⟨⟨⟨⟨⟨a1, a2⟩, a3⟩, a4⟩, a5, a6⟩, a7, a8⟩, a9, a10⟩, a11⟩ := h
  exact ⟨⟨a1, a2⟩, fun e => by omega, a5, a6, a7, a9, a8, a10, a11⟩
theorem snB_parts {s : Sn} (h : snB s = true) : pkB s.kind = true ∧ okN s.item = true ∧ okN s.id = true := by
  simpa [snB] using h
theorem seen_plain {s : Sn} (h : snB s = true) : ∀ x ∈ seenW s, plain x = true ∧ x.length ≤ 10 := by
  obtain ⟨h1, h2, h3⟩ := snB_parts h
  intro x hx
  simp only [seenW, List.mem_cons, List.not_mem_nil, or_false] at hx
  rcases hx with rfl | rfl | rfl
  · exact ⟨nw_plain h2, nw_len h2⟩
  · exact ⟨(place_plain h1).1, by have := (place_plain h1).2; omega⟩
  · exact ⟨nw_plain h3, nw_len h3⟩
theorem itemsW_plain {l : List Sn} (h : ∀ s ∈ l, snB s = true) : ∀ x ∈ itemsW l, plain x = true ∧ x.length ≤ 10 := by
  intro x hx
  simp only [itemsW, List.mem_cons, List.mem_flatMap] at hx
  rcases hx with rfl | ⟨s, hs, hx⟩
  · decide
  · exact seen_plain (h s hs) x hx
theorem err_ok {r : Rp} (h : Fits r) : okN r.err = true := by have := h.err; simp [okN]; omega
theorem rwords_plain {r : Rp} (h : Fits r) : ∀ x ∈ rwords r, plain x = true ∧ x.length ≤ 10 := by
  intro x hx
  unfold rwords at hx
  split at hx
  · simp only [List.mem_cons, List.not_mem_nil, or_false] at hx
    rcases hx with rfl | rfl
    · decide
    · exact ⟨nw_plain (err_ok h), nw_len (err_ok h)⟩
  · rename_i he
    have hk := h.kind (by omega)
    rcases List.mem_cons.1 hx with rfl | hx
    · exact ⟨name_plain hk.1 hk.2, by have := name_len r.kind; omega⟩
    · repeat' split at hx
      · simp only [List.mem_cons, List.not_mem_nil, or_false] at hx
        subst hx; exact ⟨nw_plain h.room, nw_len h.room⟩
      · simp only [List.mem_append, List.mem_cons, List.not_mem_nil, or_false, List.mem_map] at hx
        rcases hx with (rfl | rfl) | ⟨n, hn, rfl⟩ | hx
        · exact ⟨nw_plain h.room, nw_len h.room⟩
        · decide
        · exact ⟨nw_plain (h.players n hn), nw_len (h.players n hn)⟩
        · exact itemsW_plain h.items x hx
      · rcases List.mem_cons.1 hx with rfl | hx
        · exact ⟨nw_plain h.coins, nw_len h.coins⟩
        · exact itemsW_plain h.items x hx
      · simp at hx
theorem seenW_len (l : List Sn) : (l.flatMap seenW).length = 3 * l.length := by
  induction l with
  | nil => rfl
  | cons s l ih => rw [List.flatMap_cons, List.length_append, ih]; simp [seenW]; omega
theorem rwords_count {r : Rp} (h : Fits r) : (rwords r).length ≤ 70 := by
  have h1 := h.plen
  have h2 := h.ilen
  have h3 := seenW_len r.items
  unfold rwords itemsW
  repeat' split
  all_goals simp [h3]; try omega
theorem sizes_le : ∀ {xs : List (List UInt8)}, (∀ x ∈ xs, x.length ≤ 10) → sizes xs ≤ 11 * xs.length
  | [], _ => by simp [sizes]
  | x :: r, h => by
    have h1 := h x (by simp)
    have h2 := sizes_le (fun y hy => h y (List.mem_cons_of_mem _ hy))
    simp only [sizes, List.map_cons, List.sum_cons, List.length_cons] at h2 ⊢
    omega
theorem rwords_sizes {r : Rp} (h : Fits r) : sizes (rwords r) ≤ 770 := by
  have h1 := sizes_le (fun x hx => (rwords_plain h x hx).2)
  have h2 := rwords_count h
  omega
/-- An answer's text. -/
def textR (r : Rp) : List UInt8 := glue (rwords r)
theorem textR_len {r : Rp} (h : Fits r) : (textR r).length ≤ 770 := Nat.le_trans (glue_len _) (rwords_sizes h)
theorem words_textR {r : Rp} (h : Fits r) : words (textR r) = rwords r := words_glue _ (fun x hx => (rwords_plain h x hx).1)
/-- What Put answers. -/
def rputS (r : Rp) : List UInt8 := if rmayB r then textR r else []
def rputN (r : Rp) : Int := if rmayB r then 0 else 2
/-! ### an answer read of its words -/
/-- What a list of words says at its head, as pairs and more: items read of their words, as the document reads them, three words each. -/
def atN (ws : List (List UInt8)) (i : Nat) : Int := (numN (ws.getD i []) : Int)
end Go.Proofs.YtcabeagmdfpdlaaDoor
