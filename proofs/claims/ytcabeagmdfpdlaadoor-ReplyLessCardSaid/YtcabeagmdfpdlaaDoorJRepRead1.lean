import Derived.Test.YtcabeagmdfpdlaaDoorRows
import Derived.Test.YtcabeagmdfpdlaaDoorKit
import Derived.Test.YtcabeagmdfpdlaaDoorStrs
import Derived.Test.YtcabeagmdfpdlaaDoorJTab
import Derived.Test.YtcabeagmdfpdlaaDoorJBlk
import Derived.Test.YtcabeagmdfpdlaaDoorClone
import Derived.Test.YtcabeagmdfpdlaaDoorJMath
import Derived.Test.YtcabeagmdfpdlaaDoorJNum
import Derived.Test.YtcabeagmdfpdlaaDoorJTokWord
import Derived.Test.YtcabeagmdfpdlaaDoorJTokJoin
import Derived.Test.YtcabeagmdfpdlaaDoorJCut
import Derived.Test.YtcabeagmdfpdlaaDoorJAppend
import Derived.Test.YtcabeagmdfpdlaaDoorJGrown
import Derived.Test.YtcabeagmdfpdlaaDoorJCmdA
import Derived.Test.YtcabeagmdfpdlaaDoorJCmdNames1
import Derived.Test.YtcabeagmdfpdlaaDoorJRepMath
import Derived.Test.YtcabeagmdfpdlaaDoorJRepItems
import Derived.Test.YtcabeagmdfpdlaaDoorJRepWords
import Derived.Test.YtcabeagmdfpdlaaDoorJRepPut
import Derived.OwnWalk
import Derived.WalkKit
import Derived.ProofKit
import Derived.OpenShut
import Derived.IntWalk
/- reply: words taken off a queue; numbers and kinds of places read of them. -/
namespace Go.Proofs.YtcabeagmdfpdlaaDoor
open Go.ChangeShapes Go.WideShapes Go.ChangeAt Go.RowKit
set_option linter.unusedVariables false
open Go.RowKit Go
def headW (ws : List (List UInt8)) : List UInt8 := ws.headD []
def placeN (x : List UInt8) : Int := (posN placeNames x : Int)
/-- Players read of words, and what is left behind the word that ends them. -/
def rdP : List (List UInt8) → List Int × List (List UInt8)
  | [] => ([], [])
  | w :: r => if numB w then ((numN w : Int) :: (rdP r).1, (rdP r).2) else ([], r)
/-- Items likewise. -/
def rdI : List (List UInt8) → List Sn × List (List UInt8)
  | [] => ([], [])
  | [w] => if numB w then ([⟨(numN w : Int), 3, 0⟩], []) else ([], [])
  | [w, p] => if numB w then ([⟨(numN w : Int), placeN p, 0⟩], []) else ([], [p])
  | w :: p :: d :: r => if numB w then (⟨(numN w : Int), placeN p, (numN d : Int)⟩ :: (rdI r).1, (rdI r).2) else ([], p :: d :: r)
theorem rdP_yes {ws : List (List UInt8)} (h : numB (headW ws) = true) : rdP ws = ((numN (headW ws) : Int) :: (rdP ws.tail).1, (rdP ws.tail).2) := by
  cases ws with
  | nil => simp [headW, numB] at h
  | cons w r => simp only [headW, List.headD_cons] at h; simp [rdP, headW, h]
theorem rdP_no {ws : List (List UInt8)} (h : numB (headW ws) = false) : rdP ws = ([], ws.tail) := by
  cases ws with
  | nil => rfl
  | cons w r => simp only [headW, List.headD_cons] at h; simp [rdP, h]
theorem numN_nil : numN [] = 0 := rfl
theorem placeN_nil : placeN [] = 3 := by decide
theorem rdI_yes {ws : List (List UInt8)} (h : numB (headW ws) = true) : rdI ws = (⟨(numN (headW ws) : Int), placeN (headW ws.tail), (numN (headW ws.tail.tail) : Int)⟩ :: (rdI ws.tail.tail.tail).1, (rdI ws.tail.tail.tail).2) := by
  match ws, h with
  | [], h => simp [headW, numB] at h
  | [w], h => simp only [headW, List.headD_cons] at h; simp [rdI, headW, h, numN_nil, placeN_nil]
  | [w, p], h => simp only [headW, List.headD_cons] at h; simp [rdI, headW, h, numN_nil]
  | w :: p :: d :: r, h => simp only [headW, List.headD_cons] at h; simp [rdI, headW, h]
theorem rdI_no {ws : List (List UInt8)} (h : numB (headW ws) = false) : rdI ws = ([], ws.tail) := by
  match ws, h with
  | [], _ => rfl
  | [w], h => simp only [headW, List.headD_cons] at h; simp [rdI, h]
  | [w, p], h => simp only [headW, List.headD_cons] at h; simp [rdI, h]
  | w :: p :: d :: r, h => simp only [headW, List.headD_cons] at h; simp [rdI, h]
/-- By the code: the answer of a text's words; of words that are none's whatever. -/
def readR (ws : List (List UInt8)) : Rp :=
  if headW ws = sError then ⟨(numN (headW ws.tail) : Int), 0, 0, [], [], 0⟩
  else if kindN (headW ws) = 1 ∨ kindN (headW ws) = 2 then ⟨0, kindN (headW ws), (numN (headW ws.tail) : Int), [], [], 0⟩
  else if kindN (headW ws) = 9 then ⟨0, 9, (numN (headW ws.tail) : Int), (rdP ws.tail.tail.tail).1, (rdI (rdP ws.tail.tail.tail).2).1, 0⟩
  else if kindN (headW ws) = 10 then ⟨0, 10, 0, [], (rdI ws.tail.tail.tail).1, (numN (headW ws.tail) : Int)⟩
  else ⟨0, kindN (headW ws), 0, [], [], 0⟩
theorem rdP_words (ps : List Int) (rest : List (List UInt8)) (w : List UInt8) (hw : numB w = false) (h : ∀ n ∈ ps, okN n = true) : rdP (ps.map nw ++ w :: rest) = (ps, rest) := by
  induction ps with
  | nil => simp [rdP, hw]
  | cons n ps ih =>
    have h1 := h n (by simp)
    have := ih (fun x hx => h x (List.mem_cons_of_mem _ hx))
    simp only [List.map_cons, List.cons_append, rdP, nw_numB h1, if_true, this, nw_numN h1]
theorem placeN_of {k : Int} (h : pkB k = true) : placeN (placeOf k) = k := by
  simp [pkB] at h
  obtain rfl | rfl | rfl : k = 0 ∨ k = 1 ∨ k = 2 := by omega
  all_goals decide
theorem rdI_words (is : List Sn) (h : ∀ s ∈ is, snB s = true) : rdI (is.flatMap seenW) = (is, []) := by
  induction is with
  | nil => rfl
  | cons s is ih =>
    obtain ⟨h1, h2, h3⟩ := snB_parts (h s (by simp))
    have := ih (fun x hx => h x (List.mem_cons_of_mem _ hx))
    obtain ⟨a, b, c⟩ := s
    simp only at h1 h2 h3
    simp only [List.flatMap_cons, seenW, List.cons_append, List.nil_append, rdI, nw_numB h2, if_true, this, nw_numN h2, nw_numN h3, placeN_of h1]
theorem kind_back {k : Int} (h1 : 1 ≤ k) (h2 : k ≤ 10) : kindN (nameOf k) = k ∧ nameOf k ≠ sError := by
  obtain rfl | rfl | rfl | rfl | rfl | rfl | rfl | rfl | rfl | rfl : k = 1 ∨ k = 2 ∨ k = 3 ∨ k = 4 ∨ k = 5 ∨ k = 6 ∨ k = 7 ∨ k = 8 ∨ k = 9 ∨ k = 10 := by omega
  all_goals exact ⟨by decide, by decide⟩
theorem items_no : numB sItems = false := by decide
theorem read_rwords {r : Rp} (h : Fits r) : readR (rwords r) = r := by
  have ho := h.own
  obtain ⟨e, k, m, ps, is, c⟩ := r
  by_cases he : e = 0
  · subst he
    have hk := h.kind rfl
    simp only at hk
    obtain ⟨b1, b2⟩ := kind_back hk.1 hk.2
    by_cases k12 : k = 1 ∨ k = 2
    · simp only [ownR, k12, ne_eq, not_true, if_true, if_false, Rp.mk.injEq] at ho
      obtain ⟨-, -, -, rfl, rfl, rfl⟩ := ho
      have hm := nw_numN (n := m) h.room
      simp [rwords, k12, readR, headW, b1, b2, hm]
    · by_cases h9 : k = 9
      · subst h9
        simp only [ownR, ne_eq, not_true, if_true, if_false] at ho
        have hc : c = 0 := by simpa using ho
        subst hc
        have hm := nw_numN (n := m) h.room
        have hp := rdP_words ps (is.flatMap seenW) sItems items_no h.players
        have hi := rdI_words is h.items
        simp [rwords, readR, headW, b1, b2, hm, itemsW, hp, hi]
      · by_cases h10 : k = 10
        · subst h10
          simp only [ownR, ne_eq, not_true, if_true, if_false] at ho
          have hc : m = 0 ∧ ps = [] := by simpa using ho
          obtain ⟨rfl, rfl⟩ := hc
          have hm := nw_numN (n := c) h.coins
          have hi := rdI_words is h.items
          simp [rwords, readR, headW, b1, b2, hm, itemsW, hi]
        · simp only [ownR, k12, h9, h10, ne_eq, not_true, if_false, Rp.mk.injEq] at ho
          obtain ⟨-, -, rfl, rfl, rfl, rfl⟩ := ho
          simp [rwords, k12, h9, h10, readR, headW, b1, b2]
  · simp only [ownR, he, ne_eq, not_false_eq_true, if_true, Rp.mk.injEq] at ho
    obtain ⟨-, rfl, rfl, rfl, rfl, rfl⟩ := ho
    have hm := nw_numN (err_ok h)
    simp only at hm
    simp [rwords, he, readR, headW, hm]
/-- The same text, the same answer. -/
theorem text_inj {r q : Rp} (h1 : rmayB r = true) (h2 : rmayB q = true) (h : textR r = textR q) : r = q := by
  have := congrArg (fun t => readR (words t)) h
  simp only [words_textR (fits_of h1), words_textR (fits_of h2), read_rwords (fits_of h1), read_rwords (fits_of h2)] at this
  exact this
/-- What a text is read as: its answer, or that it is none's. -/
def GotR (l : List UInt8) (r : Rp) (n : Int) : Prop := (rmayB r = true ∧ textR r = l ∧ n = 0) ∨ (r = zeroR ∧ n = 2 ∧ ∀ q, rmayB q = true → textR q ≠ l)
theorem GotR.same {l : List UInt8} {r q : Rp} {n m : Int} (h : GotR l r n) (k : GotR l q m) : r = q ∧ n = m := by
  rcases h with ⟨a, b, rfl⟩ | ⟨rfl, rfl, a⟩ <;> rcases k with ⟨c, d, rfl⟩ | ⟨rfl, rfl, c⟩
  · exact ⟨text_inj a c (b.trans d.symm), rfl⟩
  · exact absurd b (c _ a)
  · exact absurd d (a _ c)
  · exact ⟨rfl, rfl⟩
/-- A guess that is right wherever there is one to be had. -/
theorem got_of {l : List UInt8} {g : Rp} (hg : ∀ q, rmayB q = true → textR q = l → g = q) : GotR l (if rmayB g && decide (textR g = l) then g else zeroR) (if rmayB g && decide (textR g = l) then 0 else 2) := by
  cases h : rmayB g && decide (textR g = l)
  · refine .inr ⟨by simp, by simp, fun q hq he => ?_⟩
    have := hg q hq he
    subst this
    rw [hq, decide_eq_true he] at h; cases h
  · simp only [Bool.and_eq_true, decide_eq_true_eq] at h
    exact .inl ⟨by simpa using h.1, by simpa using h.2, by simp⟩
theorem read_guess (l : List UInt8) (q : Rp) (h1 : rmayB q = true) (h2 : textR q = l) : readR (words l) = q := by
  subst h2
  rw [words_textR (fits_of h1), read_rwords (fits_of h1)]
end Go.Proofs.YtcabeagmdfpdlaaDoor
