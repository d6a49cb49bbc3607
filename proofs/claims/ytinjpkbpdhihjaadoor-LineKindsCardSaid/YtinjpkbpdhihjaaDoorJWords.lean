import Derived.Test.YtinjpkbpdhihjaaDoorRows
import Derived.Test.YtinjpkbpdhihjaaDoorKit
import Derived.Test.YtinjpkbpdhihjaaDoorStrs
import Derived.Test.YtinjpkbpdhihjaaDoorJMath
import Derived.Test.YtinjpkbpdhihjaaDoorJTokJoin
import Derived.Test.YtinjpkbpdhihjaaDoorJLinePut3
import Derived.WalkKit
import Derived.ProofKit
import Derived.OpenShut
import Derived.IntWalk
/- A command's words: how many, how long, plain. Plain mathematics. -/
namespace Go.Proofs.YtinjpkbpdhihjaaDoor
open Go.ChangeShapes Go.WideShapes Go.ChangeAt Go.RowKit
set_option linter.unusedVariables false
open Go.RowKit
theorem wd_len {n : Int} (h : okN n = true) : (wd n).length ≤ 10 := by
  apply Decidable.byContradiction; intro hn
  have := long_no (l := wd n) (by omega)
  rw [(wd_back h).1] at this; cases this
theorem dig_plain {l : List UInt8} (h : dig l = true) (h0 : l ≠ []) : plain l = true := by
  simp only [plain, Bool.and_eq_true, Bool.not_eq_true']
  refine ⟨by cases l with | nil => exact absurd rfl h0 | cons a b => rfl, ?_⟩
  simp only [dig, List.all_eq_true] at h
  rw [List.all_eq_true]
  intro x hx
  have := (isD_iff x).1 (h x hx)
  simp only [bne_iff_ne, ne_eq]
  intro e; rw [e] at this; simp at this
theorem wd_plain (n : Int) : plain (wd n) = true := by
  unfold wd
  obtain ⟨a, -, b, -⟩ := word_val n.toNat
  exact dig_plain a b
theorem way_plain {n : Int} (h : isDirB n = true) : plain (wayOf n) = true := by
  simp only [isDirB, Bool.and_eq_true, decide_eq_true_eq] at h
  have : n = 0 ∨ n = 1 ∨ n = 2 ∨ n = 3 := by omega
  rcases this with rfl | rfl | rfl | rfl <;> decide
theorem name_plain {n : Int} (h : isKindB n = true) : plain (nameOf n) = true := by
  rcases kinds h with rfl | rfl | rfl | rfl | rfl | rfl | rfl | rfl | rfl | rfl <;> decide
/-- Short, and plain. -/
def shortW (x : List UInt8) : Bool := plain x && decide (x.length ≤ 10)
theorem wd_short {n : Int} (h : okN n = true) : shortW (wd n) = true := by simp [shortW, wd_plain, wd_len h]
theorem side_short {l : List Int} (h : areB l = true) : ∀ x ∈ l.map wd, shortW x = true := by
  intro x hx
  obtain ⟨n, hn, rfl⟩ := List.mem_map.1 hx
  exact wd_short (List.all_eq_true.1 h n hn)
theorem words_short {c : Cm} (h : mayB c = true) : ∀ x ∈ wordsOf c, shortW x = true := by
  obtain ⟨hk, h2, h3, h4, h5, h6, h7, h8, h9, -, l1, l2⟩ := may_fields h
  have hn : shortW (nameOf c.kind) = true := by
    have := name_len c.kind
    simp [shortW, name_plain hk]; omega
  have hw : shortW (wayOf c.dir) = true := by
    have := way_len c.dir
    simp [shortW, way_plain h2]; omega
  have i3 := wd_short h3
  have i4 := wd_short h4
  have i5 := wd_short h5
  have i6 := wd_short h6
  have i7 := wd_short h7
  have i8 := side_short h8
  have i9 := side_short h9
  have k1 : shortW sIn = true := by decide
  have k2 : shortW sFrom = true := by decide
  have k3 : shortW sTo = true := by decide
  have k4 : shortW sGive = true := by decide
  have k5 : shortW sCoins = true := by decide
  have k6 : shortW sFor = true := by decide
  have hp : ∀ p ∈ partsOf c.kind, ∀ x ∈ putP c p, shortW x = true := by
    unfold partsOf
    repeat' split
    all_goals
      intro p hp x hx
      simp only [List.mem_cons, List.not_mem_nil, or_false] at hp
    all_goals
      first
        | (subst hp; simp only [putP, Kd.word, getF, List.mem_singleton] at hx; subst hx; assumption)
        | (rcases hp with rfl | rfl <;> simp only [putP, Kd.word, getF, List.mem_singleton] at hx <;> subst hx <;> assumption)
        | (rcases hp with rfl | rfl | rfl <;> simp only [putP, Kd.word, getF, List.mem_singleton] at hx <;> subst hx <;> assumption)
        | (rcases hp with rfl | rfl | rfl | rfl | rfl | rfl | rfl | rfl | rfl <;> first | exact i8 x hx | exact i9 x hx | (simp only [putP, Kd.word, getF, List.mem_singleton] at hx; subst hx; assumption))
  intro x hx
  rcases List.mem_cons.1 hx with rfl | hx
  · exact hn
  · obtain ⟨p, hp1, hp2⟩ := List.mem_flatMap.1 hx
    exact hp p hp1 x hp2
theorem words_plain_of {c : Cm} (h : mayB c = true) : ∀ x ∈ wordsOf c, plain x = true := fun x hx => by
  have := words_short h x hx
  simp only [shortW, Bool.and_eq_true] at this; exact this.1
/-- What is put of the first k pieces. -/
def putK (c : Cm) (pts : List Pt) (k : Nat) : List (List UInt8) := nameOf c.kind :: (pts.take k).flatMap (putP c)
theorem putK_succ (c : Cm) (pts : List Pt) (k : Nat) (h : k < pts.length) : putK c pts (k + 1) = putK c pts k ++ putP c pts[k] := by
  unfold putK
  rw [List.take_succ_eq_append_getElem h]; simp only [List.flatMap_append, List.flatMap_cons, List.flatMap_nil, List.append_nil, List.cons_append]
theorem putK_all (c : Cm) : putK c (partsOf c.kind) (partsOf c.kind).length = wordsOf c := by unfold putK wordsOf; rw [List.take_of_length_le (Nat.le_refl _)]
theorem parts_len (k : Int) : (partsOf k).length ≤ 9 := by
  unfold partsOf
  repeat' split
  all_goals simp
theorem flat_len {c : Cm} : ∀ {pts : List Pt}, (∀ p ∈ pts, fitP c p = true) → (pts.flatMap (putP c)).length ≤ 16 * pts.length
  | [], _ => by simp
  | p :: r, h => by
    have h1 := put_len (h p (by simp))
    have h2 := flat_len (fun q hq => h q (List.mem_cons_of_mem _ hq))
    rw [List.flatMap_cons, List.length_append, List.length_cons]; omega
theorem putK_len {c : Cm} (h : mayB c = true) (k : Nat) : (putK c (partsOf c.kind) k).length ≤ 145 := by
  have h1 := flat_len (c := c) (pts := (partsOf c.kind).take k) (fun p hp => may_fit h p (List.mem_of_mem_take hp))
  have h2 := parts_len c.kind
  have h3 : ((partsOf c.kind).take k).length ≤ (partsOf c.kind).length := List.length_take_le' _ _
  unfold putK; rw [List.length_cons]; omega
theorem sizes_short : ∀ {xs : List (List UInt8)}, (∀ x ∈ xs, shortW x = true) → sizes xs ≤ 11 * xs.length
  | [], _ => by simp [sizes]
  | x :: r, h => by
    have h1 := h x (by simp)
    have h2 := sizes_short (fun y hy => h y (List.mem_cons_of_mem _ hy))
    simp only [shortW, Bool.and_eq_true, decide_eq_true_eq] at h1
    simp only [sizes, List.map_cons, List.sum_cons, List.length_cons] at h2 ⊢
    omega
theorem words_sizes {c : Cm} (h : mayB c = true) : sizes (wordsOf c) ≤ 1595 ∧ (wordsOf c).length ≤ 145 := by
  have h1 := sizes_short (words_short h)
  have h2 := putK_len h (partsOf c.kind).length
  rw [putK_all] at h2
  omega
end Go.Proofs.YtinjpkbpdhihjaaDoor
/- What the document fixes of lines: plain mathematics. -/
namespace Go.Proofs.YtinjpkbpdhihjaaDoor
open Go.ChangeShapes Go.WideShapes Go.ChangeAt Go.RowKit
set_option linter.unusedVariables false
open Go.RowKit
def tradeC : Cm := ⟨8, 0, 0, 0, 2, [1, 2], 5, [], 0⟩
/-- A line's words as they are, whatever their bytes. -/
theorem line_words {xs : List (List UInt8)} (h : ∀ x ∈ xs, plain x = true) : words (glue xs) = xs := words_glue xs h
theorem trade_may : mayB tradeC = true := by decide
theorem trade_words : wordsOf tradeC = [[116, 114, 97, 100, 101], [50], [103, 105, 118, 101], [49], [50], [99, 111, 105, 110, 115], [53], [102, 111, 114], [99, 111, 105, 110, 115], [48]] := by
  have d : ∀ n, n < 10 → Lib.decDigits n = [UInt8.ofNat (48 + n)] := fun n hn => by rw [Lib.decDigits, dif_pos hn]
  simp [wordsOf, tradeC, partsOf, putP, getF, getL, Kd.word, wd, d, sGive, sCoins, sFor, nameOf, kindNames]
theorem trade_code : codeB [[116, 114, 97, 100, 101], [50], [103, 105, 118, 101], [49], [50], [99, 111, 105, 110, 115], [53], [102, 111, 114], [99, 111, 105, 110, 115], [48]] = true ∧ codeC [[116, 114, 97, 100, 101], [50], [103, 105, 118, 101], [49], [50], [99, 111, 105, 110, 115], [53], [102, 111, 114], [99, 111, 105, 110, 115], [48]] = tradeC := by
  rw [← trade_words]; exact code_complete trade_may
theorem trade_less : codeB [[116, 114, 97, 100, 101], [50], [103, 105, 118, 101], [49], [50], [99, 111, 105, 110, 115], [53], [102, 111, 114], [99, 111, 105, 110, 115]] = false := by decide
def westC : Cm := ⟨1, 3, 0, 0, 0, [], 0, [], 0⟩
theorem west_code : codeB [[109, 111, 118, 101], [119, 101, 115, 116]] = true ∧ codeC [[109, 111, 118, 101], [119, 101, 115, 116]] = westC := by
  have h : wordsOf westC = [[109, 111, 118, 101], [119, 101, 115, 116]] := by
    simp [wordsOf, westC, partsOf, putP, getF, Kd.word, wayOf, nameOf, kindNames, wayNames]
  rw [← h]; exact code_complete (by decide)
theorem west_more : codeB [[109, 111, 118, 101], [119, 101, 115, 116], [119, 101, 115, 116]] = false := by decide
end Go.Proofs.YtinjpkbpdhihjaaDoor
