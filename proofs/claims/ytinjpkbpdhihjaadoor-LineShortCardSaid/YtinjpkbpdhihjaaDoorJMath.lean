import Derived.Lib.ItoaNum
import Derived.Lib.Bytealg
import Derived.Test.YtinjpkbpdhihjaaDoorRows
import Derived.Test.YtinjpkbpdhihjaaDoorKit
import Derived.Test.YtinjpkbpdhihjaaDoorStrs
import Derived.WalkKit
import Derived.ProofKit
import Derived.OpenShut
import Derived.IntWalk
/- Bytes of lines: numbers' words and what they say; words between gaps. Plain mathematics. -/
namespace Go.Proofs.YtinjpkbpdhihjaaDoor

def isD (c : UInt8) : Bool := decide (48 ≤ c.toNat) && decide (c.toNat ≤ 57)
def dig (l : List UInt8) : Bool := l.all isD
def val (l : List UInt8) : Nat := l.foldl (fun a c => 10 * a + (c.toNat - 48)) 0
def zeroAhead (l : List UInt8) : Bool := decide (1 < l.length) && (l[0]? == some 48)
def numB (l : List UInt8) : Bool := !l.isEmpty && !zeroAhead l && dig l && decide (val l ≤ 1073741824)
def numN (l : List UInt8) : Nat := if numB l then val l else 0

theorem isD_iff (c : UInt8) : isD c = true ↔ 48 ≤ c.toNat ∧ c.toNat ≤ 57 := by simp [isD]
theorem val_snoc (l : List UInt8) (c : UInt8) : val (l ++ [c]) = 10 * val l + (c.toNat - 48) := by simp [val]
theorem dig_snoc (l : List UInt8) (c : UInt8) : dig (l ++ [c]) = (dig l && isD c) := by simp [dig]
theorem dig_append (l r : List UInt8) : dig (l ++ r) = (dig l && dig r) := by simp [dig]
/-- Induction over lists from the end. -/
theorem snoc_ind {α : Type} {P : List α → Prop} (h0 : P []) (h1 : ∀ l a, P l → P (l ++ [a])) (l : List α) : P l := by
  have : ∀ n (l : List α), l.length = n → P l := by
    intro n
    induction n with
    | zero => intro l h; rw [List.eq_nil_of_length_eq_zero h]; exact h0
    | succ n ih =>
      intro l h
      have hne : l ≠ [] := by intro e; subst e; simp at h
      rw [← List.dropLast_concat_getLast hne]
      exact h1 _ _ (ih _ (by simp [h]))
  exact this _ l rfl
theorem val_append_le (l r : List UInt8) : val l ≤ val (l ++ r) := by
  induction r using snoc_ind with
  | h0 => simp
  | h1 r c ih => rw [← List.append_assoc, val_snoc]; omega
theorem val_take_le (l : List UInt8) (k : Nat) : val (l.take k) ≤ val l := by
  have := val_append_le (l.take k) (l.drop k); rwa [List.take_append_drop] at this
theorem dig_take {l : List UInt8} (h : dig l = true) (k : Nat) : dig (l.take k) = true := by
  have := dig_append (l.take k) (l.drop k); rw [List.take_append_drop, h] at this; simp at this; exact this.1
theorem val_lt (l : List UInt8) (h : dig l = true) : val l < 10 ^ l.length := by
  induction l using snoc_ind with
  | h0 => simp [val]
  | h1 l c ih =>
    rw [dig_snoc, Bool.and_eq_true, isD_iff] at h
    have := ih h.1
    rw [val_snoc, List.length_append, List.length_singleton, Nat.pow_succ]; omega
theorem val_ge (l : List UInt8) (h : dig l = true) (h0 : l ≠ []) (hz : l[0]? ≠ some 48) : 10 ^ (l.length - 1) ≤ val l := by
  induction l using snoc_ind with
  | h0 => simp at h0
  | h1 l c ih =>
    rw [dig_snoc, Bool.and_eq_true, isD_iff] at h
    rw [val_snoc]
    by_cases hl : l = []
    · subst hl
      have : c ≠ 48 := by simpa using hz
      have : c.toNat ≠ 48 := fun e => this (UInt8.toNat_inj.1 (by rw [e]; rfl))
      simp [val]; omega
    · have hp : 0 < l.length := List.length_pos_iff.2 hl
      have := ih h.1 hl (by rwa [List.getElem?_append_left hp] at hz)
      have e : (l ++ [c]).length - 1 = (l.length - 1) + 1 := by simp; omega
      rw [e, Nat.pow_succ]; omega
theorem numB_iff (l : List UInt8) : numB l = true ↔ l ≠ [] ∧ zeroAhead l = false ∧ dig l = true ∧ val l ≤ 1073741824 := by
  simp [numB, and_assoc]
theorem numN_le (l : List UInt8) : numN l ≤ 1073741824 := by
  unfold numN; split
  · next h => exact ((numB_iff l).1 h).2.2.2
  · omega
theorem zeroAhead_iff (l : List UInt8) : zeroAhead l = true ↔ 1 < l.length ∧ l[0]? = some 48 := by simp [zeroAhead]
/-- A canonical numeral of more than ten digits is above the greatest. -/
theorem long_no {l : List UInt8} (h : 10 < l.length) : numB l = false := by
  rw [Bool.eq_false_iff]; intro hn
  obtain ⟨h0, hz, hd, hv⟩ := (numB_iff l).1 hn
  have hz' : l[0]? ≠ some 48 := fun e => by rw [(zeroAhead_iff l).2 ⟨by omega, e⟩] at hz; cases hz
  have := val_ge l hd h0 hz'
  have h2 : 10 ^ 10 ≤ 10 ^ (l.length - 1) := Nat.pow_le_pow_right (by omega) (by omega)
  omega
/-- What has read as nought has a 0 at its head. -/
theorem head_of_zero {l : List UInt8} (h : dig l = true) (h0 : l ≠ []) (hv : val l = 0) : l[0]? = some 48 := by
  apply Decidable.byContradiction; intro hz
  have := val_ge l h h0 hz
  have : 0 < 10 ^ (l.length - 1) := Nat.pow_pos (by omega)
  omega

/-! ### a number's word -/
theorem word_val (n : Nat) : dig (Lib.decDigits n) = true ∧ val (Lib.decDigits n) = n ∧ Lib.decDigits n ≠ [] ∧ (0 < n → (Lib.decDigits n)[0]? ≠ some 48) := by
  induction n using Nat.strongRecOn with
  | ind n ih =>
    rw [Lib.decDigits]
    by_cases h : n < 10
    · rw [dif_pos h]
      have e : (UInt8.ofNat (48 + n)).toNat = 48 + n := by simp; omega
      refine ⟨by simp [dig, isD]; omega, by simp [val]; omega, by simp, fun h0 => ?_⟩
      simp only [List.getElem?_cons_zero, ne_eq, Option.some.injEq]
      intro e2; rw [e2] at e; simp at e; omega
    · rw [dif_neg h]
      obtain ⟨i1, i2, i3, i4⟩ := ih (n / 10) (by omega)
      have e : (UInt8.ofNat (48 + n % 10)).toNat = 48 + n % 10 := by simp; omega
      refine ⟨by rw [dig_snoc, i1, Bool.true_and, isD_iff, e]; omega, by rw [val_snoc, i2, e]; omega, by simp, fun _ => ?_⟩
      rw [List.getElem?_append_left (List.length_pos_iff.2 i3)]
      exact i4 (by omega)
theorem word_short (n : Nat) (h : n < 10) : (Lib.decDigits n).length = 1 := by rw [Lib.decDigits, dif_pos h]; rfl
theorem word_numB {n : Nat} (h : n ≤ 1073741824) : numB (Lib.decDigits n) = true := by
  obtain ⟨i1, i2, i3, i4⟩ := word_val n
  refine (numB_iff _).2 ⟨i3, ?_, i1, by omega⟩
  rw [Bool.eq_false_iff]; intro hz
  obtain ⟨a, b⟩ := (zeroAhead_iff _).1 hz
  by_cases h0 : 0 < n
  · exact i4 h0 b
  · have := word_short n (by omega); omega
theorem word_numN {n : Nat} (h : n ≤ 1073741824) : numN (Lib.decDigits n) = n := by
  unfold numN; rw [if_pos (word_numB h)]; exact (word_val n).2.1
/-- The word of what a good word says is that word. -/
theorem word_of_val (l : List UInt8) (h0 : l ≠ []) (hz : zeroAhead l = false) (hd : dig l = true) : Lib.decDigits (val l) = l := by
  induction l using snoc_ind with
  | h0 => simp at h0
  | h1 l c ih =>
    have hd' := hd
    rw [dig_snoc, Bool.and_eq_true, isD_iff] at hd'
    rw [val_snoc]
    by_cases hl : l = []
    · subst hl
      rw [Lib.decDigits, dif_pos (by simp [val]; omega)]
      simp only [val, List.foldl_nil, List.nil_append, List.cons.injEq, and_true]
      exact UInt8.toNat_inj.1 (by simp; omega)
    · have hp : 0 < l.length := List.length_pos_iff.2 hl
      have hz1 : l[0]? ≠ some 48 := fun e => by
        rw [(zeroAhead_iff _).2 ⟨by simp; omega, by rw [List.getElem?_append_left hp]; exact e⟩] at hz; cases hz
      have hz2 : zeroAhead l = false := by rw [Bool.eq_false_iff]; intro k; exact hz1 ((zeroAhead_iff l).1 k).2
      have hge := val_ge l hd'.1 hl hz1
      have : 0 < 10 ^ (l.length - 1) := Nat.pow_pos (by omega)
      rw [Lib.decDigits, dif_neg (by omega)]
      have e1 : (10 * val l + (c.toNat - 48)) / 10 = val l := by omega
      have e2 : (10 * val l + (c.toNat - 48)) % 10 = c.toNat - 48 := by omega
      rw [e1, e2, ih hl hz2 hd'.1]
      congr 2
      exact UInt8.toNat_inj.1 (by simp; omega)
theorem word_of_num {l : List UInt8} (h : numB l = true) : Lib.decDigits (numN l) = l := by
  obtain ⟨a, b, c, d⟩ := (numB_iff l).1 h
  unfold numN; rw [if_pos h]; exact word_of_val l a b c

/-! ### lines and their words -/
/-- A line's parts between bytes 20. -/
def cuts : List UInt8 → List (List UInt8)
  | [] => [[]]
  | c :: l => if c = 32 then [] :: cuts l else match cuts l with
    | [] => [[c]]
    | h :: t => (c :: h) :: t
def full (x : List UInt8) : Bool := !x.isEmpty
def words (l : List UInt8) : List (List UInt8) := (cuts l).filter full
def plain (x : List UInt8) : Bool := !x.isEmpty && x.all (fun c => c != 32)
def glue : List (List UInt8) → List UInt8
  | [] => []
  | [x] => x
  | x :: y :: r => x ++ 32 :: glue (y :: r)

/-- A byte ahead of a line's parts. -/
def onto (c : UInt8) : List (List UInt8) → List (List UInt8)
  | [] => [[c]]
  | h :: t => (c :: h) :: t
theorem cuts_cons (c : UInt8) (l : List UInt8) : cuts (c :: l) = if c = 32 then [] :: cuts l else onto c (cuts l) := by
  rw [cuts]
  split
  · rfl
  · cases cuts l <;> rfl
theorem cuts_ne (l : List UInt8) : cuts l ≠ [] := by
  cases l with
  | nil => simp [cuts]
  | cons c l => unfold cuts; split; · simp
                split <;> simp
theorem cuts_clear (x : List UInt8) (h : x.all (fun c => c != 32) = true) : cuts x = [x] := by
  induction x with
  | nil => rfl
  | cons c l ih =>
    simp only [List.all_cons, Bool.and_eq_true, bne_iff_ne, ne_eq] at h
    unfold cuts; rw [if_neg h.1, ih (by simpa using h.2)]
theorem cuts_gap (x r : List UInt8) (h : x.all (fun c => c != 32) = true) : cuts (x ++ 32 :: r) = x :: cuts r := by
  induction x with
  | nil => simp [cuts]
  | cons c l ih =>
    simp only [List.all_cons, Bool.and_eq_true, bne_iff_ne, ne_eq] at h
    rw [List.cons_append, cuts_cons, if_neg h.1, ih (by simpa using h.2)]; rfl
theorem words_nil : words [] = [] := rfl
theorem words_gap (r : List UInt8) : words (32 :: r) = words r := by simp [words, cuts, full]
theorem words_word (x r : List UInt8) (h : plain x = true) (hr : r = [] ∨ r[0]? = some 32) : words (x ++ r) = x :: words r := by
  simp only [plain, Bool.and_eq_true, Bool.not_eq_true'] at h
  rcases hr with rfl | hr
  · rw [List.append_nil]; simp only [words]; rw [cuts_clear x h.2]; simp [full, h.1, cuts]
  · obtain ⟨r', rfl⟩ : ∃ r', r = 32 :: r' := by cases r with
      | nil => simp at hr
      | cons a b => simp at hr; exact ⟨b, by rw [hr]⟩
    simp only [words]; rw [cuts_gap x r' h.2]; simp [full, h.1, cuts]
/-- Where the first part ends. -/
theorem index_part (l : List UInt8) :
    (Lib.indexByte l 32 = -1 ∧ l.all (fun c => c != 32) = true) ∨ (∃ i : Nat, Lib.indexByte l 32 = i ∧ i < l.length ∧ (l.take i).all (fun c => c != 32) = true ∧ l = l.take i ++ 32 :: l.drop (i + 1)) := by
  induction l with
  | nil => left; simp [Lib.indexByte]
  | cons b l ih =>
    unfold Lib.indexByte
    by_cases hb : b = 32
    · subst hb; right; exact ⟨0, by simp, by simp, by simp, by simp⟩
    · rw [if_neg (by simpa using hb)]
      rcases ih with ⟨e, ha⟩ | ⟨i, e, hi, ha, hl⟩
      · left; rw [e]; simp at ha ⊢; exact ⟨hb, ha⟩
      · right
        refine ⟨i + 1, by rw [e, if_neg (by simp)]; rfl, by simp; omega, ?_, ?_⟩
        · simp at ha ⊢; exact ⟨hb, ha⟩
        · simp only [List.take_succ_cons, List.cons_append, List.drop_succ_cons]; rw [← hl]
theorem cuts_plain (l : List UInt8) : ∀ x ∈ cuts l, x.all (fun c => c != 32) = true := by
  induction l with
  | nil => simp [cuts]
  | cons c l ih =>
    unfold cuts
    split
    · intro x hx; simp at hx; rcases hx with rfl | hx
      · rfl
      · exact ih x hx
    · next hc =>
      cases hq : cuts l with
      | nil => exact absurd hq (cuts_ne l)
      | cons h t =>
        rw [hq] at ih
        intro x hx; simp only [List.mem_cons] at hx
        rcases hx with rfl | hx
        · have := ih h (by simp); simp at this ⊢; exact ⟨hc, this⟩
        · exact ih x (by simp [hx])
theorem words_plain (l : List UInt8) : ∀ x ∈ words l, plain x = true := by
  intro x hx
  obtain ⟨h1, h2⟩ := List.mem_filter.1 hx
  simp only [plain, Bool.and_eq_true]; exact ⟨h2, cuts_plain l x h1⟩
theorem cuts_append_gap (a b : List UInt8) : cuts (a ++ 32 :: b) = cuts a ++ cuts b := by
  induction a with
  | nil => simp [cuts]
  | cons c l ih =>
    rw [List.cons_append, cuts_cons, cuts_cons]
    split
    · rw [ih]; rfl
    · rw [ih]
      cases hq : cuts l with
      | nil => exact absurd hq (cuts_ne l)
      | cons h t => rfl
theorem words_both (a b : List UInt8) : words (a ++ 32 :: b) = words a ++ words b := by simp only [words, cuts_append_gap, List.filter_append]
theorem words_glue (ws : List (List UInt8)) (h : ∀ x ∈ ws, plain x = true) : words (glue ws) = ws := by
  induction ws with
  | nil => rfl
  | cons x r ih =>
    cases r with
    | nil =>
      have := words_word x [] (h x (by simp)) (.inl rfl)
      rw [List.append_nil] at this; simpa [glue, words_nil] using this
    | cons y r =>
      have h1 := ih (fun z hz => h z (by simp [hz]))
      show words (x ++ 32 :: glue (y :: r)) = _
      rw [words_word x _ (h x (by simp)) (.inr rfl), words_gap, h1]
/-- Without a gap: as many words, or one less. -/
theorem cuts_append (a b : List UInt8) : ∃ i x y t, cuts a = i ++ [x] ∧ cuts b = y :: t ∧ cuts (a ++ b) = i ++ (x ++ y) :: t := by
  obtain ⟨y, t, hb⟩ : ∃ y t, cuts b = y :: t := by
    cases hq : cuts b with
    | nil => exact absurd hq (cuts_ne b)
    | cons y t => exact ⟨y, t, rfl⟩
  induction a with
  | nil => exact ⟨[], [], y, t, rfl, hb, by simpa using hb⟩
  | cons c l ih =>
    obtain ⟨i, x, y', t', h1, h2, h3⟩ := ih
    rw [hb] at h2; obtain ⟨rfl, rfl⟩ := List.cons.inj h2
    rw [List.cons_append]
    simp only [cuts]
    by_cases hc : c = 32
    · rw [if_pos hc, if_pos hc, h1, h3]; exact ⟨[] :: i, x, y, t, rfl, hb, rfl⟩
    · rw [if_neg hc, if_neg hc, h1, h3]
      cases i with
      | nil => exact ⟨[], c :: x, y, t, rfl, hb, rfl⟩
      | cons z i => exact ⟨(c :: z) :: i, x, y, t, rfl, hb, rfl⟩
theorem words_append_length (a b : List UInt8) : (words (a ++ b)).length = (words a).length + (words b).length ∨
    ((words (a ++ b)).length + 1 = (words a).length + (words b).length ∧ words a ≠ [] ∧ words b ≠ []) := by
  obtain ⟨i, x, y, t, h1, h2, h3⟩ := cuts_append a b
  simp only [words, h1, h2, h3, List.filter_append, List.filter_cons, List.filter_nil]
  cases x with
  | nil =>
    left
    cases y <;> simp [full] <;> omega
  | cons p x =>
    cases y with
    | nil => left; simp [full]; omega
    | cons q y => right; simp [full]; omega
end Go.Proofs.YtinjpkbpdhihjaaDoor
/- Commands: whether they may be, and are the same: plain mathematics. -/
namespace Go.Proofs.YtinjpkbpdhihjaaDoor
open Go.ChangeShapes Go.WideShapes Go.ChangeAt Go.RowKit
set_option linter.unusedVariables false
open Go.RowKit

/-- A command's fields. -/
structure Cm where
  kind : Int
  dir : Int
  item : Int
  box : Int
  who : Int
  gives : List Int
  pay : Int
  wants : List Int
  fee : Int

def okN (n : Int) : Bool := decide (0 ≤ n) && decide (n ≤ 1073741824)
def isKindB (n : Int) : Bool := decide (1 ≤ n) && decide (n ≤ 10)
def isDirB (n : Int) : Bool := decide (0 ≤ n) && decide (n < 4)
def areB (xs : List Int) : Bool := xs.all okN
def sideB (xs : List Int) : Bool := decide (xs.length ≤ 16) && areB xs
def withinB (c : Cm) : Bool := isDirB c.dir && areB [c.item, c.box, c.who, c.pay, c.fee] && sideB c.gives && sideB c.wants
def numsB (a b : Cm) : Bool := decide (a.kind = b.kind ∧ a.dir = b.dir ∧ a.item = b.item ∧ a.box = b.box ∧ a.who = b.who ∧ a.pay = b.pay ∧ a.fee = b.fee)
def sameB (a b : Cm) : Bool := numsB a b && decide (a.gives = b.gives) && decide (a.wants = b.wants)
def keep (k : Int) (ks : List Int) (n : Int) : Int := if k ∈ ks then n else 0
def keepL (k : Int) (xs : List Int) : List Int := if k = 8 then xs else []
/-- A command with the fields alone that its kind has. -/
def ownC (c : Cm) : Cm :=
  ⟨c.kind, keep c.kind [1, 2] c.dir, keep c.kind [3, 4, 5, 6, 7] c.item, keep c.kind [5, 6] c.box, keep c.kind [2, 7, 8] c.who, keepL c.kind c.gives, keep c.kind [8] c.pay, keepL c.kind c.wants, keep c.kind [8] c.fee⟩
/-- By the code: may it be? -/
def mayB (c : Cm) : Bool := isKindB c.kind && withinB c && sameB c (ownC c)

def fitB (n : Int) (has : Bool) : Bool := if has then okN n else decide (n = 0)
def rowB (xs : List Int) (has : Bool) : Bool := if has then areB xs && decide (xs.length ≤ 16) else decide (xs.length = 0)
def headB (c : Cm) : Bool := isKindB c.kind && isDirB c.dir && (decide (c.dir = 0) || decide (c.kind ≤ 2))
def has (k : Int) (ks : List Int) : Bool := decide (k ∈ ks)
/-- By the document's definition: may it be? -/
def refMayB (c : Cm) : Bool :=
  headB c && fitB c.item (has c.kind [3, 4, 5, 6, 7]) && fitB c.box (has c.kind [5, 6]) && fitB c.who (has c.kind [2, 7, 8]) && fitB c.pay (has c.kind [8]) && fitB c.fee (has c.kind [8]) && rowB c.gives (has c.kind [8]) && rowB c.wants (has c.kind [8])

theorem sameB_iff (a b : Cm) : sameB a b = true ↔ a = b := by
  obtain ⟨a1, a2, a3, a4, a5, a6, a7, a8, a9⟩ := a
  obtain ⟨b1, b2, b3, b4, b5, b6, b7, b8, b9⟩ := b
  simp [sameB, numsB]
  constructor
  · rintro ⟨⟨⟨rfl, rfl, rfl, rfl, rfl, rfl, rfl⟩, rfl⟩, rfl⟩; simp
  · rintro ⟨rfl, rfl, rfl, rfl, rfl, rfl, rfl, rfl, rfl⟩; simp
theorem sameB_refl (a : Cm) : sameB a a = true := (sameB_iff a a).2 rfl
theorem kinds {k : Int} (h : isKindB k = true) : k = 1 ∨ k = 2 ∨ k = 3 ∨ k = 4 ∨ k = 5 ∨ k = 6 ∨ k = 7 ∨ k = 8 ∨ k = 9 ∨ k = 10 := by
  simp [isKindB] at h; omega
theorem may_eq (c : Cm) : mayB c = refMayB c := by
  cases hk : isKindB c.kind
  · simp [mayB, refMayB, headB, hk]
  · obtain ⟨k, a2, a3, a4, a5, a6, a7, a8, a9⟩ := c
    simp only at hk
    rw [Bool.eq_iff_iff]
    rcases kinds hk with rfl | rfl | rfl | rfl | rfl | rfl | rfl | rfl | rfl | rfl
    all_goals
      simp [mayB, refMayB, headB, isKindB, withinB, sameB, numsB, ownC, keep, keepL, fitB, rowB, has, areB, okN, sideB, isDirB]
      by_cases e6 : a6 = [] <;> by_cases e8 : a8 = [] <;> (try subst e6) <;> (try subst e8) <;> first | (simp [*]; omega) | grind
end Go.Proofs.YtinjpkbpdhihjaaDoor
/- The names of kinds and ways: plain mathematics. -/
namespace Go.Proofs.YtinjpkbpdhihjaaDoor
open Go.ChangeShapes Go.WideShapes Go.ChangeAt Go.RowKit
set_option linter.unusedVariables false
open Go.RowKit
def kindNames : List (List UInt8) := [[109, 111, 118, 101], [112, 117, 115, 104], [103, 101, 116], [100, 114, 111, 112], [112, 117, 116], [116, 97, 107, 101], [103, 105, 118, 101], [116, 114, 97, 100, 101], [108, 111, 111, 107], [111, 119, 110]]
def wayNames : List (List UInt8) := [[110, 111, 114, 116, 104], [101, 97, 115, 116], [115, 111, 117, 116, 104], [119, 101, 115, 116]]
def nameOf (n : Int) : List UInt8 := if 1 ≤ n ∧ n ≤ 10 then kindNames.getD (n - 1).toNat [] else []
def wayOf (n : Int) : List UInt8 := if 0 ≤ n ∧ n < 4 then wayNames.getD n.toNat [] else []
/-- Where a text stands in a table. -/
def posN (ss : List (List UInt8)) (x : List UInt8) : Nat := ss.idxOf x
def kindB (x : List UInt8) : Bool := decide (x ∈ kindNames)
def kindN (x : List UInt8) : Int := if kindB x then (posN kindNames x : Int) + 1 else 0
def dirB (x : List UInt8) : Bool := decide (x ∈ wayNames)
def dirN (x : List UInt8) : Int := if dirB x then (posN wayNames x : Int) else 0
theorem posN_at {ss : List (List UInt8)} {k : Nat} (h : k < ss.length) (hn : ss.getD k [] ∉ ss.take k) : posN ss (ss.getD k []) = k := by
  unfold posN
  induction ss generalizing k with
  | nil => simp at h
  | cons a ss ih =>
    cases k with
    | zero => simp
    | succ k =>
      simp only [List.getD_cons_succ, List.take_succ_cons, List.mem_cons, not_or] at hn ⊢
      rw [List.idxOf_cons]
      have := ih (k := k) (by simpa using h) hn.2
      rw [this, show (a == ss.getD k []) = false by simpa using fun e => hn.1 e.symm]
      rfl
theorem mem_getD {ss : List (List UInt8)} {k : Nat} (h : k < ss.length) : ss.getD k [] ∈ ss := by
  simp [List.getD, List.getElem?_eq_getElem h]
theorem not_mem_succ {ss : List (List UInt8)} {k : Nat} {x : List UInt8} (h : k < ss.length) (h1 : x ∉ ss.take k) (h2 : ¬ ss.getD k [] = x) : x ∉ ss.take (k + 1) := by
  rw [List.take_succ_eq_append_getElem h]
  simp [List.getD, List.getElem?_eq_getElem h] at h2
  simp only [List.mem_append, List.mem_singleton, not_or]
  exact ⟨h1, fun e => h2 e.symm⟩
theorem kind_hit {k : Nat} (h : k < 10) (hn : kindNames.getD k [] ∉ kindNames.take k) : kindN (kindNames.getD k []) = (k : Int) + 1 ∧ kindB (kindNames.getD k []) = true := by
  have hm : kindNames.getD k [] ∈ kindNames := mem_getD (by simpa [kindNames] using h)
  have hb : kindB (kindNames.getD k []) = true := by unfold kindB; exact decide_eq_true hm
  exact ⟨by unfold kindN; rw [hb, posN_at (by simpa [kindNames] using h) hn]; rfl, hb⟩
theorem kind_miss {x : List UInt8} (h : x ∉ kindNames.take 10) : kindN x = 0 ∧ kindB x = false := by
  have hb : kindB x = false := by unfold kindB; exact decide_eq_false h
  exact ⟨by unfold kindN; rw [hb]; rfl, hb⟩
theorem dir_hit {k : Nat} (h : k < 4) (hn : wayNames.getD k [] ∉ wayNames.take k) : dirN (wayNames.getD k []) = (k : Int) ∧ dirB (wayNames.getD k []) = true := by
  have hm : wayNames.getD k [] ∈ wayNames := mem_getD (by simpa [wayNames] using h)
  have hb : dirB (wayNames.getD k []) = true := by unfold dirB; exact decide_eq_true hm
  exact ⟨by unfold dirN; rw [hb, posN_at (by simpa [wayNames] using h) hn]; rfl, hb⟩
theorem dir_miss {x : List UInt8} (h : x ∉ wayNames.take 4) : dirN x = 0 ∧ dirB x = false := by
  have hb : dirB x = false := by unfold dirB; exact decide_eq_false h
  exact ⟨by unfold dirN; rw [hb]; rfl, hb⟩
theorem nameOf_succ {k : Nat} (h : k < 10) : nameOf ((k : Int) + 1) = kindNames.getD k [] := by
  unfold nameOf; rw [if_pos (by omega)]; congr 1; omega
theorem wayOf_nat {k : Nat} (h : k < 4) : wayOf (k : Int) = wayNames.getD k [] := by
  unfold wayOf; rw [if_pos (by omega)]; rfl
/-- A name's number has that name. -/
theorem name_kind {x : List UInt8} (h : kindB x = true) : nameOf (kindN x) = x := by
  have hm : x ∈ kindNames := of_decide_eq_true h
  simp only [kindNames, List.mem_cons, List.not_mem_nil, or_false] at hm
  rcases hm with rfl | rfl | rfl | rfl | rfl | rfl | rfl | rfl | rfl | rfl <;> decide
theorem way_dir {x : List UInt8} (h : dirB x = true) : wayOf (dirN x) = x := by
  have hm : x ∈ wayNames := of_decide_eq_true h
  simp only [wayNames, List.mem_cons, List.not_mem_nil, or_false] at hm
  rcases hm with rfl | rfl | rfl | rfl <;> decide
theorem name_len (n : Int) : (nameOf n).length ≤ 5 := by
  unfold nameOf
  split
  · rename_i h
    have : (n - 1).toNat < 10 := by omega
    generalize (n - 1).toNat = k at *
    match k, this with
    | 0, _ | 1, _ | 2, _ | 3, _ | 4, _ | 5, _ | 6, _ | 7, _ | 8, _ | 9, _ => decide
  · decide
theorem way_len (n : Int) : (wayOf n).length ≤ 5 := by
  unfold wayOf
  split
  · rename_i h
    have : n.toNat < 4 := by omega
    generalize n.toNat = k at *
    match k, this with
    | 0, _ | 1, _ | 2, _ | 3, _ => decide
  · decide
end Go.Proofs.YtinjpkbpdhihjaaDoor
/- Commands' words, and commands that are read of words: plain mathematics. -/
namespace Go.Proofs.YtinjpkbpdhihjaaDoor
open Go.ChangeShapes Go.WideShapes Go.ChangeAt Go.RowKit
set_option linter.unusedVariables false
open Go.RowKit
def wd (n : Int) : List UInt8 := Lib.decDigits n.toNat
def sIn : List UInt8 := [105, 110]
def sFrom : List UInt8 := [102, 114, 111, 109]
def sTo : List UInt8 := [116, 111]
def sGive : List UInt8 := [103, 105, 118, 101]
def sCoins : List UInt8 := [99, 111, 105, 110, 115]
def sFor : List UInt8 := [102, 111, 114]
/-- A command's fields of one number. -/
inductive Fd where
  | kind | dir | item | box | who | pay | fee
  deriving DecidableEq
/-- What a number is said by. -/
inductive Kd where
  | name | way | num
  deriving DecidableEq
/-- A piece of a command's words. -/
inductive Pt where
  | one (k : Kd) (f : Fd)
  | word (x : List UInt8)
  | nums (g : Bool)
def getF (c : Cm) : Fd → Int
  | .kind => c.kind | .dir => c.dir | .item => c.item | .box => c.box | .who => c.who | .pay => c.pay | .fee => c.fee
def setF (c : Cm) (n : Int) : Fd → Cm
  | .kind => { c with kind := n } | .dir => { c with dir := n } | .item => { c with item := n } | .box => { c with box := n } | .who => { c with who := n } | .pay => { c with pay := n } | .fee => { c with fee := n }
def getL (c : Cm) (g : Bool) : List Int := if g then c.gives else c.wants
def setL (c : Cm) (g : Bool) (l : List Int) : Cm := if g then { c with gives := l } else { c with wants := l }
def Kd.word : Kd → Int → List UInt8
  | .name => nameOf | .way => wayOf | .num => wd
def Kd.n : Kd → List UInt8 → Int
  | .name => kindN | .way => dirN | .num => fun l => (numN l : Int)
def Kd.b : Kd → List UInt8 → Bool
  | .name => kindB | .way => dirB | .num => numB
theorem wd_num {w : List UInt8} (h : numB w = true) : wd (numN w : Int) = w := by
  unfold wd; rw [Int.toNat_natCast]; exact word_of_num h
theorem kd_word {k : Kd} {w : List UInt8} (h : k.b w = true) : k.word (k.n w) = w := by
  cases k
  · exact name_kind h
  · exact way_dir h
  · exact wd_num h
def putP (c : Cm) : Pt → List (List UInt8)
  | .one k f => [k.word (getF c f)]
  | .word x => [x]
  | .nums g => (getL c g).map wd
def takeP (c : Cm) (ws : List (List UInt8)) : Pt → Cm × List (List UInt8) × Bool
  | .one k f => match ws with
    | [] => (c, [], false)
    | w :: r => (setF c (k.n w) f, r, k.b w)
  | .word x => match ws with
    | [] => (c, [], false)
    | w :: r => if w = x then (c, r, true) else (c, [], false)
  | .nums g => (setL c g (getL c g ++ (ws.takeWhile numB).map fun w => (numN w : Int)), ws.dropWhile numB, true)
def partsOf (k : Int) : List Pt :=
  if k = 1 then [.one .way .dir] else
  if k = 2 then [.one .num .who, .one .way .dir] else
  if k = 3 then [.one .num .item] else
  if k = 4 then [.one .num .item] else
  if k = 5 then [.one .num .item, .word sIn, .one .num .box] else
  if k = 6 then [.one .num .item, .word sFrom, .one .num .box] else
  if k = 7 then [.one .num .item, .word sTo, .one .num .who] else
  if k = 8 then [.one .num .who, .word sGive, .nums true, .word sCoins, .one .num .pay, .word sFor, .nums false, .word sCoins, .one .num .fee] else []
def runP (c : Cm) (ws : List (List UInt8)) : List Pt → Cm × List (List UInt8) × Bool
  | [] => (c, ws, true)
  | p :: r => if (takeP c ws p).2.2 then runP (takeP c ws p).1 (takeP c ws p).2.1 r else takeP c ws p
/-- A command's words. -/
def wordsOf (c : Cm) : List (List UInt8) := nameOf c.kind :: (partsOf c.kind).flatMap (putP c)
def zeroC : Cm := ⟨0, 0, 0, 0, 0, [], 0, [], 0⟩
/-- By the code: the command of a line's words. -/
def readC (ws : List (List UInt8)) : Cm × List (List UInt8) × Bool :=
  if (takeP zeroC ws (.one .name .kind)).2.2 then runP (takeP zeroC ws (.one .name .kind)).1 (takeP zeroC ws (.one .name .kind)).2.1 (partsOf (takeP zeroC ws (.one .name .kind)).1.kind) else takeP zeroC ws (.one .name .kind)
def readB (ws : List (List UInt8)) : Bool := (readC ws).2.2 && decide ((readC ws).2.1 = [])
def codeB (ws : List (List UInt8)) : Bool := readB ws && mayB (readC ws).1
def codeC (ws : List (List UInt8)) : Cm := if codeB ws then (readC ws).1 else zeroC

/-! ### what is taken is what would be put -/
def Pt.key : Pt → Nat
  | .one _ .kind => 1 | .one _ .dir => 2 | .one _ .item => 3 | .one _ .box => 4 | .one _ .who => 5 | .one _ .pay => 6 | .one _ .fee => 7
  | .word _ => 0
  | .nums true => 8 | .nums false => 9
theorem putP_other (c : Cm) (ws : List (List UInt8)) (p q : Pt) (h : p.key ≠ q.key ∨ q.key = 0) : putP (takeP c ws p).1 q = putP c q := by
  cases p with
  | one k f =>
    cases ws with
    | nil => rfl
    | cons w r =>
      cases q with
      | one k2 f2 => cases f <;> cases f2 <;> first | rfl | (simp [Pt.key] at h)
      | word x => rfl
      | nums g => cases f <;> rfl
  | word x =>
    cases ws with
    | nil => rfl
    | cons w r => simp only [takeP]; split <;> rfl
  | nums g =>
    cases q with
    | one k2 f2 => cases g <;> cases f2 <;> rfl
    | word x => rfl
    | nums g2 => cases g <;> cases g2 <;> first | rfl | (simp [Pt.key] at h)
theorem getL_other (c : Cm) (ws : List (List UInt8)) (p : Pt) (g : Bool) (h : p.key ≠ (Pt.nums g).key) : getL (takeP c ws p).1 g = getL c g := by
  cases p with
  | one k f =>
    cases ws with
    | nil => rfl
    | cons w r => cases f <;> rfl
  | word x =>
    cases ws with
    | nil => rfl
    | cons w r => simp only [takeP]; split <;> rfl
  | nums g2 => cases g <;> cases g2 <;> first | rfl | (simp [Pt.key] at h)
theorem getF_setF (c : Cm) (n : Int) (f : Fd) : getF (setF c n f) f = n := by cases f <;> rfl
theorem getL_setL (c : Cm) (g : Bool) (l : List Int) : getL (setL c g l) g = l := by cases g <;> rfl
theorem numbers_back (ws : List (List UInt8)) : ((ws.takeWhile numB).map fun w => (numN w : Int)).map wd = ws.takeWhile numB := by
  induction ws with
  | nil => rfl
  | cons w r ih =>
    rw [List.takeWhile_cons]
    cases h : numB w
    · simp
    · simp only [if_true, List.map_cons, ih, wd_num h]
theorem takeP_sound (c : Cm) (ws : List (List UInt8)) (p : Pt) (hl : ∀ g, p = .nums g → getL c g = []) (h : (takeP c ws p).2.2 = true) : ws = putP (takeP c ws p).1 p ++ (takeP c ws p).2.1 := by
  cases p with
  | one k f =>
    cases ws with
    | nil => simp [takeP] at h
    | cons w r =>
      have h2 : k.b w = true := h
      show w :: r = [k.word (getF (setF c (k.n w) f) f)] ++ r
      rw [getF_setF, kd_word h2]; rfl
  | word x =>
    cases ws with
    | nil => simp [takeP] at h
    | cons w r =>
      simp only [takeP] at h ⊢
      split at h
      · rename_i e; subst e; simp [putP]
      · simp at h
  | nums g =>
    show ws = (getL (setL c g _) g).map wd ++ ws.dropWhile numB
    rw [getL_setL, hl g rfl, List.nil_append, numbers_back, List.takeWhile_append_dropWhile]
/-- No two pieces are of one field. -/
def apart : List Pt → Bool
  | [] => true
  | p :: r => (r.all fun q => decide (p.key ≠ q.key ∨ q.key = 0)) && apart r
theorem runP_other (pts : List Pt) (c : Cm) (ws : List (List UInt8)) (q : Pt) (h : ∀ p ∈ pts, p.key ≠ q.key ∨ q.key = 0) : putP (runP c ws pts).1 q = putP c q := by
  induction pts generalizing c ws with
  | nil => rfl
  | cons p r ih =>
    rw [runP]
    split
    · rw [ih _ _ (fun p' hp => h p' (by simp [hp])), putP_other _ _ _ _ (h p (by simp))]
    · exact putP_other _ _ _ _ (h p (by simp))
theorem runP_sound (pts : List Pt) (c : Cm) (ws : List (List UInt8)) (ha : apart pts = true) (hl : ∀ g, .nums g ∈ pts → getL c g = []) (h : (runP c ws pts).2.2 = true) :
    ws = pts.flatMap (putP (runP c ws pts).1) ++ (runP c ws pts).2.1 := by
  induction pts generalizing c ws with
  | nil => rfl
  | cons p r ih =>
    simp only [apart, Bool.and_eq_true, List.all_eq_true, decide_eq_true_eq] at ha
    rw [runP] at h ⊢
    split at h
    · rename_i ht
      rw [if_pos ht]
      have h1 := takeP_sound c ws p (fun g e => hl g (by simp [e])) ht
      have h2 := ih (takeP c ws p).1 (takeP c ws p).2.1 ha.2 (fun g hg => by
        have hk := ha.1 (.nums g) hg
        rw [getL_other c ws p g (by rcases hk with hk | hk; exact hk; cases g <;> simp [Pt.key] at hk)]
        exact hl g (by simp [hg])) h
      have h3 : putP (runP (takeP c ws p).1 (takeP c ws p).2.1 r).1 p = putP (takeP c ws p).1 p := by
        by_cases hk : p.key = 0
        · exact runP_other r _ _ p (fun q hq => .inr hk)
        · refine runP_other r _ _ p (fun q hq => .inl ?_)
          rcases ha.1 q hq with e | e
          · exact fun e2 => e e2.symm
          · intro e2; omega
      rw [List.flatMap_cons, h3, List.append_assoc, ← h2]
      exact h1
    · rename_i ht
      exact absurd h ht
theorem parts_apart (k : Int) : apart (partsOf k) = true ∧ ∀ p ∈ partsOf k, p.key ≠ 1 := by
  unfold partsOf
  repeat' split
  all_goals exact ⟨by decide, by simp [Pt.key]⟩
theorem kind_of_run (k : Int) (c : Cm) (ws : List (List UInt8)) : (runP c ws (partsOf k)).1.kind = c.kind := by
  have : ∀ (pts : List Pt) (c : Cm) (ws : List (List UInt8)), (∀ p ∈ pts, p.key ≠ 1) → (runP c ws pts).1.kind = c.kind := by
    intro pts
    induction pts with
    | nil => intros; rfl
    | cons p r ih =>
      intro c ws h
      have h1 : (takeP c ws p).1.kind = c.kind := by
        have hp := h p (by simp)
        cases p with
        | one k f => cases ws with
          | nil => rfl
          | cons w r => cases f <;> first | rfl | (simp [Pt.key] at hp)
        | word x => cases ws with
          | nil => rfl
          | cons w r => simp only [takeP]; split <;> rfl
        | nums g => cases g <;> rfl
      rw [runP]
      split
      · rw [ih _ _ (fun q hq => h q (by simp [hq])), h1]
      · exact h1
  exact this _ c ws (parts_apart k).2
theorem read_sound (ws : List (List UInt8)) (h : readB ws = true) : wordsOf (readC ws).1 = ws := by
  simp only [readB, Bool.and_eq_true, decide_eq_true_eq] at h
  obtain ⟨h1, h2⟩ := h
  unfold readC at h1 h2 ⊢
  cases ws with
  | nil => simp [takeP] at h1
  | cons w r =>
    split at h1
    · rename_i ht
      rw [if_pos ht] at h2 ⊢
      have hb : kindB w = true := ht
      have e0 : takeP zeroC (w :: r) (.one .name .kind) = (setF zeroC (kindN w) .kind, r, kindB w) := rfl
      rw [e0] at h1 h2 ⊢
      have hs := runP_sound (partsOf (kindN w)) (setF zeroC (kindN w) .kind) r (parts_apart _).1 (fun g _ => by cases g <;> rfl) h1
      have hk : (runP (setF zeroC (kindN w) .kind) r (partsOf (kindN w))).1.kind = kindN w := kind_of_run _ _ _
      unfold wordsOf
      show nameOf (runP (setF zeroC (kindN w) .kind) r (partsOf (kindN w))).1.kind :: (partsOf (runP (setF zeroC (kindN w) .kind) r (partsOf (kindN w))).1.kind).flatMap (putP (runP (setF zeroC (kindN w) .kind) r (partsOf (kindN w))).1) = w :: r
      rw [hk, name_kind hb]
      have h2' : (runP (setF zeroC (kindN w) .kind) r (partsOf (kindN w))).2.1 = [] := h2
      rw [h2', List.append_nil] at hs
      rw [← hs]
    · rename_i ht
      exact absurd h1 ht

/-! ### what is put is taken as it was -/
theorem wd_back {n : Int} (h : okN n = true) : numB (wd n) = true ∧ (numN (wd n) : Int) = n := by
  simp only [okN, Bool.and_eq_true, decide_eq_true_eq] at h
  unfold wd
  refine ⟨word_numB (by omega), ?_⟩
  rw [word_numN (by omega)]; omega
theorem way_back {n : Int} (h : isDirB n = true) : dirB (wayOf n) = true ∧ dirN (wayOf n) = n := by
  simp only [isDirB, Bool.and_eq_true, decide_eq_true_eq] at h
  have : n = 0 ∨ n = 1 ∨ n = 2 ∨ n = 3 := by omega
  rcases this with rfl | rfl | rfl | rfl <;> decide
theorem name_back {n : Int} (h : isKindB n = true) : kindB (nameOf n) = true ∧ kindN (nameOf n) = n := by
  rcases kinds h with rfl | rfl | rfl | rfl | rfl | rfl | rfl | rfl | rfl | rfl <;> decide
theorem side_back {l : List Int} {x : List UInt8} {r : List (List UInt8)} (h : areB l = true) (hx : numB x = false) :
    ((l.map wd ++ x :: r).takeWhile numB).map (fun w => (numN w : Int)) = l ∧ (l.map wd ++ x :: r).dropWhile numB = x :: r := by
  induction l with
  | nil => simp [hx]
  | cons n l ih =>
    simp only [areB, List.all_cons, Bool.and_eq_true] at h
    obtain ⟨a, b⟩ := wd_back h.1
    obtain ⟨i1, i2⟩ := ih h.2
    simp only [List.map_cons, List.cons_append, List.takeWhile_cons, List.dropWhile_cons, a, if_true, b, i1, i2, and_self]
/-- What a command that may be has in its fields. -/
theorem may_fields {c : Cm} (h : mayB c = true) : isKindB c.kind = true ∧ isDirB c.dir = true ∧ okN c.item = true ∧ okN c.box = true ∧ okN c.who = true ∧ okN c.pay = true ∧ okN c.fee = true ∧ areB c.gives = true ∧ areB c.wants = true ∧ c = ownC c ∧ c.gives.length ≤ 16 ∧ c.wants.length ≤ 16 := by
  simp only [mayB, withinB, areB, List.all_cons, List.all_nil, sideB, Bool.and_eq_true, Bool.and_true, decide_eq_true_eq, sameB_iff] at h
  obtain ⟨⟨h1, ⟨⟨h2, h3, h4, h5, h6, h7⟩, h8, h9⟩, h10, h11⟩, h12⟩ := h
  exact ⟨h1, h2, h3, h4, h5, h6, h7, h9, h11, h12, h8, h10⟩
theorem coins_no : numB sCoins = false := by decide
theorem read_complete {c : Cm} (h : mayB c = true) : readC (wordsOf c) = (c, [], true) := by
  obtain ⟨hk, h2, h3, h4, h5, h6, h7, h8, h9, h10, -, -⟩ := may_fields h
  clear h
  obtain ⟨n1, n2⟩ := name_back hk
  obtain ⟨d1, d2⟩ := way_back h2
  obtain ⟨i1, i2⟩ := wd_back h3
  obtain ⟨b1, b2⟩ := wd_back h4
  obtain ⟨w1, w2⟩ := wd_back h5
  obtain ⟨p1, p2⟩ := wd_back h6
  obtain ⟨f1, f2⟩ := wd_back h7
  obtain ⟨k, a2, a3, a4, a5, a6, a7, a8, a9⟩ := c
  simp only at *
  unfold readC wordsOf
  simp only [takeP, Kd.b, Kd.n, n1, n2, if_true]
  rcases kinds hk with rfl | rfl | rfl | rfl | rfl | rfl | rfl | rfl | rfl | rfl
  all_goals
    simp only [ownC, keep, keepL, Cm.mk.injEq] at h10
    simp at h10
  · simp [partsOf, runP, takeP, putP, setF, getF, zeroC, Kd.word, Kd.n, Kd.b, *]
  · simp [partsOf, runP, takeP, putP, setF, getF, zeroC, Kd.word, Kd.n, Kd.b, *]
  · simp [partsOf, runP, takeP, putP, setF, getF, zeroC, Kd.word, Kd.n, Kd.b, *]
  · simp [partsOf, runP, takeP, putP, setF, getF, zeroC, Kd.word, Kd.n, Kd.b, *]
  · simp [partsOf, runP, takeP, putP, setF, getF, zeroC, Kd.word, Kd.n, Kd.b, *]
  · simp [partsOf, runP, takeP, putP, setF, getF, zeroC, Kd.word, Kd.n, Kd.b, *]
  · simp [partsOf, runP, takeP, putP, setF, getF, zeroC, Kd.word, Kd.n, Kd.b, *]
  · have g1 := fun r => side_back (x := sCoins) (r := r) h8 coins_no
    have g2 := fun r => side_back (x := sCoins) (r := r) h9 coins_no
    simp [partsOf, runP, takeP, putP, setF, getF, setL, getL, zeroC, Kd.word, Kd.n, Kd.b, *]
  · simp [partsOf, runP, setF, zeroC, *]
  · simp [partsOf, runP, setF, zeroC, *]
theorem code_complete {c : Cm} (h : mayB c = true) : codeB (wordsOf c) = true ∧ codeC (wordsOf c) = c := by
  have hr := read_complete h
  have hb : codeB (wordsOf c) = true := by simp [codeB, readB, hr, h]
  exact ⟨hb, by unfold codeC; rw [if_pos hb, hr]⟩
theorem code_sound {ws : List (List UInt8)} (h : codeB ws = true) : mayB (codeC ws) = true ∧ wordsOf (codeC ws) = ws := by
  unfold codeC; rw [if_pos h]
  simp only [codeB, Bool.and_eq_true] at h
  exact ⟨h.2, read_sound ws h.1⟩
theorem code_iff (ws : List (List UInt8)) : codeB ws = true ↔ ∃ c, mayB c = true ∧ wordsOf c = ws :=
  ⟨fun h => ⟨_, code_sound h⟩, fun ⟨c, h1, h2⟩ => h2 ▸ (code_complete h1).1⟩
theorem words_inj {c d : Cm} (h1 : mayB c = true) (h2 : mayB d = true) (h : wordsOf c = wordsOf d) : c = d := by
  have e := (code_complete h1).2
  rw [h, (code_complete h2).2] at e
  exact e.symm
end Go.Proofs.YtinjpkbpdhihjaaDoor
/- The document's own way to read a command: it is guessed, and held against the words. Plain mathematics. -/
namespace Go.Proofs.YtinjpkbpdhihjaaDoor
open Go.ChangeShapes Go.WideShapes Go.ChangeAt Go.RowKit
set_option linter.unusedVariables false
open Go.RowKit
def atN (ws : List (List UInt8)) (i : Int) : Int := if 0 ≤ i ∧ i < ws.length then (numN (ws.getD i.toNat []) : Int) else 0
def dirAt (ws : List (List UInt8)) (i : Nat) : Int := if i < ws.length then dirN (ws.getD i []) else 0
def notCoins (x : List UInt8) : Bool := decide (¬ x = sCoins)
/-- The words of a side of a trade, from the i-th on. -/
def sideAt (ws : List (List UInt8)) (i : Nat) : List (List UInt8) := (ws.drop i).takeWhile notCoins
def numsN (l : List (List UInt8)) : List Int := l.map fun x => (numN x : Int)
def i1 (ws : List (List UInt8)) : Nat := 3 + (sideAt ws 3).length
def i2 (ws : List (List UInt8)) : Nat := i1 ws + 3 + (sideAt ws (i1 ws + 3)).length
def guessK (k : Int) (ws : List (List UInt8)) : Cm :=
  if k = 1 then { zeroC with kind := 1, dir := dirAt ws 1 } else
  if k = 2 then { zeroC with kind := 2, who := atN ws 1, dir := dirAt ws 2 } else
  if k = 3 then { zeroC with kind := 3, item := atN ws 1 } else
  if k = 4 then { zeroC with kind := 4, item := atN ws 1 } else
  if k = 5 then { zeroC with kind := 5, item := atN ws 1, box := atN ws 3 } else
  if k = 6 then { zeroC with kind := 6, item := atN ws 1, box := atN ws 3 } else
  if k = 7 then { zeroC with kind := 7, item := atN ws 1, who := atN ws 3 } else
  if k = 8 then { zeroC with kind := 8, who := atN ws 1, gives := numsN (sideAt ws 3), pay := atN ws (i1 ws + 1 : Nat), wants := numsN (sideAt ws (i1 ws + 3)), fee := atN ws (i2 ws + 1 : Nat) } else { zeroC with kind := k }
def guess (ws : List (List UInt8)) : Cm := guessK (kindN (ws.getD 0 [])) ws
theorem wd_notCoins {n : Int} (h : okN n = true) : notCoins (wd n) = true := by
  unfold notCoins
  rw [decide_eq_true_eq]
  intro e
  have := (wd_back h).1
  rw [e, coins_no] at this; cases this
theorem take_coins {l : List Int} (h : areB l = true) (r : List (List UInt8)) : (l.map wd ++ sCoins :: r).takeWhile notCoins = l.map wd := by
  induction l with
  | nil => simp [notCoins]
  | cons n l ih =>
    simp only [areB, List.all_cons, Bool.and_eq_true] at h
    rw [List.map_cons, List.cons_append, List.takeWhile_cons, if_pos (wd_notCoins h.1), ih h.2]
theorem nums_back {l : List Int} (h : areB l = true) : numsN (l.map wd) = l := by
  induction l with
  | nil => rfl
  | cons n l ih =>
    simp only [areB, List.all_cons, Bool.and_eq_true] at h
    show (numN (wd n) : Int) :: numsN (l.map wd) = _
    rw [(wd_back h.1).2, ih h.2]
theorem atN_of {ws : List (List UInt8)} {i : Nat} {x : List UInt8} (h : ws[i]? = some x) : atN ws (i : Int) = (numN x : Int) := by
  obtain ⟨hi, e⟩ := List.getElem?_eq_some_iff.1 h
  unfold atN
  rw [if_pos (by omega)]
  simp [List.getD, h]
theorem guess_of {c : Cm} (h : mayB c = true) : guess (wordsOf c) = c := by
  obtain ⟨hk, h2, h3, h4, h5, h6, h7, h8, h9, h10, -, -⟩ := may_fields h
  clear h
  obtain ⟨n1, n2⟩ := name_back hk
  obtain ⟨d1, d2⟩ := way_back h2
  obtain ⟨j1, j2⟩ := wd_back h3
  obtain ⟨b1, b2⟩ := wd_back h4
  obtain ⟨w1, w2⟩ := wd_back h5
  obtain ⟨p1, p2⟩ := wd_back h6
  obtain ⟨f1, f2⟩ := wd_back h7
  obtain ⟨k, a2, a3, a4, a5, a6, a7, a8, a9⟩ := c
  simp only at *
  have hg : guess (wordsOf ⟨k, a2, a3, a4, a5, a6, a7, a8, a9⟩) = guessK k (wordsOf ⟨k, a2, a3, a4, a5, a6, a7, a8, a9⟩) := by
    unfold guess
    rw [show (wordsOf ⟨k, a2, a3, a4, a5, a6, a7, a8, a9⟩).getD 0 [] = nameOf k from rfl, n2]
  rw [hg]
  clear hg
  rcases kinds hk with rfl | rfl | rfl | rfl | rfl | rfl | rfl | rfl | rfl | rfl
  all_goals
    simp only [ownC, keep, keepL, Cm.mk.injEq] at h10
    simp at h10
  · simp [guessK, wordsOf, partsOf, putP, getF, zeroC, Kd.word, dirAt, *]
  · simp [guessK, wordsOf, partsOf, putP, getF, zeroC, Kd.word, dirAt, atN, *]
  · simp [guessK, wordsOf, partsOf, putP, getF, zeroC, Kd.word, atN, *]
  · simp [guessK, wordsOf, partsOf, putP, getF, zeroC, Kd.word, atN, *]
  · simp [guessK, wordsOf, partsOf, putP, getF, zeroC, Kd.word, atN, *]
  · simp [guessK, wordsOf, partsOf, putP, getF, zeroC, Kd.word, atN, *]
  · simp [guessK, wordsOf, partsOf, putP, getF, zeroC, Kd.word, atN, *]
  · obtain ⟨rfl, rfl, rfl⟩ := h10
    have ew : wordsOf ⟨8, 0, 0, 0, a5, a6, a7, a8, a9⟩ = [nameOf 8, wd a5, sGive] ++ (a6.map wd ++ sCoins :: ([wd a7, sFor] ++ (a8.map wd ++ sCoins :: [wd a9]))) := by
      simp [wordsOf, partsOf, putP, getF, getL, Kd.word]
    rw [ew]
    have s1 : sideAt ([nameOf 8, wd a5, sGive] ++ (a6.map wd ++ sCoins :: ([wd a7, sFor] ++ (a8.map wd ++ sCoins :: [wd a9])))) 3 = a6.map wd := by
      unfold sideAt
      rw [show ([nameOf 8, wd a5, sGive] ++ (a6.map wd ++ sCoins :: ([wd a7, sFor] ++ (a8.map wd ++ sCoins :: [wd a9])))).drop 3 = a6.map wd ++ sCoins :: ([wd a7, sFor] ++ (a8.map wd ++ sCoins :: [wd a9])) from rfl]
      exact take_coins h8 _
    have e1 : i1 ([nameOf 8, wd a5, sGive] ++ (a6.map wd ++ sCoins :: ([wd a7, sFor] ++ (a8.map wd ++ sCoins :: [wd a9])))) = 3 + a6.length := by unfold i1; rw [s1, List.length_map]
    have q1 : ([nameOf 8, wd a5, sGive] ++ (a6.map wd ++ sCoins :: ([wd a7, sFor] ++ (a8.map wd ++ sCoins :: [wd a9]))))[3 + a6.length + 1]? = some (wd a7) := by
      rw [List.getElem?_append_right (by simp; omega), List.getElem?_append_right (by simp; omega)]
      simp
      rw [show 3 + a6.length - 2 - a6.length = 1 by omega]; rfl
    have dr : ([nameOf 8, wd a5, sGive] ++ (a6.map wd ++ sCoins :: ([wd a7, sFor] ++ (a8.map wd ++ sCoins :: [wd a9])))).drop (3 + a6.length + 3) = a8.map wd ++ sCoins :: [wd a9] := by
      rw [show [nameOf 8, wd a5, sGive] ++ (a6.map wd ++ sCoins :: ([wd a7, sFor] ++ (a8.map wd ++ sCoins :: [wd a9]))) = ([nameOf 8, wd a5, sGive] ++ a6.map wd ++ [sCoins, wd a7, sFor]) ++ (a8.map wd ++ sCoins :: [wd a9]) by simp]
      exact List.drop_left' (by simp; omega)
    have s2 : sideAt ([nameOf 8, wd a5, sGive] ++ (a6.map wd ++ sCoins :: ([wd a7, sFor] ++ (a8.map wd ++ sCoins :: [wd a9])))) (3 + a6.length + 3) = a8.map wd := by
      unfold sideAt; rw [dr]; exact take_coins h9 _
    have e2 : i2 ([nameOf 8, wd a5, sGive] ++ (a6.map wd ++ sCoins :: ([wd a7, sFor] ++ (a8.map wd ++ sCoins :: [wd a9])))) = 3 + a6.length + 3 + a8.length := by unfold i2; rw [e1, s2, List.length_map]
    have q2 : ([nameOf 8, wd a5, sGive] ++ (a6.map wd ++ sCoins :: ([wd a7, sFor] ++ (a8.map wd ++ sCoins :: [wd a9]))))[3 + a6.length + 3 + a8.length + 1]? = some (wd a9) := by
      rw [show [nameOf 8, wd a5, sGive] ++ (a6.map wd ++ sCoins :: ([wd a7, sFor] ++ (a8.map wd ++ sCoins :: [wd a9]))) = ([nameOf 8, wd a5, sGive] ++ a6.map wd ++ [sCoins, wd a7, sFor] ++ a8.map wd ++ [sCoins]) ++ [wd a9] by simp]
      rw [List.getElem?_append_right (by simp; omega)]
      rw [show 3 + a6.length + 3 + a8.length + 1 - ([nameOf 8, wd a5, sGive] ++ a6.map wd ++ [sCoins, wd a7, sFor] ++ a8.map wd ++ [sCoins]).length = 0 by simp; omega]; rfl
    have q0 : ([nameOf 8, wd a5, sGive] ++ (a6.map wd ++ sCoins :: ([wd a7, sFor] ++ (a8.map wd ++ sCoins :: [wd a9]))))[1]? = some (wd a5) := rfl
    have r0 := atN_of q0
    have r1 := atN_of q1
    have r2 := atN_of q2
    generalize [nameOf 8, wd a5, sGive] ++ (a6.map wd ++ sCoins :: ([wd a7, sFor] ++ (a8.map wd ++ sCoins :: [wd a9]))) = W at *
    show (⟨8, 0, 0, 0, atN W 1, numsN (sideAt W 3), atN W (i1 W + 1 : Nat), numsN (sideAt W (i1 W + 3)), atN W (i2 W + 1 : Nat)⟩ : Cm) = _
    rw [e1, e2, s1, s2, nums_back h8, nums_back h9]
    rw [show atN W 1 = a5 from r0.trans w2, r1, r2, p2, f2]
  · simp [guessK, zeroC, *]
  · simp [guessK, zeroC, *]
/-- By the document: is it a command's? -/
def refB (ws : List (List UInt8)) : Bool := mayB (guess ws) && decide (wordsOf (guess ws) = ws)
theorem ref_code (ws : List (List UInt8)) : refB ws = codeB ws ∧ (if refB ws then guess ws else zeroC) = codeC ws := by
  have e : refB ws = codeB ws := by
    rw [Bool.eq_iff_iff, code_iff]
    constructor
    · intro h
      simp only [refB, Bool.and_eq_true, decide_eq_true_eq] at h
      exact ⟨_, h.1, h.2⟩
    · rintro ⟨c, h1, rfl⟩
      simp [refB, guess_of h1, h1]
  refine ⟨e, ?_⟩
  rw [e]
  cases h : codeB ws
  · unfold codeC; rw [h]; rfl
  · obtain ⟨h1, h2⟩ := code_sound h
    have := guess_of h1
    rw [h2] at this
    exact this
end Go.Proofs.YtinjpkbpdhihjaaDoor
