/- slices.Clone of the lists of a world: each in a block of its own. -/
import Derived.Test.YtkhjmgedamndhaaRows
import Derived.Test.YtkhjmgedamndhaaKit
import Derived.Test.YtkhjmgedamndhaaStrs
import Derived.Test.YtkhjmgedamndhaaCoin
import Derived.Test.YtkhjmgedamndhaaBlk
import Derived.Test.YtkhjmgedamndhaaHolds
import Derived.Test.YtkhjmgedamndhaaWorldMath
import Derived.Test.YtkhjmgedamndhaaWorldAt
import Derived.Test.YtkhjmgedamndhaaDescFloors
import Derived.Laws.AppendOwn
import Derived.Maps.AppendAt
import Derived.Deep.AppendLies
import Derived.OwnWalk
import Derived.Deep.QuietTactic
import Derived.BigQuiet
import Derived.WalkKit
import Derived.ProofKit
import Derived.OpenShut
import Derived.IntWalk
namespace Go.Proofs.Ytkhjmgedamndhaa
open Go.ChangeShapes Go.WideShapes Go.ChangeAt Go.RowKit
set_option linter.unusedVariables false
open Go.RowKit
theorem flat_len {α : Type} {k : Nat} {enc : α → List Value} (he : ∀ x, (enc x).length = k) : ∀ xs : List α, (xs.flatMap enc).length = xs.length * k
  | [] => by simp
  | x :: r => by rw [List.flatMap_cons, List.length_append, flat_len he r, he, List.length_cons, Nat.add_mul, Nat.one_mul, Nat.add_comm]
theorem flat_get {α : Type} {k : Nat} {enc : α → List Value} (he : ∀ x, (enc x).length = k) : ∀ (xs : List α) (i : Nat) (hi : i < xs.length) (j : Nat), j < k → (xs.flatMap enc)[i * k + j]? = (enc xs[i])[j]?
  | [], i, hi, _, _ => by simp at hi
  | x :: r, 0, _, j, hj => by
    rw [List.flatMap_cons, Nat.zero_mul, Nat.zero_add, List.getElem?_append_left (by rw [he]; exact hj)]; rfl
  | x :: r, i + 1, hi, j, hj => by
    rw [List.flatMap_cons, List.getElem?_append_right (by rw [he, Nat.add_mul]; omega), he, show (i + 1) * k + j - k = i * k + j by rw [Nat.add_mul]; omega, flat_get he r i (by simpa using hi) j hj]; rfl
/-- A list in a block of its own, from block n on; or none. -/
def OwnR {α : Type} (k : Nat) (e : TypeId) (enc : α → List Value) (n : Nat) (W : World) (a : Option Addr) (xs : List α) : Prop :=
  xs.length ≤ maxLen ∧ ((xs = [] ∧ a = none) ∨ ∃ b cs, a = some ⟨b, 0, none⟩ ∧ n ≤ b ∧ Blk W b e cs ∧ ∀ i (hi : i < xs.length) j, j < k → cs[i * k + j]? = (enc xs[i])[j]?)
theorem OwnR.row {α : Type} {k : Nat} {e : TypeId} {enc : α → List Value} {n : Nat} {W : World} {a : Option Addr} {xs : List α} (h : OwnR k e enc n W a xs) : RowAt k enc W a xs := by
  obtain ⟨hl, h⟩ := h
  refine ⟨hl, ?_⟩
  rcases h with ⟨rfl, rfl⟩ | ⟨b, cs, rfl, _, hb, hc⟩
  · exact .inl rfl
  · exact .inr ⟨b, 0, rfl, hb.lt, fun i hi j hj => by rw [Nat.zero_add, hb.cell]; exact hc i hi j hj⟩
theorem append_row {α : Type} {P : Program} (t e : TypeId) (k bytes : Nat) (z : Value) (enc : α → List Value) (hu : P.underlying t = some (.slice e)) (hinfo : (P.info? e).map (fun i => (i.zero, i.size, i.bytes)) = some (some z, k, bytes))
    (hz : z.cells.size = k) (hk : 0 < k) (hby : bytes ≤ 64) (he : ∀ x, (enc x).length = k) (hone : ∀ x, ∀ u ∈ enc x, u.oneCell' = true) {W : World} (n : Nat) {a : Option Addr} {cap : Nat} {xs : List α} (hn : Blk W n e #[]) (hx : RowAt k enc W a xs) (hl : xs.length ≤ 1000000) :
    ∃ g c cur W', (Builtin.append_ #[t, t] t #[.slice (some ⟨n, 0, none⟩) 0 0, .slice a xs.length cap]).run P W = .ok (.slice (some ⟨g, 0, none⟩) xs.length c) W' ∧
      n ≤ g ∧ Blk W' g e cur ∧ (∀ i (hi : i < xs.length) j, j < k → cur[i * k + j]? = (enc xs[i])[j]?) ∧ Below n W W' := by
  obtain ⟨i0, hi0, hz0, hz1, hz2⟩ := info_parts hinfo
  have hlt := hn.lt
  have hown : W.ownsRow n e k (.slice (some ⟨n, 0, none⟩) 0 0) 0 [] := ⟨by simp, .inr ⟨n, 0, #[], rfl, Nat.le_refl _, hn, Nat.le_refl _, by unfold maxLen; omega, by simp, by simp⟩⟩
  by_cases hxe : xs = []
  · subst hxe
    have hsrc : Src P i0.size t (.slice a 0 cap) 0 [] W := by
      cases a with
      | none => exact Src.ofNil (w := W) hu cap
      | some p => exact Src.ofSlice W hu p 0 cap [] (by simp) (by simp) (by simp)
    exact ⟨n, 0, #[], W, run_append_nothing W t t t e i0 hu hi0 (some ⟨n, 0, none⟩) 0 0 (Nat.le_refl _) _ hsrc, Nat.le_refl _, hn, fun i hi => absurd hi (by simp), Below.refl _ _⟩
  · rcases hx.2 with h | ⟨b, off, rfl, hb2, hc⟩
    · exact absurd h hxe
    · have hmem : ∀ j u, (xs.flatMap enc)[j]? = some u → W.cell? ((⟨b, off, none⟩ : Addr).add j) = some u := by
        intro j u hj
        have hjl : j < xs.length * k := by rw [← flat_len he xs]; exact (List.getElem?_eq_some_iff.1 hj).1
        have hdiv : j / k < xs.length := (Nat.div_lt_iff_lt_mul hk).2 hjl
        have hmod : j % k < k := Nat.mod_lt _ hk
        have e1 : j / k * k + j % k = j := by rw [Nat.mul_comm]; exact Nat.div_add_mod j k
        have e2 := flat_get he xs (j / k) hdiv (j % k) hmod
        rw [e1, hj] at e2
        have e3 := hc (j / k) hdiv (j % k) hmod
        rw [show off + j / k * k + j % k = off + j by omega, ← e2] at e3
        by_cases h0 : j = 0 <;> simp [Addr.add, h0] at e3 ⊢ <;> exact e3
      obtain ⟨v', W', hr, h1, h2, -⟩ := run_append_own (P := P) W n t t e i0 z k bytes hu hi0 hz0 hz1 hz2 hz hk _ 0 [] hown ⟨b, off, none⟩ xs.length cap (xs.flatMap enc) (flat_len he xs) hmem
        (fun u hu => by obtain ⟨x, _, h⟩ := List.mem_flatMap.1 hu; exact hone x u h) (by unfold maxLen; omega) (Nat.le_trans (Nat.mul_le_mul (show 0 + xs.length ≤ 1000000 by omega) hby) (by decide)) (by omega)
      have hp : 0 < xs.length := List.length_pos_iff.2 hxe
      rcases h1.2 with ⟨_, h0⟩ | ⟨g, c, cur, rfl, hg, hh, hcap, _, hsz, htk⟩
      · omega
      · refine ⟨g, c, cur, W', by rw [hr, Nat.zero_add], hg, hh, fun i hi j hj => ?_, (Below.refl _ _).grown h2 (by omega) (fun q hq => by have := (hown.lt q hq).1; exact this)⟩
        have e : (cur.toList.take ((0 + xs.length) * k))[i * k + j]? = (([] ++ xs.flatMap enc) : List Value)[i * k + j]? := by rw [htk]
        have hlt2 : i * k + j < xs.length * k := by
          have : (i + 1) * k ≤ xs.length * k := Nat.mul_le_mul (by omega) (Nat.le_refl _)
          rw [Nat.add_mul, Nat.one_mul] at this
          omega
        rw [List.getElem?_take, if_pos (by rw [Nat.zero_add]; exact hlt2), List.nil_append, flat_get he xs i hi j hj] at e
        simpa using e
theorem exC_len (x : Ex) : (exC x).length = 4 := rfl
theorem plC_len (x : Pl) : (plC x).length = 2 := rfl
theorem blC_len (x : Bool) : (blC x).length = 1 := rfl
theorem inC_len (x : Int) : (inC x).length = 1 := rfl
theorem exC_one (x : Ex) : ∀ u ∈ exC x, u.oneCell' = true := by intro u hu; simp [exC] at hu; rcases hu with rfl | rfl | rfl | rfl <;> rfl
theorem plC_one (x : Pl) : ∀ u ∈ plC x, u.oneCell' = true := by intro u hu; simp [plC] at hu; rcases hu with rfl | rfl <;> rfl
theorem blC_one (x : Bool) : ∀ u ∈ blC x, u.oneCell' = true := by intro u hu; simp [blC] at hu; subst hu; rfl
theorem inC_one (x : Int) : ∀ u ∈ inC x, u.oneCell' = true := by intro u hu; simp [inC] at hu; subst hu; rfl
theorem ex_info : (Try.prog.info? 41).map (fun i => (i.zero, i.size, i.bytes)) = some (some (.agg #[.int .i64 0, .int .i64 0, .int .i64 0, .int .i64 0]), 4, 32) := by kernel_rfl
theorem bool_info : (Try.prog.info? 4).map (fun i => (i.zero, i.size, i.bytes)) = some (some (.bool false), 1, 1) := by kernel_rfl
theorem nil_ints (c : Nat) (w : World) : (binOp .eql 23 (.slice none 0 c) (.slice none 0 0)).run Try.prog w = .ok (.bool true) w := by kernel_rfl
theorem some_ints (p : Addr) (l c : Nat) (w : World) : (binOp .eql 23 (.slice (some p) l c) (.slice none 0 0)).run Try.prog w = .ok (.bool false) w := by kernel_rfl
theorem clone_ints (a : Option Addr) (c : Nat) (xs : List Int) (w : World) (h : RowAt 1 inC w a xs) (hl : xs.length ≤ 1000000) :
    Calls Try.prog 34 #[.slice a xs.length c] w fun e w' => ∃ g gc, e = .returned (.slice g xs.length gc) ∧ OwnR 1 3 inC w.heap.size w' g xs ∧ Below w.heap.size w w' := by
  cases a with
  | none =>
    have hx : xs = [] := by
      rcases h.2 with h | ⟨b, off, h, _⟩
      · exact h
      · cases h
    subst hx
    clear h
    have hq := nil_ints c
    go_enter Try.func34, Try.ntmps34
    go_wp2_with fail
    go_ret
    exact ⟨none, 0, rfl, ⟨by simp, .inl ⟨rfl, rfl⟩⟩, Below.refl _ _⟩
  | some p =>
    obtain ⟨g, gc, cur, w2, hr, hg, hb, hc, hl2⟩ := append_row 23 3 1 8 (.int .i64 0) inC Try.underlying23 int_info rfl (by decide) (by decide) inC_len inC_one (cap := c) (xs := xs) w.heap.size (Blk.new w 3 #[]) (h.alloc _) hl
    have HR := Lib.hid hr
    have HC := Lib.hid hc
    have HB := Lib.hid hb
    have HM := Lib.hid h.1
    have H2 := Lib.hid (((Below.refl w.heap.size w).alloc (Nat.le_refl _) (.cells #[] 3)).trans hl2)
    clear hr hc hb hl2 h
    have hq := some_ints p xs.length c
    go_enter Try.func34, Try.ntmps34
    go_wp2_with (at_builtin; refine append_step1 rfl (.tmp 5) (.tmp 6) 23 rfl _ _ _ w2 rfl rfl HR.out ?_)
    go_wp2_with fail
    go_ret
    exact ⟨_, _, rfl, ⟨HM.out, .inr ⟨g, cur, rfl, hg, HB.out, HC.out⟩⟩, H2.out⟩
theorem nil_places (c : Nat) (w : World) : (binOp .eql 27 (.slice none 0 c) (.slice none 0 0)).run Try.prog w = .ok (.bool true) w := by kernel_rfl
theorem some_places (p : Addr) (l c : Nat) (w : World) : (binOp .eql 27 (.slice (some p) l c) (.slice none 0 0)).run Try.prog w = .ok (.bool false) w := by kernel_rfl
theorem clone_places (a : Option Addr) (c : Nat) (xs : List Pl) (w : World) (h : RowAt 2 plC w a xs) (hl : xs.length ≤ 1000000) :
    Calls Try.prog 35 #[.slice a xs.length c] w fun e w' => ∃ g gc, e = .returned (.slice g xs.length gc) ∧ OwnR 2 57 plC w.heap.size w' g xs ∧ Below w.heap.size w w' := by
  cases a with
  | none =>
    have hx : xs = [] := by
      rcases h.2 with h | ⟨b, off, h, _⟩
      · exact h
      · cases h
    subst hx
    clear h
    have hq := nil_places c
    go_enter Try.func35, Try.ntmps35
    go_wp2_with fail
    go_ret
    exact ⟨none, 0, rfl, ⟨by simp, .inl ⟨rfl, rfl⟩⟩, Below.refl _ _⟩
  | some p =>
    obtain ⟨g, gc, cur, w2, hr, hg, hb, hc, hl2⟩ := append_row 27 57 2 16 (.agg #[.int .i64 0, .int .i64 0]) plC Try.underlying27 place_info rfl (by decide) (by decide) plC_len plC_one (cap := c) (xs := xs) w.heap.size (Blk.new w 57 #[]) (h.alloc _) hl
    have HR := Lib.hid hr
    have HC := Lib.hid hc
    have HB := Lib.hid hb
    have HM := Lib.hid h.1
    have H2 := Lib.hid (((Below.refl w.heap.size w).alloc (Nat.le_refl _) (.cells #[] 57)).trans hl2)
    clear hr hc hb hl2 h
    have hq := some_places p xs.length c
    go_enter Try.func35, Try.ntmps35
    go_wp2_with (at_builtin; refine append_step1 rfl (.tmp 5) (.tmp 6) 27 rfl _ _ _ w2 rfl rfl HR.out ?_)
    go_wp2_with fail
    go_ret
    exact ⟨_, _, rfl, ⟨HM.out, .inr ⟨g, cur, rfl, hg, HB.out, HC.out⟩⟩, H2.out⟩
theorem nil_exits (c : Nat) (w : World) : (binOp .eql 22 (.slice none 0 c) (.slice none 0 0)).run Try.prog w = .ok (.bool true) w := by kernel_rfl
theorem some_exits (p : Addr) (l c : Nat) (w : World) : (binOp .eql 22 (.slice (some p) l c) (.slice none 0 0)).run Try.prog w = .ok (.bool false) w := by kernel_rfl
theorem clone_exits (a : Option Addr) (c : Nat) (xs : List Ex) (w : World) (h : RowAt 4 exC w a xs) (hl : xs.length ≤ 1000000) :
    Calls Try.prog 36 #[.slice a xs.length c] w fun e w' => ∃ g gc, e = .returned (.slice g xs.length gc) ∧ OwnR 4 41 exC w.heap.size w' g xs ∧ Below w.heap.size w w' := by
  cases a with
  | none =>
    have hx : xs = [] := by
      rcases h.2 with h | ⟨b, off, h, _⟩
      · exact h
      · cases h
    subst hx
    clear h
    have hq := nil_exits c
    go_enter Try.func36, Try.ntmps36
    go_wp2_with fail
    go_ret
    exact ⟨none, 0, rfl, ⟨by simp, .inl ⟨rfl, rfl⟩⟩, Below.refl _ _⟩
  | some p =>
    obtain ⟨g, gc, cur, w2, hr, hg, hb, hc, hl2⟩ := append_row 22 41 4 32 (.agg #[.int .i64 0, .int .i64 0, .int .i64 0, .int .i64 0]) exC Try.underlying22 ex_info rfl (by decide) (by decide) exC_len exC_one (cap := c) (xs := xs) w.heap.size (Blk.new w 41 #[]) (h.alloc _) hl
    have HR := Lib.hid hr
    have HC := Lib.hid hc
    have HB := Lib.hid hb
    have HM := Lib.hid h.1
    have H2 := Lib.hid (((Below.refl w.heap.size w).alloc (Nat.le_refl _) (.cells #[] 41)).trans hl2)
    clear hr hc hb hl2 h
    have hq := some_exits p xs.length c
    go_enter Try.func36, Try.ntmps36
    go_wp2_with (at_builtin; refine append_step1 rfl (.tmp 5) (.tmp 6) 22 rfl _ _ _ w2 rfl rfl HR.out ?_)
    go_wp2_with fail
    go_ret
    exact ⟨_, _, rfl, ⟨HM.out, .inr ⟨g, cur, rfl, hg, HB.out, HC.out⟩⟩, H2.out⟩
theorem nil_bools (c : Nat) (w : World) : (binOp .eql 24 (.slice none 0 c) (.slice none 0 0)).run Try.prog w = .ok (.bool true) w := by kernel_rfl
theorem some_bools (p : Addr) (l c : Nat) (w : World) : (binOp .eql 24 (.slice (some p) l c) (.slice none 0 0)).run Try.prog w = .ok (.bool false) w := by kernel_rfl
theorem clone_bools (a : Option Addr) (c : Nat) (xs : List Bool) (w : World) (h : RowAt 1 blC w a xs) (hl : xs.length ≤ 1000000) :
    Calls Try.prog 37 #[.slice a xs.length c] w fun e w' => ∃ g gc, e = .returned (.slice g xs.length gc) ∧ OwnR 1 4 blC w.heap.size w' g xs ∧ Below w.heap.size w w' := by
  cases a with
  | none =>
    have hx : xs = [] := by
      rcases h.2 with h | ⟨b, off, h, _⟩
      · exact h
      · cases h
    subst hx
    clear h
    have hq := nil_bools c
    go_enter Try.func37, Try.ntmps37
    go_wp2_with fail
    go_ret
    exact ⟨none, 0, rfl, ⟨by simp, .inl ⟨rfl, rfl⟩⟩, Below.refl _ _⟩
  | some p =>
    obtain ⟨g, gc, cur, w2, hr, hg, hb, hc, hl2⟩ := append_row 24 4 1 1 (.bool false) blC Try.underlying24 bool_info rfl (by decide) (by decide) blC_len blC_one (cap := c) (xs := xs) w.heap.size (Blk.new w 4 #[]) (h.alloc _) hl
    have HR := Lib.hid hr
    have HC := Lib.hid hc
    have HB := Lib.hid hb
    have HM := Lib.hid h.1
    have H2 := Lib.hid (((Below.refl w.heap.size w).alloc (Nat.le_refl _) (.cells #[] 4)).trans hl2)
    clear hr hc hb hl2 h
    have hq := some_bools p xs.length c
    go_enter Try.func37, Try.ntmps37
    go_wp2_with (at_builtin; refine append_step1 rfl (.tmp 5) (.tmp 6) 24 rfl _ _ _ w2 rfl rfl HR.out ?_)
    go_wp2_with fail
    go_ret
    exact ⟨_, _, rfl, ⟨HM.out, .inr ⟨g, cur, rfl, hg, HB.out, HC.out⟩⟩, H2.out⟩
end Go.Proofs.Ytkhjmgedamndhaa
