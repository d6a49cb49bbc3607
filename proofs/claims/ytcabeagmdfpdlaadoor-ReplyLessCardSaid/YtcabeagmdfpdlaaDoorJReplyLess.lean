/- ReplyLess: of every look that may be: with an item less it is another answer, of a shorter text; with a player more it is another answer, or, with more than 16, it may not be: the statement answers true. No condition but that the program's and the library's tables lie as their text lays them (tied). -/
import Derived.Test.YtcabeagmdfpdlaaDoorRows
import Derived.Test.YtcabeagmdfpdlaaDoorKit
import Derived.Test.YtcabeagmdfpdlaaDoorStrs
import Derived.Test.YtcabeagmdfpdlaaDoorJTab
import Derived.Test.YtcabeagmdfpdlaaDoorJBlk
import Derived.Test.YtcabeagmdfpdlaaDoorJMath
import Derived.Test.YtcabeagmdfpdlaaDoorJNum
import Derived.Test.YtcabeagmdfpdlaaDoorJTokWord
import Derived.Test.YtcabeagmdfpdlaaDoorJTokJoin
import Derived.Test.YtcabeagmdfpdlaaDoorJAppend
import Derived.Test.YtcabeagmdfpdlaaDoorJGrown
import Derived.Test.YtcabeagmdfpdlaaDoorJCmdNames1
import Derived.Test.YtcabeagmdfpdlaaDoorJRepMath
import Derived.Test.YtcabeagmdfpdlaaDoorJRepItems
import Derived.Test.YtcabeagmdfpdlaaDoorJRepSame
import Derived.Test.YtcabeagmdfpdlaaDoorJRepMay
import Derived.Test.YtcabeagmdfpdlaaDoorJRepRefMay
import Derived.Test.YtcabeagmdfpdlaaDoorJRepWords
import Derived.Test.YtcabeagmdfpdlaaDoorJRepRefMath
import Derived.Test.YtcabeagmdfpdlaaDoorJRepPut
import Derived.Test.YtcabeagmdfpdlaaDoorJRepPut3
import Derived.Test.YtcabeagmdfpdlaaDoorJRepRead1
import Derived.Test.YtcabeagmdfpdlaaDoorJRead
import Derived.Test.YtcabeagmdfpdlaaDoorJRepGet
import Derived.Test.YtcabeagmdfpdlaaDoorJRepAwake
import Derived.Test.YtcabeagmdfpdlaaDoorJRepArg
import Derived.Test.YtcabeagmdfpdlaaDoorJRepLaw
import Derived.Test.YtcabeagmdfpdlaaDoorTie
import Derived.Test.YtcabeagmdfpdlaaDoorCards
import Derived.Lay
import Derived.SevenTiedAt
import Derived.MakeChecks
import Derived.Laws.OwnMore
import Derived.WalkKit
import Derived.ProofKit
import Derived.OpenShut
import Derived.IntWalk
namespace Go.Proofs.YtcabeagmdfpdlaaDoor
open Go.ChangeShapes Go.WideShapes Go.ChangeAt Go.RowKit
set_option linter.unusedVariables false
open Go.RowKit Go
theorem append_ints {W : World} {base k : Nat} {v : Value} {ys : List Value} {a : Option Addr} {cap : Nat} {xs : List Int} (hown : W.ownsRow base 3 1 v k ys) (hu : IntsAt W a xs) (hl : k + xs.length ≤ 1000000) (hb : base ≤ W.heap.size) :
    ∃ v' W', (Builtin.append_ #[23, 23] 23 #[v, .slice a xs.length cap]).run Tryd.prog W = .ok v' W' ∧ W'.ownsRow base 3 1 v' (k + xs.length) (ys ++ xs.map (Value.int .i64)) ∧ W.grownBy W' v.ownBlock := by
  obtain ⟨i0, hi0, hz0, hz1, hz2⟩ := info_parts int_info
  obtain ⟨hm, h⟩ := hu
  by_cases hx : xs = []
  · subst hx
    have hsrc : Src Tryd.prog i0.size 23 (.slice a 0 cap) 0 [] W := by
      cases a with
      | none => exact Src.ofNil (w := W) Tryd.underlying23 cap
      | some p => exact Src.ofSlice W Tryd.underlying23 p 0 cap [] (by simp) (by simp) (by simp)
    have hform : ∃ b c, v = .slice b k c ∧ k ≤ c := by
      rcases hown.2 with ⟨rfl, rfl⟩ | ⟨g, c, cur, rfl, _, _, hc, _⟩
      · exact ⟨none, 0, rfl, Nat.le_refl _⟩
      · exact ⟨_, c, rfl, hc⟩
    obtain ⟨b, c, rfl, hc⟩ := hform
    exact ⟨_, W, run_append_nothing W 23 23 23 3 i0 Tryd.underlying23 hi0 b k c hc _ hsrc, by simpa using hown, ⟨rfl, rfl, rfl, Nat.le_refl _, fun _ _ _ => rfl⟩⟩
  · rcases h with h | ⟨b, off, rfl, hb2, hc⟩
    · exact absurd h hx
    · obtain ⟨v', W', hr, h1, h2, -⟩ := run_append_own (P := Tryd.prog) W base 23 23 3 i0 (.int .i64 0) 1 8 Tryd.underlying23 hi0 hz0 hz1 hz2 rfl (by decide) v k ys hown ⟨b, off, none⟩ xs.length cap (xs.map (Value.int .i64)) (by simp)
        (fun j u hj => by
          rw [List.getElem?_map] at hj
          cases hq : xs[j]? with
          | none => rw [hq] at hj; simp at hj
          | some x =>
            rw [hq] at hj; simp at hj; subst hj
            obtain ⟨hj2, rfl⟩ := List.getElem?_eq_some_iff.1 hq
            have := hc j hj2
            by_cases h0 : j = 0 <;> simp [Addr.add, h0] at this ⊢ <;> exact this)
        (fun u hu => by simp at hu; obtain ⟨x, _, rfl⟩ := hu; rfl) (by unfold maxLen; omega) (by omega) hb
      exact ⟨v', W', hr, h1, h2⟩
theorem empty_ints (w : World) : (w.alloc (.cells #[] 3)).ownsRow w.heap.size 3 1 (.slice (some ⟨w.heap.size, 0, none⟩) 0 0) 0 [] :=
  ⟨rfl, .inr ⟨w.heap.size, 0, #[], rfl, Nat.le_refl _, by show (w.heap.push _)[w.heap.size]? = some _; simp, Nat.le_refl _, by unfold maxLen; omega, rfl, rfl⟩⟩
/-- 'append(append([]int{}, xs...), p)': a list of the call's own. -/
theorem append_twice {W : World} {n : Nat} (hn : W.heap.size = n) {a : Option Addr} {cap : Nat} {xs : List Int} (hu : IntsAt W a xs) (p : Int) (hl : xs.length ≤ 100000) :
    ∃ v1 W1 v2 W2, (Builtin.append_ #[23, 23] 23 #[.slice (some ⟨n, 0, none⟩) 0 0, .slice a xs.length cap]).run Tryd.prog (W.alloc (.cells #[] 3)) = .ok v1 W1 ∧
      (Builtin.append_ #[23, 23] 23 #[v1, .slice (some ⟨W1.heap.size, 0, none⟩) 1 1]).run Tryd.prog (W1.alloc (.cells #[.int .i64 p] 3)) = .ok v2 W2 ∧
      Below W.heap.size W W2 ∧ NewInts W.heap.size W2 v2 (xs ++ [p]) := by
  subst hn
  have b0 : Below W.heap.size W (W.alloc (.cells #[] 3)) := (Below.refl _ _).alloc (Nat.le_refl _) _
  obtain ⟨v1, W1, r1, o1, g1⟩ := append_ints (cap := cap) (empty_ints W) (hu.alloc (.cells #[] 3)) (by omega) b0.size
  have b1 : Below W.heap.size W W1 := b0.grown g1 b0.size (fun k hk => by simp [Value.ownBlock] at hk; omega)
  rw [Nat.zero_add, List.nil_append] at o1
  obtain ⟨v2, W2, r2, o2, g2⟩ := append_int o1 p (by omega) b1.size
  refine ⟨v1, W1, v2, W2, r1, r2, b1.grown g2 b1.size (fun k hk => ?_), own_ints (by simpa using o2)⟩
  apply Decidable.byContradiction; intro hc
  exact own_apart o1 (g := k) (by omega) hk
theorem sns_front {w : World} {a : Option Addr} {xs : List Sn} {s : Sn} (h : SnsAt w a (xs ++ [s])) : SnsAt w a xs := by
  obtain ⟨hl, h⟩ := h
  rw [List.length_append] at hl
  refine ⟨by omega, ?_⟩
  rcases h with h | ⟨b, off, rfl, hb, hc⟩
  · simp at h
  · refine .inr ⟨b, off, rfl, hb, fun i hi => ?_⟩
    have := hc i (by simp; omega)
    rw [List.getElem_append_left hi] at this
    exact this
variable {m : Int} {ps : List Int} {is : List Sn}
theorem look_form {c : Rp} (h : rmayB c = true) (hk : c.kind = 9) : c.err = 0 ∧ c.coins = 0 := by
  have ho := (fits_of h).own
  obtain ⟨e, k, m, ps, is, d⟩ := c
  simp only at hk
  subst hk
  by_cases he : e = 0
  · subst he
    simp [ownR] at ho
    exact ⟨rfl, ho⟩
  · simp [ownR, he] at ho
theorem more_may {p : Int} (h : rmayB ⟨0, 9, m, ps, is, 0⟩ = true) (hp : okN p = true) : rmayB ⟨0, 9, m, ps ++ [p], is, 0⟩ = decide (ps.length < 16) := by
  have hf := fits_of h
  have h1 := hf.room
  have h2 : areB ps = true := List.all_eq_true.2 hf.players
  have h3 : is.all snB = true := List.all_eq_true.2 hf.items
  have h4 := hf.ilen
  simp only at h1 h4
  have h5 : areB (ps ++ [p]) = true := by simp only [areB, List.all_append] at h2 ⊢; simp [h2, hp]
  rw [Bool.eq_iff_iff]
  simp [rmayB, someB, rwithinB, ownR, rsameB, plB, itB, h5, h3, h4]
  have h6 : areB [m, 0] = true := by simp [areB, h1]; decide
  simp [h6]; omega
theorem less_may {s : Sn} (h : rmayB ⟨0, 9, m, ps, is ++ [s], 0⟩ = true) : rmayB ⟨0, 9, m, ps, is, 0⟩ = true := by
  have hf := fits_of h
  have h1 := hf.room
  have h0 := hf.plen
  have h2 : areB ps = true := List.all_eq_true.2 hf.players
  have h3 : is.all snB = true := List.all_eq_true.2 (fun x hx => hf.items x (by simp; exact .inl hx))
  have h4 : is.length ≤ 16 := by have := hf.ilen; simp at this; omega
  simp only at h1 h0
  have h6 : areB [m, 0] = true := by simp [areB, h1]; decide
  simp [rmayB, someB, rwithinB, ownR, rsameB, plB, itB, h2, h3, h4, h6, h0]
theorem less_text {s : Sn} : (textR ⟨0, 9, m, ps, is, 0⟩).length < (textR ⟨0, 9, m, ps, is ++ [s], 0⟩).length := by
  rw [text_look, text_look, List.flatMap_append, ← List.append_assoc, List.length_append (bs := [s].flatMap seenT)]
  simp [seenT]
theorem more_text {p : Int} (h : rmayB ⟨0, 9, m, ps, is, 0⟩ = true) (k : rmayB ⟨0, 9, m, ps ++ [p], is, 0⟩ = true) : textR ⟨0, 9, m, ps ++ [p], is, 0⟩ ≠ textR ⟨0, 9, m, ps, is, 0⟩ := by
  intro e
  have := text_inj k h e
  simp at this
section
variable (m : Int) (ps : List Int) (is : List Sn) (pa ia : Option Addr) (pc ic n : Nat) (W : World) (hn : is.length = n) (h1 : IntsAt W pa ps) (h2 : SnsAt W ia is)
include hn h1 h2
theorem few_n : Calls Tryd.prog 9 #[.agg #[.int .i64 0, .int .i64 9, .int .i64 m, .slice pa ps.length pc, .slice ia n ic, .int .i64 0]] W fun e w' => e = .returned (.bool (rfewB ⟨0, 9, m, ps, is, 0⟩)) ∧ Below W.heap.size W w' := by
  subst hn; exact rfew_any ⟨0, 9, m, ps, is, 0⟩ pa ia pc ic W h1 h2
theorem refmay_n : Calls Tryd.prog 13 #[.agg #[.int .i64 0, .int .i64 9, .int .i64 m, .slice pa ps.length pc, .slice ia n ic, .int .i64 0]] W fun e w' => e = .returned (.bool (rmayB ⟨0, 9, m, ps, is, 0⟩)) ∧ Below W.heap.size W w' := by
  subst hn; exact rrefmay_any ⟨0, 9, m, ps, is, 0⟩ pa ia pc ic W h1 h2
theorem put_n (ht : RTabs W) {A : ByteArray} {x : Int} (hA : rputOut ⟨0, 9, m, ps, is, 0⟩ = .tuple #[.string A, .int .i64 x]) : Calls Tryd.prog 10 #[.agg #[.int .i64 0, .int .i64 9, .int .i64 m, .slice pa ps.length pc, .slice ia n ic, .int .i64 0]] W fun e w' => e = .returned (.tuple #[.string A, .int .i64 x]) ∧ Below W.heap.size W w' := by
  subst hn
  refine (rput_any ⟨0, 9, m, ps, is, 0⟩ pa ia pc ic W h1 h2 ht).mono ?_
  rintro e w' ⟨rfl, hb⟩
  exact ⟨by rw [hA], hb⟩
end
theorem put_more (m p : Int) (ps : List Int) (is : List Sn) (pa ia : Option Addr) (pc ic n : Nat) (W : World) (hn : is.length = n) (h1 : IntsAt W pa (ps ++ [p])) (h2 : SnsAt W ia is) (ht : RTabs W) {A : ByteArray} {x : Int} (hA : rputOut ⟨0, 9, m, ps ++ [p], is, 0⟩ = .tuple #[.string A, .int .i64 x]) :
    Calls Tryd.prog 10 #[.agg #[.int .i64 0, .int .i64 9, .int .i64 m, .slice pa (ps.length + 1) pc, .slice ia n ic, .int .i64 0]] W fun e w' => e = .returned (.tuple #[.string A, .int .i64 x]) ∧ Below W.heap.size W w' := by
  have := put_n m (ps ++ [p]) is pa ia pc ic n W hn h1 h2 ht hA
  rwa [show (ps ++ [p]).length = ps.length + 1 by simp] at this
set_option maxRecDepth 100000 in
set_option maxHeartbeats 2000000 in
theorem rless_nil (m p : Int) (ps : List Int) (pa ia : Option Addr) (pc ic : Nat) (w : World) (h1 : IntsAt w pa ps) (h2 : SnsAt w ia []) (ht : RTabs w) (hm : rmayB ⟨0, 9, m, ps, [], 0⟩ = true) (p0 : 0 ≤ p) (p1 : p ≤ 1073741824) :
    Calls Tryd.prog 7 #[.agg #[.int .i64 0, .int .i64 9, .int .i64 m, .slice pa ps.length pc, .slice ia 0 ic, .int .i64 0], .int .u32 p] w fun e w' => e = .returned (.bool true) ∧ Below w.heap.size w w' := by
  have HN := Lib.hid (show ([] : List Sn).length = 0 from rfl)
  have hf := fits_of hm
  have FW := Lib.hid (show rfewB ⟨0, 9, m, ps, [], 0⟩ = true by have a := hf.plen; have b := hf.ilen; simp only at a b; simp only [rfewB, Bool.and_eq_true, decide_eq_true_eq]; omega)
  have HMY := Lib.hid hm
  have LP := Lib.hid (show ps.length ≤ 16 from hf.plen)
  obtain ⟨A, hA1, hA2, hA3⟩ := rput_yes hm
  have HA1 := Lib.hid hA1
  have HA2 := Lib.hid hA2
  have HP := Lib.hid (show okN p = true by simp [okN, p0, p1])
  have HMM := Lib.hid (more_may hm HP.out)
  have I1 := Lib.hid (h1.alloc (.cells #[.int .i64 0, .int .i64 9, .int .i64 m, .slice pa ps.length pc, .slice ia 0 ic, .int .i64 0] 26))
  have I2 := Lib.hid (h2.alloc (.cells #[.int .i64 0, .int .i64 9, .int .i64 m, .slice pa ps.length pc, .slice ia 0 ic, .int .i64 0] 26))
  have BL := Lib.hid (show Below w.heap.size w (w.alloc (.cells #[.int .i64 0, .int .i64 9, .int .i64 m, .slice pa ps.length pc, .slice ia 0 ic, .int .i64 0] 26)) from (Below.refl _ _).alloc (Nat.le_refl _) _)
  have HB := Lib.hid (Blk.new w 26 #[.int .i64 0, .int .i64 9, .int .i64 m, .slice pa ps.length pc, .slice ia 0 ic, .int .i64 0])
  have HT0 := Lib.hid (ht.call BL.out)
  clear h1 h2 ht hf hA1 hA2
  go_enter Tryd.func7, Tryd.ntmps7
  go_wp2_with fail
  generalize (w.alloc (.cells #[.int .i64 0, .int .i64 9, .int .i64 m, .slice pa ps.length pc, .slice ia 0 ic, .int .i64 0] 26)) = W0 at *
  refine (rawake_any _ HT0.out).mono ?_
  rintro e w1 ⟨rfl, b1⟩
  have B1 := Lib.hid b1
  have hA := (HB.out.call b1).cell
  clear b1
  go_wp2_with fail
  refine (few_n m ps _ pa ia pc ic _ _ HN.out (I1.out.below B1.out (Nat.le_refl _)) (I2.out.call B1.out)).mono ?_
  rintro e w2 ⟨rfl, b2⟩
  rw [FW.out]
  have B2 := Lib.hid (bl B1.out b2)
  clear b2 hA B1
  have hA := (HB.out.call B2.out).cell
  go_wp2_with fail
  refine (refmay_n m ps _ pa ia pc ic _ _ HN.out (I1.out.below B2.out (Nat.le_refl _)) (I2.out.call B2.out)).mono ?_
  rintro e w3 ⟨rfl, b3⟩
  rw [HMY.out]
  have B3 := Lib.hid (bl B2.out b3)
  clear b3 hA B2 hm
  have hA := (HB.out.call B3.out).cell
  go_wp2_with fail
  refine (put_n m ps _ pa ia pc ic _ _ HN.out (I1.out.below B3.out (Nat.le_refl _)) (I2.out.call B3.out) (HT0.out.call B3.out) HA1.out).mono ?_
  rintro e w5 ⟨rfl, b5⟩
  have B5 := Lib.hid (bl B3.out b5)
  clear b5 hA B3
  have hA := (HB.out.call B5.out).cell
  have BX := Lib.hid (B5.out.alloc B5.out.size (.cells #[.int .i64 0, .int .i64 9, .int .i64 m, .slice pa ps.length pc, .slice ia 0 ic, .int .i64 0] 26))
  have hlt0 := (HB.out.call B5.out).lt
  obtain ⟨v1, W1, v2, W2, hr1, hr2, hb2, a2, c2, rfl, hi2⟩ := append_twice (n := w5.heap.size + 1) (by simp) (cap := pc) (I1.out.below BX.out (Nat.le_refl _)) p (by have := LP.out; omega)
  have HR1 := Lib.hid hr1
  have HR2 := Lib.hid hr2
  have HI2 := Lib.hid hi2
  have C5 := Lib.hid (Blk.new w5 26 #[.int .i64 0, .int .i64 9, .int .i64 m, .slice pa ps.length pc, .slice ia 0 ic, .int .i64 0])
  have C6 := Lib.hid (C5.out.call hb2)
  have D6 := Lib.hid (bl BX.out hb2)
  clear hr1 hr2 hi2 hb2
  rw [show (ps ++ [p]).length = ps.length + 1 by simp] at *
  have hc := C6.out.cell
  have hfz := C6.out.frozen
  have hlt := C6.out.lt
  go_wp2_with (at_builtin; first | refine append_step1 rfl (.tmp 46) (.tmp 48) 23 rfl _ _ v1 W1 rfl rfl HR1.out ?_ | refine append_step1 rfl (.tmp 49) (.tmp 52) 23 rfl _ _ _ W2 rfl rfl HR2.out ?_)
  have D7 := Lib.hid (below_set D6.out B5.out.size 3 (.slice a2 (ps.length + 1) c2))
  have I7 := Lib.hid (HI2.out.set (k := w5.heap.size) (by simp) 3 (.slice a2 (ps.length + 1) c2))
  clear hc hfz hlt hlt0 hA HR1 HR2 HI2 C5 C6 D6 BX
  by_cases hp16 : ps.length < 16
  · have hmm : rmayB ⟨0, 9, m, ps ++ [p], [], 0⟩ = true := by rw [HMM.out]; exact decide_eq_true hp16
    obtain ⟨B, hB1, hB2, -⟩ := rput_yes hmm
    have q1 : (B.toList == A.toList) = false := by
      rw [beq_eq_false_iff_ne, ByteArray.toList_eq, ByteArray.toList_eq, hB2, HA2.out]
      exact more_text HMY.out hmm
    have HB1 := Lib.hid hB1
    clear hB1 hB2 hmm
    refine (put_more m p ps [] a2 ia c2 ic _ _ HN.out I7.out.1 (I2.out.call D7.out) (HT0.out.call D7.out) HB1.out).mono ?_
    rintro e w6 ⟨rfl, b6⟩
    have D8 := Lib.hid (bl D7.out b6)
    clear b6 D7 I7
    have hA := (HB.out.call D8.out).cell
    have hlt0 := (HB.out.call D8.out).lt
    go_wp2_with fail
    go_ret
    exact ⟨rfl, bl BL.out D8.out⟩
  · have hmm : rmayB ⟨0, 9, m, ps ++ [p], [], 0⟩ = false := by rw [HMM.out]; exact decide_eq_false hp16
    have HB1 := Lib.hid (rput_no hmm)
    clear hmm
    refine (put_more m p ps [] a2 ia c2 ic _ _ HN.out I7.out.1 (I2.out.call D7.out) (HT0.out.call D7.out) HB1.out).mono ?_
    rintro e w6 ⟨rfl, b6⟩
    have D8 := Lib.hid (bl D7.out b6)
    clear b6 D7 I7
    have hA := (HB.out.call D8.out).cell
    have hlt0 := (HB.out.call D8.out).lt
    go_wp2_with fail
    go_ret
    exact ⟨rfl, bl BL.out D8.out⟩
set_option maxRecDepth 100000 in
set_option maxHeartbeats 2000000 in
theorem rless_snoc (m p : Int) (ps : List Int) (is : List Sn) (s : Sn) (k xb xo : Nat) (hk : is.length = k) (pa : Option Addr) (pc ic : Nat) (hcap : k + 1 ≤ ic) (w : World) (h1 : IntsAt w pa ps) (h2 : SnsAt w (some ⟨xb, xo, none⟩) (is ++ [s])) (ht : RTabs w) (hm : rmayB ⟨0, 9, m, ps, is ++ [s], 0⟩ = true) (p0 : 0 ≤ p) (p1 : p ≤ 1073741824) :
    Calls Tryd.prog 7 #[.agg #[.int .i64 0, .int .i64 9, .int .i64 m, .slice pa ps.length pc, .slice (some ⟨xb, xo, none⟩) (k + 1) ic, .int .i64 0], .int .u32 p] w fun e w' => e = .returned (.bool true) ∧ Below w.heap.size w w' := by
  have HN := Lib.hid (show (is ++ [s]).length = k + 1 by rw [List.length_append, hk]; rfl)
  have HK := Lib.hid hk
  have hlm := less_may hm
  obtain ⟨U, hU1, hU2, -⟩ := rput_yes hlm
  have hks : k + 1 ≤ 9223372036854775807 := by have := h2.1; rw [HN.out] at this; unfold maxLen at this; omega
  have HU1 := Lib.hid hU1
  have HU2 := Lib.hid hU2
  clear hlm hU1 hU2 hk
  have hf := fits_of hm
  have FW := Lib.hid (show rfewB ⟨0, 9, m, ps, is ++ [s], 0⟩ = true by have a := hf.plen; have b := hf.ilen; simp only at a b; simp only [rfewB, Bool.and_eq_true, decide_eq_true_eq]; omega)
  have HMY := Lib.hid hm
  have LP := Lib.hid (show ps.length ≤ 16 from hf.plen)
  obtain ⟨A, hA1, hA2, hA3⟩ := rput_yes hm
  have HA1 := Lib.hid hA1
  have HA2 := Lib.hid hA2
  have HP := Lib.hid (show okN p = true by simp [okN, p0, p1])
  have HMM := Lib.hid (more_may hm HP.out)
  have hus : U.size < A.size := by
    have e1 : U.data.toList.length = U.size := by simp
    have e2 : A.data.toList.length = A.size := by simp
    rw [← e1, ← e2, HU2.out, hA2]
    exact less_text
  have qu : (U.toList == A.toList) = false := by
    rw [beq_eq_false_iff_ne, ByteArray.toList_eq, ByteArray.toList_eq]
    intro e
    have := congrArg List.length e
    simp at this
    omega
  have qu2 : (U.toList != A.toList) = true := by rw [bne, qu]; rfl
  have IK := Lib.hid ((sns_front h2).alloc (.cells #[.int .i64 0, .int .i64 9, .int .i64 m, .slice pa ps.length pc, .slice (some ⟨xb, xo, none⟩) (k + 1) ic, .int .i64 0] 26))
  have I1 := Lib.hid (h1.alloc (.cells #[.int .i64 0, .int .i64 9, .int .i64 m, .slice pa ps.length pc, .slice (some ⟨xb, xo, none⟩) (k + 1) ic, .int .i64 0] 26))
  have I2 := Lib.hid (h2.alloc (.cells #[.int .i64 0, .int .i64 9, .int .i64 m, .slice pa ps.length pc, .slice (some ⟨xb, xo, none⟩) (k + 1) ic, .int .i64 0] 26))
  have BL := Lib.hid (show Below w.heap.size w (w.alloc (.cells #[.int .i64 0, .int .i64 9, .int .i64 m, .slice pa ps.length pc, .slice (some ⟨xb, xo, none⟩) (k + 1) ic, .int .i64 0] 26)) from (Below.refl _ _).alloc (Nat.le_refl _) _)
  have HB := Lib.hid (Blk.new w 26 #[.int .i64 0, .int .i64 9, .int .i64 m, .slice pa ps.length pc, .slice (some ⟨xb, xo, none⟩) (k + 1) ic, .int .i64 0])
  have HT0 := Lib.hid (ht.call BL.out)
  clear h1 h2 ht hf hA1 hA2
  go_enter Tryd.func7, Tryd.ntmps7
  go_wp2_with fail
  generalize (w.alloc (.cells #[.int .i64 0, .int .i64 9, .int .i64 m, .slice pa ps.length pc, .slice (some ⟨xb, xo, none⟩) (k + 1) ic, .int .i64 0] 26)) = W0 at *
  refine (rawake_any _ HT0.out).mono ?_
  rintro e w1 ⟨rfl, b1⟩
  have B1 := Lib.hid b1
  have hA := (HB.out.call b1).cell
  clear b1
  go_wp2_with fail
  refine (few_n m ps _ pa (some ⟨xb, xo, none⟩) pc ic _ _ HN.out (I1.out.below B1.out (Nat.le_refl _)) (I2.out.call B1.out)).mono ?_
  rintro e w2 ⟨rfl, b2⟩
  rw [FW.out]
  have B2 := Lib.hid (bl B1.out b2)
  clear b2 hA B1
  have hA := (HB.out.call B2.out).cell
  go_wp2_with fail
  refine (refmay_n m ps _ pa (some ⟨xb, xo, none⟩) pc ic _ _ HN.out (I1.out.below B2.out (Nat.le_refl _)) (I2.out.call B2.out)).mono ?_
  rintro e w3 ⟨rfl, b3⟩
  rw [HMY.out]
  have B3 := Lib.hid (bl B2.out b3)
  clear b3 hA B2 hm
  have hA := (HB.out.call B3.out).cell
  go_wp2_with fail
  refine (put_n m ps _ pa (some ⟨xb, xo, none⟩) pc ic _ _ HN.out (I1.out.below B3.out (Nat.le_refl _)) (I2.out.call B3.out) (HT0.out.call B3.out) HA1.out).mono ?_
  rintro e w5 ⟨rfl, b5⟩
  have B5 := Lib.hid (bl B3.out b5)
  clear b5 hA B3
  have hA := (HB.out.call B5.out).cell
  have BX := Lib.hid (B5.out.alloc B5.out.size (.cells #[.int .i64 0, .int .i64 9, .int .i64 m, .slice pa ps.length pc, .slice (some ⟨xb, xo, none⟩) (k + 1) ic, .int .i64 0] 26))
  have hlt0 := (HB.out.call B5.out).lt
  obtain ⟨v1, W1, v2, W2, hr1, hr2, hb2, a2, c2, rfl, hi2⟩ := append_twice (n := w5.heap.size + 1) (by simp) (cap := pc) (I1.out.below BX.out (Nat.le_refl _)) p (by have := LP.out; omega)
  have HR1 := Lib.hid hr1
  have HR2 := Lib.hid hr2
  have HI2 := Lib.hid hi2
  have C5 := Lib.hid (Blk.new w5 26 #[.int .i64 0, .int .i64 9, .int .i64 m, .slice pa ps.length pc, .slice (some ⟨xb, xo, none⟩) (k + 1) ic, .int .i64 0])
  have C6 := Lib.hid (C5.out.call hb2)
  have D6 := Lib.hid (bl BX.out hb2)
  clear hr1 hr2 hi2 hb2
  rw [show (ps ++ [p]).length = ps.length + 1 by simp] at *
  have hc := C6.out.cell
  have hfz := C6.out.frozen
  have hlt := C6.out.lt
  go_wp2_with (at_builtin; first | refine append_step1 rfl (.tmp 46) (.tmp 48) 23 rfl _ _ v1 W1 rfl rfl HR1.out ?_ | refine append_step1 rfl (.tmp 49) (.tmp 52) 23 rfl _ _ _ W2 rfl rfl HR2.out ?_)
  have D7 := Lib.hid (below_set D6.out B5.out.size 3 (.slice a2 (ps.length + 1) c2))
  have I7 := Lib.hid (HI2.out.set (k := w5.heap.size) (by simp) 3 (.slice a2 (ps.length + 1) c2))
  clear hc hfz hlt hlt0 hA HR1 HR2 HI2 C5 C6 D6 BX
  by_cases hp16 : ps.length < 16
  · have hmm : rmayB ⟨0, 9, m, ps ++ [p], is ++ [s], 0⟩ = true := by rw [HMM.out]; exact decide_eq_true hp16
    obtain ⟨B, hB1, hB2, -⟩ := rput_yes hmm
    have q1 : (B.toList == A.toList) = false := by
      rw [beq_eq_false_iff_ne, ByteArray.toList_eq, ByteArray.toList_eq, hB2, HA2.out]
      exact more_text HMY.out hmm
    have HB1 := Lib.hid hB1
    clear hB1 hB2 hmm
    refine (put_more m p ps (is ++ [s]) a2 (some ⟨xb, xo, none⟩) c2 ic _ _ HN.out I7.out.1 (I2.out.call D7.out) (HT0.out.call D7.out) HB1.out).mono ?_
    rintro e w6 ⟨rfl, b6⟩
    have D8 := Lib.hid (bl D7.out b6)
    clear b6 D7 I7
    have hA := (HB.out.call D8.out).cell
    have hlt0 := (HB.out.call D8.out).lt
    go_wp2_with fail
    have DX := Lib.hid (D8.out.alloc D8.out.size (.cells #[.int .i64 0, .int .i64 9, .int .i64 m, .slice pa ps.length pc, .slice (some ⟨xb, xo, none⟩) k ic, .int .i64 0] 26))
    clear hA hlt0
    refine (put_n m ps is pa (some ⟨xb, xo, none⟩) pc ic k _ HK.out (I1.out.below DX.out (Nat.le_refl _)) (IK.out.call DX.out) (HT0.out.call DX.out) HU1.out).mono ?_
    rintro e w9 ⟨rfl, b9⟩
    have D9 := Lib.hid (bl DX.out b9)
    clear b9
    go_wp2_with fail
    go_ret
    exact ⟨rfl, bl BL.out D9.out⟩
  · have hmm : rmayB ⟨0, 9, m, ps ++ [p], is ++ [s], 0⟩ = false := by rw [HMM.out]; exact decide_eq_false hp16
    have HB1 := Lib.hid (rput_no hmm)
    clear hmm
    refine (put_more m p ps (is ++ [s]) a2 (some ⟨xb, xo, none⟩) c2 ic _ _ HN.out I7.out.1 (I2.out.call D7.out) (HT0.out.call D7.out) HB1.out).mono ?_
    rintro e w6 ⟨rfl, b6⟩
    have D8 := Lib.hid (bl D7.out b6)
    clear b6 D7 I7
    have hA := (HB.out.call D8.out).cell
    have hlt0 := (HB.out.call D8.out).lt
    go_wp2_with fail
    have DX := Lib.hid (D8.out.alloc D8.out.size (.cells #[.int .i64 0, .int .i64 9, .int .i64 m, .slice pa ps.length pc, .slice (some ⟨xb, xo, none⟩) k ic, .int .i64 0] 26))
    clear hA hlt0
    refine (put_n m ps is pa (some ⟨xb, xo, none⟩) pc ic k _ HK.out (I1.out.below DX.out (Nat.le_refl _)) (IK.out.call DX.out) (HT0.out.call DX.out) HU1.out).mono ?_
    rintro e w9 ⟨rfl, b9⟩
    have D9 := Lib.hid (bl DX.out b9)
    clear b9
    go_wp2_with fail
    go_ret
    exact ⟨rfl, bl BL.out D9.out⟩
set_option maxHeartbeats 2000000 in
theorem rless_else (c : Rp) (ga wa : Option Addr) (gc wc : Nat) (p : Int) (w : World) (h1 : IntsAt w ga c.players) (h2 : SnsAt w wa c.items) (ht : RTabs w) (p0 : 0 ≤ p)
    (f : rfewB c = false ∨ rmayB c = false ∨ ¬ c.kind = 9 ∨ 1073741824 < p) :
    Calls Tryd.prog 7 #[.agg #[.int .i64 c.err, .int .i64 c.kind, .int .i64 c.room, .slice ga c.players.length gc, .slice wa c.items.length wc, .int .i64 c.coins], .int .u32 p] w fun e w' => e = .returned (.bool true) ∧ Below w.heap.size w w' := by
  have HT := Lib.hid ht
  have P0 := Lib.hid (OneR.start (gc := gc) (wc := wc) h1 h2)
  clear ht h1 h2
  cases f1 : rfewB c
  · have F1 := Lib.hid f1
    clear f f1
    go_enter Tryd.func7, Tryd.ntmps7
    go_wp2_with fail
    refine (rawake_any _ (HT.out.call P0.out.1)).mono ?_
    rintro e w1 ⟨rfl, b1⟩
    have P1 := Lib.hid (P0.out.call b1)
    have hA := P1.out.2.1.cell
    clear b1 P0
    go_wp2_with fail
    refine (rfew_any _ _ _ _ _ _ P1.out.2.2.1 P1.out.2.2.2).mono ?_
    rintro e w2 ⟨rfl, b2⟩
    rw [F1.out]
    have PX := Lib.hid (P1.out.call b2)
    clear b2 P1 hA
    go_wp2_with fail
    refine (rawake_any _ (HT.out.call PX.out.1)).mono ?_
    rintro e w9 ⟨rfl, b9⟩
    have P9 := Lib.hid (PX.out.call b9)
    clear b9
    go_wp2_with fail
    go_ret
    exact ⟨rfl, P9.out.1⟩
  · have F1 := Lib.hid f1
    cases f2 : rmayB c
    · have F2 := Lib.hid f2
      clear f f1 f2
      go_enter Tryd.func7, Tryd.ntmps7
      go_wp2_with fail
      refine (rawake_any _ (HT.out.call P0.out.1)).mono ?_
      rintro e w1 ⟨rfl, b1⟩
      have P1 := Lib.hid (P0.out.call b1)
      have hA := P1.out.2.1.cell
      clear b1 P0
      go_wp2_with fail
      refine (rfew_any _ _ _ _ _ _ P1.out.2.2.1 P1.out.2.2.2).mono ?_
      rintro e w2 ⟨rfl, b2⟩
      rw [F1.out]
      have P2 := Lib.hid (P1.out.call b2)
      clear b2 P1 hA
      have hA := P2.out.2.1.cell
      go_wp2_with fail
      refine (rrefmay_any _ _ _ _ _ _ P2.out.2.2.1 P2.out.2.2.2).mono ?_
      rintro e w3 ⟨rfl, b3⟩
      rw [F2.out]
      have PX := Lib.hid (P2.out.call b3)
      clear b3 P2 hA
      have hA := PX.out.2.1.cell
      go_wp2_with fail
      clear hA
      refine (rawake_any _ (HT.out.call PX.out.1)).mono ?_
      rintro e w9 ⟨rfl, b9⟩
      have P9 := Lib.hid (PX.out.call b9)
      clear b9
      go_wp2_with fail
      go_ret
      exact ⟨rfl, P9.out.1⟩
    · have F2 := Lib.hid f2
      by_cases hk : c.kind = 9
      · have hp : 1073741824 < p := by
          rcases f with f | f | f | f
          · rw [f1] at f; cases f
          · rw [f2] at f; cases f
          · exact absurd hk f
          · exact f
        have he := (look_form f2 hk).1
        have e1 : (c.kind != 9) = false := by simp [hk]
        have e2 : (c.err != 0) = false := by simp [he]
        clear f f1 f2 hk he
        go_enter Tryd.func7, Tryd.ntmps7
        go_wp2_with fail
        refine (rawake_any _ (HT.out.call P0.out.1)).mono ?_
        rintro e w1 ⟨rfl, b1⟩
        have P1 := Lib.hid (P0.out.call b1)
        have hA := P1.out.2.1.cell
        clear b1 P0
        go_wp2_with fail
        refine (rfew_any _ _ _ _ _ _ P1.out.2.2.1 P1.out.2.2.2).mono ?_
        rintro e w2 ⟨rfl, b2⟩
        rw [F1.out]
        have P2 := Lib.hid (P1.out.call b2)
        clear b2 P1 hA
        have hA := P2.out.2.1.cell
        go_wp2_with fail
        refine (rrefmay_any _ _ _ _ _ _ P2.out.2.2.1 P2.out.2.2.2).mono ?_
        rintro e w3 ⟨rfl, b3⟩
        rw [F2.out]
        have PX := Lib.hid (P2.out.call b3)
        clear b3 P2 hA
        have hA := PX.out.2.1.cell
        go_wp2_with fail
        clear hA
        refine (rawake_any _ (HT.out.call PX.out.1)).mono ?_
        rintro e w9 ⟨rfl, b9⟩
        have P9 := Lib.hid (PX.out.call b9)
        clear b9
        go_wp2_with fail
        go_ret
        exact ⟨rfl, P9.out.1⟩
      · have e1 : (c.kind != 9) = true := by simp [hk]
        clear f f1 f2 hk
        go_enter Tryd.func7, Tryd.ntmps7
        go_wp2_with fail
        refine (rawake_any _ (HT.out.call P0.out.1)).mono ?_
        rintro e w1 ⟨rfl, b1⟩
        have P1 := Lib.hid (P0.out.call b1)
        have hA := P1.out.2.1.cell
        clear b1 P0
        go_wp2_with fail
        refine (rfew_any _ _ _ _ _ _ P1.out.2.2.1 P1.out.2.2.2).mono ?_
        rintro e w2 ⟨rfl, b2⟩
        rw [F1.out]
        have P2 := Lib.hid (P1.out.call b2)
        clear b2 P1 hA
        have hA := P2.out.2.1.cell
        go_wp2_with fail
        refine (rrefmay_any _ _ _ _ _ _ P2.out.2.2.1 P2.out.2.2.2).mono ?_
        rintro e w3 ⟨rfl, b3⟩
        rw [F2.out]
        have PX := Lib.hid (P2.out.call b3)
        clear b3 P2 hA
        have hA := PX.out.2.1.cell
        go_wp2_with fail
        clear hA
        refine (rawake_any _ (HT.out.call PX.out.1)).mono ?_
        rintro e w9 ⟨rfl, b9⟩
        have P9 := Lib.hid (PX.out.call b9)
        clear b9
        go_wp2_with fail
        go_ret
        exact ⟨rfl, P9.out.1⟩
theorem walk_replyLess (c : Rp) (ga wa : Option Addr) (gc wc : Nat) (p : Int) (w : World) (hp : (Lit.int .u32 p).wf = true) (h1 : IntsAt w ga c.players) (h2 : SnsAt w wa c.items) (hcap : c.players.length ≤ gc ∧ c.items.length ≤ wc) (hk : KTab w) (hpt : PTab w) (ht : Tab w) :
    Calls Tryd.prog 7 #[.agg #[.int .i64 c.err, .int .i64 c.kind, .int .i64 c.room, .slice ga c.players.length gc, .slice wa c.items.length wc, .int .i64 c.coins], .int .u32 p] w fun e w' => e = .returned (.bool true) ∧ Below w.heap.size w w' := by
  have HT : RTabs w := ⟨hk, hpt, ht⟩
  obtain ⟨p0, _⟩ := wf_u32 hp
  by_cases p1 : p ≤ 1073741824
  · cases f2 : rmayB c
    · exact rless_else c ga wa gc wc p w h1 h2 HT p0 (.inr (.inl f2))
    · by_cases h9 : c.kind = 9
      · obtain ⟨he, hc0⟩ := look_form f2 h9
        obtain ⟨e, k, m, ps, is, d⟩ := c
        simp only at he hc0 h9 h1 h2 hcap ⊢
        subst he hc0 h9
        rcases List.eq_nil_or_concat is with rfl | ⟨js, s, hjs⟩
        · exact rless_nil m p ps ga wa gc wc w h1 h2 HT f2 p0 p1
        · rw [List.concat_eq_append] at hjs
          subst hjs
          obtain ⟨xb, xo, rfl, _, _⟩ := h2.at_ (k := 0) (by simp)
          have hl : (js ++ [s]).length = js.length + 1 := by simp
          rw [hl] at hcap ⊢
          exact rless_snoc m p ps js s js.length xb xo rfl ga gc wc hcap.2 w h1 h2 HT f2 p0 p1
      · exact rless_else c ga wa gc wc p w h1 h2 HT p0 (.inr (.inr (.inl h9)))
  · exact rless_else c ga wa gc wc p w h1 h2 HT p0 (.inr (.inr (.inr (by omega))))
set_option maxRecDepth 100000 in
theorem lifted_replyLess (os : Os) (started : os.Started) (H : Type) (enc : TypeId × Value → H) :
    ReturnsInHanded {} Tryd.checked os 7 .any (fun w args => (Rows.replyLessSpec.pre enc Tryd.prog Tryd.f7 [] false w args ∧ laidMetH Tryd.prog Rows.replyLessRow.laid w) ∧ sizedMet enc Tryd.prog Tryd.f7 (OpenSpec.ofChange Rows.replyLessSpec) false w args) (Rows.replyLessSpec.post enc Tryd.prog Tryd.f7 false true false false) := by
  refine returnsInHanded_of_change_and (C := Tryd.checked) (X := fun w _ => laidMetH Tryd.prog Rows.replyLessRow.laid w) (fun _ _ _ hh h => h.of_heap hh) (by kernel_rfl) started (by kernel_rfl) Tryd.func7
    (ChangeSpec.witness_shaped (enc := enc) (C := Tryd.checked) (os := os) (X := fun w _ => laidMetH Tryd.prog Rows.replyLessRow.laid w) false (World.laidAll Tryd.prog os Rows.replyLessRow.laid) #[.agg #[.int .i64 0, .int .i64 0, .int .i64 0, .slice none 0 0, .slice none 0 0, .int .i64 0], .int .u32 0] 8 (World.laidAll_os _ _ _)
      (World.shaped_of_ZipB (by kernel_rfl) (by kernel_rfl)) (by kernel_rfl) (by kernel_rfl) (by kernel_rfl)
      (by rw [MakeChecks.laidMetH_plain _ _ _ (by kernel_rfl)]; exact laidMet_laidAll _ (by kernel_rfl) (by kernel_rfl))) ?_
  intro W base args ds gs before hval0 hW hcnd hsized hL _
  have hval : ∀ (j : Nat) t v, Tryd.f7.params[j]? = some t → args[j]? = some v → Value.okWide Tryd.prog W .any base t v := hval0
  have hW' := hW
  obtain ⟨p, q, hA0, hV, rfl, hfz, hnd⟩ := hW
  have hA : DataW.TrodAll enc Tryd.prog W 0 (fun _ => true) true Tryd.f7.params.toList args.toList ds p := hA0
  rw [Tryd.params7] at hA hval
  obtain ⟨v0, vs0, d0, ds0, p0, q0, hargs, rfl, rfl, h0, r0⟩ := trodAll_cons hA
  obtain ⟨v1, vs1, d1, ds1, p1, q1, rfl, rfl, rfl, h1, r1⟩ := trodAll_cons r0
  obtain ⟨rfl, rfl, rfl⟩ := trodAll_nil r1
  obtain rfl : args = #[v0, v1] := by cases args; simp_all
  obtain ⟨rfl, rfl⟩ := trodVars_none hV
  obtain ⟨c0, ga0, wa0, gc0, wc0, rfl, m0, u0, g0⟩ := read_rep (hval 0 26 v0 rfl rfl) h0
  obtain ⟨a1, rfl, rfl, rfl, w1⟩ := open_int Tryd.underlying41 (hval 1 41 v1 rfl rfl) h1
  clear hA0 hval0
  simp only [List.append_nil] at hW'
  rw [MakeChecks.laidMetH_plain _ _ _ (by kernel_rfl)] at hL
  have fKTab := KTab_laid W (hL.tail.tail.tail.tail)
  have fPTab := PTab_laid W (hL.tail.tail.tail.tail.tail)
  have fTab := Tab_laid W (hL.tail.tail)
  refine (walk_replyLess c0 ga0 wa0 gc0 wc0 a1 W w1 m0 u0 g0 fKTab fPTab fTab).mono fun e W' ⟨he, hg⟩ => ?_
  subst he
  exact ⟨_, rfl, law_post (by kernel_rfl) rfl (by rw [Tryd.params7]; decide +kernel) rfl rfl Tryd.underlying4 hW' hg⟩

theorem row_replyLess : Rows.ReplyLessSaid :=
  OpenClaim.holds_of_wide 7 Tryd.f7 rfl rfl rfl rfl rfl rfl rfl ⟨rfl, rfl, rfl, rfl, rfl⟩ rfl rfl rfl rfl rfl (by kernel_rfl) Tryd.func7 (by kernel_rfl)
    (of_decide_eq_true (by kernel_rfl)) (by unfold Func.isWrapper; first | (rw [if_pos (by decide +kernel)]; kernel_rfl) | (rw [if_neg (by decide +kernel)]; exact ⟨rfl, rfl⟩))
    (fun os started H enc _ => lifted_replyLess os started H enc)
/-- ████ THE STATEMENT ████ -/
theorem proved_replyLess : Rows.ReplyLessCardSaid :=
  Claim7.holds_tied_plain_at .later [] Rows.replyLessCard.laidKinds true Rows.replyLessCard.stood.harness false row_replyLess (fun _ h => by cases h) (by kernel_rfl) (fun _ h => by cases h) replyLess_row_tie rfl ⟨rfl, rfl⟩ (by kernel_rfl) rfl
    (fun f fn hf hfn => by
      obtain rfl : f = 7 := Option.some.inj ((show Tryd.prog.funcNamed "innkeep/innkeeplaw05.ReplyLess" = some 7 by kernel_rfl).symm.trans hf) |>.symm
      obtain rfl : fn = Tryd.f7 := (Option.some.inj (Tryd.func7.symm.trans hfn)).symm
      exact ⟨by kernel_rfl, fun j t ht => by
        rw [Tryd.params7] at ht
        have hm : t ∈ [26, 41] := by simpa using Array.mem_of_getElem? ht
        have hall : ([26, 41].all fun u => !Tryd.prog.wantsStandIn u) = true := by kernel_rfl
        exact (show Tryd.prog.wantsStandIn t = false by simpa using List.all_eq_true.1 hall t hm)⟩)
    (by kernel_rfl)
#print axioms proved_replyLess
end Go.Proofs.YtcabeagmdfpdlaaDoor
