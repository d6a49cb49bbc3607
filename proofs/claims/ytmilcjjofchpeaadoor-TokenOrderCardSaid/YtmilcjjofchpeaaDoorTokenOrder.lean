/- TokenOrder: for every two numbers, the one with the longer word is greater, and of words as long as one another the later one: the statement answers true. No condition but that the library's tables lie as its text lays them (tied). -/
import Derived.Test.YtmilcjjofchpeaaDoorRows
import Derived.Test.YtmilcjjofchpeaaDoorTokLaw
import Derived.WalkKit
import Derived.ProofKit
import Derived.OpenShut
import Derived.IntWalk
namespace Go.Proofs.YtmilcjjofchpeaaDoor
open Go.ChangeShapes Go.WideShapes Go.ChangeAt Go.RowKit
set_option linter.unusedVariables false
open Go.RowKit

theorem foldl_from (l : List UInt8) (a : Nat) : l.foldl (fun a c => 10 * a + (c.toNat - 48)) a = a * 10 ^ l.length + val l := by
  induction l using snoc_ind generalizing a with
  | h0 => simp [val]
  | h1 l c ih =>
    rw [List.foldl_append, List.length_append, List.length_singleton, Nat.pow_succ, val_snoc]
    simp only [List.foldl_cons, List.foldl_nil]
    rw [ih a]
    have : a * (10 ^ l.length * 10) = 10 * (a * 10 ^ l.length) := by
      rw [← Nat.mul_assoc, Nat.mul_comm]
    omega
theorem val_cons (c : UInt8) (l : List UInt8) : val (c :: l) = (c.toNat - 48) * 10 ^ l.length + val l := by
  show (c :: l).foldl _ 0 = _
  rw [List.foldl_cons, foldl_from]; simp
theorem less_val : ∀ (x y : List UInt8), x.length = y.length → dig x = true → dig y = true → Op.bytesLess x y = decide (val x < val y)
  | [], [], _, _, _ => by simp [Op.bytesLess, val]
  | [], _ :: _, h, _, _ => by simp at h
  | _ :: _, [], h, _, _ => by simp at h
  | a :: x, b :: y, h, h1, h2 => by
    simp only [dig, List.all_cons, Bool.and_eq_true] at h1 h2
    have ih := less_val x y (by simpa using h) h1.2 h2.2
    have ha := (isD_iff a).1 h1.1
    have hb := (isD_iff b).1 h2.1
    have lx := val_lt x h1.2
    have ly := val_lt y h2.2
    have hl : x.length = y.length := by simpa using h
    rw [hl] at lx
    rw [val_cons, val_cons, hl]
    have lt_iff : (a < b) ↔ a.toNat < b.toNat := UInt8.lt_iff_toNat_lt
    rcases Nat.lt_trichotomy a.toNat b.toNat with h3 | h3 | h3
    · have := Nat.mul_le_mul_right (10 ^ y.length) (show a.toNat - 48 + 1 ≤ b.toNat - 48 by omega)
      rw [Nat.add_mul, Nat.one_mul] at this
      have e1 : decide ((a.toNat - 48) * 10 ^ y.length + val x < (b.toNat - 48) * 10 ^ y.length + val y) = true := decide_eq_true (by omega)
      rw [e1]; simp [Op.bytesLess, lt_iff, h3]
    · have hab : a = b := UInt8.toNat_inj.1 h3
      subst hab
      have e1 : decide ((a.toNat - 48) * 10 ^ y.length + val x < (a.toNat - 48) * 10 ^ y.length + val y) = decide (val x < val y) := by
        apply decide_eq_decide.2; omega
      rw [e1, ← ih]; simp [Op.bytesLess]
    · have := Nat.mul_le_mul_right (10 ^ y.length) (show b.toNat - 48 + 1 ≤ a.toNat - 48 by omega)
      rw [Nat.add_mul, Nat.one_mul] at this
      have e1 : decide ((a.toNat - 48) * 10 ^ y.length + val x < (b.toNat - 48) * 10 ^ y.length + val y) = false := decide_eq_false (by omega)
      have hne : a ≠ b := fun e => by rw [e] at h3; omega
      rw [e1]; simp [Op.bytesLess, lt_iff, hne]; omega
theorem word_less {a b : Nat} (h : (Lib.decDigits a).length = (Lib.decDigits b).length) : Op.bytesLess (Lib.decDigits a) (Lib.decDigits b) = decide (a < b) := by
  have := less_val _ _ h (word_val a).1 (word_val b).1
  rwa [(word_val a).2.1, (word_val b).2.1] at this
theorem word_inj {a b : Nat} (h : Lib.decDigits a = Lib.decDigits b) : a = b := by
  have := congrArg val h; rwa [(word_val a).2.1, (word_val b).2.1] at this
theorem word_shorter {a b : Nat} (h : (Lib.decDigits a).length < (Lib.decDigits b).length) : a < b := by
  obtain ⟨a1, a2, a3, a4⟩ := word_val a
  obtain ⟨b1, b2, b3, b4⟩ := word_val b
  have la := List.length_pos_iff.2 a3
  have hb0 : 0 < b := by
    apply Decidable.byContradiction; intro h0
    have := word_short b (by omega); omega
  have h1 := val_lt _ a1
  have h2 := val_ge _ b1 b3 (b4 hb0)
  have h3 : 10 ^ (Lib.decDigits a).length ≤ 10 ^ ((Lib.decDigits b).length - 1) := Nat.pow_le_pow_right (by omega) (by omega)
  omega

theorem walk_tokenOrder (a b : Int) (w : World) (w0 : (Lit.int .u32 a).wf = true) (w1 : (Lit.int .u32 b).wf = true) (ht : Tab w) :
    Calls Tryd.prog 7 #[.int .u32 a, .int .u32 b] w fun e w' => e = .returned (.bool true) ∧ Below w.heap.size w w' := by
  obtain ⟨a0, a1⟩ := wf_u32 w0
  obtain ⟨b0, b1⟩ := wf_u32 w1
  obtain ⟨a, rfl⟩ := Int.eq_ofNat_of_zero_le a0
  obtain ⟨b, rfl⟩ := Int.eq_ofNat_of_zero_le b0
  have HT := Lib.hid ht
  clear ht w1 w0
  by_cases hm : a ≤ 1073741824 ∧ b ≤ 1073741824
  · obtain ⟨ha, hb⟩ := hm
    have la : (Lib.decDigits a).length ≤ 21 := by
      have := Lib.itoa_length_le (a : Int) (by omega) (by omega)
      rwa [Lib.itoa_nonneg] at this
    have lb : (Lib.decDigits b).length ≤ 21 := by
      have := Lib.itoa_length_le (b : Int) (by omega) (by omega)
      rwa [Lib.itoa_nonneg] at this
    have f1 := fun h => word_shorter (a := a) (b := b) h
    have f2 := fun h => word_shorter (a := b) (b := a) h
    have f3 := fun h => word_less (a := a) (b := b) h
    have f4 := fun h => word_inj (a := a) (b := b) h
    have f5 : a = b → Lib.decDigits a = Lib.decDigits b := fun h => by rw [h]
    have wa := fun w ht => word_any a w (by omega) ht
    have wb := fun w ht => word_any b w (by omega) ht
    generalize Lib.decDigits a = x at *
    generalize Lib.decDigits b = y at *
    have WA := Lib.hid wa
    have WB := Lib.hid wb
    clear wa wb
    by_cases hl : x.length = y.length
    · have f6 := f3 hl
      have f11 : ((x.length : Int) != (y.length : Int)) = false := by rw [bne_eq_false_iff_eq]; omega
      have F7 := Lib.hid hl
      clear f1 f2 f3 hl
      rcases Nat.lt_trichotomy a b with h | h | h
      · have f8 : Op.bytesLess x y = true := by rw [f6]; simpa using h
        have f9 : (x == y) = false := by rw [beq_eq_false_iff_ne]; intro e; have := f4 e; omega
        have f10 : ((a : Int) == (b : Int)) = false := by rw [beq_eq_false_iff_ne]; omega
        clear f4 f5 f6
        go_enter Tryd.func7, Tryd.ntmps7
        go_wp2_with fail
        refine (awake_any _ HT.out).mono ?_
        rintro e wA ⟨rfl, bA⟩
        go_wp2_with fail
        have T1 := Lib.hid (tab_below HT.out bA)
        refine (WA.out _ T1.out).mono ?_
        rintro e wB ⟨rfl, bB⟩
        go_wp2_with fail
        have T2 := Lib.hid (tab_below T1.out bB)
        refine (WB.out _ T2.out).mono ?_
        rintro e wC ⟨rfl, bC⟩
        go_wp2_with fail
        go_ret
        exact ⟨rfl, bl (bl bA bB) bC⟩
      · have f8 : Op.bytesLess x y = false := by rw [f6]; simp; omega
        have f9 : (x == y) = true := by rw [beq_iff_eq]; exact f5 h
        have f10 : ((a : Int) == (b : Int)) = true := by rw [beq_iff_eq]; omega
        have f12 : decide (a < b) = false := by simp; omega
        clear f4 f5 f6
        have H := Lib.hid h
        clear h
        go_enter Tryd.func7, Tryd.ntmps7
        go_wp2_with fail
        refine (awake_any _ HT.out).mono ?_
        rintro e wA ⟨rfl, bA⟩
        go_wp2_with fail
        have T1 := Lib.hid (tab_below HT.out bA)
        refine (WA.out _ T1.out).mono ?_
        rintro e wB ⟨rfl, bB⟩
        go_wp2_with fail
        have T2 := Lib.hid (tab_below T1.out bB)
        refine (WB.out _ T2.out).mono ?_
        rintro e wC ⟨rfl, bC⟩
        go_wp2_with fail
        go_ret
        exact ⟨rfl, bl (bl bA bB) bC⟩
      · have f8 : Op.bytesLess x y = false := by rw [f6]; simp; omega
        have f9 : (x == y) = false := by rw [beq_eq_false_iff_ne]; intro e; have := f4 e; omega
        have f10 : ((a : Int) == (b : Int)) = false := by rw [beq_eq_false_iff_ne]; omega
        have f12 : ¬ a < b := by omega
        clear f4 f5 f6
        go_enter Tryd.func7, Tryd.ntmps7
        go_wp2_with fail
        refine (awake_any _ HT.out).mono ?_
        rintro e wA ⟨rfl, bA⟩
        go_wp2_with fail
        have T1 := Lib.hid (tab_below HT.out bA)
        refine (WA.out _ T1.out).mono ?_
        rintro e wB ⟨rfl, bB⟩
        go_wp2_with fail
        have T2 := Lib.hid (tab_below T1.out bB)
        refine (WB.out _ T2.out).mono ?_
        rintro e wC ⟨rfl, bC⟩
        go_wp2_with fail
        go_ret
        exact ⟨rfl, bl (bl bA bB) bC⟩
    · have f11 : ((x.length : Int) != (y.length : Int)) = true := by rw [bne_iff_ne]; omega
      clear f3 f4 f5
      by_cases h : x.length < y.length
      · have f12 := f1 h
        clear f1 f2 hl
        go_enter Tryd.func7, Tryd.ntmps7
        go_wp2_with fail
        refine (awake_any _ HT.out).mono ?_
        rintro e wA ⟨rfl, bA⟩
        go_wp2_with fail
        have T1 := Lib.hid (tab_below HT.out bA)
        refine (WA.out _ T1.out).mono ?_
        rintro e wB ⟨rfl, bB⟩
        go_wp2_with fail
        have T2 := Lib.hid (tab_below T1.out bB)
        refine (WB.out _ T2.out).mono ?_
        rintro e wC ⟨rfl, bC⟩
        go_wp2_with fail
        go_ret
        exact ⟨rfl, bl (bl bA bB) bC⟩
      · have f12 := f2 (by omega)
        have f13 : ¬ a < b := by omega
        clear f1 f2 hl
        go_enter Tryd.func7, Tryd.ntmps7
        go_wp2_with fail
        refine (awake_any _ HT.out).mono ?_
        rintro e wA ⟨rfl, bA⟩
        go_wp2_with fail
        have T1 := Lib.hid (tab_below HT.out bA)
        refine (WA.out _ T1.out).mono ?_
        rintro e wB ⟨rfl, bB⟩
        go_wp2_with fail
        have T2 := Lib.hid (tab_below T1.out bB)
        refine (WB.out _ T2.out).mono ?_
        rintro e wC ⟨rfl, bC⟩
        go_wp2_with fail
        go_ret
        exact ⟨rfl, bl (bl bA bB) bC⟩
  · by_cases ha : a ≤ 1073741824
    · have hb : 1073741824 < b := by omega
      clear hm
      go_enter Tryd.func7, Tryd.ntmps7
      go_wp2_with fail
      refine (awake_any _ HT.out).mono ?_
      rintro e wA ⟨rfl, bA⟩
      go_wp2_with fail
      have T1 := Lib.hid (tab_below HT.out bA)
      refine (awake_any _ T1.out).mono ?_
      rintro e wB ⟨rfl, bB⟩
      go_wp2_with fail
      go_ret
      exact ⟨rfl, bl bA bB⟩
    · clear hm
      have ha2 : 1073741824 < a := by omega
      go_enter Tryd.func7, Tryd.ntmps7
      go_wp2_with fail
      refine (awake_any _ HT.out).mono ?_
      rintro e wA ⟨rfl, bA⟩
      go_wp2_with fail
      have T1 := Lib.hid (tab_below HT.out bA)
      refine (awake_any _ T1.out).mono ?_
      rintro e wB ⟨rfl, bB⟩
      go_wp2_with fail
      go_ret
      exact ⟨rfl, bl bA bB⟩

set_option maxRecDepth 100000 in
theorem lifted_tokenOrder (os : Os) (started : os.Started) (H : Type) (enc : TypeId × Value → H) :
    ReturnsInHanded {} Tryd.checked os 7 .any (fun w args => (Rows.tokenOrderSpec.pre enc Tryd.prog Tryd.f7 [] false w args ∧ laidMetH Tryd.prog Rows.tokenOrderRow.laid w) ∧ sizedMet enc Tryd.prog Tryd.f7 (OpenSpec.ofChange Rows.tokenOrderSpec) false w args) (Rows.tokenOrderSpec.post enc Tryd.prog Tryd.f7 false true false false) := by
  refine returnsInHanded_of_change_and (C := Tryd.checked) (X := fun w _ => laidMetH Tryd.prog Rows.tokenOrderRow.laid w) (fun _ _ _ hh h => h.of_heap hh) (by kernel_rfl) started (by kernel_rfl) Tryd.func7
    (ChangeSpec.witness_shaped (enc := enc) (C := Tryd.checked) (os := os) (X := fun w _ => laidMetH Tryd.prog Rows.tokenOrderRow.laid w) false (World.laidAll Tryd.prog os Rows.tokenOrderRow.laid) #[.int .u32 0, .int .u32 0] 8 (World.laidAll_os _ _ _)
      (World.shaped_of_ZipB (by kernel_rfl) (by kernel_rfl)) (by kernel_rfl) (by kernel_rfl) (by kernel_rfl)
      (by rw [MakeChecks.laidMetH_plain _ _ _ (by kernel_rfl)]; exact laidMet_laidAll _ (by kernel_rfl) (by kernel_rfl))) ?_
  intro W base args ds gs before hval0 hW hcnd hsized hL _
  have hval : ∀ (j : Nat) t v, Tryd.f7.params[j]? = some t → args[j]? = some v → Value.okWide Tryd.prog W .any base t v := hval0
  have hW' := hW
  obtain ⟨p, q, hA0, hV, rfl, hfz, hnd⟩ := hW
  have hA : DataW.TrodAll enc Tryd.prog W 0 (fun _ => true) true Tryd.f7.params.toList args.toList ds p := hA0
  rw [Tryd.params7] at hA hval
  obtain ⟨v0, vs0, d0, ds0, p0, q0, hargs, rfl, rfl, h0, r0⟩ := trodAll_cons hA
  obtain ⟨v1, vs1, d1, ds1, p1, q1, rfl, rfl, rfl, h1, r1⟩ := trodAll_cons r0
  obtain ⟨rfl, rfl, rfl⟩ := trodAll_nil r1
  obtain rfl : args = #[v0, v1] := by cases args; simp_all
  obtain ⟨rfl, rfl⟩ := trodVars_none hV
  obtain ⟨a0, rfl, rfl, rfl, w0⟩ := open_int Tryd.underlying29 (hval 0 29 v0 rfl rfl) h0
  obtain ⟨a1, rfl, rfl, rfl, w1⟩ := open_int Tryd.underlying29 (hval 1 29 v1 rfl rfl) h1
  clear hA0 hval0
  simp only [List.append_nil] at hW'
  rw [MakeChecks.laidMetH_plain _ _ _ (by kernel_rfl)] at hL
  have fTab := Tab_laid W (hL.tail.tail)
  refine (walk_tokenOrder a0 a1 W w0 w1 fTab).mono fun e W' ⟨he, hg⟩ => ?_
  subst he
  exact ⟨_, rfl, law_post (by kernel_rfl) rfl (by rw [Tryd.params7]; decide +kernel) rfl rfl Tryd.underlying4 hW' hg⟩

theorem row_tokenOrder : Rows.TokenOrderSaid :=
  OpenClaim.holds_of_wide 7 Tryd.f7 rfl rfl rfl rfl rfl rfl rfl ⟨rfl, rfl, rfl, rfl, rfl⟩ rfl rfl rfl rfl rfl (by kernel_rfl) Tryd.func7 (by kernel_rfl)
    (of_decide_eq_true (by kernel_rfl)) (by unfold Func.isWrapper; first | (rw [if_pos (by decide +kernel)]; kernel_rfl) | (rw [if_neg (by decide +kernel)]; exact ⟨rfl, rfl⟩))
    (fun os started H enc _ => lifted_tokenOrder os started H enc)
/-- ████ THE STATEMENT ████ -/
theorem proved_tokenOrder : Rows.TokenOrderCardSaid :=
  Claim7.holds_tied_plain_at .later [] Rows.tokenOrderCard.laidKinds true Rows.tokenOrderCard.stood.harness false row_tokenOrder (fun _ h => by cases h) (by kernel_rfl) (fun _ h => by cases h) tokenOrder_row_tie rfl ⟨rfl, rfl⟩ (by kernel_rfl) rfl
    (fun f fn hf hfn => by
      obtain rfl : f = 7 := Option.some.inj ((show Tryd.prog.funcNamed "innkeep/innkeeplaw02.TokenOrder" = some 7 by kernel_rfl).symm.trans hf) |>.symm
      obtain rfl : fn = Tryd.f7 := (Option.some.inj (Tryd.func7.symm.trans hfn)).symm
      exact ⟨by kernel_rfl, fun j t ht => by
        rw [Tryd.params7] at ht
        have hm : t ∈ [29, 29] := by simpa using Array.mem_of_getElem? ht
        have hall : ([29, 29].all fun u => !Tryd.prog.wantsStandIn u) = true := by kernel_rfl
        exact (show Tryd.prog.wantsStandIn t = false by simpa using List.all_eq_true.1 hall t hm)⟩)
    (by kernel_rfl)
#print axioms proved_tokenOrder
end Go.Proofs.YtmilcjjofchpeaaDoor
