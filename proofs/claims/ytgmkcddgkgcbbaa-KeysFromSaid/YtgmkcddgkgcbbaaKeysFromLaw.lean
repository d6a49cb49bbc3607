/- KeysFrom: less is an order; three keys, sorted. -/
import Derived.Test.YtgmkcddgkgcbbaaKeysE
import Derived.Test.YtgmkcddgkgcbbaaKeysAw
import Derived.Test.YtgmkcddgkgcbbaaKeysArg
import Derived.Deep.DeepCutAuto
namespace Go.Proofs.Ytgmkcddgkgcbbaa
open Go.ChangeShapes Go.WideShapes Go.ChangeAt Go.RowKit
open Lib (hid)
set_option linter.unusedVariables false
set_option maxRecDepth 100000
open Go.RowKit Go
theorem tri14 (w : World) (A B C : Array Value) (t u v : TypeId) : Holds w w.heap.size A (((w.alloc (.cells A t)).alloc (.cells B u)).alloc (.cells C v)) ∧ Holds w (w.heap.size + 1) B (((w.alloc (.cells A t)).alloc (.cells B u)).alloc (.cells C v)) ∧ Holds w (w.heap.size + 2) C (((w.alloc (.cells A t)).alloc (.cells B u)).alloc (.cells C v)) := by
 refine ⟨(Holds.pair w A B t u).1.alloc _, (Holds.pair w A B t u).2.alloc _, ?_⟩
 refine ⟨(((Below.refl _ _).alloc (Nat.le_refl _) _).alloc (by simp) _).alloc (by simp; omega) _, (Blk.newn _ _ _ (by simp)).lt, (Blk.newn _ _ _ (by simp)).cell⟩
theorem head_least {l s : List Pl} (h : IsSort l s) (hp : 0 < s.length) {x : Pl} (hx : x ∈ l) : lessK x s[0] = false := by
 obtain ⟨i, hi, rfl⟩ := List.mem_iff_getElem.1 ((h.mem x).2 hx)
 by_cases h0 : i = 0
 ·subst h0; exact lessK_self _
 ·exact lessK_one (h.rise (show 0 < i by omega) hi)
theorem two_long {l s : List Pl} (h : IsSort l s) {x y : Pl} (hx : x ∈ l) (hy : y ∈ l) (hne : ¬ x = y) : ¬ s.length = 1 := fun e => by
 obtain ⟨z, rfl⟩ := List.length_eq_one_iff.1 e
 have h1 := (h.mem x).2 hx
 have h2 := (h.mem y).2 hy
 rw [List.mem_singleton] at h1 h2
 exact hne (h1.trans h2.symm)
theorem one_long {s : List Pl} {x : Pl} (h : IsSort [x, x, x] s) : s.length = 1 := by
 rw [h.same (t := [x]) ⟨List.pairwise_singleton _ _, fun k => by simp⟩]; rfl
set_option maxHeartbeats 4000000 in
theorem keysFrom_go (a0 a1 b0 b1 c0 c1 : Int) (w : World) (ha : InK ⟨a0, a1⟩) (hb : InK ⟨b0, b1⟩) (hc : InK ⟨c0, c1⟩) : Calls Try.prog 7 #[.agg #[.int .i64 a0, .int .i64 a1], .agg #[.int .i64 b0, .int .i64 b1], .agg #[.int .i64 c0, .int .i64 c1]] w fun e w' => e = .returned (.bool true) ∧ Below w.heap.size w w' := by
 have INS := hid (show ∀ k ∈ [(⟨a0, a1⟩ : Pl), ⟨b0, b1⟩, ⟨c0, c1⟩], InK k from by simpa using ⟨ha, hb, hc⟩)
 clear ha hb hc
 have HP0 := hid (tri14 w #[.int .i64 a0, .int .i64 a1] #[.int .i64 b0, .int .i64 b1] #[.int .i64 c0, .int .i64 c1] 24 24 24)
 go_enter Try.func7, Try.ntmps7
 go_wp2_with fail
 generalize ((w.alloc (.cells #[.int .i64 a0, .int .i64 a1] 24)).alloc (.cells #[.int .i64 b0, .int .i64 b1] 24)).alloc (.cells #[.int .i64 c0, .int .i64 c1] 24) = V0 at *
 have HA_0 := hid HP0.out.1
 have HB_0 := hid HP0.out.2.1
 have HC_0 := hid HP0.out.2.2
 have B_0 := hid HA_0.out.1
 clear HP0
 refine (awake14_any _).mono ?_
 rintro e u1 ⟨rfl, b1⟩
 have B_1 := hid (bl B_0.out b1)
 have HA_1 := hid (HA_0.out.call b1)
 have HB_1 := hid (HB_0.out.call b1)
 have HC_1 := hid (HC_0.out.call b1)
 clear b1 B_0 HA_0 HB_0 HC_0
 have hcHA := HA_1.out.2.2
 have hlHA := HA_1.out.2.1
 have hcHB := HB_1.out.2.2
 have hlHB := HB_1.out.2.1
 have hcHC := HC_1.out.2.2
 have hlHC := HC_1.out.2.1
 clear hcHA hlHA hcHB hlHB hcHC hlHC
 go_upto_region 3 with fail
 go_cut [55] (fun v wx => v = .bool false ∧ Holds w w.heap.size #[.int .i64 a0, .int .i64 a1] wx ∧ Holds w (w.heap.size + 1) #[.int .i64 b0, .int .i64 b1] wx ∧ Holds w (w.heap.size + 2) #[.int .i64 c0, .int .i64 c1] wx)
 case first =>
  by_cases hab : lessK ⟨a0, a1⟩ ⟨b0, b1⟩ = true
  ·by_cases hbc : lessK ⟨b0, b1⟩ ⟨c0, c1⟩ = true
   ·have X1 := hid hab
    have X2 := hid (lessK_one hab)
    have hn := run_kne a0 a1 b0 b1
    simp only [lessK_ne hab, decide_false, Bool.not_false] at hn
    have X3 := hid hbc
    have X4 := hid (lessK_trans hab hbc)
    clear hab hbc
    have hcHA := HA_1.out.2.2
    have hlHA := HA_1.out.2.1
    have hcHB := HB_1.out.2.2
    have hlHB := HB_1.out.2.1
    have hcHC := HC_1.out.2.2
    have hlHC := HC_1.out.2.1
    go_wp2_with fail
    refine (kless_any ⟨a0, a1⟩ ⟨a0, a1⟩ _).mono ?_
    rintro e u2 ⟨rfl, b2⟩
    rw [lessK_self]
    clear hcHA hlHA hcHB hlHB hcHC hlHC
    have B_2 := hid (bl B_1.out b2)
    have HA_2 := hid (HA_1.out.call b2)
    have HB_2 := hid (HB_1.out.call b2)
    have HC_2 := hid (HC_1.out.call b2)
    clear b2 B_1 HA_1 HB_1 HC_1
    have hcHA := HA_2.out.2.2
    have hlHA := HA_2.out.2.1
    have hcHB := HB_2.out.2.2
    have hlHB := HB_2.out.2.1
    have hcHC := HC_2.out.2.2
    have hlHC := HC_2.out.2.1
    go_wp2_with fail
    refine (kless_any ⟨a0, a1⟩ ⟨b0, b1⟩ _).mono ?_
    rintro e u3 ⟨rfl, b3⟩
    rw [X1.out]
    clear hcHA hlHA hcHB hlHB hcHC hlHC
    have B_3 := hid (bl B_2.out b3)
    have HA_3 := hid (HA_2.out.call b3)
    have HB_3 := hid (HB_2.out.call b3)
    have HC_3 := hid (HC_2.out.call b3)
    clear b3 B_2 HA_2 HB_2 HC_2
    have hcHA := HA_3.out.2.2
    have hlHA := HA_3.out.2.1
    have hcHB := HB_3.out.2.2
    have hlHB := HB_3.out.2.1
    have hcHC := HC_3.out.2.2
    have hlHC := HC_3.out.2.1
    go_wp2_with fail
    refine (kless_any ⟨b0, b1⟩ ⟨a0, a1⟩ _).mono ?_
    rintro e u4 ⟨rfl, b4⟩
    rw [X2.out]
    clear hcHA hlHA hcHB hlHB hcHC hlHC
    have B_4 := hid (bl B_3.out b4)
    have HA_4 := hid (HA_3.out.call b4)
    have HB_4 := hid (HB_3.out.call b4)
    have HC_4 := hid (HC_3.out.call b4)
    clear b4 B_3 HA_3 HB_3 HC_3
    have hcHA := HA_4.out.2.2
    have hlHA := HA_4.out.2.1
    have hcHB := HB_4.out.2.2
    have hlHB := HB_4.out.2.1
    have hcHC := HC_4.out.2.2
    have hlHC := HC_4.out.2.1
    go_wp2_with fail
    refine (kless_any ⟨a0, a1⟩ ⟨b0, b1⟩ _).mono ?_
    rintro e u5 ⟨rfl, b5⟩
    rw [X1.out]
    clear hcHA hlHA hcHB hlHB hcHC hlHC
    have B_5 := hid (bl B_4.out b5)
    have HA_5 := hid (HA_4.out.call b5)
    have HB_5 := hid (HB_4.out.call b5)
    have HC_5 := hid (HC_4.out.call b5)
    clear b5 B_4 HA_4 HB_4 HC_4
    have hcHA := HA_5.out.2.2
    have hlHA := HA_5.out.2.1
    have hcHB := HB_5.out.2.2
    have hlHB := HB_5.out.2.1
    have hcHC := HC_5.out.2.2
    have hlHC := HC_5.out.2.1
    go_wp2_with fail
    refine (kless_any ⟨a0, a1⟩ ⟨b0, b1⟩ _).mono ?_
    rintro e u6 ⟨rfl, b6⟩
    rw [X1.out]
    clear hcHA hlHA hcHB hlHB hcHC hlHC
    have B_6 := hid (bl B_5.out b6)
    have HA_6 := hid (HA_5.out.call b6)
    have HB_6 := hid (HB_5.out.call b6)
    have HC_6 := hid (HC_5.out.call b6)
    clear b6 B_5 HA_5 HB_5 HC_5
    have hcHA := HA_6.out.2.2
    have hlHA := HA_6.out.2.1
    have hcHB := HB_6.out.2.2
    have hlHB := HB_6.out.2.1
    have hcHC := HC_6.out.2.2
    have hlHC := HC_6.out.2.1
    go_wp2_with fail
    refine (kless_any ⟨b0, b1⟩ ⟨c0, c1⟩ _).mono ?_
    rintro e u7 ⟨rfl, b7⟩
    rw [X3.out]
    clear hcHA hlHA hcHB hlHB hcHC hlHC
    have B_7 := hid (bl B_6.out b7)
    have HA_7 := hid (HA_6.out.call b7)
    have HB_7 := hid (HB_6.out.call b7)
    have HC_7 := hid (HC_6.out.call b7)
    clear b7 B_6 HA_6 HB_6 HC_6
    have hcHA := HA_7.out.2.2
    have hlHA := HA_7.out.2.1
    have hcHB := HB_7.out.2.2
    have hlHB := HB_7.out.2.1
    have hcHC := HC_7.out.2.2
    have hlHC := HC_7.out.2.1
    go_wp2_with fail
    refine (kless_any ⟨a0, a1⟩ ⟨c0, c1⟩ _).mono ?_
    rintro e u8 ⟨rfl, b8⟩
    rw [X4.out]
    clear hcHA hlHA hcHB hlHB hcHC hlHC
    have B_8 := hid (bl B_7.out b8)
    have HA_8 := hid (HA_7.out.call b8)
    have HB_8 := hid (HB_7.out.call b8)
    have HC_8 := hid (HC_7.out.call b8)
    clear b8 B_7 HA_7 HB_7 HC_7
    have hcHA := HA_8.out.2.2
    have hlHA := HA_8.out.2.1
    have hcHB := HB_8.out.2.2
    have hlHB := HB_8.out.2.1
    have hcHC := HC_8.out.2.2
    have hlHC := HC_8.out.2.1
    go_wp2_with fail
    go_meet
    exact ⟨rfl, HA_8.out, HB_8.out, HC_8.out⟩
   ·have X1 := hid hab
    have X2 := hid (lessK_one hab)
    have hn := run_kne a0 a1 b0 b1
    simp only [lessK_ne hab, decide_false, Bool.not_false] at hn
    have X3 := hid (show lessK ⟨b0, b1⟩ ⟨c0, c1⟩ = false by simpa using hbc)
    clear hab hbc
    have hcHA := HA_1.out.2.2
    have hlHA := HA_1.out.2.1
    have hcHB := HB_1.out.2.2
    have hlHB := HB_1.out.2.1
    have hcHC := HC_1.out.2.2
    have hlHC := HC_1.out.2.1
    go_wp2_with fail
    refine (kless_any ⟨a0, a1⟩ ⟨a0, a1⟩ _).mono ?_
    rintro e u2 ⟨rfl, b2⟩
    rw [lessK_self]
    clear hcHA hlHA hcHB hlHB hcHC hlHC
    have B_2 := hid (bl B_1.out b2)
    have HA_2 := hid (HA_1.out.call b2)
    have HB_2 := hid (HB_1.out.call b2)
    have HC_2 := hid (HC_1.out.call b2)
    clear b2 B_1 HA_1 HB_1 HC_1
    have hcHA := HA_2.out.2.2
    have hlHA := HA_2.out.2.1
    have hcHB := HB_2.out.2.2
    have hlHB := HB_2.out.2.1
    have hcHC := HC_2.out.2.2
    have hlHC := HC_2.out.2.1
    go_wp2_with fail
    refine (kless_any ⟨a0, a1⟩ ⟨b0, b1⟩ _).mono ?_
    rintro e u3 ⟨rfl, b3⟩
    rw [X1.out]
    clear hcHA hlHA hcHB hlHB hcHC hlHC
    have B_3 := hid (bl B_2.out b3)
    have HA_3 := hid (HA_2.out.call b3)
    have HB_3 := hid (HB_2.out.call b3)
    have HC_3 := hid (HC_2.out.call b3)
    clear b3 B_2 HA_2 HB_2 HC_2
    have hcHA := HA_3.out.2.2
    have hlHA := HA_3.out.2.1
    have hcHB := HB_3.out.2.2
    have hlHB := HB_3.out.2.1
    have hcHC := HC_3.out.2.2
    have hlHC := HC_3.out.2.1
    go_wp2_with fail
    refine (kless_any ⟨b0, b1⟩ ⟨a0, a1⟩ _).mono ?_
    rintro e u4 ⟨rfl, b4⟩
    rw [X2.out]
    clear hcHA hlHA hcHB hlHB hcHC hlHC
    have B_4 := hid (bl B_3.out b4)
    have HA_4 := hid (HA_3.out.call b4)
    have HB_4 := hid (HB_3.out.call b4)
    have HC_4 := hid (HC_3.out.call b4)
    clear b4 B_3 HA_3 HB_3 HC_3
    have hcHA := HA_4.out.2.2
    have hlHA := HA_4.out.2.1
    have hcHB := HB_4.out.2.2
    have hlHB := HB_4.out.2.1
    have hcHC := HC_4.out.2.2
    have hlHC := HC_4.out.2.1
    go_wp2_with fail
    refine (kless_any ⟨a0, a1⟩ ⟨b0, b1⟩ _).mono ?_
    rintro e u5 ⟨rfl, b5⟩
    rw [X1.out]
    clear hcHA hlHA hcHB hlHB hcHC hlHC
    have B_5 := hid (bl B_4.out b5)
    have HA_5 := hid (HA_4.out.call b5)
    have HB_5 := hid (HB_4.out.call b5)
    have HC_5 := hid (HC_4.out.call b5)
    clear b5 B_4 HA_4 HB_4 HC_4
    have hcHA := HA_5.out.2.2
    have hlHA := HA_5.out.2.1
    have hcHB := HB_5.out.2.2
    have hlHB := HB_5.out.2.1
    have hcHC := HC_5.out.2.2
    have hlHC := HC_5.out.2.1
    go_wp2_with fail
    refine (kless_any ⟨a0, a1⟩ ⟨b0, b1⟩ _).mono ?_
    rintro e u6 ⟨rfl, b6⟩
    rw [X1.out]
    clear hcHA hlHA hcHB hlHB hcHC hlHC
    have B_6 := hid (bl B_5.out b6)
    have HA_6 := hid (HA_5.out.call b6)
    have HB_6 := hid (HB_5.out.call b6)
    have HC_6 := hid (HC_5.out.call b6)
    clear b6 B_5 HA_5 HB_5 HC_5
    have hcHA := HA_6.out.2.2
    have hlHA := HA_6.out.2.1
    have hcHB := HB_6.out.2.2
    have hlHB := HB_6.out.2.1
    have hcHC := HC_6.out.2.2
    have hlHC := HC_6.out.2.1
    go_wp2_with fail
    refine (kless_any ⟨b0, b1⟩ ⟨c0, c1⟩ _).mono ?_
    rintro e u7 ⟨rfl, b7⟩
    rw [X3.out]
    clear hcHA hlHA hcHB hlHB hcHC hlHC
    have B_7 := hid (bl B_6.out b7)
    have HA_7 := hid (HA_6.out.call b7)
    have HB_7 := hid (HB_6.out.call b7)
    have HC_7 := hid (HC_6.out.call b7)
    clear b7 B_6 HA_6 HB_6 HC_6
    have hcHA := HA_7.out.2.2
    have hlHA := HA_7.out.2.1
    have hcHB := HB_7.out.2.2
    have hlHB := HB_7.out.2.1
    have hcHC := HC_7.out.2.2
    have hlHC := HC_7.out.2.1
    go_wp2_with fail
    go_meet
    exact ⟨rfl, HA_7.out, HB_7.out, HC_7.out⟩
  ·have hab2 : lessK ⟨a0, a1⟩ ⟨b0, b1⟩ = false := by simpa using hab
   by_cases he : (⟨a0, a1⟩ : Pl) = ⟨b0, b1⟩
   ·have X1 := hid hab2
    have hn := run_kne a0 a1 b0 b1
    simp only [he, decide_true, Bool.not_true] at hn
    clear hab hab2 he
    have hcHA := HA_1.out.2.2
    have hlHA := HA_1.out.2.1
    have hcHB := HB_1.out.2.2
    have hlHB := HB_1.out.2.1
    have hcHC := HC_1.out.2.2
    have hlHC := HC_1.out.2.1
    go_wp2_with fail
    refine (kless_any ⟨a0, a1⟩ ⟨a0, a1⟩ _).mono ?_
    rintro e u2 ⟨rfl, b2⟩
    rw [lessK_self]
    clear hcHA hlHA hcHB hlHB hcHC hlHC
    have B_2 := hid (bl B_1.out b2)
    have HA_2 := hid (HA_1.out.call b2)
    have HB_2 := hid (HB_1.out.call b2)
    have HC_2 := hid (HC_1.out.call b2)
    clear b2 B_1 HA_1 HB_1 HC_1
    have hcHA := HA_2.out.2.2
    have hlHA := HA_2.out.2.1
    have hcHB := HB_2.out.2.2
    have hlHB := HB_2.out.2.1
    have hcHC := HC_2.out.2.2
    have hlHC := HC_2.out.2.1
    go_wp2_with fail
    refine (kless_any ⟨a0, a1⟩ ⟨b0, b1⟩ _).mono ?_
    rintro e u3 ⟨rfl, b3⟩
    rw [X1.out]
    clear hcHA hlHA hcHB hlHB hcHC hlHC
    have B_3 := hid (bl B_2.out b3)
    have HA_3 := hid (HA_2.out.call b3)
    have HB_3 := hid (HB_2.out.call b3)
    have HC_3 := hid (HC_2.out.call b3)
    clear b3 B_2 HA_2 HB_2 HC_2
    have hcHA := HA_3.out.2.2
    have hlHA := HA_3.out.2.1
    have hcHB := HB_3.out.2.2
    have hlHB := HB_3.out.2.1
    have hcHC := HC_3.out.2.2
    have hlHC := HC_3.out.2.1
    go_wp2_with fail
    refine (kless_any ⟨a0, a1⟩ ⟨b0, b1⟩ _).mono ?_
    rintro e u4 ⟨rfl, b4⟩
    rw [X1.out]
    clear hcHA hlHA hcHB hlHB hcHC hlHC
    have B_4 := hid (bl B_3.out b4)
    have HA_4 := hid (HA_3.out.call b4)
    have HB_4 := hid (HB_3.out.call b4)
    have HC_4 := hid (HC_3.out.call b4)
    clear b4 B_3 HA_3 HB_3 HC_3
    have hcHA := HA_4.out.2.2
    have hlHA := HA_4.out.2.1
    have hcHB := HB_4.out.2.2
    have hlHB := HB_4.out.2.1
    have hcHC := HC_4.out.2.2
    have hlHC := HC_4.out.2.1
    go_wp2_with fail
    go_meet
    exact ⟨rfl, HA_4.out, HB_4.out, HC_4.out⟩
   ·have X1 := hid hab2
    have X2 := hid (show lessK ⟨b0, b1⟩ ⟨a0, a1⟩ = true from (lessK_all he).resolve_left hab)
    have hn := run_kne a0 a1 b0 b1
    simp only [he, decide_false, Bool.not_false] at hn
    clear hab hab2 he
    have hcHA := HA_1.out.2.2
    have hlHA := HA_1.out.2.1
    have hcHB := HB_1.out.2.2
    have hlHB := HB_1.out.2.1
    have hcHC := HC_1.out.2.2
    have hlHC := HC_1.out.2.1
    go_wp2_with fail
    refine (kless_any ⟨a0, a1⟩ ⟨a0, a1⟩ _).mono ?_
    rintro e u2 ⟨rfl, b2⟩
    rw [lessK_self]
    clear hcHA hlHA hcHB hlHB hcHC hlHC
    have B_2 := hid (bl B_1.out b2)
    have HA_2 := hid (HA_1.out.call b2)
    have HB_2 := hid (HB_1.out.call b2)
    have HC_2 := hid (HC_1.out.call b2)
    clear b2 B_1 HA_1 HB_1 HC_1
    have hcHA := HA_2.out.2.2
    have hlHA := HA_2.out.2.1
    have hcHB := HB_2.out.2.2
    have hlHB := HB_2.out.2.1
    have hcHC := HC_2.out.2.2
    have hlHC := HC_2.out.2.1
    go_wp2_with fail
    refine (kless_any ⟨a0, a1⟩ ⟨b0, b1⟩ _).mono ?_
    rintro e u3 ⟨rfl, b3⟩
    rw [X1.out]
    clear hcHA hlHA hcHB hlHB hcHC hlHC
    have B_3 := hid (bl B_2.out b3)
    have HA_3 := hid (HA_2.out.call b3)
    have HB_3 := hid (HB_2.out.call b3)
    have HC_3 := hid (HC_2.out.call b3)
    clear b3 B_2 HA_2 HB_2 HC_2
    have hcHA := HA_3.out.2.2
    have hlHA := HA_3.out.2.1
    have hcHB := HB_3.out.2.2
    have hlHB := HB_3.out.2.1
    have hcHC := HC_3.out.2.2
    have hlHC := HC_3.out.2.1
    go_wp2_with fail
    refine (kless_any ⟨a0, a1⟩ ⟨b0, b1⟩ _).mono ?_
    rintro e u4 ⟨rfl, b4⟩
    rw [X1.out]
    clear hcHA hlHA hcHB hlHB hcHC hlHC
    have B_4 := hid (bl B_3.out b4)
    have HA_4 := hid (HA_3.out.call b4)
    have HB_4 := hid (HB_3.out.call b4)
    have HC_4 := hid (HC_3.out.call b4)
    clear b4 B_3 HA_3 HB_3 HC_3
    have hcHA := HA_4.out.2.2
    have hlHA := HA_4.out.2.1
    have hcHB := HB_4.out.2.2
    have hlHB := HB_4.out.2.1
    have hcHC := HC_4.out.2.2
    have hlHC := HC_4.out.2.1
    go_wp2_with fail
    refine (kless_any ⟨b0, b1⟩ ⟨a0, a1⟩ _).mono ?_
    rintro e u5 ⟨rfl, b5⟩
    rw [X2.out]
    clear hcHA hlHA hcHB hlHB hcHC hlHC
    have B_5 := hid (bl B_4.out b5)
    have HA_5 := hid (HA_4.out.call b5)
    have HB_5 := hid (HB_4.out.call b5)
    have HC_5 := hid (HC_4.out.call b5)
    clear b5 B_4 HA_4 HB_4 HC_4
    have hcHA := HA_5.out.2.2
    have hlHA := HA_5.out.2.1
    have hcHB := HB_5.out.2.2
    have hlHB := HB_5.out.2.1
    have hcHC := HC_5.out.2.2
    have hlHC := HC_5.out.2.1
    go_wp2_with fail
    refine (kless_any ⟨a0, a1⟩ ⟨b0, b1⟩ _).mono ?_
    rintro e u6 ⟨rfl, b6⟩
    rw [X1.out]
    clear hcHA hlHA hcHB hlHB hcHC hlHC
    have B_6 := hid (bl B_5.out b6)
    have HA_6 := hid (HA_5.out.call b6)
    have HB_6 := hid (HB_5.out.call b6)
    have HC_6 := hid (HC_5.out.call b6)
    clear b6 B_5 HA_5 HB_5 HC_5
    have hcHA := HA_6.out.2.2
    have hlHA := HA_6.out.2.1
    have hcHB := HB_6.out.2.2
    have hlHB := HB_6.out.2.1
    have hcHC := HC_6.out.2.2
    have hlHC := HC_6.out.2.1
    go_wp2_with fail
    go_meet
    exact ⟨rfl, HA_6.out, HB_6.out, HC_6.out⟩
 case rest =>
  obtain ⟨rfl, hA, hB, hC⟩ := hcut
  have B_0 := hid hA.1
  have HA_0 := hid hA
  have HB_0 := hid hB
  have HC_0 := hid hC
  clear hA hB hC B_1 HA_1 HB_1 HC_1
  have hcHA := HA_0.out.2.2
  have hlHA := HA_0.out.2.1
  have hcHB := HB_0.out.2.2
  have hlHB := HB_0.out.2.1
  have hcHC := HC_0.out.2.2
  have hlHC := HC_0.out.2.1
  go_wp2_with fail
  clear hcHA hlHA hcHB hlHB hcHC hlHC
  have s1 : (wc.alloc (.cells #[.int .i64 a0, .int .i64 a1, .int .i64 b0, .int .i64 b1, .int .i64 c0, .int .i64 c1] 24)).heap.size = wc.heap.size + 1 := by simp
  have B_1 := hid (B_0.out.alloc B_0.out.size (.cells #[.int .i64 a0, .int .i64 a1, .int .i64 b0, .int .i64 b1, .int .i64 c0, .int .i64 c1] 24))
  have HA_1 := hid (HA_0.out.alloc (.cells #[.int .i64 a0, .int .i64 a1, .int .i64 b0, .int .i64 b1, .int .i64 c0, .int .i64 c1] 24))
  have HB_1 := hid (HB_0.out.alloc (.cells #[.int .i64 a0, .int .i64 a1, .int .i64 b0, .int .i64 b1, .int .i64 c0, .int .i64 c1] 24))
  have HC_1 := hid (HC_0.out.alloc (.cells #[.int .i64 a0, .int .i64 a1, .int .i64 b0, .int .i64 b1, .int .i64 c0, .int .i64 c1] 24))
  have SL_1 := hid (Holds.newb (w := w) (A := #[.int .i64 a0, .int .i64 a1, .int .i64 b0, .int .i64 b1, .int .i64 c0, .int .i64 c1]) (t := 24) (n := wc.heap.size) B_0.out rfl)
  clear B_0 HA_0 HB_0 HC_0
  generalize wc.alloc (.cells #[.int .i64 a0, .int .i64 a1, .int .i64 b0, .int .i64 b1, .int .i64 c0, .int .i64 c1] 24) = V2 at *
  refine (ksort_any (some ⟨wc.heap.size, 0, none⟩) 3 [⟨a0, a1⟩, ⟨b0, b1⟩, ⟨c0, c1⟩] _ (pls14c [⟨a0, a1⟩, ⟨b0, b1⟩, ⟨c0, c1⟩] SL_1.out.2.2 SL_1.out.2.1 (by simp [maxLen]) rfl) INS.out (by simp)).mono ?_
  rintro e u3 ⟨sb, sc, s, rfl, hs, hO, b3⟩
  have B_2 := hid (bl B_1.out b3)
  have HA_2 := hid (HA_1.out.call b3)
  have HB_2 := hid (HB_1.out.call b3)
  have HC_2 := hid (HC_1.out.call b3)
  have SL_2 := hid (SL_1.out.call b3)
  clear b3 B_1 HA_1 HB_1 HC_1 SL_1
  have hsp : 0 < s.length := List.length_pos_iff.2 (fun e => by have := (hs.mem ⟨a0, a1⟩).2 (by simp); rw [e] at this; simp at this)
  obtain ⟨g, go, rfl, hg, d0, d1⟩ := PlsAt.cells hO.row hsp
  have E1 := hid (head_least hs hsp (x := ⟨a0, a1⟩) (by simp))
  have E2 := hid (head_least hs hsp (x := ⟨b0, b1⟩) (by simp))
  have E3 := hid (head_least hs hsp (x := ⟨c0, c1⟩) (by simp))
  have HS := hid hs
  have hsl := hs.len
  generalize s[0] = z at *
  obtain ⟨z0, z1⟩ := z
  simp only [Nat.zero_mul, Nat.add_zero] at d0 d1
  have D0 := hid d0
  have D1 := hid d1
  have HG := hid hg
  clear hs hO d0 d1 hg s1
  have i1 : (1 : Int) ≤ (s.length : Int) := by omega
  have i3 : (s.length : Int) ≤ 3 := by have h : s.length ≤ 3 := hsl; omega
  clear hsl
  by_cases hab : (⟨a0, a1⟩ : Pl) = ⟨b0, b1⟩
  ·by_cases hbc : (⟨b0, b1⟩ : Pl) = ⟨c0, c1⟩
   ·have he1 := run_keq a0 a1 b0 b1
    have he2 := run_keq b0 b1 c0 c1
    simp only [hab, decide_true] at he1
    simp only [hbc, decide_true] at he2
    have hl1 : ((s.length : Int) == 1) = true := by rw [beq_iff_eq]; rw [hab, hbc] at HS; have := one_long HS.out; omega
    clear hab hbc HS
    go_wp2_with fail
    have KS : Hid (∀ w', Below u3.heap.size u3 w' → Below u3.heap.size u3 w' ∧ (∀ ii, w'.cell? ⟨w.heap.size, ii, none⟩ = (#[.int .i64 a0, .int .i64 a1][ii]? : Option Value)) ∧ (∀ ii, w'.cell? ⟨w.heap.size + 1, ii, none⟩ = (#[.int .i64 b0, .int .i64 b1][ii]? : Option Value)) ∧ (∀ ii, w'.cell? ⟨w.heap.size + 2, ii, none⟩ = (#[.int .i64 c0, .int .i64 c1][ii]? : Option Value)) ∧ (∀ ii, w'.cell? ⟨wc.heap.size, ii, none⟩ = (#[.int .i64 a0, .int .i64 a1, .int .i64 b0, .int .i64 b1, .int .i64 c0, .int .i64 c1][ii]? : Option Value)) ∧ w'.cell? ⟨g, go, none⟩ = some (.int .i64 z0) ∧ w'.cell? ⟨g, go + 1, none⟩ = some (.int .i64 z1)) := hid (fun w' hb => ⟨hb, fun ii => (hb.cell (p := ⟨w.heap.size, ii, none⟩) HA_2.out.2.1).trans (HA_2.out.2.2 ii), fun ii => (hb.cell (p := ⟨w.heap.size + 1, ii, none⟩) HB_2.out.2.1).trans (HB_2.out.2.2 ii), fun ii => (hb.cell (p := ⟨w.heap.size + 2, ii, none⟩) HC_2.out.2.1).trans (HC_2.out.2.2 ii), fun ii => (hb.cell (p := ⟨wc.heap.size, ii, none⟩) SL_2.out.2.1).trans (SL_2.out.2.2 ii), cell_call D0.out hb, cell_call D1.out hb⟩)
    have D0 := hid (bdrew1 (Below.refl u3.heap.size u3))
    refine tkS (S := (fun w' => Below u3.heap.size u3 w' ∧ (∀ ii, w'.cell? ⟨w.heap.size, ii, none⟩ = (#[.int .i64 a0, .int .i64 a1][ii]? : Option Value)) ∧ (∀ ii, w'.cell? ⟨w.heap.size + 1, ii, none⟩ = (#[.int .i64 b0, .int .i64 b1][ii]? : Option Value)) ∧ (∀ ii, w'.cell? ⟨w.heap.size + 2, ii, none⟩ = (#[.int .i64 c0, .int .i64 c1][ii]? : Option Value)) ∧ (∀ ii, w'.cell? ⟨wc.heap.size, ii, none⟩ = (#[.int .i64 a0, .int .i64 a1, .int .i64 b0, .int .i64 b1, .int .i64 c0, .int .i64 c1][ii]? : Option Value)) ∧ w'.cell? ⟨g, go, none⟩ = some (.int .i64 z0) ∧ w'.cell? ⟨g, go + 1, none⟩ = some (.int .i64 z1))) (by (first | (with_reducible exact KS.out _ D0.out))) (fun hHeld => ?_)
    refine tkl [0, 1, 2, 3, 4, 5, 6, 7, 8, 9, 10, 11, 12, 13, 14, 15] ?_
    iterate 16
     refine tW ?_
     try go_frame
    refine tkl [16, 17, 18] ?_
    iterate 3
     refine tW ?_
     try go_frame
    refine tkl [19, 20, 21, 22, 23, 24, 25, 26] ?_
    iterate 8
     refine tW ?_
     try go_frame
    refine rdy1 27 (fun K hK => ?_)
    go_simp
    refine (kless_any ⟨a0, a1⟩ ⟨z0, z1⟩ _).mono ?_; rintro e x1 ⟨rfl, hb9⟩; have D1 := hid (below_call D0.out D0.out.size hb9); rw [E1.out]; clear hb9
    try go_wp2_with fail
    refine hK.out _ _ (by (first | (with_reducible exact KS.out _ D1.out))) (fun hHeld => ?_)
    clear hK K
    try go_frame
    refine tkl [28, 29, 30, 31, 32, 33, 34] ?_
    iterate 7
     refine tW ?_
     try go_frame
    refine rdy1 35 (fun K hK => ?_)
    go_simp
    refine (kless_any ⟨b0, b1⟩ ⟨z0, z1⟩ _).mono ?_; rintro e x2 ⟨rfl, hb9⟩; have D2 := hid (below_call D1.out D1.out.size hb9); rw [E2.out]; clear hb9
    try go_wp2_with fail
    refine hK.out _ _ (by (first | (with_reducible exact KS.out _ D2.out))) (fun hHeld => ?_)
    clear hK K
    try go_frame
    refine tkl [36, 37, 38, 39, 40, 41, 42] ?_
    iterate 7
     refine tW ?_
     try go_frame
    refine rdy1 43 (fun K hK => ?_)
    go_simp
    refine (kless_any ⟨c0, c1⟩ ⟨z0, z1⟩ _).mono ?_; rintro e x3 ⟨rfl, hb9⟩; have D3 := hid (below_call D2.out D2.out.size hb9); rw [E3.out]; clear hb9
    try go_wp2_with fail
    refine hK.out _ _ (by (first | (with_reducible exact KS.out _ D3.out))) (fun hHeld => ?_)
    clear hK K
    try go_frame
    refine tkl [44, 45, 46] ?_
    iterate 3
     refine tW ?_
     try go_frame
    refine tkD ?_
    clear hHeld KS
    have B_3 := hid (bl B_2.out D3.out)
    have HA_3 := hid (HA_2.out.call D3.out)
    have HB_3 := hid (HB_2.out.call D3.out)
    have HC_3 := hid (HC_2.out.call D3.out)
    have SL_3 := hid (SL_2.out.call D3.out)
    clear B_2 HA_2 HB_2 HC_2 SL_2 D0 D1 D2 D3
    go_wp2_with fail
    go_ret
    exact ⟨rfl, B_3.out⟩
   ·have he1 := run_keq a0 a1 b0 b1
    have he2 := run_keq b0 b1 c0 c1
    simp only [hab, decide_true] at he1
    simp only [hbc, decide_false] at he2
    have hl1 : ((s.length : Int) == 1) = false := by rw [beq_eq_false_iff_ne]; have := two_long HS.out (x := ⟨b0, b1⟩) (y := ⟨c0, c1⟩) (by simp) (by simp) hbc; omega
    clear hab hbc HS
    go_wp2_with fail
    have KS : Hid (∀ w', Below u3.heap.size u3 w' → Below u3.heap.size u3 w' ∧ (∀ ii, w'.cell? ⟨w.heap.size, ii, none⟩ = (#[.int .i64 a0, .int .i64 a1][ii]? : Option Value)) ∧ (∀ ii, w'.cell? ⟨w.heap.size + 1, ii, none⟩ = (#[.int .i64 b0, .int .i64 b1][ii]? : Option Value)) ∧ (∀ ii, w'.cell? ⟨w.heap.size + 2, ii, none⟩ = (#[.int .i64 c0, .int .i64 c1][ii]? : Option Value)) ∧ (∀ ii, w'.cell? ⟨wc.heap.size, ii, none⟩ = (#[.int .i64 a0, .int .i64 a1, .int .i64 b0, .int .i64 b1, .int .i64 c0, .int .i64 c1][ii]? : Option Value)) ∧ w'.cell? ⟨g, go, none⟩ = some (.int .i64 z0) ∧ w'.cell? ⟨g, go + 1, none⟩ = some (.int .i64 z1)) := hid (fun w' hb => ⟨hb, fun ii => (hb.cell (p := ⟨w.heap.size, ii, none⟩) HA_2.out.2.1).trans (HA_2.out.2.2 ii), fun ii => (hb.cell (p := ⟨w.heap.size + 1, ii, none⟩) HB_2.out.2.1).trans (HB_2.out.2.2 ii), fun ii => (hb.cell (p := ⟨w.heap.size + 2, ii, none⟩) HC_2.out.2.1).trans (HC_2.out.2.2 ii), fun ii => (hb.cell (p := ⟨wc.heap.size, ii, none⟩) SL_2.out.2.1).trans (SL_2.out.2.2 ii), cell_call D0.out hb, cell_call D1.out hb⟩)
    have D0 := hid (bdrew1 (Below.refl u3.heap.size u3))
    refine tkS (S := (fun w' => Below u3.heap.size u3 w' ∧ (∀ ii, w'.cell? ⟨w.heap.size, ii, none⟩ = (#[.int .i64 a0, .int .i64 a1][ii]? : Option Value)) ∧ (∀ ii, w'.cell? ⟨w.heap.size + 1, ii, none⟩ = (#[.int .i64 b0, .int .i64 b1][ii]? : Option Value)) ∧ (∀ ii, w'.cell? ⟨w.heap.size + 2, ii, none⟩ = (#[.int .i64 c0, .int .i64 c1][ii]? : Option Value)) ∧ (∀ ii, w'.cell? ⟨wc.heap.size, ii, none⟩ = (#[.int .i64 a0, .int .i64 a1, .int .i64 b0, .int .i64 b1, .int .i64 c0, .int .i64 c1][ii]? : Option Value)) ∧ w'.cell? ⟨g, go, none⟩ = some (.int .i64 z0) ∧ w'.cell? ⟨g, go + 1, none⟩ = some (.int .i64 z1))) (by (first | (with_reducible exact KS.out _ D0.out))) (fun hHeld => ?_)
    refine tkl [0, 1, 2, 3, 4, 5, 6, 7, 8, 9, 10, 11, 12, 13, 14, 15] ?_
    iterate 16
     refine tW ?_
     try go_frame
    refine tkl [16, 17, 18] ?_
    iterate 3
     refine tW ?_
     try go_frame
    refine tkl [19, 20, 21, 22, 23, 24, 25, 26] ?_
    iterate 8
     refine tW ?_
     try go_frame
    refine rdy1 27 (fun K hK => ?_)
    go_simp
    refine (kless_any ⟨a0, a1⟩ ⟨z0, z1⟩ _).mono ?_; rintro e x1 ⟨rfl, hb9⟩; have D1 := hid (below_call D0.out D0.out.size hb9); rw [E1.out]; clear hb9
    try go_wp2_with fail
    refine hK.out _ _ (by (first | (with_reducible exact KS.out _ D1.out))) (fun hHeld => ?_)
    clear hK K
    try go_frame
    refine tkl [28, 29, 30, 31, 32, 33, 34] ?_
    iterate 7
     refine tW ?_
     try go_frame
    refine rdy1 35 (fun K hK => ?_)
    go_simp
    refine (kless_any ⟨b0, b1⟩ ⟨z0, z1⟩ _).mono ?_; rintro e x2 ⟨rfl, hb9⟩; have D2 := hid (below_call D1.out D1.out.size hb9); rw [E2.out]; clear hb9
    try go_wp2_with fail
    refine hK.out _ _ (by (first | (with_reducible exact KS.out _ D2.out))) (fun hHeld => ?_)
    clear hK K
    try go_frame
    refine tkl [36, 37, 38, 39, 40, 41, 42] ?_
    iterate 7
     refine tW ?_
     try go_frame
    refine rdy1 43 (fun K hK => ?_)
    go_simp
    refine (kless_any ⟨c0, c1⟩ ⟨z0, z1⟩ _).mono ?_; rintro e x3 ⟨rfl, hb9⟩; have D3 := hid (below_call D2.out D2.out.size hb9); rw [E3.out]; clear hb9
    try go_wp2_with fail
    refine hK.out _ _ (by (first | (with_reducible exact KS.out _ D3.out))) (fun hHeld => ?_)
    clear hK K
    try go_frame
    refine tkl [44, 45, 46] ?_
    iterate 3
     refine tW ?_
     try go_frame
    refine tkD ?_
    clear hHeld KS
    have B_3 := hid (bl B_2.out D3.out)
    have HA_3 := hid (HA_2.out.call D3.out)
    have HB_3 := hid (HB_2.out.call D3.out)
    have HC_3 := hid (HC_2.out.call D3.out)
    have SL_3 := hid (SL_2.out.call D3.out)
    clear B_2 HA_2 HB_2 HC_2 SL_2 D0 D1 D2 D3
    go_wp2_with fail
    go_ret
    exact ⟨rfl, B_3.out⟩
  ·have he1 := run_keq a0 a1 b0 b1
   simp only [hab, decide_false] at he1
   have hl1 : ((s.length : Int) == 1) = false := by rw [beq_eq_false_iff_ne]; have := two_long HS.out (x := ⟨a0, a1⟩) (y := ⟨b0, b1⟩) (by simp) (by simp) hab; omega
   clear hab HS
   go_wp2_with fail
   have KS : Hid (∀ w', Below u3.heap.size u3 w' → Below u3.heap.size u3 w' ∧ (∀ ii, w'.cell? ⟨w.heap.size, ii, none⟩ = (#[.int .i64 a0, .int .i64 a1][ii]? : Option Value)) ∧ (∀ ii, w'.cell? ⟨w.heap.size + 1, ii, none⟩ = (#[.int .i64 b0, .int .i64 b1][ii]? : Option Value)) ∧ (∀ ii, w'.cell? ⟨w.heap.size + 2, ii, none⟩ = (#[.int .i64 c0, .int .i64 c1][ii]? : Option Value)) ∧ (∀ ii, w'.cell? ⟨wc.heap.size, ii, none⟩ = (#[.int .i64 a0, .int .i64 a1, .int .i64 b0, .int .i64 b1, .int .i64 c0, .int .i64 c1][ii]? : Option Value)) ∧ w'.cell? ⟨g, go, none⟩ = some (.int .i64 z0) ∧ w'.cell? ⟨g, go + 1, none⟩ = some (.int .i64 z1)) := hid (fun w' hb => ⟨hb, fun ii => (hb.cell (p := ⟨w.heap.size, ii, none⟩) HA_2.out.2.1).trans (HA_2.out.2.2 ii), fun ii => (hb.cell (p := ⟨w.heap.size + 1, ii, none⟩) HB_2.out.2.1).trans (HB_2.out.2.2 ii), fun ii => (hb.cell (p := ⟨w.heap.size + 2, ii, none⟩) HC_2.out.2.1).trans (HC_2.out.2.2 ii), fun ii => (hb.cell (p := ⟨wc.heap.size, ii, none⟩) SL_2.out.2.1).trans (SL_2.out.2.2 ii), cell_call D0.out hb, cell_call D1.out hb⟩)
   have D0 := hid (bdrew1 (Below.refl u3.heap.size u3))
   refine tkS (S := (fun w' => Below u3.heap.size u3 w' ∧ (∀ ii, w'.cell? ⟨w.heap.size, ii, none⟩ = (#[.int .i64 a0, .int .i64 a1][ii]? : Option Value)) ∧ (∀ ii, w'.cell? ⟨w.heap.size + 1, ii, none⟩ = (#[.int .i64 b0, .int .i64 b1][ii]? : Option Value)) ∧ (∀ ii, w'.cell? ⟨w.heap.size + 2, ii, none⟩ = (#[.int .i64 c0, .int .i64 c1][ii]? : Option Value)) ∧ (∀ ii, w'.cell? ⟨wc.heap.size, ii, none⟩ = (#[.int .i64 a0, .int .i64 a1, .int .i64 b0, .int .i64 b1, .int .i64 c0, .int .i64 c1][ii]? : Option Value)) ∧ w'.cell? ⟨g, go, none⟩ = some (.int .i64 z0) ∧ w'.cell? ⟨g, go + 1, none⟩ = some (.int .i64 z1))) (by (first | (with_reducible exact KS.out _ D0.out))) (fun hHeld => ?_)
   refine tkl [0, 1, 2, 3, 4, 5, 6, 7, 8, 9, 10, 11, 12, 13, 14, 15] ?_
   iterate 16
    refine tW ?_
    try go_frame
   refine tkl [16, 17, 18] ?_
   iterate 3
    refine tN ?_
    try go_frame
   refine tkl [19, 20, 21, 22, 23, 24, 25, 26] ?_
   iterate 8
    refine tW ?_
    try go_frame
   refine rdy1 27 (fun K hK => ?_)
   go_simp
   refine (kless_any ⟨a0, a1⟩ ⟨z0, z1⟩ _).mono ?_; rintro e x1 ⟨rfl, hb9⟩; have D1 := hid (below_call D0.out D0.out.size hb9); rw [E1.out]; clear hb9
   try go_wp2_with fail
   refine hK.out _ _ (by (first | (with_reducible exact KS.out _ D1.out))) (fun hHeld => ?_)
   clear hK K
   try go_frame
   refine tkl [28, 29, 30, 31, 32, 33, 34] ?_
   iterate 7
    refine tW ?_
    try go_frame
   refine rdy1 35 (fun K hK => ?_)
   go_simp
   refine (kless_any ⟨b0, b1⟩ ⟨z0, z1⟩ _).mono ?_; rintro e x2 ⟨rfl, hb9⟩; have D2 := hid (below_call D1.out D1.out.size hb9); rw [E2.out]; clear hb9
   try go_wp2_with fail
   refine hK.out _ _ (by (first | (with_reducible exact KS.out _ D2.out))) (fun hHeld => ?_)
   clear hK K
   try go_frame
   refine tkl [36, 37, 38, 39, 40, 41, 42] ?_
   iterate 7
    refine tW ?_
    try go_frame
   refine rdy1 43 (fun K hK => ?_)
   go_simp
   refine (kless_any ⟨c0, c1⟩ ⟨z0, z1⟩ _).mono ?_; rintro e x3 ⟨rfl, hb9⟩; have D3 := hid (below_call D2.out D2.out.size hb9); rw [E3.out]; clear hb9
   try go_wp2_with fail
   refine hK.out _ _ (by (first | (with_reducible exact KS.out _ D3.out))) (fun hHeld => ?_)
   clear hK K
   try go_frame
   refine tkl [44, 45, 46] ?_
   iterate 3
    refine tW ?_
    try go_frame
   refine tkD ?_
   clear hHeld KS
   have B_3 := hid (bl B_2.out D3.out)
   have HA_3 := hid (HA_2.out.call D3.out)
   have HB_3 := hid (HB_2.out.call D3.out)
   have HC_3 := hid (HC_2.out.call D3.out)
   have SL_3 := hid (SL_2.out.call D3.out)
   clear B_2 HA_2 HB_2 HC_2 SL_2 D0 D1 D2 D3
   go_wp2_with fail
   go_ret
   exact ⟨rfl, B_3.out⟩
theorem walk_keysFrom (a b c : Pl) (w : World) (ha : InK a) (hb : InK b) (hc : InK c) : Calls Try.prog 7 #[.agg #[.int .i64 a.kind, .int .i64 a.id], .agg #[.int .i64 b.kind, .int .i64 b.id], .agg #[.int .i64 c.kind, .int .i64 c.id]] w fun e w' => e = .returned (.bool true) ∧ Below w.heap.size w w' :=
 keysFrom_go a.kind a.id b.kind b.id c.kind c.id w ha hb hc
theorem lifted_keysFrom (os : Os) (started : os.Started) (H : Type) (enc : TypeId × Value → H) :
 ReturnsInHanded {} Try.checked os 7 .any (Rows.keysFromSpec.pre6 enc Try.prog Try.f7 Rows.keysFromRow.domain false) (Rows.keysFromSpec.post enc Try.prog Try.f7 false true false false) := by
 refine returnsInHanded_of_change (C := Try.checked) (by kernel_rfl) started (by kernel_rfl) Try.func7
  (ChangeSpec.witness6 (enc := enc) (C := Try.checked) false ⟨#[], #[.agg #[.int .i64 0, .int .i64 0], .agg #[.int .i64 0, .int .i64 0], .agg #[.int .i64 0, .int .i64 0]], []⟩ 8 (by kernel_rfl) (by kernel_rfl) (by kernel_rfl) (by kernel_rfl)) ?_
 intro W base args ds gs before hval0 hW hcnd _
 have hval : ∀ (j : Nat) t v, Try.f7.params[j]? = some t → args[j]? = some v → Value.okWide Try.prog W .any base t v := hval0
 have hW' := hW
 obtain ⟨p, q, hA0, hV, rfl, hfz, hnd⟩ := hW
 have hA : DataW.TrodAll enc Try.prog W 0 (fun _ => true) true Try.f7.params.toList args.toList ds p := hA0
 rw [Try.params7] at hA hval
 obtain ⟨v0, vs0, d0, ds0, p0, q0, hargs, rfl, rfl, h0, r0⟩ := trodAll_cons hA
 obtain ⟨v1, vs1, d1, ds1, p1, q1, rfl, rfl, rfl, h1, r1⟩ := trodAll_cons r0
 obtain ⟨v2, vs2, d2, ds2, p2, q2, rfl, rfl, rfl, h2, r2⟩ := trodAll_cons r1
 obtain ⟨rfl, rfl, rfl⟩ := trodAll_nil r2
 obtain rfl : args = #[v0, v1, v2] := by cases args; simp_all
 obtain ⟨rfl, rfl⟩ := trodVars_none hV
 obtain ⟨k0, rfl, ik0⟩ := read_key (hval 0 24 v0 rfl rfl) h0
 obtain ⟨k1, rfl, ik1⟩ := read_key (hval 1 24 v1 rfl rfl) h1
 obtain ⟨k2, rfl, ik2⟩ := read_key (hval 2 24 v2 rfl rfl) h2
 clear hA0 hval0
 simp only [List.append_nil] at hW'
 refine (walk_keysFrom k0 k1 k2 W ik0 ik1 ik2).mono fun e W' ⟨he, hg⟩ => ?_
 subst he
 exact ⟨_, rfl, law_post (by kernel_rfl) rfl (by rw [Try.params7]; decide +kernel) rfl rfl Try.underlying4 hW' hg⟩

/-- ████ THE STATEMENT ████ -/
theorem proved_keysFrom : Rows.KeysFromSaid :=
 OpenClaim.holds_of_wide 7 Try.f7 rfl rfl rfl rfl rfl rfl rfl ⟨rfl, rfl, rfl, rfl, rfl⟩ rfl rfl rfl rfl rfl (by kernel_rfl) Try.func7 (by kernel_rfl)
  (of_decide_eq_true (by kernel_rfl)) (by unfold Func.isWrapper; first | (rw [if_pos (by decide +kernel)]; kernel_rfl) | (rw [if_neg (by decide +kernel)]; exact ⟨rfl, rfl⟩))
  (fun os started H enc _ => lifted_keysFrom os started H enc)
#print axioms proved_keysFrom
end Go.Proofs.Ytgmkcddgkgcbbaa
