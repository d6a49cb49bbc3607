/- CoinSums: for every list and turn, of purses the sum is what is counted one by one, in whatever order: the statement answers true. No condition. -/
import Derived.Test.YticfdfggjnejdaaRows
import Derived.Test.YticfdfggjnejdaaCoinKeeps
import Derived.Test.YticfdfggjnejdaaSlices
import Derived.WalkKit
import Derived.ProofKit
import Derived.OpenShut
import Derived.IntWalk
namespace Go.Proofs.Yticfdfggjnejdaa
open Go.ChangeShapes Go.WideShapes Go.ChangeAt Go.RowKit
set_option linter.unusedVariables false
open Go.RowKit

theorem int_info : (Try.prog.info? 3).map (fun i => (i.zero, i.size, i.bytes)) = some (some (.int .i64 0), 1, 8) := by kernel_rfl

theorem walk_sums_nil (a : Option Addr) (cap : Nat) (t : Int) (w : World) :
    Calls Try.prog 5 #[.slice a 0 cap, .int .u8 t] w fun e w' => e = .returned (.bool true) ∧ Below w.heap.size w w' := by
  go_enter Try.func5, Try.ntmps5
  go_wp2_with fail
  refine (awake_any _).mono ?_
  rintro e w1 ⟨rfl, b1⟩
  go_wp2_with fail
  go_loopw [5, 6, 7] (fun n l i wr => n = .int .i64 0 ∧ l = .slice none 0 0 ∧ i = .int .i64 0 ∧ wr = w1) (fun _ _ _ _ => 0)
  case atStart => exact ⟨rfl, rfl, rfl, rfl⟩
  case round =>
    obtain ⟨rfl, rfl, rfl, rfl⟩ := hrel
    go_wp2_with fail
    refine (sum_nil _ _ _).mono ?_
    rintro e w' ⟨rfl, rfl⟩
    go_wp2_with fail
    refine (sum_nil _ _ _).mono ?_
    rintro e w' ⟨rfl, rfl⟩
    go_wp2_with fail
    go_ret
    exact ⟨rfl, b1⟩

theorem walk_sums_long (a : Option Addr) (len cap : Nat) (t : Int) (w : World) (h : 200 < len) :
    Calls Try.prog 5 #[.slice a len cap, .int .u8 t] w fun e w' => e = .returned (.bool true) ∧ Below w.heap.size w w' := by
  go_enter Try.func5, Try.ntmps5
  go_wp2_with fail
  refine (awake_any _).mono ?_
  rintro e w1 ⟨rfl, b1⟩
  go_wp2_with fail
  refine (awake_any _).mono ?_
  rintro e w2 ⟨rfl, b2⟩
  go_wp2_with fail
  go_ret
  exact ⟨rfl, bl b1 b2⟩

theorem walk_sums (b off cap : Nat) (xs : List Int) (t : Nat) (w : World) (h0 : 0 < xs.length) (h2 : xs.length ≤ 200) (ht : t ≤ 255) (hb : b < w.heap.size)
    (hc : ∀ i (hi : i < xs.length), w.cell? ⟨b, off + i, none⟩ = some (.int .i64 xs[i])) :
    Calls Try.prog 5 #[.slice (some ⟨b, off, none⟩) xs.length cap, .int .u8 t] w fun e w' => e = .returned (.bool true) ∧ Below w.heap.size w w' := by
  have HC := Lib.hid hc
  clear hc
  obtain ⟨i0, hi0, hz0, hz1, hz2⟩ := info_parts int_info
  go_enter Try.func5, Try.ntmps5
  go_wp2_with fail
  refine (awake_any _).mono ?_
  rintro e w1 ⟨rfl, b1⟩
  go_wp2_with fail
  go_loopw [5, 6, 7] (fun n l i wr => ∃ k : Nat, k ≤ xs.length ∧ i = .int .i64 k ∧ n = .int .i64 (xs.take k).sum ∧ (∀ j (h : j < xs.length), j < k → 0 ≤ xs[j] ∧ xs[j] ≤ 1073741824) ∧
      wr.ownsRow w1.heap.size 3 1 l (rot xs t k).length ((rot xs t k).map (Value.int .i64)) ∧ Below w1.heap.size w1 wr) (fun _ _ i _ => xs.length - (intOf i).toNat)
  case atStart => exact ⟨0, Nat.zero_le _, rfl, rfl, fun j h hj => by omega, World.ownsRow_nil _ _ _ _, Below.refl _ _⟩
  case round =>
    obtain ⟨k, hk, rfl, rfl, hpur, hown, hbel⟩ := hrel
    have HP := Lib.hid hpur
    clear hpur
    by_cases hlt : k < xs.length
    · have hcell := (hbel.cell (p := ⟨b, off + k, none⟩) (by have := b1.size; simp; omega)).trans ((b1.cell (p := ⟨b, off + k, none⟩) hb).trans (HC.out k hlt))
      have hmod : (k + t) % xs.length < xs.length := Nat.mod_lt _ h0
      have hcell2 := (hbel.cell (p := ⟨b, off + (k + t) % xs.length, none⟩) (by have := b1.size; simp; omega)).trans ((b1.cell (p := ⟨b, off + (k + t) % xs.length, none⟩) hb).trans (HC.out ((k + t) % xs.length) hmod))
      have hme : ((k : Int) + (t : Int)) % (xs.length : Int) = (((k + t) % xs.length : Nat) : Int) := by rw [Int.natCast_emod, Int.natCast_add]
      have hm1 : (0 : Int) ≤ ((k : Int) + (t : Int)) % (xs.length : Int) := by omega
      have hm2 : ((k : Int) + (t : Int)) % (xs.length : Int) < (xs.length : Int) := by omega
      have hm3 : (((k : Int) + (t : Int)) % (xs.length : Int)).toNat = (k + t) % xs.length := by omega
      clear hme
      by_cases hp : 0 ≤ xs[k] ∧ xs[k] ≤ 1073741824
      · have A1 := Lib.hid (yes_isB hp)
        have hs1 := take_sum_bd (xs.take k) (fun j hj => by
          have hj2 : j < k := by simp at hj; omega
          have := HP.out j (by omega) hj2
          rw [List.getElem_take]; omega) k (by simp; omega)
        rw [List.take_take, Nat.min_self] at hs1
        obtain ⟨p0, p1⟩ := hp
        have hrl := rot_length xs t k
        go_wp2_with fail
        refine (refis_any _ _).mono ?_
        rintro e w' ⟨rfl, rfl⟩
        rw [A1.out]
        have hsz : w1.heap.size ≤ wr.heap.size := hbel.size
        have HRL := Lib.hid hrl
        clear hrl
        go_wp2_with (at_builtin; refine wpList_append_own _ rfl (.tmp 34) (.tmp 45) 32 rfl w1.heap.size 3 i0 (.int .i64 0) 1 8 Try.underlying32 hi0 hz0 hz1 hz2 rfl (by decide) _ _ _ rfl (hown.alloc _) ⟨wr.heap.size, 0, none⟩ 1 1 [.int .i64 xs[(k + t) % xs.length]] rfl rfl ?c1 ?c2 ?c3 ?c4 ?c5 ?_)
        case c1 =>
          intro j u hj
          match j, hj with
          | 0, hj => simp at hj; subst hj; simp [Addr.add]
        case c2 => intro u hu; simp at hu; subst hu; rfl
        case c3 => have := HRL.out; unfold maxLen; omega
        case c4 => have := HRL.out; omega
        case c5 => simp; omega
        intro v' w2 hown' hgrow _
        have R : w2.ownsRow w1.heap.size 3 1 v' (rot xs t (k + 1)).length ((rot xs t (k + 1)).map (Value.int .i64)) := by
          have e : xs.getD ((k + t) % xs.length) 0 = xs[(k + t) % xs.length] := by simp [List.getD, List.getElem?_eq_getElem hmod]
          rw [rot_succ, e]
          simpa using hown'
        have hbel2 : Below w1.heap.size w1 w2 := (hbel.alloc hsz _).grown hgrow (by simp; omega) (fun q hq => (hown.lt q hq).1)
        have HS := Lib.hid (take_sum_succ xs k hlt)
        clear hown' hgrow hown hcell hcell2 hm1 hm2 hm3 hbel
        go_wp2
        go_roundw
        case rel =>
          refine ⟨k + 1, by omega, by go_num, by rw [HS.out], fun j hj hjk => ?_, R, hbel2⟩
          by_cases hjk2 : j = k
          · subst hjk2; exact ⟨p0, p1⟩
          · exact HP.out j hj (by omega)
        case measure => simp [intOf]; omega
      · have A1 := Lib.hid (no_isB hp)
        clear hp hcell2 hm1 hm2 hm3
        go_wp2_with fail
        refine (refis_any _ _).mono ?_
        rintro e w' ⟨rfl, rfl⟩
        rw [A1.out]
        go_wp2_with fail
        go_ret
        exact ⟨rfl, bl b1 hbel⟩
    · have hke : k = xs.length := by omega
      subst hke
      have hall : ∀ j (h : j < xs.length), 0 ≤ xs[j] ∧ xs[j] ≤ 2147483648 := fun j h => by have := HP.out j h h; omega
      have c1 : ∀ j (h : j < xs.length), wr.cell? ⟨b, off + j, none⟩ = some (.int .i64 xs[j]) := fun j h =>
        (hbel.cell (p := ⟨b, off + j, none⟩) (by have := b1.size; simp; omega)).trans ((b1.cell (p := ⟨b, off + j, none⟩) hb).trans (HC.out j h))
      have s1 := sum_any xs b off cap wr (by omega) hall c1
      obtain ⟨g, cap2, s2⟩ : ∃ g cap2, u6 = .slice (some ⟨g, 0, none⟩) (rot xs t xs.length).length cap2 ∧ Calls Try.prog 15 #[.slice (some ⟨g, 0, none⟩) (rot xs t xs.length).length cap2] wr fun e w' => e = .returned (.int .i64 xs.sum) ∧ wr = w' := by
        have hl := rot_length xs t xs.length
        obtain ⟨_, h⟩ := hown
        rcases h with ⟨_, h⟩ | ⟨g, cap2, cur, hv, hg, hh, hn, hc2, hsz, htk⟩
        · omega
        · refine ⟨g, cap2, hv, ?_⟩
          rw [← rot_sum xs t]
          refine sum_any _ g 0 cap2 wr (by omega) ?_ ?_
          · intro j hj
            have hj2 : j < xs.length := by omega
            have hm : (j + t) % xs.length < xs.length := Nat.mod_lt _ h0
            have := hall _ hm
            simp only [rot, List.getElem_map, List.getElem_range]
            simpa [List.getD, List.getElem?_eq_getElem hm] using this
          · intro j hj
            have e1 : cur.toList[j]? = some (.int .i64 (rot xs t xs.length)[j]) := by
              have e2 : (cur.toList.take ((rot xs t xs.length).length * 1))[j]? = ((rot xs t xs.length).map (Value.int .i64))[j]? := by rw [htk]
              rw [List.getElem?_take] at e2
              simpa [hj] using e2
            simp [World.cell?, hh, Array.getElem?_toList] at e1 ⊢
            exact e1
      obtain ⟨rfl, s2⟩ := s2
      have S1 := Lib.hid s1
      have S2 := Lib.hid s2
      have ET := Lib.hid (show (List.take xs.length xs).sum = xs.sum by simp)
      clear s1 s2 hown c1 hall
      go_wp2_with fail
      refine S1.out.mono ?_
      rintro e w' ⟨rfl, rfl⟩
      go_wp2_with fail
      refine S2.out.mono ?_
      rintro e w' ⟨rfl, rfl⟩
      go_wp2_with fail
      go_ret
      exact ⟨rfl, bl b1 hbel⟩

theorem own_coinSums : ownKnob Try.prog.godebug = none := by kernel_rfl
theorem cells_int : Try.prog.cellsOf 3 = 1 := by kernel_rfl

theorem walk_coinSums (a : Option Addr) (cap : Nat) (xs : List Int) (t : Int) (w : World) (w1 : (Lit.int .u8 t).wf = true)
    (h : xs = [] ∨ ∃ b off, a = some ⟨b, off, none⟩ ∧ b < w.heap.size ∧ ∀ i (hi : i < xs.length), w.cell? ⟨b, off + i, none⟩ = some (.int .i64 xs[i])) :
    Calls Try.prog 5 #[.slice a xs.length cap, .int .u8 t] w fun e w' => e = .returned (.bool true) ∧ Below w.heap.size w w' := by
  by_cases h2 : 200 < xs.length
  · exact walk_sums_long a xs.length cap t w h2
  · by_cases h0 : xs = []
    · subst h0; exact walk_sums_nil a cap t w
    · rcases h with h | ⟨b, off, rfl, hb, hc⟩
      · exact absurd h h0
      · obtain ⟨t0, t1⟩ := wf_u8 w1
        obtain ⟨t, rfl⟩ := Int.eq_ofNat_of_zero_le t0
        exact walk_sums b off cap xs t w (List.length_pos_iff.2 h0) (by omega) (by omega) hb hc

set_option maxRecDepth 100000 in
theorem lifted_coinSums (os : Os) (started : os.Started) (H : Type) (enc : TypeId × Value → H) :
    ReturnsInHanded {} Try.checked os 5 .any (Rows.coinSumsSpec.pre6 enc Try.prog Try.f5 Rows.coinSumsRow.domain false) (Rows.coinSumsSpec.post enc Try.prog Try.f5 false true false false) := by
  refine returnsInHanded_of_change (C := Try.checked) (by kernel_rfl) started (by kernel_rfl) Try.func5
    (ChangeSpec.witness6 (enc := enc) (C := Try.checked) false ⟨#[], #[.slice none 0 0, .int .u8 0], []⟩ 8 (by kernel_rfl) (by kernel_rfl) (by kernel_rfl) (by kernel_rfl)) ?_
  intro W base args ds gs before hval0 hW hcnd _
  have hval : ∀ (j : Nat) t v, Try.f5.params[j]? = some t → args[j]? = some v → Value.okWide Try.prog W .any base t v := hval0
  have hW' := hW
  obtain ⟨p, q, hA0, hV, rfl, hfz, hnd⟩ := hW
  have hA : DataW.TrodAll enc Try.prog W 0 (fun _ => true) true Try.f5.params.toList args.toList ds p := hA0
  rw [Try.params5] at hA hval
  obtain ⟨v0, vs0, d0, ds0, p0, q0, hargs, rfl, rfl, h0, r0⟩ := trodAll_cons hA
  obtain ⟨v1, vs1, d1, ds1, p1, q1, rfl, rfl, rfl, h1, r1⟩ := trodAll_cons r0
  obtain ⟨rfl, rfl, rfl⟩ := trodAll_nil r1
  obtain rfl : args = #[v0, v1] := by cases args; simp_all
  obtain ⟨rfl, rfl⟩ := trodVars_none hV
  obtain ⟨a0, cap0, xs0, rfl, m0, wf0, c0⟩ := read_ints Try.underlying32 Try.underlying3 (by kernel_rfl) (hval 0 32 v0 rfl rfl) h0
  obtain ⟨a1, rfl, rfl, rfl, w1⟩ := open_int Try.underlying5 (hval 1 5 v1 rfl rfl) h1
  clear hA0 hval0
  simp only [List.append_nil] at hW'
  refine (walk_coinSums a0 cap0 xs0 a1 W w1 c0).mono fun e W' ⟨he, hg⟩ => ?_
  subst he
  exact ⟨_, rfl, law_post (by kernel_rfl) rfl (by rw [Try.params5]; decide +kernel) rfl rfl Try.underlying4 hW' hg⟩

/-- ████ THE STATEMENT ████ -/
theorem proved_coinSums : Rows.CoinSumsSaid :=
  OpenClaim.holds_of_wide 5 Try.f5 rfl rfl rfl rfl rfl rfl rfl ⟨rfl, rfl, rfl, rfl, rfl⟩ rfl rfl rfl rfl rfl (by kernel_rfl) Try.func5 (by kernel_rfl)
    (of_decide_eq_true (by kernel_rfl)) (by unfold Func.isWrapper; first | (rw [if_pos (by decide +kernel)]; kernel_rfl) | (rw [if_neg (by decide +kernel)]; exact ⟨rfl, rfl⟩))
    (fun os started H enc _ => lifted_coinSums os started H enc)
#print axioms proved_coinSums
end Go.Proofs.Yticfdfggjnejdaa
