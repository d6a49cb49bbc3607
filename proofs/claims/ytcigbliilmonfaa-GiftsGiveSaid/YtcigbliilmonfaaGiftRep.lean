/- gifts.repeats: a map of what was met. -/
import Derived.Test.YtcigbliilmonfaaRows
import Derived.Test.YtcigbliilmonfaaKit
import Derived.Test.YtcigbliilmonfaaGMem
import Derived.Test.YtcigbliilmonfaaCoin
import Derived.Test.YtcigbliilmonfaaGWorld
import Derived.Test.YtcigbliilmonfaaGTreeL
import Derived.Maps.Own
import Derived.Maps.Views
import Derived.OwnWalk
import Derived.Carry
import Derived.Deep.QuietTactic
import Derived.BigQuiet
import Derived.Deep.RegionHeld3
import Derived.WalkKit
import Derived.ProofKit
import Derived.OpenShut
import Derived.IntWalk
namespace Go.Proofs.Ytcigbliilmonfaa
open Go.ChangeShapes Go.WideShapes Go.ChangeAt Go.RowKit
set_option linter.unusedVariables false
open Go.RowKit Go
/-- Block m is a map of what was met: just these. -/
def MetB (W : World) (m : Nat) (L : List Int) : Prop :=
  ∃ (n : Nat) (D : DataW Unit), W.ownsMap Try.prog 3 (plainElem Try.prog 4) m n D ∧ n ≤ L.length ∧ Maps.IsMap D ∧ ∀ i : Int, D.atKey (.int .i64 i) (.lit (.bool false)) = .lit (.bool (decide (i ∈ L)))
theorem met_none (w : World) : MetB (w.alloc (.map #[] 0)) w.heap.size [] :=
  ⟨0, .map [], World.ownsMap_made w Try.prog 3 (plainElem Try.prog 4), Nat.le_refl _, ⟨_, rfl⟩, fun i => by simp [DataW.atKey]⟩
theorem bool_inv {v : Value} {z : DataW Unit × List MemPlace} {x : Bool} (h : plainElem Try.prog 4 v = some z) (hz : z.1 = .lit (.bool x)) : v = .bool x := by
  unfold plainElem at h
  rw [Try.underlying4] at h
  cases v <;> simp at h
  subst h
  simp at hz
  rw [hz]
theorem key_int {i : Int} (h : -9223372036854775808 ≤ i ∧ i ≤ 9223372036854775807) : keyOf Try.prog 3 (.int .i64 i) = some (.int .i64 i) :=
  Maps.keyOf_int_mk Try.underlying3 (by simp [Lit.wf, IntKind.min, IntKind.max, IntKind.signed, IntKind.bits]; omega)
theorem MetB.look {W : World} {m : Nat} {L : List Int} (h : MetB W m L) (i : Int) (hi : -9223372036854775808 ≤ i ∧ i ≤ 9223372036854775807) : (Instr.lookup 81 (.map (some m)) (.int .i64 i) false).run Try.prog W = .ok (.bool (decide (i ∈ L))) W := by
  obtain ⟨n, D, ho, _, _, hD⟩ := h
  obtain ⟨v, ps, hr, hv⟩ := ho.lookup (Maps.int_keyed Try.underlying3) Try.underlying81 (z := .bool false) (by kernel_rfl) (plainElem_bool Try.underlying4 false) (key_int hi)
  rw [hr, bool_inv hv (hD i)]
theorem MetB.put {W : World} {m : Nat} {L : List Int} (h : MetB W m L) (i : Int) (hi : -9223372036854775808 ≤ i ∧ i ≤ 9223372036854775807) (hl : L.length ≤ 1000000) :
    ∃ W', (Instr.mapUpdate 81 (.map (some m)) (.int .i64 i) (.bool true)).run Try.prog W = .ok () W' ∧ MetB W' m (L ++ [i]) ∧ W.grownBy W' (some m) := by
  obtain ⟨n, D, ho, hn, hm, hD⟩ := h
  obtain ⟨W', hr, ho', hg⟩ := ho.update (Maps.int_keyed Try.underlying3) Try.underlying81 (by unfold maxLen; omega) (key_int hi) (plainElem_bool Try.underlying4 true)
  have hk := (Maps.int_keyed (P := Try.prog) Try.underlying3).key (key_int hi)
  refine ⟨W', hr, ⟨n + 1, _, ho', by simp; omega, ?_, fun j => ?_⟩, hg⟩
  · obtain ⟨es, rfl⟩ := hm
    exact ⟨_, rfl⟩
  · by_cases hj : j = i
    · subst hj
      rw [Maps.atKey_put_same hm hk]
      simp
    · rw [Maps.atKey_put_other (by intro e; injection e with _ e; exact hj e), hD j]
      simp [hj]
theorem MetB.lt {W : World} {m : Nat} {L : List Int} (h : MetB W m L) : m < W.heap.size := by obtain ⟨n, D, ho, _⟩ := h; exact ho.lt
/-- A store into a map whose run is known, as one step. -/
theorem mapput_step {P : Program} {ops : Array Oper} {rest : List Oper} {o : Oper} {a : Act} {Q : Exit → Act → World → Prop} {w w' : World} (hgd : o.guard = none) (s x y : Operand) (t : TypeId)
    (ho : o.op = .mapUpdate t s x y) (v u z : Value) (hs : a.eval s = v) (hx : a.eval x = u) (hy : a.eval y = z)
    (hrun : (Instr.mapUpdate t v u z).run P w = .ok () w') (h : wpList P ops Q rest (a.put o.dst undef) w') : wpList P ops Q (o :: rest) a w :=
  wpList_plain hgd fun K hK => by
    unfold Oper.wp
    simp [execOp, ho, hs, hx, hy, hrun, Result.andThen]
    exact hK _ _ h
theorem flat_more {α : Type} {R : List (List α)} {r : Nat} (hr : r < R.length) : (R.take (r + 1)).flatten = (R.take r).flatten ++ R[r] := by
  rw [List.take_succ_eq_append_getElem hr, List.flatten_append]; simp
theorem flat_sub {α : Type} {R : List (List α)} {r k : Nat} (hr : r < R.length) : ((R.take r).flatten ++ R[r].take k).Sublist R.flatten := by
  have h1 : ((R.take r).flatten ++ R[r].take k).Sublist ((R.take r).flatten ++ R[r]) := List.Sublist.append (List.Sublist.refl _) (List.take_sublist _ _)
  rw [← flat_more hr] at h1
  refine h1.trans ?_
  conv => rhs; rw [← List.take_append_drop (r + 1) R]
  rw [List.flatten_append]
  exact List.sublist_append_left _ _
theorem nodup_snoc {L : List Int} {y : Int} (h : L.Nodup) (hy : ¬ y ∈ L) : (L ++ [y]).Nodup := by
  rw [List.nodup_append]
  refine ⟨h, by simp, fun a ha b hb e => ?_⟩
  rw [List.mem_singleton] at hb
  subst hb e
  exact hy ha
set_option maxRecDepth 100000 in
set_option maxHeartbeats 400000 in
theorem repeats_any (R : List (List Int)) (b c : Nat) (w : World) (hb : b < w.heap.size) (hR : ∀ r (hr : r < R.length), ∃ a c, w.cell? ⟨b, r, none⟩ = some (.slice a R[r].length c) ∧ IntsAt w a R[r]) (hl : R.length ≤ 1000) (hf : R.flatten.length ≤ 1000) (hi : ∀ y ∈ R.flatten, -9223372036854775808 ≤ y ∧ y ≤ 9223372036854775807) :
    Calls Try.prog 43 #[.slice (some ⟨b, 0, none⟩) R.length c] w fun e w' => e = .returned (.bool (!decide R.flatten.Nodup)) ∧ Below w.heap.size w w' := by
  have HR := Lib.hid hR
  have HF := Lib.hid hf
  have HI := Lib.hid hi
  have M0 := Lib.hid (met_none w)
  have B0 := Lib.hid ((Below.refl w.heap.size w).alloc (Nat.le_refl _) (.map #[] 0))
  clear hR hf hi
  have hmk := run_makeMap (P := Try.prog) 81 w
  go_enter Try.func43, Try.ntmps43
  go_wp2_with fail
  generalize w.alloc (.map #[] 0) = W0 at *
  clear hmk
  go_loopw [5, 7, 11, 15, 16, 17] (fun _ _ i _ _ _ wr => ∃ r : Nat, r ≤ R.length ∧ i = .int .i64 r ∧ MetB wr w.heap.size (R.take r).flatten ∧ (R.take r).flatten.Nodup ∧ Below w.heap.size w wr) (fun _ _ i _ _ _ _ => R.length - (intOf i).toNat)
  case atStart => exact ⟨0, Nat.zero_le _, rfl, M0.out, by simp, B0.out⟩
  case round =>
    obtain ⟨r, hr, rfl, hm, hnd, hb1⟩ := hrel
    have HM := Lib.hid hm
    have HN := Lib.hid hnd
    have HB := Lib.hid hb1
    clear hm hnd M0 B0
    by_cases hlt : r < R.length
    · obtain ⟨a, ac, hc, hia⟩ := HR.out r hlt
      have hc := cell_call hc hb1
      have IA := Lib.hid hia
      have hbw : b < wr.heap.size := by have := hb1.size; omega
      have HFM := Lib.hid (flat_more hlt)
      have HFS := Lib.hid (fun k => flat_sub (k := k) hlt)
      have hal : R[r].length ≤ 9223372036854775807 := hia.len
      clear hia hb1
      generalize R[r] = xs at *
      go_wp2_with fail
      obtain ⟨wp, hwp⟩ : ∃ q, q = wr := ⟨_, rfl⟩
      subst hwp
      go_loopw [7, 17] (fun _ i wr => ∃ k : Nat, k ≤ xs.length ∧ i = .int .i64 k ∧ MetB wr w.heap.size ((R.take r).flatten ++ xs.take k) ∧ ((R.take r).flatten ++ xs.take k).Nodup ∧ Below w.heap.size w wr) (fun _ i _ => xs.length - (intOf i).toNat)
      case atStart => exact ⟨0, Nat.zero_le _, rfl, by simpa using HM.out, by simpa using HN.out, HB.out⟩
      case round =>
        obtain ⟨k, hk, rfl, hm2, hn2, hb2⟩ := hrel
        by_cases hlt2 : k < xs.length
        · obtain ⟨a0, o, rfl, hbb, hcc⟩ := IA.out.at_ hlt2
          have c1 := cell_call (hcc k hlt2) hb2
          have hsub := HFS.out (k + 1)
          have hlk := (HFS.out k).length_le
          rw [List.take_succ_eq_append_getElem hlt2, ← List.append_assoc] at hsub
          have hyi := HI.out xs[k] (hsub.subset (List.mem_append_right _ (List.mem_singleton.2 rfl)))
          have HS := Lib.hid hsub
          have HTK := Lib.hid (show (R.take r).flatten ++ xs.take (k + 1) = (R.take r).flatten ++ xs.take k ++ [xs[k]] by rw [List.take_succ_eq_append_getElem hlt2, List.append_assoc])
          have hlL : ((R.take r).flatten ++ xs.take k).length ≤ 1000000 := by have := HF.out; omega
          clear hcc hbb hsub hlk
          generalize xs[k] = y at *
          generalize (R.take r).flatten ++ xs.take k = L at *
          have hlook := hm2.look y hyi
          by_cases hy : y ∈ L
          · have HE := Lib.hid (show decide R.flatten.Nodup = false from decide_eq_false (fun hn => by
              have h2 := HS.out.nodup hn
              rw [List.nodup_append] at h2
              exact h2.2.2 y hy y (by simp) rfl))
            rw [decide_eq_true hy] at hlook
            have HB2 := Lib.hid hb2
            clear hm2 hn2 hb2 hy
            go_wp2_with fail
            go_ret
            exact ⟨ret_bool (by rw [HE.out]; rfl), HB2.out⟩
          · obtain ⟨W', hrun, hm3, hg⟩ := hm2.put y hyi hlL
            have HM3 := Lib.hid hm3
            have HN3 := Lib.hid (nodup_snoc hn2 hy)
            have HB2 := Lib.hid (hb2.grown hg hb2.size (fun q hq => by cases hq; exact Nat.le_refl _))
            rw [decide_eq_false hy] at hlook
            have HR2 := Lib.hid hrun
            clear hm2 hn2 hb2 hy hrun hg hm3
            go_wp2_with (at_mapUpdate; refine mapput_step rfl _ _ _ 81 rfl _ _ _ rfl rfl rfl HR2.out ?_)
            go_wp2_with fail
            go_roundw
            case rel => exact ⟨k + 1, by omega, by go_num, by rw [HTK.out]; exact HM3.out, by rw [HTK.out]; exact HN3.out, HB2.out⟩
            case measure => simp [intOf]; omega
        · have hke : k = xs.length := by omega
          subst hke
          rw [List.take_length, ← HFM.out] at hm2 hn2
          have HM2 := Lib.hid hm2
          have HN2 := Lib.hid hn2
          have HB2 := Lib.hid hb2
          clear hm2 hn2 hb2 IA
          go_wp2_with fail
          go_roundw
          case rel => exact ⟨r + 1, by omega, by go_num, HM2.out, HN2.out, HB2.out⟩
          case measure => simp [intOf]; omega
    · have hke : r = R.length := by omega
      subst hke
      have HE := Lib.hid (show decide R.flatten.Nodup = true from decide_eq_true (by have := HN.out; rwa [List.take_length] at this))
      clear hb1
      go_wp2_with fail
      go_ret
      exact ⟨ret_bool (by rw [HE.out]; rfl), HB.out⟩
end Go.Proofs.Ytcigbliilmonfaa
