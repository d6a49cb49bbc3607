/- desc.fit: has no place more than it may? A map of places, counted in. -/
import Derived.Maps.OwnOps
import Derived.WideKeyEntry
import Derived.DeepKeys4
import Derived.Test.YtniblphklgbpnaaRows
import Derived.Test.YtniblphklgbpnaaKit
import Derived.Test.YtniblphklgbpnaaStrs
import Derived.Test.YtniblphklgbpnaaCoin
import Derived.Test.YtniblphklgbpnaaBlk
import Derived.Test.YtniblphklgbpnaaHolds
import Derived.Test.YtniblphklgbpnaaWorldMath
import Derived.Test.YtniblphklgbpnaaWorldAt
import Derived.Deep.QuietTactic
import Derived.BigQuiet
import Derived.Deep.RegionHeld3
import Derived.WalkKit
import Derived.ProofKit
import Derived.OpenShut
import Derived.IntWalk
namespace Go.Proofs.Ytniblphklgbpnaa
open Go.ChangeShapes Go.WideShapes Go.ChangeAt Go.RowKit
set_option linter.unusedVariables false
open Go.RowKit Go.Maps
/-- A place's value. -/
def plv (p : Pl) : Value := .agg #[.int .i64 p.kind, .int .i64 p.id]
theorem plv_inj {p q : Pl} (h : plv p = plv q) : p = q := by
  obtain ⟨a, b⟩ := p; obtain ⟨c, d⟩ := q
  simp only [plv, Value.agg.injEq, Array.mk.injEq, List.cons.injEq, Value.int.injEq, true_and, and_true] at h
  obtain ⟨rfl, rfl⟩ := h; rfl
theorem place_law : WideMaps.KeyLaw Try.prog 41 := deep_law_laid (by kernel_rfl) (m := 2) (by omega) (of_decide_eq_true (by kernel_rfl)) (by kernel_rfl) (by kernel_rfl)
/-- A place that fits a key. -/
def PlWf (p : Pl) : Prop := (Lit.int .i64 p.kind).wf = true ∧ (Lit.int .i64 p.id).wf = true
theorem place_key (p : Pl) (h : PlWf p) : ∃ l, keyOf Try.prog 41 (plv p) = some l := by
  obtain ⟨k, i⟩ := p
  obtain ⟨h1, h2⟩ := h
  obtain ⟨m, hm⟩ : ∃ m, Try.prog.types.size = m + 1 := ⟨Try.prog.types.size - 1, by have : 0 < Try.prog.types.size := of_decide_eq_true (by kernel_rfl)
                                                                                    omega⟩
  have hkt : Try.prog.keyType 41 = true := by kernel_rfl
  have hc : Try.prog.cellsOf 41 = 2 := by kernel_rfl
  have hci : Try.prog.cellsOf 3 = 1 := by kernel_rfl
  unfold keyOf
  simp only [Try.underlying41]
  rw [if_pos (by simp [hkt, plv, Value.formed, Try.underlying41, hc]), hm]
  unfold Program.keyLits
  simp [Try.underlying41, plv, Value.cells, hc, hci, Program.keyLits, Try.underlying3, h1, h2]
/-- Block b is a map that counts places: how often each. -/
def Cts (w : World) (b : Nat) (C : Pl → Nat) : Prop :=
  ∃ es clock, w.heap[b]? = some (.map es clock) ∧ MapKept.Stamped es clock ∧ (∀ x ∈ es.toList, ∃ p, PlWf p ∧ x.key = plv p ∧ x.val = .int .i64 (C p : Int)) ∧ ∀ p, C p ≠ 0 → ∃ x ∈ es.toList, x.key = plv p
/-- .. in which a place has its entry, of this stamp. -/
def CtsAt (w : World) (b : Nat) (C : Pl → Nat) (p : Pl) (st : Nat) : Prop :=
  ∃ (es : Array MapEntry) (clock j : Nat) (e0 : MapEntry), w.heap[b]? = some (.map es clock) ∧ MapKept.Stamped es clock ∧ (∀ x ∈ es.toList, ∃ p, PlWf p ∧ x.key = plv p ∧ x.val = .int .i64 (C p : Int)) ∧ (∀ p, C p ≠ 0 → ∃ x ∈ es.toList, x.key = plv p) ∧
    es.toList[j]? = some e0 ∧ e0.key = plv p ∧ e0.born = st
theorem CtsAt.cts {w : World} {b : Nat} {C : Pl → Nat} {p : Pl} {st : Nat} (h : CtsAt w b C p st) : Cts w b C := by
  obtain ⟨es, clock, j, e0, h1, h2, h3, h4, _⟩ := h
  exact ⟨es, clock, h1, h2, h3, h4⟩
theorem Cts.kept {w w' : World} {b : Nat} {C : Pl → Nat} (h : Cts w b C) (hb : w'.heap[b]? = w.heap[b]?) : Cts w' b C := by
  obtain ⟨es, clock, h1, h2, h3, h4⟩ := h
  exact ⟨es, clock, hb.trans h1, h2, h3, h4⟩
theorem Cts.lt {w : World} {b : Nat} {C : Pl → Nat} (h : Cts w b C) : b < w.heap.size := by
  obtain ⟨es, clock, h1, _⟩ := h
  exact (Array.getElem?_eq_some_iff.1 h1).1
theorem Cts.new (w : World) : Cts (w.alloc (.map #[] 0)) w.heap.size (fun _ => 0) :=
  ⟨#[], 0, (MapKept.heap_alloc w _).1, MapKept.stamped_empty 0, by simp, fun p h => absurd rfl h⟩
theorem Cts.keys {w : World} {es : Array MapEntry} {C : Pl → Nat} (h : ∀ x ∈ es.toList, ∃ p, PlWf p ∧ x.key = plv p ∧ x.val = .int .i64 (C p : Int)) : ∀ x ∈ es.toList, ∃ l, keyOf Try.prog 41 x.key = some l := fun x hx => by
  obtain ⟨p, hp, hk, _⟩ := h x hx
  rw [hk]; exact place_key p hp
theorem place_zero (w : World) : (zeroValue 3).run Try.prog w = .ok (.int .i64 0) w := by kernel_rfl
/-- What is read of it. -/
theorem cts_lookup {w : World} {b : Nat} {C : Pl → Nat} (h : Cts w b C) (p : Pl) (hp : PlWf p) : (Instr.lookup 65 (.map (some b)) (plv p) false).run Try.prog w = .ok (.int .i64 (C p : Int)) w := by
  obtain ⟨es, clock, hb, hs, he, hc⟩ := h
  obtain ⟨l, hl⟩ := place_key p hp
  rcases place_law.find w hl es.toList (Cts.keys (w := w) he) with ⟨h1, h2⟩ | ⟨j, e0, h1, h2, h3⟩
  · have h0 : C p = 0 := Decidable.byContradiction fun hn => by
      obtain ⟨x, hx, hk⟩ := hc p hn
      exact h2 x hx hk
    simp [Instr.lookup, run_underlying Try.underlying65, MapKept.run_getObj_map hb, place_law.check w _ hl, h1, place_zero, Result.andThen, h0]
  · obtain ⟨q, hq, hk, hv⟩ := he e0 (List.mem_of_getElem? h2)
    obtain rfl := plv_inj (hk.symm.trans h3)
    simp [Instr.lookup, run_underlying Try.underlying65, MapKept.run_getObj_map hb, place_law.check w _ hl, h1, Result.andThen, hv]
/-- The entry of a place is sought, or laid. -/
theorem cts_entry {w : World} {b : Nat} {C : Pl → Nat} (h : Cts w b C) (p : Pl) (hp : PlWf p) : ∃ (st : Nat) (w1 : World), (Instr.mapEntry 65 (.map (some b)) (plv p)).run Try.prog w = .ok (.tuple #[.int .i64 (C p : Int), goInt st]) w1 ∧ CtsAt w1 b C p st ∧ w.grownBy w1 (some b) := by
  obtain ⟨es, clock, hb, hs, he, hc⟩ := h
  obtain ⟨l, hl⟩ := place_key p hp
  obtain ⟨s1, s2, s3⟩ := hs
  rcases place_law.find w hl es.toList (Cts.keys (w := w) he) with ⟨h1, h2⟩ | ⟨j, e0, h1, h2, h3⟩
  · have h0 : C p = 0 := Decidable.byContradiction fun hn => by
      obtain ⟨x, hx, hk⟩ := hc p hn
      exact h2 x hx hk
    refine ⟨clock, ChangeMaps.setBlock w b (.map (es.push ⟨plv p, .int .i64 0, clock⟩) (clock + 1)), ?_, ⟨es.push ⟨plv p, .int .i64 0, clock⟩, clock + 1, es.size, ⟨plv p, .int .i64 0, clock⟩, ChangeMaps.heap_setBlock_same hb _, MapKept.stamped_push ⟨s1, s2, s3⟩ h2, ?_, ?_, by simp, rfl, rfl⟩,
      ⟨rfl, rfl, rfl, by simp [ChangeMaps.setBlock], fun i _ hi => ChangeMaps.heap_setBlock_other hb _ (fun e => hi (by rw [e]))⟩⟩
    · simp [Instr.mapEntry, run_underlying Try.underlying65, MapKept.run_getObj_map hb, place_law.check w false hl, h1, place_zero, MapKept.run_setObj_map _ hb, Result.andThen, ChangeMaps.setBlock, h0]
    · intro x hx
      rw [Array.toList_push, List.mem_append] at hx
      rcases hx with hx | hx
      · exact he x hx
      · obtain rfl : x = ⟨plv p, .int .i64 0, clock⟩ := by simpa using hx
        exact ⟨p, hp, rfl, by rw [h0]; rfl⟩
    · intro q hq
      obtain ⟨x, hx, hk⟩ := hc q hq
      exact ⟨x, by rw [Array.toList_push]; exact List.mem_append_left _ hx, hk⟩
  · have hj : es[j]? = some e0 := by simpa using h2
    have hsame : es.modify j (fun e => { e with key := plv p }) = es := by
      apply Array.ext'
      rw [Array.toList_modify, ChangeMaps.modify_eq_set _ _ _ _ h2]
      have : ({ e0 with key := plv p } : MapEntry) = e0 := by rw [← h3]
      rw [this]
      exact WideElems.set_self _ _ _ h2
    obtain ⟨q, hq, hk, hv⟩ := he e0 (List.mem_of_getElem? h2)
    obtain rfl := plv_inj (hk.symm.trans h3)
    refine ⟨e0.born, ChangeMaps.setBlock w b (.map es clock), ?_, ⟨es, clock, j, e0, ChangeMaps.heap_setBlock_same hb _, ⟨s1, s2, s3⟩, he, hc, h2, h3, rfl⟩,
      ⟨rfl, rfl, rfl, by simp [ChangeMaps.setBlock], fun i _ hi => ChangeMaps.heap_setBlock_other hb _ (fun e => hi (by rw [e]))⟩⟩
    simp [Instr.mapEntry, run_underlying Try.underlying65, MapKept.run_getObj_map hb, place_law.check w false hl, h1, hj, h3, place_law.stays w hl, hsame, MapKept.run_setObj_map _ hb, Result.andThen, ChangeMaps.setBlock, hv]
/-- One more of a place. -/
def bump (C : Pl → Nat) (p : Pl) : Pl → Nat := fun q => if q = p then C p + 1 else C q
theorem cts_store {w : World} {b : Nat} {C : Pl → Nat} {p : Pl} {st : Nat} (h : CtsAt w b C p st) (hp : PlWf p) : ∃ w1, (Instr.entryStore 65 (.map (some b)) (goInt st) (.int .i64 ((C p : Int) + 1))).run Try.prog w = .ok () w1 ∧ Cts w1 b (bump C p) ∧ w.grownBy w1 (some b) := by
  obtain ⟨es, clock, j, e0, hb, hs, he, hc, h2, h3, rfl⟩ := h
  have hs' := hs
  obtain ⟨s1, s2, s3⟩ := hs
  have hidx : es.findIdx? (fun e => ((e.born : Nat) : Int) == ((e0.born : Nat) : Int)) = some j := by
    rw [WideElems.findIdx_arr]
    exact WideElems.findIdx_born s2 h2
  have hmod : (es.modify j (fun e => { e with val := .int .i64 ((C p : Int) + 1) })).toList = es.toList.set j { e0 with val := .int .i64 ((C p : Int) + 1) } := by
    rw [Array.toList_modify, ChangeMaps.modify_eq_set _ _ _ _ h2]
  have hjl : j < es.toList.length := (List.getElem?_eq_some_iff.1 h2).1
  refine ⟨ChangeMaps.setBlock w b (.map (es.modify j fun e => { e with val := .int .i64 ((C p : Int) + 1) }) clock), ?_, ⟨_, clock, ChangeMaps.heap_setBlock_same hb _, MapKept.stamped_modify hs' _ _ (fun _ _ => rfl) (fun _ _ _ => rfl), ?_, ?_⟩,
    ⟨rfl, rfl, rfl, by simp [ChangeMaps.setBlock], fun i _ hi => ChangeMaps.heap_setBlock_other hb _ (fun e => hi (by rw [e]))⟩⟩
  · simp [Instr.entryStore, MapKept.run_getObj_map hb, asInt, asIntOf, goInt, hidx, MapKept.run_setObj_map _ hb, Result.andThen, ChangeMaps.setBlock]
  · intro x hx
    rw [hmod] at hx
    obtain ⟨i, hi⟩ := List.mem_iff_getElem?.1 hx
    by_cases e : i = j
    · subst e
      rw [List.getElem?_set_self hjl] at hi
      obtain rfl := Option.some.inj hi
      exact ⟨p, hp, h3, by simp [bump]⟩
    · rw [List.getElem?_set_ne (fun h => e h.symm)] at hi
      have hm := List.mem_of_getElem? hi
      obtain ⟨q, hq, hk, hv⟩ := he x hm
      have hne : q ≠ p := fun e2 => by
        subst e2
        have hi2 : (es.toList.map (·.key))[i]? = some (plv q) := by simp [List.getElem?_map, hi, hk]
        have hj2 : (es.toList.map (·.key))[j]? = some (plv q) := by simp [List.getElem?_map, h2, h3]
        obtain ⟨l1, hl1⟩ := List.getElem?_eq_some_iff.1 hi2
        obtain ⟨l2, hl2⟩ := List.getElem?_eq_some_iff.1 hj2
        have hp := List.pairwise_iff_getElem.1 s3
        rcases Nat.lt_or_gt_of_ne e with h | h
        · exact hp i j l1 l2 h (hl1.trans hl2.symm)
        · exact hp j i l2 l1 h (hl2.trans hl1.symm)
      exact ⟨q, hq, hk, by simp [bump, hne, hv]⟩
  · intro q hq
    rw [hmod]
    by_cases e : q = p
    · subst e
      exact ⟨_, List.mem_set hjl _, h3⟩
    · obtain ⟨x, hx, hk⟩ := hc q (by simpa [bump, e] using hq)
      obtain ⟨i, hi⟩ := List.mem_iff_getElem?.1 hx
      have hij : i ≠ j := fun e2 => by
        subst e2
        rw [hi] at h2
        obtain rfl := Option.some.inj h2
        exact e (plv_inj (hk.symm.trans h3))
      exact ⟨x, List.mem_iff_getElem?.2 ⟨i, by rw [List.getElem?_set_ne (fun h => hij h.symm)]; exact hi⟩, hk⟩
end Go.Proofs.Ytniblphklgbpnaa
