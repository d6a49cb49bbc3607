/- keys: a map of keys that the call makes; what a row holds that was sorted. -/
import Derived.Test.YtgmkcddgkgcbbaaGTreeL
import Derived.Test.YtgmkcddgkgcbbaaKeysB
import Derived.Maps.Own
import Derived.Maps.Views
namespace Go.Proofs.Ytgmkcddgkgcbbaa
open Go.ChangeShapes Go.WideShapes Go.ChangeAt Go.RowKit
set_option linter.unusedVariables false
set_option maxRecDepth 100000
open Go.RowKit Go
theorem key_wide : (match Try.prog.underlying 24 with | some (.array _ _) | some (.struct _) => true | _ => false) = true := by rw [Try.underlying24]
theorem key_law : Maps.Keyed Try.prog 24 := Maps.Keyed.of_law (deep_law_laid (by kernel_rfl) (m := 2) (by omega) (of_decide_eq_true (by kernel_rfl)) (by kernel_rfl) key_wide)
/-- A key, as a map's key reads. -/
def keyL (k : Pl) : Lit := .string (keyBytes [.int .i64 k.kind, .int .i64 k.id])
/-- Numbers as an int has them. -/
def InK (k : Pl) : Prop := (-9223372036854775808 ≤ k.kind ∧ k.kind ≤ 9223372036854775807) ∧ -9223372036854775808 ≤ k.id ∧ k.id ≤ 9223372036854775807
theorem wf_i (a : Int) (h : -9223372036854775808 ≤ a ∧ a ≤ 9223372036854775807) : (Lit.int .i64 a).wf = true := by simp [Lit.wf, IntKind.min, IntKind.max, IntKind.signed, IntKind.bits]; omega
theorem key_size : ∃ n, Try.prog.types.size + 1 = n + 2 := ⟨Try.prog.types.size - 1, by have : 1 < Try.prog.types.size := of_decide_eq_true (by kernel_rfl); omega⟩
theorem key_of {k : Pl} (h : InK k) : keyOf Try.prog 24 (.agg #[.int .i64 k.kind, .int .i64 k.id]) = some (keyL k) := by
 have h0 := wf_i _ h.1
 have h1 := wf_i _ h.2
 have ht : Try.prog.keyType 24 = true := by kernel_rfl
 have hf : (Value.agg #[.int .i64 k.kind, .int .i64 k.id]).formed Try.prog 24 = true := by
  have hc : Try.prog.cellsOf 24 = 2 := by kernel_rfl
  simp [Value.formed, Try.underlying24, hc]
 have hi : Try.prog.cellsOf 3 = 1 := by kernel_rfl
 have hc : Try.prog.cellsOf 24 = 2 := by kernel_rfl
 obtain ⟨n, hn⟩ := key_size
 unfold keyOf
 rw [Try.underlying24]
 simp only [ht, hf, Bool.and_self, if_true, hn]
 have e2 : ∀ (a : Int), (Lit.int .i64 a).wf = true → Try.prog.keyLits (n + 1) 3 [.int .i64 a] = some [.int .i64 a] := fun a ha => by
  unfold Program.keyLits
  rw [Try.underlying3]
  simp [ha]
 unfold Program.keyLits
 rw [Try.underlying24]
 simp [hc, hi, e2, h0, h1, Value.cells, keyL]
theorem keyL_inj {a b : Pl} (ha : InK a) (hb : InK b) (h : keyL a = keyL b) : a = b := by
 have hb2 := key_of hb
 rw [← h] at hb2
 have h2 := key_law.inj (key_of ha) hb2
 obtain ⟨a1, a2⟩ := a
 obtain ⟨b1, b2⟩ := b
 simp at h2
 rw [h2.1, h2.2]
theorem keyL_key {a : Pl} (ha : InK a) : WideAt.IsKeyLit (keyL a) := key_law.key (key_of ha)
/-- Block m is a map whose keys are just these. -/
def MetK (W : World) (m : Nat) (L : List Pl) : Prop :=
 ∃ (n : Nat) (D : DataW Unit), W.ownsMap Try.prog 24 (plainElem Try.prog 4) m n D ∧ n ≤ L.length ∧ Maps.IsMap D ∧ ∀ kl, Maps.has D kl = true ↔ ∃ k ∈ L, keyL k = kl
theorem metk_none (w : World) : MetK (w.alloc (.map #[] 0)) w.heap.size [] :=
 ⟨0, .map [], World.ownsMap_made w Try.prog 24 (plainElem Try.prog 4), Nat.le_refl _, ⟨_, rfl⟩, fun kl => by simp [Maps.has]⟩
theorem MetK.lt {W : World} {m : Nat} {L : List Pl} (h : MetK W m L) : m < W.heap.size := by obtain ⟨n, D, ho, _⟩ := h; exact ho.lt
theorem MetK.kept {W W' : World} {m : Nat} {L : List Pl} {row : Option Nat} (h : MetK W m L) (hg : W.grownBy W' row) (hr : some m ≠ row) : MetK W' m L := by
 obtain ⟨n, D, ho, h⟩ := h
 exact ⟨n, D, ho.kept hg hr, h⟩
theorem MetK.call {W W' : World} {m : Nat} {L : List Pl} (h : MetK W m L) (hb : Below W.heap.size W W') : MetK W' m L := h.kept ⟨hb.os, hb.tape, hb.output, hb.size, fun k hk _ => hb.block k hk⟩ (row := none) (by simp)
theorem MetK.put {W : World} {m : Nat} {L : List Pl} (h : MetK W m L) (k : Pl) (hi : InK k) (hl : L.length ≤ 1000000) :
 ∃ W', (Instr.mapUpdate 49 (.map (some m)) (.agg #[.int .i64 k.kind, .int .i64 k.id]) (.bool true)).run Try.prog W = .ok () W' ∧ MetK W' m (L ++ [k]) ∧ W.grownBy W' (some m) := by
 obtain ⟨n, D, ho, hn, hm, hD⟩ := h
 obtain ⟨W', hr, ho', hg⟩ := ho.update key_law Try.underlying49 (by unfold maxLen; omega) (key_of hi) (plainElem_bool Try.underlying4 true)
 have hk := keyL_key hi
 refine ⟨W', hr, ⟨n + 1, _, ho', by simp; omega, ?_, fun kl => ?_⟩, hg⟩
 ·obtain ⟨es, rfl⟩ := hm
  exact ⟨_, rfl⟩
 ·by_cases hj : kl = keyL k
  ·subst hj
   rw [Maps.has_put_same hm hk]
   simp
  ·rw [Maps.has_put_other hj, hD kl]
   constructor
   ·rintro ⟨q, hq, e⟩; exact ⟨q, by simp [hq], e⟩
   ·rintro ⟨q, hq, e⟩
    rcases List.mem_append.1 hq with hq | hq
    ·exact ⟨q, hq, e⟩
    ·rw [List.mem_singleton] at hq; subst hq; exact absurd e.symm hj
/-- A store into a map whose run is known, as one step. -/
theorem kput_step {P : Program} {ops : Array Oper} {rest : List Oper} {o : Oper} {a : Act} {Q : Exit → Act → World → Prop} {w w' : World} (hgd : o.guard = none) (s x y : Operand) (t : TypeId)
 (ho : o.op = .mapUpdate t s x y) (v u z : Value) (hs : a.eval s = v) (hx : a.eval x = u) (hy : a.eval y = z)
 (hrun : (Instr.mapUpdate t v u z).run P w = .ok () w') (h : wpList P ops Q rest (a.put o.dst undef) w') : wpList P ops Q (o :: rest) a w :=
 wpList_plain hgd fun K hK => by
  unfold Oper.wp
  simp [execOp, ho, hs, hx, hy, hrun, Result.andThen]
  exact hK _ _ h
/-- A range over the map of keys is under way: these are through. -/
def RngK (W : World) (m r : Nat) (L R : List Pl) : Prop :=
 ∃ (n : Nat) (D : DataW Unit) (left : Lit → Bool) (cnt : Nat), W.ranges Try.prog 24 (plainElem Try.prog 4) m r n D left cnt ∧ (∀ kl, left kl = true → ∃ k ∈ L, keyL k = kl) ∧ (∀ k, k ∈ R ↔ (k ∈ L ∧ left (keyL k) = false)) ∧ R.Nodup
theorem RngK.kept {W W' : World} {m r : Nat} {L R : List Pl} {row : Option Nat} (h : RngK W m r L R) (hg : W.grownBy W' row) (h1 : some m ≠ row) (h2 : some r ≠ row) : RngK W' m r L R := by
 obtain ⟨n, D, left, cnt, hr, h⟩ := h
 exact ⟨n, D, left, cnt, hr.kept hg h1 h2, h⟩
theorem RngK.left {W W' : World} {m r : Nat} {L R : List Pl} {row : Option Nat} (h : RngK W m r L R) (hg : W.grownBy W' row) (h1 : some m ≠ row) (h2 : some r ≠ row) : W'.rangeLeft m r = W.rangeLeft m r := by
 obtain ⟨n, D, left, cnt, hr, h⟩ := h
 rw [hr.left_eq, (hr.kept hg h1 h2).left_eq]
theorem RngK.sub {W : World} {m r : Nat} {L R : List Pl} (h : RngK W m r L R) : R.length ≤ L.length := by
 obtain ⟨n, D, left, cnt, hr, -, h2, h3⟩ := h
 exact List.Nodup.length_le_of_subset h3 (fun k hk => ((h2 k).1 hk).1)
section
variable {w : World} {ops : Array Oper} {rest : List Oper} {o : Oper} {a : Act} {Q : Exit → Act → World → Prop}
theorem range_keys {m : Nat} {L : List Pl} (hM : MetK w m L) (hg : o.guard = none) (x : Operand) (hop : o.op = Op.range 49 x) (hx : a.eval x = .map (some m))
 (hK : ∀ w', RngK w' m w.heap.size L [] → w.grownBy w' none → w'.heap.size = w.heap.size + 1 → wpList Try.prog ops Q rest (a.put o.dst (.pointer (some ⟨w.heap.size, 0, none⟩))) w') : wpList Try.prog ops Q (o :: rest) a w := by
 obtain ⟨n, D, ho, -, hm, hD⟩ := hM
 refine wpList_range_own w hg x 49 hop 24 4 key_law Try.underlying49 (plainElem Try.prog 4) m n D hx ho (fun w' hr hgr hs => hK w' ⟨n, D, _, _, hr, fun kl hkl => (hD kl).1 hkl, fun k => ?_, List.nodup_nil⟩ hgr hs)
 simp only [List.not_mem_nil, false_iff, not_and]
 intro hk
 rw [(hD (keyL k)).2 ⟨k, hk, rfl⟩]
 simp
theorem next_keys {m r : Nat} {L R : List Pl} (hR : RngK w m r L R) (hL : ∀ k ∈ L, InK k) (hg : o.guard = none) (it : Operand) (hop : o.op = Op.next it false) (hit : a.eval it = .pointer (some ⟨r, 0, none⟩))
 (hDone : (∀ k, k ∈ R ↔ k ∈ L) → R.Nodup → wpList Try.prog ops Q rest (a.put o.dst (.tuple #[.bool false])) w)
 (hMore : ∀ (k : Pl) (c : Value) (w' : World), k ∈ L → RngK w' m r L (R ++ [k]) → w.grownBy w' (some r) → w'.heap.size = w.heap.size → w'.rangeLeft m r < w.rangeLeft m r →
   (Instr.entry (.pointer (some ⟨r, 0, none⟩))).run Try.prog w' = .ok (.tuple #[.agg #[.int .i64 k.kind, .int .i64 k.id], c]) w' → wpList Try.prog ops Q rest (a.put o.dst (.tuple #[.bool true, .agg #[.int .i64 k.kind, .int .i64 k.id], c])) w') : wpList Try.prog ops Q (o :: rest) a w := by
 obtain ⟨n, D, left, cnt, hr, h1, h2, h3⟩ := hR
 refine wpList_next_ranges w hg it hop 24 key_law (plainElem Try.prog 4) (fun v : Value => v) (fun v : Value => v) (fun key kl _ => ⟨key, rfl⟩) (fun v y _ => ⟨v, rfl⟩) m r n D left cnt hit hr (fun h0 hl => hDone (fun k => ?_) h3) ?_
 ·rw [h2, hl]; simp
 ·intro x c kl y w' cnt' hkey hlk hv hat hrg hlt hgr hsz hen
  obtain ⟨k, hk, rfl⟩ := h1 kl hlk
  obtain rfl := key_law.inj hkey (key_of (hL k hk))
  refine hMore k c w' hk ⟨n, D, _, cnt', hrg, fun kl hkl => h1 kl (by simp only [Bool.and_eq_true] at hkl; exact hkl.1), fun q => ?_, ?_⟩ hgr hsz (by rw [hrg.left_eq, hr.left_eq]; exact hlt) hen
  ·rw [List.mem_append, List.mem_singleton, h2]
   constructor
   ·rintro (⟨hq, hf⟩ | rfl)
    ·exact ⟨hq, by simp [hf]⟩
    ·exact ⟨hk, by simp [WideAt.sameKey_self (keyL_key (hL _ hk))]⟩
   ·rintro ⟨hq, hf⟩
    by_cases hl : left (keyL q) = false
    ·exact .inl ⟨hq, hl⟩
    ·refine .inr (keyL_inj (hL q hq) (hL k hk) (WideAt.sameKey_eq ?_))
     have : left (keyL q) = true := by simpa using hl
     simpa [this] using hf
  ·rw [List.nodup_append]
   refine ⟨h3, by simp, fun a ha b hb e => ?_⟩
   rw [List.mem_singleton] at hb
   subst hb e
   have := ((h2 a).1 ha).2
   rw [hlk] at this
   cases this
end
end Go.Proofs.Ytgmkcddgkgcbbaa
