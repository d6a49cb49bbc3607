/- desc.New: the world of a description. -/
import Derived.Test.YtgmkcddgkgcbbaaGRight
import Derived.Test.YtgmkcddgkgcbbaaGRefD
namespace Go.Proofs.Ytgmkcddgkgcbbaa
open Go.ChangeShapes Go.WideShapes Go.ChangeAt Go.RowKit
set_option linter.unusedVariables false
section
/-- What New hands back of a description that may be. -/
def NewOut (d : Ds) (w : World) (e : Ending) (w' : World) : Prop := ∃ (x : Wd) (q : Wp), x = newW d ∧ e = .returned (.tuple #[.agg (wC x q), .int .i64 0]) ∧ WorldOwn w.heap.size w' q x ∧ Below w.heap.size w w'
end
section
/-- A list appended to none at all: a block of its own. -/
theorem append_nilrow {α : Type} {P : Program} (t e : TypeId) (k bytes : Nat) (z : Value) (enc : α → List Value) (hu : P.underlying t = some (.slice e)) (hinfo : (P.info? e).map (fun i => (i.zero, i.size, i.bytes)) = some (some z, k, bytes))
 (hz : z.cells.size = k) (hk : 0 < k) (hby : bytes ≤ 64) (he : ∀ x, (enc x).length = k) (hone : ∀ x, ∀ u ∈ enc x, u.oneCell' = true) {W : World} {a : Option Addr} {cap : Nat} {xs : List α} (hx : RowAt k enc W a xs) (hl : xs.length ≤ 1000000) (hp : 0 < xs.length) :
 ∃ g c W', (Builtin.append_ #[t, t] t #[.slice none 0 0, .slice a xs.length cap]).run P W = .ok (.slice (some ⟨g, 0, none⟩) xs.length c) W' ∧ OwnR k e enc W.heap.size W' (some ⟨g, 0, none⟩) xs ∧ Below W.heap.size W W' := by
 obtain ⟨i0, hi0, hz0, hz1, hz2⟩ := info_parts hinfo
 have hown : W.ownsRow W.heap.size e k (.slice none 0 0) 0 [] := ⟨by simp, .inl ⟨rfl, rfl⟩⟩
 rcases hx.2 with h | ⟨b, off, rfl, hb2, hc⟩
 ·subst h; simp at hp
 have hmem : ∀ j u, (xs.flatMap enc)[j]? = some u → W.cell? ((⟨b, off, none⟩ : Addr).add j) = some u := by
  intro j u hj
  have hjl : j < xs.length * k := by rw [← flat_len he xs]; exact (List.getElem?_eq_some_iff.1 hj).1
  have hdiv : j / k < xs.length := (Nat.div_lt_iff_lt_mul hk).2 hjl
  have hmod : j % k < k := Nat.mod_lt _ hk
  have e1 : j / k * k + j % k = j := by rw [Nat.mul_comm]; exact Nat.div_add_mod j k
  have e2 := flat_get he xs (j / k) hdiv (j % k) hmod
  rw [e1, hj] at e2
  have e3 := hc (j / k) hdiv (j % k) hmod
  rw [show off + j / k * k + j % k = off + j by omega, ← e2] at e3
  by_cases h0 : j = 0 <;> simp [Addr.add, h0] at e3 ⊢ <;> exact e3
 obtain ⟨v', W', hr, h1, h2, -⟩ := run_append_own (P := P) W W.heap.size t t e i0 z k bytes hu hi0 hz0 hz1 hz2 hz hk _ 0 [] hown ⟨b, off, none⟩ xs.length cap (xs.flatMap enc) (flat_len he xs) hmem
  (fun u hu => by obtain ⟨x, _, h⟩ := List.mem_flatMap.1 hu; exact hone x u h) (by unfold maxLen; omega) (Nat.le_trans (Nat.mul_le_mul (show 0 + xs.length ≤ 1000000 by omega) hby) (by decide)) (Nat.le_refl _)
 rcases h1.2 with ⟨_, h0⟩ | ⟨g, c, cur, rfl, hg, hh, hcap, _, hsz, htk⟩
 ·omega
 ·refine ⟨g, c, W', by rw [hr, Nat.zero_add], ⟨by unfold maxLen; omega, .inr ⟨g, cur, rfl, hg, hh, fun i hi j hj => ?_⟩⟩, (Below.refl _ _).grown h2 (Nat.le_refl _) (fun q hq => by cases hq)⟩
  have e : (cur.toList.take ((0 + xs.length) * k))[i * k + j]? = (([] ++ xs.flatMap enc) : List Value)[i * k + j]? := by rw [htk]
  have hlt2 : i * k + j < xs.length * k := by
   have : (i + 1) * k ≤ xs.length * k := Nat.mul_le_mul (by omega) (Nat.le_refl _)
   rw [Nat.add_mul, Nat.one_mul] at this
   omega
  rw [List.getElem?_take, if_pos (by rw [Nat.zero_add]; exact hlt2), List.nil_append, flat_get he xs i hi j hj] at e
  simpa using e
/-- An append of one place to a row of the call's own, behind its one-cell block. -/
theorem append_place {W : World} {base n : Nat} {v : Value} {ys : List Value} (hown : W.ownsRow base 95 2 v n ys) (x y : Int) (hn : n + 1 ≤ 1000000) (hb : base ≤ W.heap.size) :
 ∃ v' W', (Builtin.append_ #[37, 37] 37 #[v, .slice (some ⟨W.heap.size, 0, none⟩) 1 1]).run Try.prog (W.alloc (.cells #[.int .i64 x, .int .i64 y] 95)) = .ok v' W' ∧ W'.ownsRow base 95 2 v' (n + 1) (ys ++ [.int .i64 x, .int .i64 y]) ∧
   (∀ b, b < W.heap.size → some b ≠ v.ownBlock → W'.heap[b]? = W.heap[b]?) ∧ W.heap.size ≤ W'.heap.size ∧ W'.os = W.os ∧ W'.tape = W.tape ∧ W'.output = W.output := by
 obtain ⟨i0, hi0, hz0, hz1, hz2⟩ := info_parts place_info
 obtain ⟨v', W', hr, h1, h2, -, h4⟩ := run_append_own_at (P := Try.prog) (W.alloc (.cells #[.int .i64 x, .int .i64 y] 95)) base 37 37 95 i0 (.agg #[.int .i64 0, .int .i64 0]) 2 16 Try.underlying37 hi0 hz0 hz1 hz2 rfl (by decide) v n ys (hown.alloc _) ⟨W.heap.size, 0, none⟩ 1 1 [.int .i64 x, .int .i64 y] rfl
  (fun j u hj => by
    have hj3 : j < 2 := by have := (List.getElem?_eq_some_iff.1 hj).1; simpa using this
    have e : ((⟨W.heap.size, 0, none⟩ : Addr).add j) = ⟨W.heap.size, j, none⟩ := by by_cases h0 : j = 0 <;> simp [Addr.add, h0]
    rw [e, World.cell?_alloc_at _ _ _ _ rfl]
    simpa using hj) (by intro u hu; simp at hu; rcases hu with rfl | rfl <;> rfl) (by unfold maxLen; omega) (by omega) (by simp; omega)
 refine ⟨v', W', hr, h1, fun b hb2 hne => (h2.block b (by simp; omega) hne).trans (Below.heap_alloc W _ b hb2), ?_, h2.os, h2.tape, h2.output⟩
 have := h2.size
 simp at this
 omega
theorem own_form2 {W : World} {base n sz : Nat} {t : TypeId} {v : Value} {ys : List Value} (h : W.ownsRow base t sz v n ys) : ∃ a c, v = .slice a n c := by
 rcases h.2 with ⟨rfl, rfl⟩ | ⟨q, c, cur, rfl, hq, _⟩
 ·exact ⟨_, _, rfl⟩
 ·exact ⟨_, _, rfl⟩
theorem own_ownR {W : World} {base : Nat} {a : Option Addr} {c : Nat} {xs : List Pl} (h : W.ownsRow base 95 2 (.slice a xs.length c) xs.length (xs.flatMap plC)) (hl : xs.length ≤ maxLen) : OwnR 2 95 plC base W a xs := by
 refine ⟨hl, ?_⟩
 rcases h.2 with ⟨h1, h2⟩ | ⟨g, c2, cur, h1, hg, hh, hcap, _, hsz, htk⟩
 ·left
  simp only [Value.slice.injEq] at h1
  exact ⟨List.length_eq_zero_iff.1 h2, h1.1⟩
 ·right
  simp only [Value.slice.injEq] at h1
  refine ⟨g, cur, h1.1, hg, hh, fun i hi j hj => ?_⟩
  have e : (cur.toList.take (xs.length * 2))[i * 2 + j]? = (xs.flatMap plC)[i * 2 + j]? := by rw [htk]
  rw [List.getElem?_take, if_pos (by omega), flat_get plC_len xs i hi j hj] at e
  simpa using e
/-- An append whose run is known, as one step of a region that draws its order. -/
theorem step_app {P : Program} {ops : Array Oper} {o : Oper} {a : Act} {w : World} {K : Act → World → Prop} {Q : Exit → Act → World → Prop} {E : Prop}
 (hg : o.guard = none) (s x : Operand) (t : TypeId) (hop : o.op = Op.call { callee := Callee.builtin Builtin.append, args := #[s, x], argTypes := #[t, t] })
 (v u v' : Value) (w' : World) (hs : a.eval s = v) (hx : a.eval x = u) (hrun : (Builtin.append_ #[t, t] o.type #[v, u]).run P w = .ok v' w')
 (hK : K (a.put o.dst v') w') : if Region.wanted o (yielded ops a.tmps) = true then Oper.wp P o a w K Q else E := by
 rw [if_pos (by simp [Region.wanted, hg])]
 unfold Oper.wp
 simp [execOp, hop, resolve, invoke, builtin, hs, hx, hrun, Result.andThen]
 exact hK
end
section
/-- The loop's world: what was there is as it was, but for block n and what is new. -/
structure NI (n B : Nat) (V wr : World) (cs : Array Value) (a : Option Addr) (c k : Nat) (xs : List Int) : Prop where
 s : B ≤ wr.heap.size
 f : ∀ b, b < B → b ≠ n → wr.heap[b]? = V.heap[b]?
 os : wr.os = V.os
 tp : wr.tape = V.tape
 ot : wr.output = V.output
 bl : Blk wr n 39 cs
 o : wr.ownsRow B 95 2 (.slice a k c) k ((floorsL (xs.take k)).flatMap plC)
theorem NI.blk {n B : Nat} {V wr : World} {cs : Array Value} {a : Option Addr} {c k : Nat} {xs : List Int} (h : NI n B V wr cs a c k xs) {g : Nat} {t : TypeId} {ds : Array Value} (hb : Blk V g t ds) (hg : g < B) (hn : g ≠ n) : Blk wr g t ds := (h.f g hg hn).trans hb
theorem NI.cell {n B : Nat} {V wr : World} {cs : Array Value} {a : Option Addr} {c k : Nat} {xs : List Int} (h : NI n B V wr cs a c k xs) {p : Addr} (hg : p.block < B) (hn : p.block ≠ n) : wr.cell? p = V.cell? p := by simp [World.cell?, h.f p.block hg hn]
theorem NI.below {n B m : Nat} {w V wr : World} {cs : Array Value} {a : Option Addr} {c k : Nat} {xs : List Int} (h : NI n B V wr cs a c k xs) (hb : Below m w V) (hm : m ≤ n) (hB : m ≤ B) (hV : V.heap.size ≤ B) : Below m w wr :=
 ⟨h.os.trans hb.os, h.tp.trans hb.tape, h.ot.trans hb.output, Nat.le_trans hb.size (Nat.le_trans hV h.s), fun b hl => (h.f b (by omega) (by omega)).trans (hb.block b hl)⟩
/-- One place more. -/
theorem NI.step {n B : Nat} {V wr W' : World} {cs : Array Value} {a a' : Option Addr} {c c' k : Nat} {xs : List Int} (h : NI n B V wr cs a c k xs) (hk : k < xs.length) (hn : n < B) (u : Value) (hu : u = .slice a' (k + 1) c')
 (h1 : W'.ownsRow B 95 2 (.slice a' (k + 1) c') (k + 1) ((floorsL (xs.take k)).flatMap plC ++ [.int .i64 0, .int .i64 xs[k]])) (hf : ∀ b, b < wr.heap.size → some b ≠ (Value.slice a k c).ownBlock → W'.heap[b]? = wr.heap[b]?) (hs : wr.heap.size ≤ W'.heap.size) (ho : W'.os = wr.os) (ht : W'.tape = wr.tape) (hot : W'.output = wr.output) :
 NI n B V (W'.setCell ⟨n, 10, none⟩ u) (cs.setIfInBounds 10 u) a' c' (k + 1) xs := by
 have hob : ∀ b, b < B → some b ≠ (Value.slice a k c).ownBlock := fun b hb e => by
  have := (h.o.lt b e.symm).1; omega
 have hlen : (floorsL (xs.take (k + 1))).flatMap plC = (floorsL (xs.take k)).flatMap plC ++ [.int .i64 0, .int .i64 xs[k]] := by
  rw [List.take_succ_eq_append_getElem hk]
  unfold floorsL
  rw [List.map_append, List.flatMap_append]
  rfl
 have hblk : Blk W' n 39 cs := (hf n (by have := h.s; omega) (hob n hn)).trans h.bl
 refine ⟨by have := h.s; simp [World.setCell]; omega, fun b hb hne => ?_, ho.trans h.os, ht.trans h.tp, hot.trans h.ot, hblk.set_ 10 u, ?_⟩
 ·rw [Below.heap_setCell W' _ u b hne, hf b (by have := h.s; omega) (hob b hb), h.f b hb hne]
 ·rw [hlen]
  refine h1.kept (row := some n) ⟨rfl, rfl, rfl, by simp, fun b _ hne => Below.heap_setCell W' _ u b (fun e => hne (by rw [e]))⟩ (.inr fun e => ?_)
  have := (h1.lt n e).1
  omega
end
section
/-- A new world: its description's lists are those that were handed in; where its items are lies behind all else. -/
def WhNew (n : Nat) (W : World) (p : Dp) (q : Wp) (x : Wd) : Prop :=
 q.d = p ∧ ∃ m, n ≤ m ∧ OwnR 1 3 inC n W q.at_ x.at_ ∧ (∀ r, q.at_ = some r → r.block < m) ∧ OwnR 1 3 inC n W q.co x.coins ∧ (∀ r, q.co = some r → r.block < m) ∧ OwnR 2 95 plC m W q.wh x.wher
theorem WhNew.world {w W : World} {p : Dp} {q : Wp} {x : Wd} (h : WhNew w.heap.size W p q x) (hd : DescAt w p x.d) (hb : Below w.heap.size w W) : WorldAt W q x := by
 obtain ⟨rfl, m, _, h1, _, h2, _, h3⟩ := h
 exact ⟨hd.below hb (Nat.le_refl _), ints_row.2 h1.row, ints_row.2 h2.row, h3.row⟩
theorem WhNew.call {n : Nat} {W W' : World} {p : Dp} {q : Wp} {x : Wd} (h : WhNew n W p q x) (hb : Below W.heap.size W W') : WhNew n W' p q x := by
 obtain ⟨h0, m, hm, h1, l1, h2, l2, h3⟩ := h
 exact ⟨h0, m, hm, h1.call hb, l1, h2.call hb, l2, h3.call hb⟩
/-- Item k's place is written, whole. -/
theorem WhNew.putPlace {n : Nat} {W : World} {p : Dp} {q : Wp} {x : Wd} (h : WhNew n W p q x) {k : Nat} (hk : k < x.wher.length) : ∃ b, q.wh = some ⟨b, 0, none⟩ ∧ n ≤ b ∧ b < W.heap.size ∧ (W.cell? ⟨b, k * 2, none⟩ = some (.int .i64 x.wher[k].kind) ∧ W.cell? ⟨b, k * 2 + 1, none⟩ = some (.int .i64 x.wher[k].id)) ∧ (∀ r, W.frozen? ⟨b, r, none⟩ = false) ∧
 ∀ y : Pl, WhNew n ((W.setCell ⟨b, k * 2, none⟩ (.int .i64 y.kind)).setCell ⟨b, k * 2 + 1, none⟩ (.int .i64 y.id)) p q ⟨x.d, x.at_, x.coins, x.wher.set k y⟩ := by
 obtain ⟨h0, m, hm, h1, l1, h2, l2, h3⟩ := h
 obtain ⟨b, hb, hn, hl, hc, hf, hput⟩ := h3.put hk (j := 0) (by omega)
 refine ⟨b, hb, by omega, hl, ⟨by simpa [plC] using hc 0 (by omega), by simpa [plC] using hc 1 (by omega)⟩, hf, fun y => ⟨h0, m, hm, (h1.far (fun r hr => by have := l1 r hr; omega) _ _).far (fun r hr => by have := l1 r hr; omega) _ _, l1, (h2.far (fun r hr => by have := l2 r hr; omega) _ _).far (fun r hr => by have := l2 r hr; omega) _ _, l2, ?_⟩⟩
 have h4 := hput (.int .i64 y.kind) ⟨y.kind, x.wher[k].id⟩ rfl (fun r hr => by
  obtain rfl | rfl : r = 0 ∨ r = 1 := by omega
  ·rfl
  ·rfl)
 obtain ⟨b', hb', _, _, _, _, hput'⟩ := h4.put (i := k) (by simpa using hk) (j := 1) (by omega)
 obtain rfl : b' = b := by simpa using hb'.symm
 have h5 := hput' (.int .i64 y.id) y rfl (fun r hr => by
  obtain rfl | rfl : r = 0 ∨ r = 1 := by omega
  ·simp [plC]
  ·rfl)
 rw [hb]
 simpa using h5
theorem refnew_fin {d : Ds} {p : Dp} {w W : World} {a1 a2 a3 : Option Addr} {c1 c2 c3 m : Nat} (hd : DescAt w p d) (hb : Below w.heap.size w W) (hm : w.heap.size ≤ m) (h1 : OwnR 1 3 inC w.heap.size W a1 d.players) (l1 : ∀ r, a1 = some r → r.block < m)
 (h2 : OwnR 1 3 inC w.heap.size W a2 d.coins) (l2 : ∀ r, a2 = some r → r.block < m) (h3 : OwnR 2 95 plC m W a3 (floorsL d.items)) :
 ∃ (x : Wd) (q : Wp), x = newW d ∧ Ending.returned (.agg #[.slice p.ex d.exits.length p.exc, .slice p.pl d.players.length p.plc, .slice p.co d.coins.length p.coc, .slice p.it d.items.length p.itc, .slice p.bo d.boxes.length p.boc, .int .i64 d.room, .int .i64 d.player, .int .i64 d.box, .slice a1 d.players.length c1, .slice a2 d.coins.length c2, .slice a3 d.items.length c3]) = .returned (.agg (wC x q)) ∧ WorldAt W q x ∧ Below w.heap.size w W ∧ WhNew w.heap.size W p q x := by
 have hn : WhNew w.heap.size W p ⟨p, a1, c1, a2, c2, a3, c3⟩ (newW d) := ⟨rfl, m, hm, h1, l1, h2, l2, h3⟩
 exact ⟨newW d, ⟨p, a1, c1, a2, c2, a3, c3⟩, rfl, by simp [newW, floorsL], hn.world hd hb, hb, hn⟩
end
section
/-- A copied world: its description's lists are those that were handed in; its own lie each in a block of its own, in this order. -/
def WhOwn (n : Nat) (W : World) (p : Dp) (q : Wp) (x : Wd) : Prop :=
 q.d = p ∧ ∃ m1 m2, n ≤ m1 ∧ m1 ≤ m2 ∧ OwnR 1 3 inC n W q.at_ x.at_ ∧ (∀ r, q.at_ = some r → r.block < m1) ∧ OwnR 1 3 inC m1 W q.co x.coins ∧ (∀ r, q.co = some r → r.block < m2) ∧ OwnR 2 95 plC m2 W q.wh x.wher
theorem WhOwn.new {n : Nat} {W : World} {p : Dp} {q : Wp} {x : Wd} (h : WhOwn n W p q x) : WhNew n W p q x := by
 obtain ⟨h0, m1, m2, h1, h2, ha, la, hc, lc, hw⟩ := h
 exact ⟨h0, m2, by omega, ha, fun r hr => by have := la r hr; omega, hc.less h1, lc, hw⟩
theorem WhOwn.call {n : Nat} {W W' : World} {p : Dp} {q : Wp} {x : Wd} (h : WhOwn n W p q x) (hb : Below W.heap.size W W') : WhOwn n W' p q x := by
 obtain ⟨h0, m1, m2, h1, h2, ha, la, hc, lc, hw⟩ := h
 exact ⟨h0, m1, m2, h1, h2, ha.call hb, la, hc.call hb, lc, hw.call hb⟩
theorem WhOwn.alloc {n : Nat} {W : World} {p : Dp} {q : Wp} {x : Wd} (h : WhOwn n W p q x) (o : Obj) : WhOwn n (W.alloc o) p q x := h.call ((Below.refl _ _).alloc (Nat.le_refl _) _)
theorem WhOwn.set {n : Nat} {W : World} {p : Dp} {q : Wp} {x : Wd} (h : WhOwn n W p q x) {b : Nat} (hb : b < n) (i : Nat) (u : Value) : WhOwn n (W.setCell ⟨b, i, none⟩ u) p q x := by
 obtain ⟨h0, m1, m2, h1, h2, ha, la, hc, lc, hw⟩ := h
 exact ⟨h0, m1, m2, h1, h2, ha.set hb i u, la, hc.set (by omega) i u, lc, hw.set (by omega) i u⟩
theorem WhOwn.less {n m : Nat} {W : World} {p : Dp} {q : Wp} {x : Wd} (h : WhOwn n W p q x) (hm : m ≤ n) : WhOwn m W p q x := by
 obtain ⟨h0, m1, m2, h1, h2, ha, r⟩ := h
 exact ⟨h0, m1, m2, by omega, h2, ha.less hm, r⟩
/-- Player k's room is written. -/
theorem WhOwn.putAt {n : Nat} {W : World} {p : Dp} {q : Wp} {x : Wd} (h : WhOwn n W p q x) {k : Nat} (hk : k < x.at_.length) : ∃ b, q.at_ = some ⟨b, 0, none⟩ ∧ n ≤ b ∧ b < W.heap.size ∧ W.cell? ⟨b, k, none⟩ = some (.int .i64 x.at_[k]) ∧ (∀ r, W.frozen? ⟨b, r, none⟩ = false) ∧
 ∀ v : Int, WhOwn n (W.setCell ⟨b, k, none⟩ (.int .i64 v)) p q ⟨x.d, x.at_.set k v, x.coins, x.wher⟩ := by
 obtain ⟨h0, m1, m2, h1, h2, ha, la, hc, lc, hw⟩ := h
 obtain ⟨b, hb, hn, hl, hcell, hf, hput⟩ := ha.put hk (j := 0) (by omega)
 have hlt : b < m1 := la _ hb
 refine ⟨b, hb, by omega, hl, by simpa [inC] using hcell 0 (by omega), hf, fun v => ⟨h0, m1, m2, h1, h2, ?_, la, hc.far (fun r hr => by have h5 := hc.from_ hr; omega) _ _, lc, hw.far (fun r hr => by have h5 := hw.from_ hr; omega) _ _⟩⟩
 have := hput (.int .i64 v) v rfl (fun r hr => by obtain rfl : r = 0 := by omega
                                                  simp [inC])
 rw [hb]
 simpa using this
/-- Player k's coins are written. -/
theorem WhOwn.putCo {n : Nat} {W : World} {p : Dp} {q : Wp} {x : Wd} (h : WhOwn n W p q x) {k : Nat} (hk : k < x.coins.length) : ∃ b, q.co = some ⟨b, 0, none⟩ ∧ n ≤ b ∧ b < W.heap.size ∧ W.cell? ⟨b, k, none⟩ = some (.int .i64 x.coins[k]) ∧ (∀ r, W.frozen? ⟨b, r, none⟩ = false) ∧
 ∀ v : Int, WhOwn n (W.setCell ⟨b, k, none⟩ (.int .i64 v)) p q ⟨x.d, x.at_, x.coins.set k v, x.wher⟩ := by
 obtain ⟨h0, m1, m2, h1, h2, ha, la, hc, lc, hw⟩ := h
 obtain ⟨b, hb, hn, hl, hcell, hf, hput⟩ := hc.put hk (j := 0) (by omega)
 have hlt : b < m2 := lc _ hb
 refine ⟨b, hb, by omega, hl, by simpa [inC] using hcell 0 (by omega), hf, fun v => ⟨h0, m1, m2, h1, h2, ha.far (fun r hr => by have h5 := la r hr; omega) _ _, la, ?_, lc, hw.far (fun r hr => by have h5 := hw.from_ hr; omega) _ _⟩⟩
 have := hput (.int .i64 v) v rfl (fun r hr => by obtain rfl : r = 0 := by omega
                                                  simp [inC])
 rw [hb]
 simpa using this
theorem whnew_fin {x : Wd} {p : Dp} {w W : World} {a1 a2 a3 : Option Addr} {c1 c2 c3 m1 m : Nat} (hd : DescAt w p x.d) (hb : Below w.heap.size w W) (hm1 : w.heap.size ≤ m1) (hm : m1 ≤ m) (h1 : OwnR 1 3 inC w.heap.size W a1 x.at_) (l1 : ∀ r, a1 = some r → r.block < m1)
 (h2 : OwnR 1 3 inC m1 W a2 x.coins) (l2 : ∀ r, a2 = some r → r.block < m) (h3 : OwnR 2 95 plC m W a3 x.wher) :
 ∃ q : Wp, Ending.returned (.agg (wC x ⟨p, a1, c1, a2, c2, a3, c3⟩)) = .returned (.agg (wC x q)) ∧ WorldAt W q x ∧ Below w.heap.size w W ∧ WhOwn w.heap.size W p q x := by
 have hn : WhOwn w.heap.size W p ⟨p, a1, c1, a2, c2, a3, c3⟩ x := ⟨rfl, m1, m, hm1, hm, h1, l1, h2, l2, h3⟩
 exact ⟨⟨p, a1, c1, a2, c2, a3, c3⟩, rfl, hn.new.world hd hb, hb, hn⟩
theorem below_cast {n m : Nat} {a b : World} (h : Below n a b) (e : n = m) : Below m a b := e ▸ h
end
end Go.Proofs.Ytgmkcddgkgcbbaa
