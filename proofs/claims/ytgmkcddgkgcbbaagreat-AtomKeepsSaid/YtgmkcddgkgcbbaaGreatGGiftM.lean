/- What is given, and traded: plain mathematics. -/
import Derived.Test.YtgmkcddgkgcbbaaGreatGAs
namespace Go.Proofs.YtgmkcddgkgcbbaaGreat
open Go.ChangeShapes Go.WideShapes Go.ChangeAt Go.RowKit
set_option linter.unusedVariables false
section
/-- All these items are laid there. -/
def setL (ps : List Pl) (l : List Nat) (f : Pl) : List Pl := l.foldl (fun ps k => ps.set k f) ps
@[simp] theorem setL_nil (ps : List Pl) (f : Pl) : setL ps [] f = ps := rfl
theorem setL_cons (ps : List Pl) (k : Nat) (l : List Nat) (f : Pl) : setL ps (k :: l) f = setL (ps.set k f) l f := rfl
theorem setL_snoc (ps : List Pl) (l : List Nat) (k : Nat) (f : Pl) : setL ps (l ++ [k]) f = (setL ps l f).set k f := by simp [setL]
@[simp] theorem setL_len (f : Pl) : ∀ (l : List Nat) (ps : List Pl), (setL ps l f).length = ps.length
  | [], _ => rfl
  | k :: l, ps => by rw [setL_cons, setL_len f l]; simp
theorem setL_at (f : Pl) : ∀ (l : List Nat) (ps : List Pl) (n : Nat), n < ps.length → plOf (setL ps l f) n = if n ∈ l then f else plOf ps n
 | [], _, _, _ => by simp
 | k :: l, ps, n, hn => by
   rw [setL_cons, setL_at f l _ n (by simpa using hn), plOf_set hn]
   by_cases h1 : n ∈ l
   ·simp [h1]
   ·by_cases h2 : n = k <;> simp [h1, h2]
theorem pls_ext {ps qs : List Pl} (hl : ps.length = qs.length) (h : ∀ n, n < ps.length → plOf ps n = plOf qs n) : ps = qs := by
 refine List.ext_getElem hl fun n h1 h2 => ?_
 have := h n h1
 rwa [plOf_get h1, plOf_get h2] at this
theorem setL_mem {f : Pl} {l : List Nat} {ps : List Pl} {p : Pl} (h : p ∈ setL ps l f) : p = f ∨ p ∈ ps := by
 obtain ⟨n, hn, rfl⟩ := List.getElem_of_mem h
 have hn2 : n < ps.length := by simpa using hn
 rw [← plOf_get hn, setL_at f l ps n hn2]
 split
 ·exact .inl rfl
 ·exact .inr (plOf_mem hn2)
theorem setL_ends {f : Pl} (hf : ¬ f.kind = 2) : ∀ (l : List Nat) (ps : List Pl) (n : Nat) (p : Pl), endsB ps n p = true → endsB (setL ps l f) n p = true
 | [], _, _, _, h => h
 | k :: l, ps, n, p, h => by rw [setL_cons]; exact setL_ends hf l _ n p (ends_set hf n p h)
/-- No more lie elsewhere than ahead. -/
theorem setL_count {f p : Pl} (hp : ¬ f = p) : ∀ (l : List Nat) (ps : List Pl), (∀ k ∈ l, k < ps.length) → (setL ps l f).count p ≤ ps.count p
 | [], _, _ => Nat.le_refl _
 | k :: l, ps, h => by
   rw [setL_cons]
   have h1 := setL_count hp l (ps.set k f) (fun j hj => by simpa using h j (List.mem_cons_of_mem _ hj))
   have h2 := count_put (h k (List.mem_cons_self ..)) f p
   rw [if_neg hp] at h2
   omega
/-- From there to here: as many more, as many less. -/
theorem setL_counts {f g : Pl} (hfg : ¬ f = g) : ∀ (l : List Nat) (ps : List Pl), l.Nodup → (∀ k ∈ l, k < ps.length ∧ plOf ps k = f) → (setL ps l g).count g = ps.count g + l.length ∧ (setL ps l g).count f + l.length = ps.count f
 | [], _, _, _ => ⟨by simp, by simp⟩
 | k :: l, ps, hnd, h => by
   obtain ⟨hk, hp⟩ := h k (List.mem_cons_self ..)
   rw [List.nodup_cons] at hnd
   have ih := setL_counts hfg l (ps.set k g) hnd.2 (fun j hj => by
    obtain ⟨h1, h2⟩ := h j (List.mem_cons_of_mem _ hj)
    refine ⟨by simpa using h1, ?_⟩
    rw [plOf_set h1, if_neg (fun e => hnd.1 (by rw [← e]; exact hj)), h2])
   rw [plOf_get hk] at hp
   have h1 := count_put hk g g
   have h2 := count_put hk g f
   have h3 := count_at hk
   rw [hp] at h1 h2 h3
   rw [if_neg hfg, if_pos rfl] at h1
   rw [if_pos rfl, if_neg (fun e => hfg e.symm)] at h2
   rw [setL_cons, List.length_cons]
   omega
/-- What lies where behind a trade. -/
def trP (ps : List Pl) (i q : Nat) (gs ws : List Nat) : List Pl := setL (setL ps gs ⟨1, (q : Int)⟩) ws ⟨1, (i : Int)⟩
theorem trP_len (ps : List Pl) (i q : Nat) (gs ws : List Nat) : (trP ps i q gs ws).length = ps.length := by simp [trP]
theorem trP_at {ps : List Pl} {i q : Nat} {gs ws : List Nat} {n : Nat} (hn : n < ps.length) : plOf (trP ps i q gs ws) n = if n ∈ ws then ⟨1, (i : Int)⟩ else if n ∈ gs then ⟨1, (q : Int)⟩ else plOf ps n := by
 unfold trP
 rw [setL_at _ _ _ n (by simpa using hn), setL_at _ _ _ n hn]
/-- The world behind a trade. -/
def trW (x : Wd) (i q : Nat) (gs ws : List Nat) (a b : Int) : Wd := ⟨x.d, x.at_, (x.coins.set i a).set q b, trP x.wher i q gs ws⟩
/-- .. of items alone. -/
def trN (x : Wd) (i q : Nat) (gs ws : List Nat) : Wd := ⟨x.d, x.at_, x.coins, trP x.wher i q gs ws⟩
theorem trW_shape (x : Wd) (i q : Nat) (gs ws : List Nat) (a b : Int) : Shape x (trW x i q gs ws a b) := ⟨rfl, rfl, rfl, rfl, rfl, rfl, rfl, rfl, rfl, by simp [trW], by simp [trW, trP_len]⟩
def coinOf (x : Wd) (i : Nat) : Int := x.coins.getD i 0
/-- Are the items there, of whom they should be? -/
def hasB (x : Wd) (i : Nat) (l : List Nat) : Bool := l.all fun k => decide (plOf x.wher k = ⟨1, (i : Int)⟩)
/-- What is traded. -/
def tradeW (x : Wd) (i : Nat) (q : Int) (gs ws : List Int) (pay fee : Int) : Wd × Int :=
 if inB q x.at_.length = false then (x, 3)
 else if (gs ++ ws).all (fun k => inB k x.wher.length) = false then (x, 3)
 else if q = i then (x, 12)
 else if ¬ roomOf x i = roomOf x q.toNat then (x, 5)
 else if ¬ (gs ++ ws).Nodup then (x, 13)
 else if hasB x i (gs.map Int.toNat) = false ∨ hasB x q.toNat (ws.map Int.toNat) = false then (x, 5)
 else if roomI (trN x i q.toNat (gs.map Int.toNat) (ws.map Int.toNat)) ⟨1, (i : Int)⟩ < 0 ∨ roomI (trN x i q.toNat (gs.map Int.toNat) (ws.map Int.toNat)) ⟨1, (q.toNat : Int)⟩ < 0 then (x, 9)
 else if ¬ swapE (coinOf x i) (coinOf x q.toNat) pay fee = 0 then (x, swapE (coinOf x i) (coinOf x q.toNat) pay fee)
 else (trW x i q.toNat (gs.map Int.toNat) (ws.map Int.toNat) (swapA (coinOf x i) (coinOf x q.toNat) pay fee) (swapB (coinOf x i) (coinOf x q.toNat) pay fee), 0)
/-- What is given. -/
def giveW (x : Wd) (i : Nat) (item q : Int) : Wd × Int :=
 if inB item x.wher.length = false ∨ inB q x.at_.length = false then (x, 3)
 else if q = i then (x, 12)
 else if ¬ roomOf x i = roomOf x q.toNat ∨ ¬ plOf x.wher item.toNat = ⟨1, (i : Int)⟩ then (x, 5)
 else if roomI x ⟨1, (q.toNat : Int)⟩ = 0 then (x, 9)
 else (putW x item.toNat ⟨1, (q.toNat : Int)⟩, 0)
theorem nats_of {l : List Int} {n : Nat} (h : l.all (fun k => inB k n) = true) : ∃ m : List Nat, l = m.map (fun (k : Nat) => (k : Int)) ∧ ∀ k ∈ m, k < n := by
 refine ⟨l.map Int.toNat, ?_, fun k hk => ?_⟩
 ·rw [List.map_map]
  conv => lhs; rw [← List.map_id l]
  refine List.map_congr_left fun k hk => ?_
  have := (inB_iff k n).1 (List.all_eq_true.1 h k hk)
  simp; omega
 ·obtain ⟨j, hj, rfl⟩ := List.mem_map.1 hk
  have := (inB_iff j n).1 (List.all_eq_true.1 h j hj)
  omega
theorem toNats (m : List Nat) : (m.map (fun (k : Nat) => (k : Int))).map Int.toNat = m := by
 rw [List.map_map]
 conv => rhs; rw [← List.map_id m]
 exact List.map_congr_left fun k _ => by simp
theorem nodup_nats (m : List Nat) : (m.map (fun (k : Nat) => (k : Int))).Nodup ↔ m.Nodup := by
 constructor
 ·intro h; exact List.Pairwise.of_map _ (fun a b h e => h (by rw [e])) h
 ·intro h; exact List.Pairwise.map _ (fun a b h e => h (by omega)) h
/-- What was traded. -/
structure Traded (x : Wd) (i q : Nat) (gs ws : List Nat) (pay fee : Int) : Prop where
 lti : i < x.at_.length
 ltq : q < x.at_.length
 ne : ¬ q = i
 room : roomOf x i = roomOf x q
 ltg : ∀ k ∈ gs, k < x.wher.length ∧ plOf x.wher k = ⟨1, (i : Int)⟩
 ltw : ∀ k ∈ ws, k < x.wher.length ∧ plOf x.wher k = ⟨1, (q : Int)⟩
 nd : (gs ++ ws).Nodup
 ri : 0 ≤ roomI (trN x i q gs ws) ⟨1, (i : Int)⟩
 rq : 0 ≤ roomI (trN x i q gs ws) ⟨1, (q : Int)⟩
 p0 : 0 ≤ pay
 f0 : 0 ≤ fee
 pa : pay ≤ coinOf x i
 fb : fee ≤ coinOf x q
 ma : coinOf x i - pay + fee ≤ 1073741824
 mb : coinOf x q - fee + pay ≤ 1073741824
theorem swap_zero {a b pay fee : Int} : swapE a b pay fee = 0 ↔ (0 ≤ pay ∧ 0 ≤ fee ∧ pay ≤ a ∧ fee ≤ b ∧ a - pay + fee ≤ 1073741824 ∧ b - fee + pay ≤ 1073741824) := by
 unfold swapE
 constructor
 ·intro h
  split at h
  ·omega
  ·split at h
   ·omega
   ·split at h <;> omega
 ·intro h
  rw [if_neg (by omega), if_neg (by omega), if_pos (by omega)]
theorem Traded.eq {x : Wd} {i q : Nat} {gs ws : List Nat} {pay fee : Int} (h : Traded x i q gs ws pay fee) :
 tradeW x i q (gs.map fun (k : Nat) => (k : Int)) (ws.map fun (k : Nat) => (k : Int)) pay fee = (trW x i q gs ws (coinOf x i - pay + fee) (coinOf x q - fee + pay), 0) := by
 have he : swapE (coinOf x i) (coinOf x q) pay fee = 0 := swap_zero.2 ⟨h.p0, h.f0, h.pa, h.fb, h.ma, h.mb⟩
 have e1 : swapA (coinOf x i) (coinOf x q) pay fee = coinOf x i - pay + fee := by simp [swapA, he]
 have e2 : swapB (coinOf x i) (coinOf x q) pay fee = coinOf x q - fee + pay := by simp [swapB, he]
 have hl := h.ltq
 unfold tradeW
 rw [if_neg (by simp [inB, hl]), if_neg (by
  rw [← List.map_append]
  simp only [List.all_map, Bool.not_eq_false, List.all_eq_true, Function.comp_apply, inB_iff]
  intro k hk
  rcases List.mem_append.1 hk with hk | hk
  ·have := (h.ltg k hk).1; omega
  ·have := (h.ltw k hk).1; omega), if_neg (by have := h.ne; omega)]
 simp only [Int.toNat_natCast, toNats]
 rw [if_neg (by simpa using h.room), if_neg (by rw [← List.map_append, nodup_nats]; simpa using h.nd), if_neg (by
  simp only [hasB, not_or, Bool.not_eq_false, List.all_eq_true, decide_eq_true_eq]
  exact ⟨fun k hk => (h.ltg k hk).2, fun k hk => (h.ltw k hk).2⟩), if_neg (by have := h.ri; have := h.rq; omega), if_neg (by simpa using he), e1, e2]
theorem traded_of {x : Wd} {i : Nat} (hi : i < x.at_.length) {q : Int} {gl wl : List Int} {pay fee : Int} (he : (tradeW x i q gl wl pay fee).2 = 0) :
 ∃ (k : Nat) (gs ws : List Nat), q = k ∧ gl = gs.map (fun (k : Nat) => (k : Int)) ∧ wl = ws.map (fun (k : Nat) => (k : Int)) ∧ Traded x i k gs ws pay fee := by
 unfold tradeW at he
 split at he
 ·simp at he
 rename_i h1
 split at he
 ·simp at he
 rename_i h2
 split at he
 ·simp at he
 rename_i h3
 split at he
 ·simp at he
 rename_i h4
 split at he
 ·simp at he
 rename_i h5
 split at he
 ·simp at he
 rename_i h6
 split at he
 ·simp at he
 rename_i h7
 split at he
 ·rename_i h8; exact absurd he h8
 rename_i h8
 rw [Bool.not_eq_false, List.all_append, Bool.and_eq_true] at h2
 obtain ⟨gs, rfl, hg⟩ := nats_of h2.1
 obtain ⟨ws, rfl, hw⟩ := nats_of h2.2
 rw [Bool.not_eq_false, inB_iff] at h1
 obtain ⟨k, rfl⟩ : ∃ k : Nat, q = k := ⟨q.toNat, by omega⟩
 simp only [Int.toNat_natCast, toNats] at h4 h6 h7 h8
 simp only [hasB, not_or, Bool.not_eq_false, List.all_eq_true, decide_eq_true_eq] at h6
 obtain ⟨p0, f0, pa, fb, ma, mb⟩ := swap_zero.1 (Decidable.not_not.1 h8)
 refine ⟨k, gs, ws, rfl, rfl, rfl, hi, by omega, by omega, Decidable.not_not.1 h4, fun j hj => ⟨hg j hj, h6.1 j hj⟩, fun j hj => ⟨hw j hj, h6.2 j hj⟩, ?_, by omega, by omega, p0, f0, pa, fb, ma, mb⟩
 rw [← nodup_nats, List.map_append]
 exact Decidable.not_not.1 h5
theorem trade_stays {x : Wd} {i : Nat} {q : Int} {gl wl : List Int} {pay fee : Int} (he : ¬ (tradeW x i q gl wl pay fee).2 = 0) : (tradeW x i q gl wl pay fee).1 = x := by
 unfold tradeW at he ⊢
 repeat' split
 all_goals first | rfl | skip
 rename_i h1 h2 h3 h4 h5 h6 h7 h8
 rw [if_neg h1, if_neg h2, if_neg h3, if_neg h4, if_neg h5, if_neg h6, if_neg h7, if_neg h8] at he
 exact absurd rfl he
section
variable {x : Wd} {i q : Nat} {gs ws : List Nat} {pay fee : Int} (h : Traded x i q gs ws pay fee)
include h
theorem Traded.apart {k : Nat} (hk : k ∈ gs) : ¬ k ∈ ws := by
 intro hw
 have h1 := (h.ltg k hk).2
 have h2 := (h.ltw k hw).2
 rw [h1] at h2
 have := h.ne
 simp only [Pl.mk.injEq, true_and] at h2
 omega
theorem Traded.at_ {n : Nat} (hn : n < x.wher.length) : plOf (trP x.wher i q gs ws) n = if n ∈ gs then ⟨1, (q : Int)⟩ else if n ∈ ws then ⟨1, (i : Int)⟩ else plOf x.wher n := by
 rw [trP_at hn]
 by_cases h1 : n ∈ gs
 ·rw [if_neg (h.apart h1), if_pos h1, if_pos h1]
 ·rw [if_neg h1, if_neg h1]
theorem Traded.others {n : Nat} (hn : n < x.wher.length) (h1 : ¬ n ∈ gs) (h2 : ¬ n ∈ ws) : plOf (trP x.wher i q gs ws) n = plOf x.wher n := by
 rw [h.at_ hn, if_neg h1, if_neg h2]
/-- The world behind it is right. -/
theorem Traded.right (hx : rightW x = true) {a b : Int} (ha : 0 ≤ a ∧ a ≤ 1073741824) (hb : 0 ≤ b ∧ b ≤ 1073741824) : rightW (trW x i q gs ws a b) = true := by
 have hin := right_in hx
 have h1 := hx
 simp only [rightW, Bool.and_eq_true] at h1 ⊢
 obtain ⟨h2, h3, h4, h5, h6⟩ := h1
 have hmem : ∀ p ∈ trP x.wher i q gs ws, p = ⟨1, (i : Int)⟩ ∨ p = ⟨1, (q : Int)⟩ ∨ p ∈ x.wher := by
  intro p hp
  rcases setL_mem hp with e | hp
  ·exact .inl e
  ·exact .inr (setL_mem hp)
 refine ⟨h2, ?_, ?_, ?_, ?_⟩
 ·simp only [playersB, Bool.and_eq_true, decide_eq_true_eq] at h3 ⊢
  refine ⟨h3.1, by simpa [trW] using h3.2.1, h3.2.2.1, ?_⟩
  rw [pursesB_iff]
  intro n hn
  rcases List.mem_or_eq_of_mem_set hn with hn | rfl
  ·rcases List.mem_or_eq_of_mem_set hn with hn | rfl
   ·exact hin.2.1 n hn
   ·exact ha
  ·exact hb
 ·simp only [placesB, trW, Bool.and_eq_true, decide_eq_true_eq, List.all_eq_true, trP_len] at h4 ⊢
  refine ⟨h4.1, fun p hpm => ?_⟩
  rcases hmem p hpm with rfl | rfl | hpm
  ·exact place_player hx h.lti
  ·exact place_player hx h.ltq
  ·exact h4.2 p hpm
 ·simp only [nestB, trW, List.all_eq_true] at h5 ⊢
  intro p hpm
  rcases hmem p hpm with rfl | rfl | hpm
  ·exact ends_leaf _ _ (by simp)
  ·exact ends_leaf _ _ (by simp)
  ·exact setL_ends (by simp) ws _ 4 p (setL_ends (by simp) gs _ 4 p (h5 p hpm))
 ·simp only [fitB, List.all_eq_true, decide_eq_true_eq] at h6
  unfold fitB
  rw [List.all_eq_true]
  intro p hpm
  refine decide_eq_true ?_
  show (((trP x.wher i q gs ws).count p : Nat) : Int) ≤ capOf x.d p.kind
  have r1 := h.ri
  have r2 := h.rq
  unfold roomI at r1 r2
  change 0 ≤ capOf x.d 1 - (((trP x.wher i q gs ws).count ⟨1, (i : Int)⟩ : Nat) : Int) at r1
  change 0 ≤ capOf x.d 1 - (((trP x.wher i q gs ws).count ⟨1, (q : Int)⟩ : Nat) : Int) at r2
  by_cases e1 : (⟨1, (i : Int)⟩ : Pl) = p
  ·subst e1; show _ ≤ capOf x.d 1; omega
  ·by_cases e2 : (⟨1, (q : Int)⟩ : Pl) = p
   ·subst e2; show _ ≤ capOf x.d 1; omega
   ·have hp : p ∈ x.wher := ((hmem p hpm).resolve_left (fun e => e1 e.symm)).resolve_left (fun e => e2 e.symm)
    have c1 := setL_count e1 ws (setL x.wher gs ⟨1, (q : Int)⟩) (fun k hk => by simpa using (h.ltw k hk).1)
    have c2 := setL_count e2 gs x.wher (fun k hk => (h.ltg k hk).1)
    have c3 := h6 p hp
    unfold trP
    omega
/-- Traded back by the other one, it is as it was. -/
theorem Traded.back (hx : rightW x = true) : Traded (trW x i q gs ws (coinOf x i - pay + fee) (coinOf x q - fee + pay)) q i gs ws pay fee ∧
 trW (trW x i q gs ws (coinOf x i - pay + fee) (coinOf x q - fee + pay)) q i gs ws (coinOf x q) (coinOf x i) = x ∧
 coinOf (trW x i q gs ws (coinOf x i - pay + fee) (coinOf x q - fee + pay)) i = coinOf x i - pay + fee ∧ coinOf (trW x i q gs ws (coinOf x i - pay + fee) (coinOf x q - fee + pay)) q = coinOf x q - fee + pay := by
 have hl := right_lens hx
 have hin := right_in hx
 have li : i < x.coins.length := by rw [hl.2.2.1]; exact h.lti
 have lq : q < x.coins.length := by rw [hl.2.2.1]; exact h.ltq
 have hci : coinOf x i = x.coins[i] := by simp [coinOf, List.getD, List.getElem?_eq_getElem li]
 have hcq : coinOf x q = x.coins[q] := by simp [coinOf, List.getD, List.getElem?_eq_getElem lq]
 have bi := hin.2.1 _ (List.getElem_mem li)
 have bq := hin.2.1 _ (List.getElem_mem lq)
 rw [← hci] at bi
 rw [← hcq] at bq
 have k1 : coinOf (trW x i q gs ws (coinOf x i - pay + fee) (coinOf x q - fee + pay)) i = coinOf x i - pay + fee := by
  show ((x.coins.set i _).set q _).getD i 0 = _
  rw [List.getD_eq_getElem?_getD, List.getElem?_set_ne (fun e => h.ne e), List.getElem?_set_self li]; rfl
 have k2 : coinOf (trW x i q gs ws (coinOf x i - pay + fee) (coinOf x q - fee + pay)) q = coinOf x q - fee + pay := by
  show ((x.coins.set i _).set q _).getD q 0 = _
  rw [List.getD_eq_getElem?_getD, List.getElem?_set_self (by simpa using lq)]; rfl
 have hb : trP (trP x.wher i q gs ws) q i gs ws = x.wher := by
  refine pls_ext (by rw [trP_len, trP_len]) fun n hn => ?_
  rw [trP_len, trP_len] at hn
  rw [trP_at (by rw [trP_len]; exact hn)]
  by_cases h1 : n ∈ ws
  ·rw [if_pos h1, (h.ltw n h1).2]
  ·rw [if_neg h1]
   by_cases h2 : n ∈ gs
   ·rw [if_pos h2, (h.ltg n h2).2]
   ·rw [if_neg h2, h.others hn h2 h1]
 have hN : trN (trW x i q gs ws (coinOf x i - pay + fee) (coinOf x q - fee + pay)) q i gs ws = ⟨x.d, x.at_, (x.coins.set i (coinOf x i - pay + fee)).set q (coinOf x q - fee + pay), x.wher⟩ := by
  show Wd.mk _ _ _ (trP (trP x.wher i q gs ws) q i gs ws) = _
  rw [hb]; rfl
 have p0 := h.p0
 have f0 := h.f0
 have pa := h.pa
 have fb := h.fb
 refine ⟨⟨h.ltq, h.lti, fun e => h.ne e.symm, h.room.symm, fun k hk => ?_, fun k hk => ?_, h.nd, ?_, ?_, p0, f0, by omega, by omega, by omega, by omega⟩, ?_, k1, k2⟩
 ·refine ⟨by show k < (trP _ _ _ _ _).length; rw [trP_len]; exact (h.ltg k hk).1, ?_⟩
  show plOf (trP _ _ _ _ _) k = _
  rw [h.at_ (h.ltg k hk).1, if_pos hk]
 ·refine ⟨by show k < (trP _ _ _ _ _).length; rw [trP_len]; exact (h.ltw k hk).1, ?_⟩
  show plOf (trP _ _ _ _ _) k = _
  rw [h.at_ (h.ltw k hk).1, if_neg (fun e => h.apart e hk), if_pos hk]
 ·rw [hN]; exact room_nn hx (f := ⟨1, (q : Int)⟩) (by simp)
 ·rw [hN]; exact room_nn hx (f := ⟨1, (i : Int)⟩) (by simp)
 ·show Wd.mk x.d x.at_ (((((x.coins.set i _).set q _)).set q _).set i _) (trP (trP x.wher i q gs ws) q i gs ws) = x
  rw [hb, List.set_set, List.set_comm _ _ (fun e => h.ne e.symm), List.set_set, hcq, List.set_getElem_self, hci, List.set_getElem_self]
end
/-- The sum of coins. -/
theorem sum_set : ∀ (l : List Int) (i : Nat) (a : Int) (hi : i < l.length), (l.set i a).sum = l.sum - l[i] + a
 | n :: l, 0, a, _ => by simp; omega
 | n :: l, i + 1, a, hi => by
   have := sum_set l i a (by simpa using hi)
   simp only [List.set_cons_succ, List.sum_cons, this, List.getElem_cons_succ]; omega
theorem Traded.sum {x : Wd} {i q : Nat} {gs ws : List Nat} {pay fee : Int} (h : Traded x i q gs ws pay fee) (hx : rightW x = true) : (trW x i q gs ws (coinOf x i - pay + fee) (coinOf x q - fee + pay)).coins.sum = x.coins.sum := by
 have hl := right_lens hx
 have li : i < x.coins.length := by rw [hl.2.2.1]; exact h.lti
 have lq : q < x.coins.length := by rw [hl.2.2.1]; exact h.ltq
 have hci : coinOf x i = x.coins[i] := by simp [coinOf, List.getD, List.getElem?_eq_getElem li]
 have hcq : coinOf x q = x.coins[q] := by simp [coinOf, List.getD, List.getElem?_eq_getElem lq]
 show ((x.coins.set i _).set q _).sum = _
 rw [sum_set _ _ _ (by simpa using lq), sum_set _ _ _ li, List.getElem_set_ne (fun e => h.ne e.symm)]
 omega
/-- Giving is a trade of one item for nothing. -/
theorem give_trade {x : Wd} (hx : rightW x = true) {i : Nat} (hi : i < x.at_.length) (item q : Int) : giveW x i item q = tradeW x i q [item] [] 0 0 := by
 unfold giveW tradeW
 by_cases h1 : inB q x.at_.length = false
 ·rw [if_pos (.inr h1), if_pos h1]
 rw [if_neg h1]
 by_cases h2 : inB item x.wher.length = false
 ·rw [if_pos (.inl h2), if_pos (by simpa using h2)]
 have h2' : ¬ ([item] ++ ([] : List Int)).all (fun k => inB k x.wher.length) = false := by simpa using h2
 rw [if_neg (by rintro (h | h) <;> contradiction), if_neg h2']
 by_cases h3 : q = i
 ·rw [if_pos h3, if_pos h3]
 rw [if_neg h3, if_neg h3]
 rw [Bool.not_eq_false, inB_iff] at h1 h2
 obtain ⟨k, rfl⟩ : ∃ k : Nat, q = k := ⟨q.toNat, by omega⟩
 obtain ⟨n, rfl⟩ : ∃ n : Nat, item = n := ⟨item.toNat, by omega⟩
 have hk : k < x.at_.length := by omega
 have hn : n < x.wher.length := by omega
 simp only [Int.toNat_natCast, List.map_cons, List.map_nil, List.append_nil]
 by_cases h4 : ¬ roomOf x i = roomOf x k
 ·rw [if_pos (.inl h4), if_pos h4]
 rw [Decidable.not_not] at h4
 rw [if_neg (by simpa using h4 : ¬ ¬ roomOf x i = roomOf x k), if_neg (by simp : ¬ ¬ [(n : Int)].Nodup)]
 have hh : hasB x k [] = true := rfl
 by_cases h5 : ¬ plOf x.wher n = ⟨1, (i : Int)⟩
 ·rw [if_pos (.inr h5), if_pos (.inl (by simp [hasB, h5]))]
 rw [Decidable.not_not] at h5
 have h7 : ¬ (¬ roomOf x i = roomOf x k ∨ ¬ plOf x.wher n = ⟨1, (i : Int)⟩) := by simp [h4, h5]
 have h8 : ¬ (hasB x i [n] = false ∨ hasB x k [] = false) := by simp [hasB, h5]
 rw [if_neg h7, if_neg h8]
 have hki : ¬ k = i := fun e => h3 (by rw [e])
 have e1 : trN x i k [n] [] = putW x n ⟨1, (k : Int)⟩ := rfl
 have r1 := room_put hn h5 (show ¬ (⟨1, (k : Int)⟩ : Pl) = ⟨1, (i : Int)⟩ from fun e => by simp only [Pl.mk.injEq, true_and] at e; omega)
 have r2 : roomI (putW x n ⟨1, (k : Int)⟩) ⟨1, (k : Int)⟩ = roomI x ⟨1, (k : Int)⟩ - 1 := by
  rw [plOf_get hn] at h5
  have h2 := count_put hn ⟨1, (k : Int)⟩ ⟨1, (k : Int)⟩
  rw [h5, if_neg (fun e => by simp only [Pl.mk.injEq, true_and] at e; omega), if_pos rfl] at h2
  show capOf x.d 1 - (((x.wher.set n _).count _ : Nat) : Int) = _
  unfold roomI
  show _ = capOf x.d 1 - _ - 1
  omega
 have n1 := room_nn hx (f := ⟨1, (i : Int)⟩) (by simp)
 have n2 := room_nn hx (f := ⟨1, (k : Int)⟩) (by simp)
 have hl := right_lens hx
 have hin := right_in hx
 have li : i < x.coins.length := by rw [hl.2.2.1]; exact hi
 have lq : k < x.coins.length := by rw [hl.2.2.1]; exact hk
 have hci : coinOf x i = x.coins[i] := by simp [coinOf, List.getD, List.getElem?_eq_getElem li]
 have hcq : coinOf x k = x.coins[k] := by simp [coinOf, List.getD, List.getElem?_eq_getElem lq]
 have bi := hin.2.1 _ (List.getElem_mem li)
 have bq := hin.2.1 _ (List.getElem_mem lq)
 rw [e1]
 by_cases h6 : roomI x ⟨1, (k : Int)⟩ = 0
 ·rw [if_pos h6, if_pos (.inr (by omega))]
 rw [if_neg h6, if_neg (by omega)]
 have hz : swapE (coinOf x i) (coinOf x k) 0 0 = 0 := swap_zero.2 (by omega)
 rw [if_neg (by simpa using hz)]
 have ha : swapA (coinOf x i) (coinOf x k) 0 0 = x.coins[i] := by unfold swapA; rw [if_pos hz]; omega
 have hb : swapB (coinOf x i) (coinOf x k) 0 0 = x.coins[k] := by unfold swapB; rw [if_pos hz]; omega
 rw [ha, hb]
 show _ = (Wd.mk x.d x.at_ ((x.coins.set i x.coins[i]).set k x.coins[k]) (x.wher.set n ⟨1, (k : Int)⟩), (0 : Int))
 rw [List.set_getElem_self, List.set_getElem_self]
 rfl
end
section
/-- What lies where when the first m of all that is named were brought: the gifts first. -/
def stepP (ps : List Pl) (i q : Nat) (gs ws : List Nat) (m : Nat) : List Pl := setL (setL ps (gs.take m) ⟨1, (q : Int)⟩) (ws.take (m - gs.length)) ⟨1, (i : Int)⟩
theorem stepP_zero (ps : List Pl) (i q : Nat) (gs ws : List Nat) : stepP ps i q gs ws 0 = ps := by simp [stepP]
theorem stepP_len (ps : List Pl) (i q : Nat) (gs ws : List Nat) (m : Nat) : (stepP ps i q gs ws m).length = ps.length := by simp [stepP]
theorem stepP_give {ps : List Pl} {i q : Nat} {gs ws : List Nat} {m : Nat} (h : m < gs.length) : stepP ps i q gs ws (m + 1) = (stepP ps i q gs ws m).set gs[m] ⟨1, (q : Int)⟩ := by
 unfold stepP
 rw [show m + 1 - gs.length = 0 by omega, show m - gs.length = 0 by omega, List.take_zero, setL_nil, setL_nil, List.take_succ_eq_append_getElem h, setL_snoc]
theorem stepP_want {ps : List Pl} {i q : Nat} {gs ws : List Nat} {m : Nat} (h : gs.length ≤ m) (h2 : m - gs.length < ws.length) : stepP ps i q gs ws (m + 1) = (stepP ps i q gs ws m).set ws[m - gs.length] ⟨1, (i : Int)⟩ := by
 unfold stepP
 rw [show m + 1 - gs.length = (m - gs.length) + 1 by omega, List.take_succ_eq_append_getElem h2, setL_snoc, List.take_of_length_le (by omega), List.take_of_length_le h]
theorem stepP_all (ps : List Pl) (i q : Nat) (gs ws : List Nat) : stepP ps i q gs ws (gs ++ ws).length = trP ps i q gs ws := by
 unfold stepP trP
 rw [List.length_append, List.take_of_length_le (by omega), List.take_of_length_le (by omega)]
/-- From whom, to whom. -/
theorem both_get {gs ws : List Nat} {m : Nat} (h : m < (gs ++ ws).length) : (m < gs.length ∧ ∃ h2 : m < gs.length, (gs ++ ws)[m] = gs[m]) ∨ (gs.length ≤ m ∧ ∃ h2 : m - gs.length < ws.length, (gs ++ ws)[m] = ws[m - gs.length]) := by
 rw [List.length_append] at h
 by_cases h1 : m < gs.length
 ·exact .inl ⟨h1, h1, List.getElem_append_left h1⟩
 ·exact .inr ⟨by omega, by omega, List.getElem_append_right (by omega)⟩
/-- Are the first m of all that is named where they should be? -/
def hasN (x : Wd) (i q : Nat) (gs ws : List Nat) (m : Nat) : Bool := hasB x i (gs.take m) && hasB x q (ws.take (m - gs.length))
theorem hasN_zero (x : Wd) (i q : Nat) (gs ws : List Nat) : hasN x i q gs ws 0 = true := by simp [hasN, hasB]
theorem hasN_all (x : Wd) (i q : Nat) (gs ws : List Nat) : hasN x i q gs ws (gs ++ ws).length = (hasB x i gs && hasB x q ws) := by
 unfold hasN
 rw [List.length_append, List.take_of_length_le (by omega), List.take_of_length_le (by omega)]
theorem hasN_give {x : Wd} {i q : Nat} {gs ws : List Nat} {m : Nat} (h : m < gs.length) : hasN x i q gs ws (m + 1) = (hasN x i q gs ws m && decide (plOf x.wher gs[m] = ⟨1, (i : Int)⟩)) := by
 unfold hasN
 rw [show m + 1 - gs.length = 0 by omega, show m - gs.length = 0 by omega, List.take_zero, List.take_succ_eq_append_getElem h]
 simp only [hasB, List.all_append, List.all_cons, List.all_nil, Bool.and_true]
theorem hasN_want {x : Wd} {i q : Nat} {gs ws : List Nat} {m : Nat} (h : gs.length ≤ m) (h2 : m - gs.length < ws.length) : hasN x i q gs ws (m + 1) = (hasN x i q gs ws m && decide (plOf x.wher ws[m - gs.length] = ⟨1, (q : Int)⟩)) := by
 unfold hasN
 rw [show m + 1 - gs.length = (m - gs.length) + 1 by omega, List.take_succ_eq_append_getElem h2, List.take_of_length_le (by omega : gs.length ≤ m + 1), List.take_of_length_le h]
 simp only [hasB, List.all_append, List.all_cons, List.all_nil, Bool.and_true, Bool.and_assoc]
/-- Who isn't where he should be isn't in the end, either. -/
theorem hasN_false {x : Wd} {i q : Nat} {gs ws : List Nat} {m : Nat} (h : hasN x i q gs ws m = false) : hasB x i gs = false ∨ hasB x q ws = false := by
 unfold hasN at h
 rw [Bool.and_eq_false_iff] at h
 have sub : ∀ (p : Nat) (l : List Nat) (n : Nat), hasB x p (l.take n) = false → hasB x p l = false := fun p l n h => by
  rw [Bool.eq_false_iff] at h ⊢
  intro h2
  apply h
  unfold hasB at h2 ⊢
  rw [List.all_eq_true] at h2 ⊢
  exact fun k hk => h2 k (List.mem_of_mem_take hk)
 exact h.imp (sub _ _ _) (sub _ _ _)
/-- Twice. -/
theorem nodup_more {l : List Nat} {m : Nat} (h : m < l.length) : (l.take (m + 1)).Nodup ↔ (l.take m).Nodup ∧ ∀ (k : Nat) (hk : k < l.length), k < m → ¬ l[m] = l[k] := by
 rw [List.take_succ_eq_append_getElem h, List.nodup_append]
 constructor
 ·rintro ⟨h1, _, h3⟩
  refine ⟨h1, fun k hk hkm e => ?_⟩
  exact h3 l[k] (List.mem_take_iff_getElem.2 ⟨k, by omega, rfl⟩) l[m] (by simp) e.symm
 ·rintro ⟨h1, h2⟩
  refine ⟨h1, by simp, fun a ha b hb e => ?_⟩
  obtain ⟨k, hk, rfl⟩ := List.mem_take_iff_getElem.1 ha
  rw [List.mem_singleton] at hb
  subst hb
  exact h2 k (by omega) (by omega) e.symm
theorem nodup_not {l : List Nat} {m k : Nat} (hm : m < l.length) (hk : k < m) (e : l[m] = l[k]'(by omega)) : ¬ l.Nodup := fun h => by
 have h2 : (l.take (m + 1)).Nodup := h.sublist (List.take_sublist _ _)
 exact ((nodup_more hm).1 h2).2 k (by omega) hk e
/-- What comes of a trade. -/
theorem trade_cases (x : Wd) (i : Nat) (q : Int) (gl wl : List Int) (pay fee : Int) :
 ((inB q x.at_.length = false ∨ (gl ++ wl).all (fun k => inB k x.wher.length) = false) ∧ tradeW x i q gl wl pay fee = (x, 3)) ∨
 ∃ (k : Nat) (gs ws : List Nat), q = k ∧ gl = gs.map (fun (k : Nat) => (k : Int)) ∧ wl = ws.map (fun (k : Nat) => (k : Int)) ∧ k < x.at_.length ∧ (∀ n ∈ gs, n < x.wher.length) ∧ (∀ n ∈ ws, n < x.wher.length) ∧
   ((k = i ∧ tradeW x i q gl wl pay fee = (x, 12)) ∨
    (¬ k = i ∧
     ((¬ roomOf x i = roomOf x k ∧ tradeW x i q gl wl pay fee = (x, 5)) ∨
      (roomOf x i = roomOf x k ∧
       ((¬ (gs ++ ws).Nodup ∧ tradeW x i q gl wl pay fee = (x, 13)) ∨
        ((gs ++ ws).Nodup ∧
         (((hasB x i gs && hasB x k ws) = false ∧ tradeW x i q gl wl pay fee = (x, 5)) ∨
          ((hasB x i gs && hasB x k ws) = true ∧
           (((roomI (trN x i k gs ws) ⟨1, (i : Int)⟩ < 0 ∨ roomI (trN x i k gs ws) ⟨1, (k : Int)⟩ < 0) ∧ tradeW x i q gl wl pay fee = (x, 9)) ∨
            (¬ (roomI (trN x i k gs ws) ⟨1, (i : Int)⟩ < 0 ∨ roomI (trN x i k gs ws) ⟨1, (k : Int)⟩ < 0) ∧
             ((¬ swapE (coinOf x i) (coinOf x k) pay fee = 0 ∧ tradeW x i q gl wl pay fee = (x, swapE (coinOf x i) (coinOf x k) pay fee)) ∨
              (swapE (coinOf x i) (coinOf x k) pay fee = 0 ∧ tradeW x i q gl wl pay fee = (trW x i k gs ws (coinOf x i - pay + fee) (coinOf x k - fee + pay), 0))))))))))))) := by
 by_cases h1 : inB q x.at_.length = false
 ·exact .inl ⟨.inl h1, by unfold tradeW; rw [if_pos h1]⟩
 by_cases h2 : (gl ++ wl).all (fun k => inB k x.wher.length) = false
 ·exact .inl ⟨.inr h2, by unfold tradeW; rw [if_neg h1, if_pos h2]⟩
 right
 have h2' := h2
 rw [Bool.not_eq_false, List.all_append, Bool.and_eq_true] at h2'
 obtain ⟨gs, rfl, hg⟩ := nats_of h2'.1
 obtain ⟨ws, rfl, hw⟩ := nats_of h2'.2
 have h1' := h1
 rw [Bool.not_eq_false, inB_iff] at h1'
 obtain ⟨k, rfl⟩ : ∃ k : Nat, q = k := ⟨q.toNat, by omega⟩
 refine ⟨k, gs, ws, rfl, rfl, rfl, by omega, hg, hw, ?_⟩
 unfold tradeW
 rw [if_neg h1, if_neg h2]
 simp only [Int.toNat_natCast, toNats, Int.ofNat_inj]
 by_cases h3 : k = i
 ·exact .inl ⟨h3, by rw [if_pos h3]⟩
 refine .inr ⟨h3, ?_⟩
 rw [if_neg h3]
 by_cases h4 : roomOf x i = roomOf x k
 ·refine .inr ⟨h4, ?_⟩
  rw [if_neg (fun h => h h4)]
  rw [← List.map_append]
  simp only [nodup_nats]
  by_cases h5 : (gs ++ ws).Nodup
  ·refine .inr ⟨h5, ?_⟩
   rw [if_neg (fun h => h h5)]
   by_cases h6 : hasB x i gs = false ∨ hasB x k ws = false
   ·exact .inl ⟨by rw [Bool.and_eq_false_iff]; exact h6, by rw [if_pos h6]⟩
   ·refine .inr ⟨by simpa [not_or] using h6, ?_⟩
    rw [if_neg h6]
    by_cases h7 : roomI (trN x i k gs ws) ⟨1, (i : Int)⟩ < 0 ∨ roomI (trN x i k gs ws) ⟨1, (k : Int)⟩ < 0
    ·exact .inl ⟨h7, by rw [if_pos h7]⟩
    ·refine .inr ⟨h7, ?_⟩
     rw [if_neg h7]
     by_cases h8 : swapE (coinOf x i) (coinOf x k) pay fee = 0
     ·refine .inr ⟨h8, ?_⟩
      rw [if_neg (fun h => h h8)]
      unfold swapA swapB
      rw [if_pos h8, if_pos h8]
     ·exact .inl ⟨h8, by rw [if_pos h8]⟩
  ·exact .inl ⟨h5, by rw [if_pos h5]⟩
 ·exact .inl ⟨h4, by rw [if_pos h4]⟩
theorem trade_shape (x : Wd) (i : Nat) (q : Int) (gl wl : List Int) (pay fee : Int) : Shape x (tradeW x i q gl wl pay fee).1 := by
 unfold tradeW
 repeat' split
 all_goals first | exact Shape.refl x | exact trW_shape _ _ _ _ _ _ _
/-- What comes of giving. -/
theorem give_cases (x : Wd) (i : Nat) (item q : Int) :
 ((inB item x.wher.length = false ∨ inB q x.at_.length = false) ∧ giveW x i item q = (x, 3)) ∨
 ∃ k c : Nat, item = k ∧ q = c ∧ k < x.wher.length ∧ c < x.at_.length ∧
   ((c = i ∧ giveW x i item q = (x, 12)) ∨
    (¬ c = i ∧
     (((¬ roomOf x i = roomOf x c ∨ ¬ plOf x.wher k = ⟨1, (i : Int)⟩) ∧ giveW x i item q = (x, 5)) ∨
      ((roomOf x i = roomOf x c ∧ plOf x.wher k = ⟨1, (i : Int)⟩) ∧
       ((roomI x ⟨1, (c : Int)⟩ = 0 ∧ giveW x i item q = (x, 9)) ∨ (¬ roomI x ⟨1, (c : Int)⟩ = 0 ∧ giveW x i item q = (putW x k ⟨1, (c : Int)⟩, 0))))))) := by
 unfold giveW
 by_cases h1 : inB item x.wher.length = false ∨ inB q x.at_.length = false
 ·exact .inl ⟨h1, by rw [if_pos h1]⟩
 right
 rw [if_neg h1]
 simp only [not_or, Bool.not_eq_false, inB_iff] at h1
 refine ⟨item.toNat, q.toNat, by omega, by omega, by omega, by omega, ?_⟩
 by_cases h2 : q = i
 ·exact .inl ⟨by omega, by rw [if_pos h2]⟩
 refine .inr ⟨by omega, ?_⟩
 rw [if_neg h2]
 by_cases h3 : ¬ roomOf x i = roomOf x q.toNat ∨ ¬ plOf x.wher item.toNat = ⟨1, (i : Int)⟩
 ·exact .inl ⟨h3, by rw [if_pos h3]⟩
 refine .inr ⟨by simpa [not_or] using h3, ?_⟩
 rw [if_neg h3]
 by_cases h4 : roomI x ⟨1, (q.toNat : Int)⟩ = 0
 ·exact .inl ⟨h4, by rw [if_pos h4]⟩
 ·exact .inr ⟨h4, by rw [if_neg h4]⟩
theorem give_shape (x : Wd) (i : Nat) (item q : Int) : Shape x (giveW x i item q).1 := by
 unfold giveW
 repeat' split
 all_goals first | exact Shape.refl x | exact putW_shape _ _ _
/-- A trade of nothing for nothing. -/
theorem trade_none {x : Wd} (hx : rightW x = true) {i k : Nat} (hi : i < x.at_.length) (hk : k < x.at_.length) :
 (tradeW x i k [] [] 0 0).1 = x ∧ ((tradeW x i k [] [] 0 0).2 = 0 ↔ ¬ i = k ∧ roomOf x i = roomOf x k) := by
 have hl := right_lens hx
 have hin := right_in hx
 have li : i < x.coins.length := by rw [hl.2.2.1]; exact hi
 have lq : k < x.coins.length := by rw [hl.2.2.1]; exact hk
 have hci : coinOf x i = x.coins[i] := by simp [coinOf, List.getD, List.getElem?_eq_getElem li]
 have hcq : coinOf x k = x.coins[k] := by simp [coinOf, List.getD, List.getElem?_eq_getElem lq]
 have bi := hin.2.1 _ (List.getElem_mem li)
 have bq := hin.2.1 _ (List.getElem_mem lq)
 have hz : swapE (coinOf x i) (coinOf x k) 0 0 = 0 := swap_zero.2 (by omega)
 have n1 := room_nn hx (f := ⟨1, (i : Int)⟩) (by simp)
 have n2 := room_nn hx (f := ⟨1, (k : Int)⟩) (by simp)
 have eW : trW x i k [] [] (coinOf x i - 0 + 0) (coinOf x k - 0 + 0) = x := by
  show Wd.mk x.d x.at_ ((x.coins.set i _).set k _) x.wher = x
  rw [show coinOf x i - 0 + 0 = x.coins[i] by omega, show coinOf x k - 0 + 0 = x.coins[k] by omega, List.set_getElem_self, List.set_getElem_self]
 rcases trade_cases x i (k : Int) [] [] 0 0 with ⟨h1, e⟩ | ⟨k', gs, ws, h1, h2, h3, -, -, -, hr⟩
 ·exfalso
  rcases h1 with h1 | h1
  ·simp [inB, hk] at h1
  ·simp at h1
 obtain rfl : k = k' := by omega
 obtain rfl : gs = [] := by simpa using h2.symm
 obtain rfl : ws = [] := by simpa using h3.symm
 have hN : trN x i k [] [] = x := rfl
 rw [hN] at hr
 rcases hr with ⟨h, e⟩ | ⟨h, ⟨h4, e⟩ | ⟨h4, ⟨h5, e⟩ | ⟨h5, ⟨h6, e⟩ | ⟨h6, ⟨h7, e⟩ | ⟨h7, ⟨h8, e⟩ | ⟨h8, e⟩⟩⟩⟩⟩⟩
 ·rw [e]; exact ⟨rfl, by simp; omega⟩
 ·rw [e]; exact ⟨rfl, by simp; intro _; exact h4⟩
 ·exact absurd (by simp) h5
 ·simp [hasB] at h6
 ·omega
 ·exact absurd hz h8
 ·rw [e]; exact ⟨eW, by simp; exact ⟨fun h9 => h h9.symm, h4⟩⟩
/-- Coins alone. -/
theorem trade_pay {x : Wd} (hx : rightW x = true) {i k : Nat} (hi : i < x.at_.length) (hk : k < x.at_.length) (hne : ¬ i = k) (hr : roomOf x i = roomOf x k) (pay : Int) (hp : 0 ≤ pay) :
 tradeW x i k [] [] pay 0 = if coinOf x i < pay then (x, 10) else if 1073741824 < coinOf x k + pay then (x, 11) else (trW x i k [] [] (coinOf x i - pay) (coinOf x k + pay), 0) := by
 have hl := right_lens hx
 have hin := right_in hx
 have li : i < x.coins.length := by rw [hl.2.2.1]; exact hi
 have lq : k < x.coins.length := by rw [hl.2.2.1]; exact hk
 have hci : coinOf x i = x.coins[i] := by simp [coinOf, List.getD, List.getElem?_eq_getElem li]
 have hcq : coinOf x k = x.coins[k] := by simp [coinOf, List.getD, List.getElem?_eq_getElem lq]
 have bi := hin.2.1 _ (List.getElem_mem li)
 have bq := hin.2.1 _ (List.getElem_mem lq)
 rw [← hci] at bi
 rw [← hcq] at bq
 have n1 := room_nn hx (f := ⟨1, (i : Int)⟩) (by simp)
 have n2 := room_nn hx (f := ⟨1, (k : Int)⟩) (by simp)
 have hE : swapE (coinOf x i) (coinOf x k) pay 0 = if coinOf x i < pay then 10 else if 1073741824 < coinOf x k + pay then 11 else 0 := by
  unfold swapE
  rw [if_neg (by omega)]
  by_cases h1 : coinOf x i < pay
  ·rw [if_pos (.inl h1), if_pos h1]
  ·rw [if_neg (by omega), if_neg h1]
   by_cases h2 : 1073741824 < coinOf x k + pay
   ·rw [if_neg (by omega), if_pos h2]
   ·rw [if_pos (by omega), if_neg h2]
 rcases trade_cases x i (k : Int) [] [] pay 0 with ⟨h1, e⟩ | ⟨k', gs, ws, h1, h2, h3, -, -, -, hq⟩
 ·exfalso
  rcases h1 with h1 | h1
  ·simp [inB, hk] at h1
  ·simp at h1
 obtain rfl : k = k' := by omega
 obtain rfl : gs = [] := by simpa using h2.symm
 obtain rfl : ws = [] := by simpa using h3.symm
 have hN : trN x i k [] [] = x := rfl
 rw [hN, hE] at hq
 rcases hq with ⟨h, e⟩ | ⟨h, ⟨h4, e⟩ | ⟨h4, ⟨h5, e⟩ | ⟨h5, ⟨h6, e⟩ | ⟨h6, ⟨h7, e⟩ | ⟨h7, ⟨h8, e⟩ | ⟨h8, e⟩⟩⟩⟩⟩⟩
 ·exact absurd h.symm hne
 ·exact absurd hr h4
 ·exact absurd (by simp) h5
 ·simp [hasB] at h6
 ·omega
 ·rw [e]
  by_cases g1 : coinOf x i < pay
  ·rw [if_pos g1, if_pos g1]
  ·rw [if_neg g1, if_neg g1] at *
   by_cases g2 : 1073741824 < coinOf x k + pay
   ·rw [if_pos g2, if_pos g2]
   ·rw [if_neg g2] at h8; exact absurd rfl h8
 ·rw [e]
  by_cases g1 : coinOf x i < pay
  ·rw [if_pos g1] at h8; exact absurd h8 (by decide)
  ·rw [if_neg g1] at h8 ⊢
   by_cases g2 : 1073741824 < coinOf x k + pay
   ·rw [if_pos g2] at h8; exact absurd h8 (by decide)
   ·rw [if_neg g2, show coinOf x k - 0 + pay = coinOf x k + pay by omega, show coinOf x i - pay + 0 = coinOf x i - pay by omega]
end
section
theorem trn_rooms {x : Wd} {i q : Nat} {gs ws : List Nat} (hne : ¬ q = i) (hg : ∀ k ∈ gs, k < x.wher.length ∧ plOf x.wher k = ⟨1, (i : Int)⟩) (hw : ∀ k ∈ ws, k < x.wher.length ∧ plOf x.wher k = ⟨1, (q : Int)⟩) (hnd : (gs ++ ws).Nodup) :
 roomI (trN x i q gs ws) ⟨1, (i : Int)⟩ = roomI x ⟨1, (i : Int)⟩ - ((ws.length : Int) - gs.length) ∧ roomI (trN x i q gs ws) ⟨1, (q : Int)⟩ = roomI x ⟨1, (q : Int)⟩ + ((ws.length : Int) - gs.length) := by
 rw [List.nodup_append] at hnd
 have n1 : ¬ (⟨1, (i : Int)⟩ : Pl) = ⟨1, (q : Int)⟩ := by simp only [Pl.mk.injEq, true_and]; omega
 have n2 : ¬ (⟨1, (q : Int)⟩ : Pl) = ⟨1, (i : Int)⟩ := fun e => n1 e.symm
 obtain ⟨a1, a2⟩ := setL_counts n1 gs x.wher hnd.1 hg
 obtain ⟨b1, b2⟩ := setL_counts n2 ws (setL x.wher gs ⟨1, (q : Int)⟩) hnd.2.1 (fun k hk => by
  refine ⟨by simpa using (hw k hk).1, ?_⟩
  rw [setL_at _ _ _ k (hw k hk).1]
  split
  ·rfl
  ·exact (hw k hk).2)
 unfold roomI
 show (capOf x.d 1 - (((trP x.wher i q gs ws).count ⟨1, (i : Int)⟩ : Nat) : Int)) = _ ∧ (capOf x.d 1 - (((trP x.wher i q gs ws).count ⟨1, (q : Int)⟩ : Nat) : Int)) = _
 unfold trP
 show _ = capOf x.d 1 - _ - _ ∧ _ = capOf x.d 1 - _ + _
 omega
/-- What is wrong with those who trade. -/
def partE (x : Wd) (i : Nat) (q : Int) (gl wl : List Int) : Int :=
 if inB q x.at_.length = false ∨ (gl ++ wl).all (fun k => inB k x.wher.length) = false then 3 else if q = i then 12 else if roomOf x i = roomOf x q.toNat then 0 else 5
/-- What is wrong with the items. -/
def wareE (x : Wd) (i q : Nat) (gs ws : List Nat) : Int :=
 if ¬ (gs ++ ws).Nodup then 13 else if (hasB x i gs && hasB x q ws) = false then 5 else if roomI x ⟨1, (i : Int)⟩ < (ws.length : Int) - gs.length ∨ roomI x ⟨1, (q : Int)⟩ < -((ws.length : Int) - gs.length) then 9 else 0
/-- A trade as the code asks for it. -/
theorem trade_by (x : Wd) (i : Nat) (q : Int) (gl wl : List Int) (pay fee : Int) :
 (¬ partE x i q gl wl = 0 ∧ tradeW x i q gl wl pay fee = (x, partE x i q gl wl)) ∨
 ∃ (k : Nat) (gs ws : List Nat), q = k ∧ gl = gs.map (fun (k : Nat) => (k : Int)) ∧ wl = ws.map (fun (k : Nat) => (k : Int)) ∧ k < x.at_.length ∧ (∀ n ∈ gs, n < x.wher.length) ∧ (∀ n ∈ ws, n < x.wher.length) ∧ ¬ k = i ∧ partE x i q gl wl = 0 ∧
   ((¬ wareE x i k gs ws = 0 ∧ tradeW x i q gl wl pay fee = (x, wareE x i k gs ws)) ∨
    (wareE x i k gs ws = 0 ∧
     ((¬ swapE (coinOf x i) (coinOf x k) pay fee = 0 ∧ tradeW x i q gl wl pay fee = (x, swapE (coinOf x i) (coinOf x k) pay fee)) ∨
      (swapE (coinOf x i) (coinOf x k) pay fee = 0 ∧ tradeW x i q gl wl pay fee = (trW x i k gs ws (coinOf x i - pay + fee) (coinOf x k - fee + pay), 0))))) := by
 rcases trade_cases x i q gl wl pay fee with ⟨h1, e⟩ | ⟨k, gs, ws, rfl, rfl, rfl, hk, hg, hw, hr⟩
 ·left
  have : partE x i q gl wl = 3 := by unfold partE; rw [if_pos h1]
  rw [this, e]
  exact ⟨by decide, rfl⟩
 have h3 : ¬ (inB (k : Int) x.at_.length = false ∨ ((gs.map fun (k : Nat) => (k : Int)) ++ ws.map fun (k : Nat) => (k : Int)).all (fun k => inB k x.wher.length) = false) := by
  rw [← List.map_append]
  simp only [not_or, Bool.not_eq_false, List.all_map, List.all_eq_true, Function.comp_apply, inB_iff]
  refine ⟨by omega, fun n hn => ?_⟩
  rcases List.mem_append.1 hn with hn | hn
  ·have := hg n hn; omega
  ·have := hw n hn; omega
 rcases hr with ⟨h, e⟩ | ⟨h, hr⟩
 ·left
  have : partE x i k (gs.map fun (k : Nat) => (k : Int)) (ws.map fun (k : Nat) => (k : Int)) = 12 := by unfold partE; rw [if_neg h3, if_pos (by omega)]
  rw [this, e]
  exact ⟨by decide, rfl⟩
 rcases hr with ⟨h4, e⟩ | ⟨h4, hr⟩
 ·left
  have : partE x i k (gs.map fun (k : Nat) => (k : Int)) (ws.map fun (k : Nat) => (k : Int)) = 5 := by unfold partE; rw [if_neg h3, if_neg (by omega), if_neg (by simpa using h4)]
  rw [this, e]
  exact ⟨by decide, rfl⟩
 right
 refine ⟨k, gs, ws, rfl, rfl, rfl, hk, hg, hw, h, by unfold partE; rw [if_neg h3, if_neg (by omega), if_pos (by simpa using h4)], ?_⟩
 rcases hr with ⟨h5, e⟩ | ⟨h5, hr⟩
 ·left
  have : wareE x i k gs ws = 13 := by unfold wareE; rw [if_pos h5]
  rw [this, e]
  exact ⟨by decide, rfl⟩
 rcases hr with ⟨h6, e⟩ | ⟨h6, hr⟩
 ·left
  have : wareE x i k gs ws = 5 := by unfold wareE; rw [if_neg (fun h => h h5), if_pos h6]
  rw [this, e]
  exact ⟨by decide, rfl⟩
 have h6' := h6
 rw [Bool.and_eq_true] at h6'
 simp only [hasB, List.all_eq_true, decide_eq_true_eq] at h6'
 obtain ⟨r1, r2⟩ := trn_rooms h (fun n hn => ⟨hg n hn, h6'.1 n hn⟩) (fun n hn => ⟨hw n hn, h6'.2 n hn⟩) h5
 rw [r1, r2] at hr
 have h6n : ¬ (hasB x i gs && hasB x k ws) = false := by rw [h6]; decide
 rcases hr with ⟨h7, e⟩ | ⟨h7, hr⟩
 ·left
  have : wareE x i k gs ws = 9 := by unfold wareE; rw [if_neg (fun h => h h5), if_neg h6n, if_pos (by omega)]
  rw [this, e]
  exact ⟨by decide, rfl⟩
 right
 exact ⟨by unfold wareE; rw [if_neg (fun h => h h5), if_neg h6n, if_neg (by omega)], hr⟩
end
end Go.Proofs.YtgmkcddgkgcbbaaGreat
