/- Contracts over a value whose lists are as long as another world's. -/
import Derived.Test.YtgmkcddgkgcbbaaGreatGNew
import Derived.Test.YtgmkcddgkgcbbaaGreatRefRight
namespace Go.Proofs.YtgmkcddgkgcbbaaGreat
open Go.ChangeShapes Go.WideShapes Go.ChangeAt Go.RowKit
set_option linter.unusedVariables false
section
/-- Two worlds whose lists are as long as one another, and whose caps are the same: one value tells either. -/
structure Shape (x y : Wd) : Prop where
 ex : y.d.exits.length = x.d.exits.length
 pl : y.d.players.length = x.d.players.length
 co : y.d.coins.length = x.d.coins.length
 it : y.d.items.length = x.d.items.length
 bo : y.d.boxes.length = x.d.boxes.length
 r : y.d.room = x.d.room
 p : y.d.player = x.d.player
 b : y.d.box = x.d.box
 at_ : y.at_.length = x.at_.length
 c : y.coins.length = x.coins.length
 w : y.wher.length = x.wher.length
theorem Shape.refl (x : Wd) : Shape x x := ⟨rfl, rfl, rfl, rfl, rfl, rfl, rfl, rfl, rfl, rfl, rfl⟩
theorem Shape.val {x y : Wd} (h : Shape x y) (p : Wp) : (.agg (wC y p) : Value) = .agg (wC x p) := by
 try simp only [wC]
 rw [h.ex, h.pl, h.co, h.it, h.bo, h.r, h.p, h.b, h.at_, h.c, h.w]
theorem copy_as {x y : Wd} (hs : Shape x y) (p : Wp) (w : World) (h : WorldAt w p y) (hf : FewW y) :
 Calls Tryz.prog 111 #[.agg (wC x p)] w fun e w' => ∃ p' : Wp, e = .returned (.agg (wC x p')) ∧ WorldOwn w.heap.size w' p' y ∧ Below w.heap.size w w' := by
 have := copy_any y p w h hf
 rw [hs.val] at this
 refine this.mono fun e w' ⟨p', he, h1, h2⟩ => ⟨p', by rw [← hs.val]; exact he, h1, h2⟩
/-- What a right world's lists are. -/
theorem right_lens {x : Wd} (h : rightW x = true) : 0 < x.at_.length ∧ x.at_.length ≤ 6 ∧ x.coins.length = x.at_.length ∧ x.wher.length ≤ 16 ∧ x.d.items.length = x.wher.length ∧ mayD x.d = true := by
 simp only [rightW, Bool.and_eq_true] at h
 have hf := may_few h.1
 have h1 := h.2.1
 have h2 := h.2.2.1
 simp only [playersB, placesB, Bool.and_eq_true, decide_eq_true_eq] at h1 h2
 exact ⟨by omega, by omega, by omega, by omega, by omega, h.1⟩
/-- .. and what they hold. -/
theorem right_in {x : Wd} (h : rightW x = true) : (∀ n ∈ x.at_, 0 ≤ n ∧ n < x.d.exits.length) ∧ (∀ n ∈ x.coins, 0 ≤ n ∧ n ≤ 1073741824) ∧ ∀ p ∈ x.wher, placeB x.d p = true := by
 simp only [rightW, playersB, placesB, Bool.and_eq_true, decide_eq_true_eq, List.all_eq_true] at h
 exact ⟨(ofB_iff _ _).1 h.2.1.2.2.1, (pursesB_iff _).1 h.2.1.2.2.2, h.2.2.1.2⟩
theorem below_call {B : Nat} {V c c1 : World} (h : Below B V c) (hs : B ≤ c.heap.size) (hb : Below c.heap.size c c1) : Below B V c1 := h.trans (hb.mono hs)
theorem set_ne {xs : List Int} {k : Nat} {v : Int} (hk : k < xs.length) (h : v ≠ xs[k]) : ¬ xs.set k v = xs := by
 intro e
 have h2 : (xs.set k v)[k]? = xs[k]? := by rw [e]
 rw [List.getElem?_set_self hk, List.getElem?_eq_getElem hk] at h2
 exact h (Option.some.inj h2)
theorem setp_ne {xs : List Pl} {k : Nat} (hk : k < xs.length) : ¬ xs.set k ⟨xs[k].kind, xs[k].id + 1⟩ = xs := by
 intro e
 have h2 : (xs.set k ⟨xs[k].kind, xs[k].id + 1⟩)[k]? = xs[k]? := by rw [e]
 rw [List.getElem?_set_self hk, List.getElem?_eq_getElem hk] at h2
 have h3 := congrArg Pl.id (Option.some.inj h2)
 simp only at h3
 omega
theorem worldAt_drew {W : World} {q : Wp} {x : Wd} {b i : Nat} {u : Value} (h : WorldAt (W.setCell ⟨b, i, none⟩ u) q x) : WorldAt (W.drew.setCell ⟨b, i, none⟩ u) q x := ⟨⟨h.d.ex, h.d.pl, h.d.co, h.d.it, h.d.bo⟩, h.at_, h.co, h.wh⟩
end
section
def exitN (e : Ex) : Nat → Int
 | 0 => e.n
 | 1 => e.e
 | 2 => e.s
 | _ => e.w
/-- Where a room's exit leads. -/
def toW (x : Wd) (r d : Nat) : Int := exitN (x.d.exits.getD r ⟨0, 0, 0, 0⟩) d
/-- The room where a player is. -/
def roomOf (x : Wd) (i : Nat) : Nat := (x.at_.getD i 0).toNat
def goW (x : Wd) (i : Nat) (t : Int) : Wd := ⟨x.d, x.at_.set i t, x.coins, x.wher⟩
/-- Who goes by a way: the world, the room, the error. -/
def moveW (x : Wd) (i d : Nat) : Wd × Int × Int := if toW x (roomOf x i) d = -1 then (x, 0, 4) else (goW x i (toW x (roomOf x i) d), toW x (roomOf x i) d, 0)
/-- Who is pushed. -/
def pushW (x : Wd) (i : Nat) (q : Int) (d : Nat) : Wd × Int × Int :=
 if inB q x.at_.length = false then (x, 0, 3) else if q = i then (x, 0, 12) else if ¬ roomOf x i = roomOf x q.toNat then (x, 0, 5) else moveW x q.toNat d
theorem exC_at (e : Ex) {d : Nat} (hd : d < 4) : (exC e)[d]? = some (.int .i64 (exitN e d)) := by
 obtain rfl | rfl | rfl | rfl : d = 0 ∨ d = 1 ∨ d = 2 ∨ d = 3 := by omega
 all_goals rfl
theorem exits_to {x : Wd} {r : Nat} (hr : r < x.d.exits.length) (d : Nat) : exitN x.d.exits[r] d = toW x r d := by
 simp [toW, List.getD, List.getElem?_eq_getElem hr]
theorem toW_in {x : Wd} (h : rightW x = true) {r d : Nat} (hr : r < x.d.exits.length) (hd : d < 4) : toW x r d = -1 ∨ (0 ≤ toW x r d ∧ toW x r d < x.d.exits.length) := by
 have hm := (right_lens h).2.2.2.2.2
 simp only [mayD, roomsB, Bool.and_eq_true, List.all_eq_true] at hm
 have he := hm.1.2.2 _ (List.getElem_mem hr)
 simp only [exB, Bool.and_eq_true, toB_iff] at he
 rw [← exits_to hr]
 obtain rfl | rfl | rfl | rfl : d = 0 ∨ d = 1 ∨ d = 2 ∨ d = 3 := by omega
 ·exact he.1
 ·exact he.2.1
 ·exact he.2.2.1
 ·exact he.2.2.2
theorem room_at {x : Wd} (h : rightW x = true) {i : Nat} (hi : i < x.at_.length) : x.at_[i] = ((roomOf x i : Nat) : Int) ∧ roomOf x i < x.d.exits.length := by
 have h1 := (right_in h).1 _ (List.getElem_mem hi)
 have e : x.at_.getD i 0 = x.at_[i] := by simp [List.getD, List.getElem?_eq_getElem hi]
 unfold roomOf
 rw [e]
 exact ⟨by omega, by omega⟩
theorem goW_right {x : Wd} (h : rightW x = true) {i : Nat} {t : Int} (ht : 0 ≤ t ∧ t < x.d.exits.length) : rightW (goW x i t) = true := by
 have h0 := (right_in h).1
 have h1 := h
 simp only [rightW, playersB, Bool.and_eq_true, decide_eq_true_eq] at h1 ⊢
 refine ⟨h1.1, ⟨by simpa [goW] using h1.2.1.1, h1.2.1.2.1, ?_, h1.2.1.2.2.2⟩, h1.2.2⟩
 rw [ofB_iff]
 intro n hn
 rcases List.mem_or_eq_of_mem_set hn with hn | rfl
 ·exact h0 n hn
 ·exact ht
theorem move_right {x : Wd} (h : rightW x = true) {i d : Nat} (hi : i < x.at_.length) (hd : d < 4) : rightW (moveW x i d).1 = true := by
 unfold moveW
 split
 ·exact h
 ·exact goW_right h ((toW_in h (room_at h hi).2 hd).resolve_left (by assumption))
theorem move_shape (x : Wd) (i d : Nat) : Shape x (moveW x i d).1 := by
 unfold moveW
 split
 ·exact Shape.refl x
 ·exact ⟨rfl, rfl, rfl, rfl, rfl, rfl, rfl, rfl, by simp [goW], rfl, rfl⟩
theorem goW_shape (x : Wd) (i : Nat) (t : Int) : Shape x (goW x i t) := ⟨rfl, rfl, rfl, rfl, rfl, rfl, rfl, rfl, by simp [goW], rfl, rfl⟩
theorem push_shape (x : Wd) (i : Nat) (q : Int) (d : Nat) : Shape x (pushW x i q d).1 := by
 unfold pushW
 split
 ·exact Shape.refl x
 ·split
  ·exact Shape.refl x
  ·split
   ·exact Shape.refl x
   ·exact move_shape _ _ _
end
section
def isPl (x : Wd) (y : Pl) : Bool := decide (0 ≤ y.id) && ((decide (y.kind = 0) && decide (y.id < x.d.exits.length)) || ((decide (y.kind = 1) && decide (y.id < x.at_.length)) || (decide (y.kind = 2) && decide (y.id < x.wher.length))))
def fitsB (x : Wd) : Bool := fewB x && rightW x
end
section
open Go.RowKit Go.Deep Go.Joins
set_option maxRecDepth 100000 in
theorem read_place {H : Type} {enc : TypeId × Value → H} {W : World} {base : Nat} {v : Value} {d : DataW H} {ps : List MemPlace}
 (hv : Value.okWide Tryz.prog W .any base 73 v) (h : DataW.Trod enc Tryz.prog W 0 (fun _ => true) true 73 v d ps) : ∃ y : Pl, v = .agg #[.int .i64 y.kind, .int .i64 y.id] := by
 obtain ⟨cs, rfl, _⟩ := okWide_struct Tryz.underlying73 hv
 obtain ⟨fuel, hf⟩ := h
 obtain ⟨y, he⟩ := trod_pl Tryz.underlying73 Tryz.underlying3 (by kernel_rfl) ⟨rfl, rfl⟩ ⟨rfl, rfl⟩ (by kernel_rfl) (show DataW.trod enc Tryz.prog W 0 (fun _ => true) true fuel 73 cs.toList = some _ from hf)
 exact ⟨y, by rw [← Array.toArray_toList (xs := cs), he]; rfl⟩
theorem right_tr {x : Wd} (h2 : rightW x = true) : Tr x.wher := by
 have hl := right_lens h2
 have hin := right_in h2
 have hp := h2
 simp only [rightW, placesB, nestB, mayD, mayItB, capsB, Bool.and_eq_true, decide_eq_true_eq, List.all_eq_true] at hp
 refine ⟨fun p hpm hk => ?_, fun p hpm => ?_⟩
 ·have h3 := hin.2.2 p hpm
  simp only [placeB, hk] at h3
  simp [inB] at h3
  omega
 ·exact hp.2.2.2.1 p hpm
/-- What a world that fits is. -/
structure Fit (x : Wd) : Prop where
 few : fewB x = true
 right : rightW x = true
 tr : Tr x.wher
 len : x.wher.length ≤ 16
 caps : ∀ q : Nat, q < 3 → 0 ≤ capOf x.d q ∧ capOf x.d q ≤ 64
theorem fits_fit {x : Wd} (h : fitsB x = true) : Fit x := by
 simp only [fitsB, Bool.and_eq_true] at h
 obtain ⟨h1, h2⟩ := h
 have hl := right_lens h2
 have hp := h2
 simp only [rightW, placesB, nestB, mayD, mayItB, capsB, Bool.and_eq_true, decide_eq_true_eq, List.all_eq_true] at hp
 refine ⟨h1, h2, right_tr h2, hl.2.2.2.1, fun q hq => ?_⟩
 ·have hc := hp.1.2.2.1
  have c0 := hc x.d.room (by simp)
  have c1 := hc x.d.player (by simp)
  have c2 := hc x.d.box (by simp)
  simp only [capB, Bool.and_eq_true, decide_eq_true_eq] at c0 c1 c2
  obtain rfl | rfl | rfl : q = 0 ∨ q = 1 ∨ q = 2 := by omega
  ·simpa [capOf] using c0
  ·simpa [capOf] using c1
  ·simpa [capOf] using c2
theorem run_mod7 (m : Nat) (n : Nat) : (m : Int) % (n : Int) = ((m % n : Nat) : Int) := by omega
theorem run_tmod7 (m : Nat) (n : Nat) : (m : Int).tmod (n : Int) = ((m % n : Nat) : Int) := by rfl
theorem run_pls7 (k i : Int) (W : World) : (binOp .eql 73 (.agg #[.int .i64 k, .int .i64 i]) (.agg #[.int .i64 k, .int .i64 i])).run Tryz.prog W = .ok (.bool true) W := by
 have := run_pleq k i k i W
 simpa using this
end
section
/-- The world in which an item lies elsewhere. -/
def putW (x : Wd) (k : Nat) (f : Pl) : Wd := ⟨x.d, x.at_, x.coins, x.wher.set k f⟩
/-- How many more a place may hold. -/
def roomI (x : Wd) (f : Pl) : Int := capOf x.d f.kind - ((x.wher.count f : Nat) : Int)
/-- An item goes from one place to another: the world, the error. -/
def takeW (x : Wd) (item : Int) (f g : Pl) : Wd × Int :=
 if inB item x.wher.length = false then (x, 3) else if ¬ plOf x.wher item.toNat = f then (x, 5) else if roomI x g = 0 then (x, 9) else (putW x item.toNat g, 0)
def getW (x : Wd) (i : Nat) (item : Int) : Wd × Int := takeW x item ⟨0, (roomOf x i : Int)⟩ ⟨1, (i : Int)⟩
def dropW (x : Wd) (i : Nat) (item : Int) : Wd × Int := takeW x item ⟨1, (i : Int)⟩ ⟨0, (roomOf x i : Int)⟩
theorem putW_shape (x : Wd) (k : Nat) (f : Pl) : Shape x (putW x k f) := ⟨rfl, rfl, rfl, rfl, rfl, rfl, rfl, rfl, rfl, rfl, by simp [putW]⟩
theorem putW_putW (x : Wd) (k : Nat) (f g : Pl) : putW (putW x k f) k g = putW x k g := by simp [putW]
theorem putW_self {x : Wd} {k : Nat} (hk : k < x.wher.length) {f : Pl} (h : plOf x.wher k = f) : putW x k f = x := by
 rw [plOf_get hk] at h
 subst h
 unfold putW
 rw [List.set_getElem_self]
theorem take_shape (x : Wd) (item : Int) (f g : Pl) : Shape x (takeW x item f g).1 := by
 unfold takeW
 split
 ·exact Shape.refl x
 ·split
  ·exact Shape.refl x
  ·split
   ·exact Shape.refl x
   ·exact putW_shape _ _ _
theorem ends_leaf (ps : List Pl) (n : Nat) {p : Pl} (h : ¬ p.kind = 2) : endsB ps n p = true := by cases n <;> simp [endsB, h]
theorem ends_set {ps : List Pl} {k : Nat} {f : Pl} (hf : ¬ f.kind = 2) : ∀ (n : Nat) (p : Pl), endsB ps n p = true → endsB (ps.set k f) n p = true
 | 0, _, h => h
 | n + 1, p, h => by
   simp only [endsB, Bool.or_eq_true, decide_eq_true_eq] at h ⊢
   rcases h with h | h
   ·exact .inl h
   ·right
    unfold par at h ⊢
    by_cases e : p.id.toNat = k
    ·by_cases hk : k < ps.length
     ·rw [e, List.getD_eq_getElem?_getD, List.getElem?_set_self hk]
      exact ends_leaf _ _ hf
     ·rw [List.set_eq_of_length_le (by omega)]
      exact h
    ·rw [List.getD_eq_getElem?_getD, List.getElem?_set_ne (fun h => e h.symm), ← List.getD_eq_getElem?_getD]
     exact ends_set hf n _ h
theorem count_put {ps : List Pl} {k : Nat} (hk : k < ps.length) (f p : Pl) : (ps.set k f).count p = ps.count p - (if ps[k] = p then 1 else 0) + (if f = p then 1 else 0) := by
 rw [List.count_set hk]
 simp only [beq_iff_eq]
theorem count_at {ps : List Pl} {k : Nat} (hk : k < ps.length) : 1 ≤ ps.count ps[k] := List.count_pos_iff.2 (List.getElem_mem hk)
/-- An item laid on a floor, or with a player, where there is room: the world stays right. -/
theorem putW_right {x : Wd} (h : rightW x = true) {k : Nat} (hk : k < x.wher.length) {f : Pl} (hf : ¬ f.kind = 2) (hp : placeB x.d f = true) (hr : 0 < roomI x f) : rightW (putW x k f) = true := by
 have h1 := h
 simp only [rightW, Bool.and_eq_true] at h1 ⊢
 obtain ⟨h2, h3, h4, h5, h6⟩ := h1
 refine ⟨h2, h3, ?_, ?_, ?_⟩
 ·simp only [placesB, putW, Bool.and_eq_true, decide_eq_true_eq, List.all_eq_true, List.length_set] at h4 ⊢
  refine ⟨h4.1, fun p hpm => ?_⟩
  rcases List.mem_or_eq_of_mem_set hpm with hpm | rfl
  ·exact h4.2 p hpm
  ·exact hp
 ·simp only [nestB, putW, List.all_eq_true] at h5 ⊢
  intro p hpm
  rcases List.mem_or_eq_of_mem_set hpm with hpm | rfl
  ·exact ends_set hf 4 p (h5 p hpm)
  ·exact ends_leaf _ _ hf
 ·simp only [fitB, List.all_eq_true, decide_eq_true_eq] at h6
  unfold fitB
  rw [List.all_eq_true]
  intro p hpm
  refine decide_eq_true ?_
  show ((List.count p (x.wher.set k f) : Nat) : Int) ≤ capOf x.d p.kind
  rw [count_put hk]
  by_cases e : f = p
  ·subst e
   unfold roomI at hr
   rw [if_pos rfl]
   split <;> omega
  ·rw [if_neg e]
   have h7 := h6 p ((List.mem_or_eq_of_mem_set hpm).resolve_right (fun h => e h.symm))
   split <;> omega
theorem room_nn {x : Wd} (h : rightW x = true) {f : Pl} (hq : 0 ≤ f.kind ∧ f.kind < 3) : 0 ≤ roomI x f := by
 have hm := (right_lens h).2.2.2.2.2
 simp only [mayD, capsB, Bool.and_eq_true, List.all_eq_true] at hm
 have hc := hm.2.2.1
 have c0 := hc x.d.room (by simp)
 have c1 := hc x.d.player (by simp)
 have c2 := hc x.d.box (by simp)
 simp only [capB, Bool.and_eq_true, decide_eq_true_eq] at c0 c1 c2
 have hp := h
 simp only [rightW, fitB, Bool.and_eq_true, List.all_eq_true, decide_eq_true_eq] at hp
 unfold roomI
 by_cases hm : f ∈ x.wher
 ·have := hp.2.2.2.2 _ hm
  omega
 ·rw [List.count_eq_zero.2 hm]
  obtain ⟨fk, fi⟩ := f
  simp only at hq
  obtain rfl | rfl | rfl : fk = 0 ∨ fk = 1 ∨ fk = 2 := by omega
  all_goals simp [capOf]; omega
theorem room_put {x : Wd} {k : Nat} (hk : k < x.wher.length) {f g : Pl} (hf : plOf x.wher k = f) (hfg : ¬ g = f) : roomI (putW x k g) f = roomI x f + 1 := by
 rw [plOf_get hk] at hf
 have h1 := count_at hk
 have h2 := count_put hk g f
 rw [hf] at h1 h2
 rw [if_pos rfl, if_neg hfg] at h2
 show capOf x.d f.kind - (((x.wher.set k g).count f : Nat) : Int) = _
 unfold roomI
 omega
/-- Laid elsewhere, and back: it is as it was. -/
theorem take_back {x : Wd} (h : rightW x = true) {k : Nat} (hk : k < x.wher.length) {f g : Pl} (hq : 0 ≤ f.kind ∧ f.kind < 3) (hfg : ¬ g = f) (hf : plOf x.wher k = f) : takeW (putW x k g) k g f = (x, 0) := by
 have e1 : plOf (putW x k g).wher k = g := by show plOf (x.wher.set k g) k = g; rw [plOf_set hk, if_pos rfl]
 have e2 := room_put hk hf hfg
 have e3 := room_nn h hq
 have e4 : inB (k : Int) (putW x k g).wher.length = true := by
  show inB (k : Int) (x.wher.set k g).length = true
  simp [inB, hk]
 unfold takeW
 rw [e4]
 simp only [Bool.true_eq_false, if_false, Int.toNat_natCast]
 rw [e1, if_neg (by simp), if_neg (by omega), putW_putW, putW_self hk hf]
theorem place_room {x : Wd} (h : rightW x = true) {i : Nat} (hi : i < x.at_.length) : placeB x.d ⟨0, (roomOf x i : Int)⟩ = true := by
 have := (room_at h hi).2
 simp [placeB, inB]; omega
theorem place_player {x : Wd} (h : rightW x = true) {i : Nat} (hi : i < x.at_.length) : placeB x.d ⟨1, (i : Int)⟩ = true := by
 have h1 := h
 simp only [rightW, playersB, Bool.and_eq_true, decide_eq_true_eq] at h1
 have := h1.2.1.1
 simp [placeB, inB]; omega
/-- What comes of it. -/
theorem take_cases (x : Wd) (item : Int) (f g : Pl) :
 (inB item x.wher.length = false ∧ takeW x item f g = (x, 3)) ∨
 ∃ k : Nat, item = k ∧ k < x.wher.length ∧ ((¬ plOf x.wher k = f ∧ takeW x item f g = (x, 5)) ∨ (plOf x.wher k = f ∧ roomI x g = 0 ∧ takeW x item f g = (x, 9)) ∨ (plOf x.wher k = f ∧ ¬ roomI x g = 0 ∧ takeW x item f g = (putW x k g, 0))) := by
 unfold takeW
 by_cases h1 : inB item x.wher.length = false
 ·exact .inl ⟨h1, by rw [if_pos h1]⟩
 ·right
  rw [if_neg h1]
  rw [Bool.not_eq_false, inB_iff] at h1
  refine ⟨item.toNat, by omega, by omega, ?_⟩
  by_cases h2 : plOf x.wher item.toNat = f
  ·rw [if_neg (by simpa using h2)]
   by_cases h3 : roomI x g = 0
   ·rw [if_pos h3]; exact .inr (.inl ⟨h2, h3, rfl⟩)
   ·rw [if_neg h3]; exact .inr (.inr ⟨h2, h3, rfl⟩)
  ·rw [if_pos h2]; exact .inl ⟨h2, rfl⟩
theorem take_right {x : Wd} (h : rightW x = true) {item : Int} {f g : Pl} (hg : placeB x.d g = true) (hk : ¬ g.kind = 2) (hq : 0 ≤ g.kind ∧ g.kind < 3) : rightW (takeW x item f g).1 = true := by
 rcases take_cases x item f g with ⟨_, e⟩ | ⟨k, rfl, hl, ⟨_, e⟩ | ⟨_, _, e⟩ | ⟨_, hr, e⟩⟩
 all_goals rw [e]
 ·exact h
 ·exact h
 ·exact h
 ·have := room_nn h hq
  exact putW_right h hl hk hg (by omega)
end
section
theorem fit_of {x y : Wd} (hf : fitsB x = true) (hs : Shape x y) (hr : rightW y = true) : fitsB y = true := by
 simp only [fitsB, Bool.and_eq_true] at hf ⊢
 refine ⟨?_, hr⟩
 have h1 := hf.1
 simp only [fewB] at h1 ⊢
 rw [hs.ex, hs.pl, hs.co, hs.it, hs.bo, hs.at_, hs.c, hs.w]
 exact h1
/-- What hangs where, when an item was laid on a floor, or with a player. -/
theorem put_roots {x : Wd} (h : rightW x = true) {k : Nat} (hk : k < x.wher.length) {f : Pl} (hf : ¬ f.kind = 2) (h2 : rightW (putW x k f) = true) {n : Nat} (hn : n < x.wher.length) : (wB x.wher n k = true → rootI (putW x k f).wher n = f) ∧ (wB x.wher n k = false → rootI (putW x k f).wher n = rootI x.wher n) := by
 have hm := mv_all (right_tr h) hf (right_tr h2) hk n hn
 exact ⟨fun h => (hm.y h).1, fun h => (hm.n h).1⟩
/-- The first so many of these were got. -/
structure Gt (x : Wd) (i : Nat) (T : List Nat) (n : Nat) (y : Wd) : Prop where
 right : rightW y = true
 shape : Shape x y
 at_ : y.at_ = x.at_
 room : roomI y ⟨1, (i : Int)⟩ = roomI x ⟨1, (i : Int)⟩ - n
 rest : ∀ m (hm : m < T.length), n ≤ m → plOf y.wher T[m] = ⟨0, (roomOf x i : Int)⟩
theorem room_of {x y : Wd} (h : y.at_ = x.at_) (i : Nat) : roomOf y i = roomOf x i := by unfold roomOf; rw [h]
theorem Gt.start {x : Wd} (h : rightW x = true) {i : Nat} {T : List Nat} (hT : ∀ m (hm : m < T.length), plOf x.wher T[m] = ⟨0, (roomOf x i : Int)⟩) : Gt x i T 0 x := ⟨h, Shape.refl x, rfl, by simp, fun m hm _ => hT m hm⟩
theorem Gt.more {x : Wd} {i : Nat} {T : List Nat} {n : Nat} {y : Wd} (h : Gt x i T n y) (hi : i < x.at_.length) (hn : n < T.length) (hl : ∀ m (hm : m < T.length), T[m] < x.wher.length) (hup : T.Pairwise (· < ·)) (hr : (n : Int) < roomI x ⟨1, (i : Int)⟩) :
 getW y i T[n] = (putW y T[n] ⟨1, (i : Int)⟩, 0) ∧ Gt x i T (n + 1) (putW y T[n] ⟨1, (i : Int)⟩) := by
 have hlt : T[n] < y.wher.length := by rw [h.shape.w]; exact hl n hn
 have hp := h.rest n hn (Nat.le_refl _)
 have hiy : i < y.at_.length := by rw [h.at_]; exact hi
 have hrt : rightW (putW y T[n] ⟨1, (i : Int)⟩) = true := putW_right h.right hlt (by simp) (place_player h.right hiy) (by rw [h.room]; omega)
 refine ⟨?_, hrt, ?_, h.at_, ?_, fun m hm hnm => ?_⟩
 ·unfold getW takeW
  rw [if_neg (by simp [inB]; omega), room_of h.at_, if_neg (by simpa using hp), if_neg (by rw [h.room]; omega)]
  simp
 ·have s1 := h.shape
  have s2 := putW_shape y T[n] ⟨1, (i : Int)⟩
  exact ⟨s2.ex.trans s1.ex, s2.pl.trans s1.pl, s2.co.trans s1.co, s2.it.trans s1.it, s2.bo.trans s1.bo, s2.r.trans s1.r, s2.p.trans s1.p, s2.b.trans s1.b, s2.at_.trans s1.at_, s2.c.trans s1.c, s2.w.trans s1.w⟩
 ·have h1 := h.room
  have h2 := count_put hlt ⟨1, (i : Int)⟩ ⟨1, (i : Int)⟩
  rw [plOf_get hlt] at hp
  rw [hp, if_pos rfl, if_neg (by simp)] at h2
  unfold roomI at h1 ⊢
  have h3 : (putW y T[n] ⟨1, (i : Int)⟩).wher.count ⟨1, (i : Int)⟩ = y.wher.count ⟨1, (i : Int)⟩ - 0 + 1 := h2
  rw [h3]
  show capOf y.d _ - _ = _
  omega
 ·have hml : T[m] < y.wher.length := by rw [h.shape.w]; exact hl m hm
  show plOf (y.wher.set T[n] _) T[m] = _
  have hne : ¬ T[m] = T[n] := by
   have := (List.pairwise_iff_getElem.1 hup) n m hn hm (by omega)
   omega
  rw [plOf_set hml, if_neg hne]
  exact h.rest m hm (by omega)
theorem Gt.full {x : Wd} {i : Nat} {T : List Nat} {n : Nat} {y : Wd} (h : Gt x i T n y) (hl : ∀ m (hm : m < T.length), T[m] < x.wher.length) (hr : (n : Int) = roomI x ⟨1, (i : Int)⟩) {m : Nat} (hm : m < T.length) (hnm : n ≤ m) : getW y i T[m] = (y, 9) := by
 have hlt : T[m] < y.wher.length := by rw [h.shape.w]; exact hl m hm
 unfold getW takeW
 rw [if_neg (by simp [inB]; omega), room_of h.at_, if_neg (by simpa using h.rest m hm hnm), if_pos (by rw [h.room]; omega)]
/-- A got one isn't there for anybody. -/
theorem got_away (y : Wd) {k : Nat} (hk : k < y.wher.length) (i j : Nat) : getW (putW y k ⟨1, (i : Int)⟩) j k = (putW y k ⟨1, (i : Int)⟩, 5) := by
 have e : plOf (putW y k ⟨1, (i : Int)⟩).wher k = ⟨1, (i : Int)⟩ := by show plOf (y.wher.set k _) k = _; rw [plOf_set hk, if_pos rfl]
 unfold getW takeW
 rw [if_neg (by show ¬ inB (k : Int) (y.wher.set k _).length = false; simp [inB, hk]), if_pos (by simp only [Int.toNat_natCast]; rw [e]; simp)]
/-- The items on a floor, as numbers. -/
def inL (ps : List Pl) (p : Pl) : List Nat := (List.range ps.length).filter fun i => decide (plOf ps i = p)
theorem in_inL (ps : List Pl) (p : Pl) : inN ps ps.length p = (inL ps p).map fun (i : Nat) => (i : Int) := rfl
theorem inL_at {ps : List Pl} {p : Pl} {m : Nat} (hm : m < (inL ps p).length) : (inL ps p)[m] < ps.length ∧ plOf ps (inL ps p)[m] = p := by
 have := List.getElem_mem hm
 unfold inL at this
 rw [List.mem_filter, List.mem_range] at this
 exact ⟨this.1, of_decide_eq_true this.2⟩
theorem inL_up (ps : List Pl) (p : Pl) : (inL ps p).Pairwise (· < ·) := List.Pairwise.filter _ List.pairwise_lt_range
/-- Whether an item can be got, and dropped. -/
theorem get_err {x : Wd} {i k : Nat} (hk : k < x.wher.length) : (getW x i k).2 ≠ 5 ↔ plOf x.wher k = ⟨0, (roomOf x i : Int)⟩ := by
 unfold getW takeW
 rw [if_neg (by simp [inB, hk])]
 simp only [Int.toNat_natCast]
 by_cases h : plOf x.wher k = ⟨0, (roomOf x i : Int)⟩
 ·rw [if_neg (by simpa using h)]
  split <;> simp [h]
 ·rw [if_pos h]; simp [h]
theorem drop_err {x : Wd} {i k : Nat} (hk : k < x.wher.length) : (dropW x i k).2 ≠ 5 ↔ plOf x.wher k = ⟨1, (i : Int)⟩ := by
 unfold dropW takeW
 rw [if_neg (by simp [inB, hk])]
 simp only [Int.toNat_natCast]
 by_cases h : plOf x.wher k = ⟨1, (i : Int)⟩
 ·rw [if_neg (by simpa using h)]
  split <;> simp [h]
 ·rw [if_pos h]; simp [h]
end
end Go.Proofs.YtgmkcddgkgcbbaaGreat
