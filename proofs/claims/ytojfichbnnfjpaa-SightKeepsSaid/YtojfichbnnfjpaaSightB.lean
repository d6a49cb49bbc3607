/- sight.Look, sight.Own: what is seen, and had. -/
import Derived.Test.YtojfichbnnfjpaaRows
import Derived.Test.YtojfichbnnfjpaaTk
import Derived.Test.YtojfichbnnfjpaaKit
import Derived.Test.YtojfichbnnfjpaaGMem
import Derived.Test.YtojfichbnnfjpaaCoin
import Derived.Test.YtojfichbnnfjpaaGWorld
import Derived.Test.YtojfichbnnfjpaaDescMay
import Derived.Test.YtojfichbnnfjpaaGRight
import Derived.Test.YtojfichbnnfjpaaGDescN
import Derived.Test.YtojfichbnnfjpaaGCopy
import Derived.Test.YtojfichbnnfjpaaGAs
import Derived.Test.YtojfichbnnfjpaaGTreeL
import Derived.Test.YtojfichbnnfjpaaGRefD
import Derived.Test.YtojfichbnnfjpaaRepMath
import Derived.Test.YtojfichbnnfjpaaSightMath
import Derived.Test.YtojfichbnnfjpaaSightA
import Derived.Test.YtojfichbnnfjpaaTreeUnder
import Derived.Deep.QuietTactic
import Derived.BigQuiet
import Derived.Deep.RegionHeld3
import Derived.WalkKit
import Derived.ProofKit
import Derived.OpenShut
import Derived.IntWalk
namespace Go.Proofs.Ytojfichbnnfjpaa
open Go.ChangeShapes Go.WideShapes Go.ChangeAt Go.RowKit
set_option linter.unusedVariables false
open Go.RowKit
/-- The purse of a player. -/
def purseOf (x : Wd) (i : Nat) : Int := x.coins.getD i 0
/-- What who looks is told, and who asks what one has. -/
def lookR (x : Wd) (i : Nat) : Rp := ⟨0, 9, roomOf x i, presN x x.at_.length (roomOf x i), lookN x i, 0⟩
def haveR (x : Wd) (i : Nat) : Rp := ⟨0, 10, 0, [], ownN x i, purseOf x i⟩
/-- An answer whose lists are new memory. -/
structure NewR (n : Nat) (W : World) (pa ia : Option Addr) (r : Rp) : Prop where
  pl : OwnR 1 3 inC n W pa r.players
  it : OwnR 3 45 seC n W ia r.items
section
variable {n : Nat} {W W' : World} {pa ia : Option Addr} {r : Rp}
theorem NewR.call (h : NewR n W pa ia r) (hb : Below W.heap.size W W') : NewR n W' pa ia r := ⟨h.pl.call hb, h.it.call hb⟩
theorem NewR.less (h : NewR n W pa ia r) {m : Nat} (hm : m ≤ n) : NewR m W pa ia r := ⟨h.pl.less hm, h.it.less hm⟩
theorem NewR.set (h : NewR n W pa ia r) {q : Nat} (hq : q < n) (i : Nat) (u : Value) : NewR n (W.setCell ⟨q, i, none⟩ u) pa ia r := ⟨h.pl.set hq i u, h.it.set hq i u⟩
theorem NewR.ints (h : NewR n W pa ia r) : IntsAt W pa r.players := ints_row.2 h.pl.row
theorem NewR.sns (h : NewR n W pa ia r) : SnsAt W ia r.items := sns_row h.it.row
end
theorem own_nil {α : Type} (k : Nat) (e : TypeId) (enc : α → List Value) (n : Nat) (W : World) : OwnR k e enc n W none ([] : List α) := ⟨by simp, .inl ⟨rfl, rfl⟩⟩
theorem purse_at {x : Wd} (hx : rightW x = true) {i : Nat} (hi : i < x.at_.length) : ∃ h : i < x.coins.length, x.coins[i] = purseOf x i := by
  have hl := right_lens hx
  have h : i < x.coins.length := by omega
  exact ⟨h, by simp [purseOf, List.getD, List.getElem?_eq_getElem h]⟩
theorem and5 {a b c d e : Prop} (h : a ∧ b ∧ c ∧ d) (k : e) : a ∧ b ∧ c ∧ d ∧ e := ⟨h.1, h.2.1, h.2.2.1, h.2.2.2, k⟩
set_option maxRecDepth 100000 in
set_option maxHeartbeats 1000000 in
theorem slook_go (x : Wd) (pd : Dp) (b o pac : Nat) (pk pw : Option Addr) (pkc pwc : Nat) (i : Nat) (w : World) (hx : rightW x = true) (h : WorldAt w ⟨pd, some ⟨b, o, none⟩, pac, pk, pkc, pw, pwc⟩ x) (hi : i < x.at_.length) : Calls Try.prog 11 #[.agg #[.slice pd.ex x.d.exits.length pd.exc, .slice pd.pl x.d.players.length pd.plc, .slice pd.co x.d.coins.length pd.coc, .slice pd.it x.d.items.length pd.itc, .slice pd.bo x.d.boxes.length pd.boc, .int .i64 x.d.room, .int .i64 x.d.player, .int .i64 x.d.box, .slice (some ⟨b, o, none⟩) x.at_.length pac, .slice pk x.coins.length pkc, .slice pw x.wher.length pwc], .int .i64 (i : Int)] w fun e w' => ∃ qa ia qc ic, e = .returned (.agg #[.int .i64 0, .int .i64 9, .int .i64 (roomOf x i : Int), .slice qa (presN x x.at_.length (roomOf x i)).length qc, .slice ia (underN x.wher x.wher.length ⟨0, (roomOf x i : Int)⟩).length ic, .int .i64 0]) ∧ NewR w.heap.size w' qa ia (lookR x i) ∧ Below w.heap.size w w' := by
  obtain ⟨b', o', eb, hb, hcs⟩ := h.at_.at_ hi
  simp only [Option.some.injEq, Addr.mk.injEq, and_true] at eb
  obtain ⟨rfl, rfl⟩ := eb
  have c0 := hcs i hi
  rw [(room_at hx hi).1] at c0
  have hlen := right_lens hx
  have h6 := hlen.2.1
  have h7 : x.at_.length = x.coins.length := hlen.2.2.1.symm
  have HX := Lib.hid hx
  have HT := Lib.hid (right_tr hx)
  have HWA := Lib.hid h
  have HW16 := Lib.hid (show x.wher.length ≤ 40 by have := hlen.2.2.2.1; omega)
  have hi1 : ¬ (x.at_.length : Int) ≤ (i : Int) := by omega
  have hi2 : (x.at_.length ≤ i) = False := by simp; omega
  have HI := Lib.hid hi
  have HIK := Lib.hid (show i < x.coins.length by omega)
  clear hlen h hx hcs hi h6 h7
  have C0 := Lib.hid (Two.start 29 36 w #[.slice pd.ex x.d.exits.length pd.exc, .slice pd.pl x.d.players.length pd.plc, .slice pd.co x.d.coins.length pd.coc, .slice pd.it x.d.items.length pd.itc, .slice pd.bo x.d.boxes.length pd.boc, .int .i64 x.d.room, .int .i64 x.d.player, .int .i64 x.d.box, .slice (some ⟨b, o, none⟩) x.at_.length pac, .slice pk x.coins.length pkc, .slice pw x.wher.length pwc] #[.int .i64 0, .int .i64 0, .int .i64 0, .slice none 0 0, .slice none 0 0, .int .i64 0])
  go_enter Try.func11, Try.ntmps11
  go_wp2_with fail
  generalize (w.alloc (.cells #[.slice pd.ex x.d.exits.length pd.exc, .slice pd.pl x.d.players.length pd.plc, .slice pd.co x.d.coins.length pd.coc, .slice pd.it x.d.items.length pd.itc, .slice pd.bo x.d.boxes.length pd.boc, .int .i64 x.d.room, .int .i64 x.d.player, .int .i64 x.d.box, .slice (some ⟨b, o, none⟩) x.at_.length pac, .slice pk x.coins.length pkc, .slice pw x.wher.length pwc] 29)).alloc (.cells #[.int .i64 0, .int .i64 0, .int .i64 0, .slice none 0 0, .slice none 0 0, .int .i64 0] 36) = V0 at *
  refine (splayer_any x ⟨pd, some ⟨b, o, none⟩, pac, pk, pkc, pw, pwc⟩ i _ HI.out HIK.out).mono ?_
  rintro e w1 ⟨rfl, b1⟩
  have C1 := Lib.hid (C0.out.call b1)
  clear C0 b1
  have hc1 := C1.out.a.cell
  have hl1 := C1.out.a.lt
  replace c0 := cell_call c0 C1.out.b
  go_wp2_with fail
  clear hc1 hl1
  clear c0
  have D0 := Lib.hid C1.out.drew
  clear C1
  refine wp_region_noPanic ?_
  refine wp_region_held_drew (S := (fun w' => Below w.heap.size w w' ∧ w.heap.size < w'.heap.size ∧ (∀ ii, w'.cell? ⟨w.heap.size, ii, none⟩ = (#[.slice pd.ex x.d.exits.length pd.exc, .slice pd.pl x.d.players.length pd.plc, .slice pd.co x.d.coins.length pd.coc, .slice pd.it x.d.items.length pd.itc, .slice pd.bo x.d.boxes.length pd.boc, .int .i64 x.d.room, .int .i64 x.d.player, .int .i64 x.d.box, .slice (some ⟨b, o, none⟩) x.at_.length pac, .slice pk x.coins.length pkc, .slice pw x.wher.length pwc][ii]? : Option Value)) ∧ w.heap.size + 1 < w'.heap.size)) (by kernel_rfl) (by (first | (with_reducible exact ⟨D0.out.b, D0.out.a.lt, D0.out.a.cell, D0.out.r.lt⟩))) (fun hHeld => ?_)
  iterate 6
    (first | refine tkW 0 (v := ?_) ?_ ?_ | refine tkW 1 (v := ?_) ?_ ?_ | refine tkW 2 (v := ?_) ?_ ?_ | refine tkW 4 (v := ?_) ?_ ?_ | refine tkW 5 (v := ?_) ?_ ?_ | refine tkW 6 (v := ?_) ?_ ?_)
    rotate_left
    · (intro ww hSw; (try dsimp only at hSw); go_simp; (try with_reducible rfl))
    try simp only [Act.put, List.setIfInBounds_toArray, List.set_cons_zero, List.set_cons_succ]
  refine rdy1 3 (fun K hK => ?_)
  go_simp
  refine (spresent_any x ⟨pd, some ⟨b, o, none⟩, pac, pk, pkc, pw, pwc⟩ (roomOf x i) _ HX.out (HWA.out.below D0.out.b (Nat.le_refl _)).at_).mono ?_; rintro e w2 ⟨qa, qc, rfl, g1, hb1⟩; have D1 := Lib.hid (D0.out.call hb1); have G1 := Lib.hid g1; clear hb1 g1
  try go_wp2_with fail
  refine hK.out _ _ (by (first | (with_reducible exact ⟨D1.out.b, D1.out.a.lt, D1.out.a.cell, D1.out.r.lt⟩))) (fun hHeld => ?_)
  clear hK K
  try simp only [Act.put, List.setIfInBounds_toArray, List.set_cons_zero, List.set_cons_succ]
  refine rdy1 7 (fun K hK => ?_)
  go_simp
  refine (tunder_any x ⟨pd, some ⟨b, o, none⟩, pac, pk, pkc, pw, pwc⟩ ⟨0, (roomOf x i : Int)⟩ HT.out _ (HWA.out.below D1.out.b (Nat.le_refl _)).wh HW16.out).mono ?_; rintro e w3 ⟨ia, ic, rfl, g2, hb2⟩; have D2 := Lib.hid (D1.out.call hb2); have Q1 := Lib.hid (G1.out.call hb2); have G2 := Lib.hid g2; have HB2 := Lib.hid hb2; clear hb2 g2
  try go_wp2_with fail
  refine hK.out _ _ (by (first | (with_reducible exact ⟨D2.out.b, D2.out.a.lt, D2.out.a.cell, D2.out.r.lt⟩))) (fun hHeld => ?_)
  clear hK K
  try simp only [Act.put, List.setIfInBounds_toArray, List.set_cons_zero, List.set_cons_succ]
  iterate 1
    (first | refine tkW 8 (v := ?_) ?_ ?_)
    rotate_left
    · (intro ww hSw; (try dsimp only at hSw); go_simp; (try with_reducible rfl))
    try simp only [Act.put, List.setIfInBounds_toArray, List.set_cons_zero, List.set_cons_succ]
  have hc2 := D2.out.r.cell
  have hz2 := D2.out.r.frozen
  have hs2 := D2.out.r.lt
  refine rdy1 9 (fun K hK => ?_)
  go_simp
  try go_wp2_with fail
  refine hK.out _ _ (by (first | (refine two_S (t := 29) (s := 36) (w := w) ?_; (iterate 6 with_reducible refine TwoE.set2 ?_ _ _); with_reducible exact TwoE.mk D2.out))) (fun hHeld => ?_)
  clear hK K
  try simp only [Act.put, List.setIfInBounds_toArray, List.set_cons_zero, List.set_cons_succ]
  refine wpAnyH_done (by kernel_rfl) ?_ _
  refine NoPanic.normal ?_
  go_wp2_with fail
  refine bodyPost_ret (v := .agg #[.int .i64 0, .int .i64 9, .int .i64 (roomOf x i : Int), .slice qa (presN x x.at_.length (roomOf x i)).length qc, .slice ia (underN x.wher x.wher.length ⟨0, (roomOf x i : Int)⟩).length ic, .int .i64 0]) (by simp [results, Try.results11, go_sem, hc2]) rfl ⟨qa, ia, qc, ic, rfl, ?_, ?_⟩
  · refine NewR.less (n := w.heap.size + 2) ?_ (by omega)
    iterate 6 refine NewR.set (q := w.heap.size + 1) ?_ (by omega) _ _
    exact ⟨Q1.out.less (by have := D0.out.size; omega), G2.out.less (by have := D1.out.size; omega)⟩
  · iterate 6 refine Below.setCell ?_ (by show w.heap.size ≤ w.heap.size + 1; omega) _
    exact D2.out.b
theorem slook_any (x : Wd) (p : Wp) (i : Nat) (w : World) (hx : rightW x = true) (h : WorldAt w p x) (hi : i < x.at_.length) {R : Rp} (hR : lookR x i = R) : Calls Try.prog 11 #[.agg #[.slice p.d.ex x.d.exits.length p.d.exc, .slice p.d.pl x.d.players.length p.d.plc, .slice p.d.co x.d.coins.length p.d.coc, .slice p.d.it x.d.items.length p.d.itc, .slice p.d.bo x.d.boxes.length p.d.boc, .int .i64 x.d.room, .int .i64 x.d.player, .int .i64 x.d.box, .slice p.at_ x.at_.length p.atc, .slice p.co x.coins.length p.coc, .slice p.wh x.wher.length p.whc], .int .i64 (i : Int)] w fun e w' => ∃ qa ia qc ic, e = .returned (.agg #[.int .i64 R.err, .int .i64 R.kind, .int .i64 R.room, .slice qa R.players.length qc, .slice ia R.items.length ic, .int .i64 R.coins]) ∧ NewR w.heap.size w' qa ia R ∧ Below w.heap.size w w' := by
  subst hR
  obtain ⟨pd, pa, pac, pk, pkc, pw, pwc⟩ := p
  obtain ⟨b, o, eb, -, -⟩ := h.at_.at_ hi
  simp only at eb
  subst eb
  exact slook_go x pd b o pac pk pw pkc pwc i w hx h hi
set_option maxRecDepth 100000 in
set_option maxHeartbeats 1000000 in
theorem sown_go (x : Wd) (pd : Dp) (b o pac kb ko pkc : Nat) (pw : Option Addr) (pwc : Nat) (i : Nat) (w : World) (hx : rightW x = true) (h : WorldAt w ⟨pd, some ⟨b, o, none⟩, pac, some ⟨kb, ko, none⟩, pkc, pw, pwc⟩ x) (hi : i < x.at_.length) : Calls Try.prog 13 #[.agg #[.slice pd.ex x.d.exits.length pd.exc, .slice pd.pl x.d.players.length pd.plc, .slice pd.co x.d.coins.length pd.coc, .slice pd.it x.d.items.length pd.itc, .slice pd.bo x.d.boxes.length pd.boc, .int .i64 x.d.room, .int .i64 x.d.player, .int .i64 x.d.box, .slice (some ⟨b, o, none⟩) x.at_.length pac, .slice (some ⟨kb, ko, none⟩) x.coins.length pkc, .slice pw x.wher.length pwc], .int .i64 (i : Int)] w fun e w' => ∃ qa ia qc ic, e = .returned (.agg #[.int .i64 0, .int .i64 10, .int .i64 0, .slice qa 0 qc, .slice ia (underN x.wher x.wher.length ⟨1, (i : Int)⟩).length ic, .int .i64 (purseOf x i)]) ∧ NewR w.heap.size w' qa ia (haveR x i) ∧ Below w.heap.size w w' := by
  obtain ⟨hk, ek⟩ := purse_at hx hi
  obtain ⟨b', o', eb, hb, hcs⟩ := h.co.at_ hk
  simp only [Option.some.injEq, Addr.mk.injEq, and_true] at eb
  obtain ⟨rfl, rfl⟩ := eb
  have c0 := hcs i hk
  rw [ek] at c0
  have hlen := right_lens hx
  have h6 := hlen.2.1
  have h7 : x.at_.length = x.coins.length := hlen.2.2.1.symm
  have HX := Lib.hid hx
  have HT := Lib.hid (right_tr hx)
  have HWA := Lib.hid h
  have HW16 := Lib.hid (show x.wher.length ≤ 40 by have := hlen.2.2.2.1; omega)
  have hi1 : ¬ (x.coins.length : Int) ≤ (i : Int) := by omega
  have hi2 : (x.coins.length ≤ i) = False := by simp; omega
  have HI := Lib.hid hi
  have HIK := Lib.hid (show i < x.coins.length by omega)
  clear hlen h hx hcs hk ek hi h6 h7
  have C0 := Lib.hid (Two.start 29 36 w #[.slice pd.ex x.d.exits.length pd.exc, .slice pd.pl x.d.players.length pd.plc, .slice pd.co x.d.coins.length pd.coc, .slice pd.it x.d.items.length pd.itc, .slice pd.bo x.d.boxes.length pd.boc, .int .i64 x.d.room, .int .i64 x.d.player, .int .i64 x.d.box, .slice (some ⟨b, o, none⟩) x.at_.length pac, .slice (some ⟨kb, ko, none⟩) x.coins.length pkc, .slice pw x.wher.length pwc] #[.int .i64 0, .int .i64 0, .int .i64 0, .slice none 0 0, .slice none 0 0, .int .i64 0])
  go_enter Try.func13, Try.ntmps13
  go_wp2_with fail
  generalize (w.alloc (.cells #[.slice pd.ex x.d.exits.length pd.exc, .slice pd.pl x.d.players.length pd.plc, .slice pd.co x.d.coins.length pd.coc, .slice pd.it x.d.items.length pd.itc, .slice pd.bo x.d.boxes.length pd.boc, .int .i64 x.d.room, .int .i64 x.d.player, .int .i64 x.d.box, .slice (some ⟨b, o, none⟩) x.at_.length pac, .slice (some ⟨kb, ko, none⟩) x.coins.length pkc, .slice pw x.wher.length pwc] 29)).alloc (.cells #[.int .i64 0, .int .i64 0, .int .i64 0, .slice none 0 0, .slice none 0 0, .int .i64 0] 36) = V0 at *
  refine (splayer_any x ⟨pd, some ⟨b, o, none⟩, pac, some ⟨kb, ko, none⟩, pkc, pw, pwc⟩ i _ HI.out HIK.out).mono ?_
  rintro e w1 ⟨rfl, b1⟩
  have C1 := Lib.hid (C0.out.call b1)
  clear C0 b1
  have hc1 := C1.out.a.cell
  have hl1 := C1.out.a.lt
  replace c0 := cell_call c0 C1.out.b
  go_wp2_with fail
  clear hc1 hl1
  have D0 := Lib.hid C1.out.drew
  clear C1
  replace c0 := cell_call c0 (bdrew1 (Below.refl _ _))
  refine wp_region_noPanic ?_
  refine wp_region_held_drew (S := (fun w' => Below w.heap.size w w' ∧ w.heap.size < w'.heap.size ∧ (∀ ii, w'.cell? ⟨w.heap.size, ii, none⟩ = (#[.slice pd.ex x.d.exits.length pd.exc, .slice pd.pl x.d.players.length pd.plc, .slice pd.co x.d.coins.length pd.coc, .slice pd.it x.d.items.length pd.itc, .slice pd.bo x.d.boxes.length pd.boc, .int .i64 x.d.room, .int .i64 x.d.player, .int .i64 x.d.box, .slice (some ⟨b, o, none⟩) x.at_.length pac, .slice (some ⟨kb, ko, none⟩) x.coins.length pkc, .slice pw x.wher.length pwc][ii]? : Option Value)) ∧ w.heap.size + 1 < w'.heap.size ∧ w'.cell? ⟨kb, ko + i, none⟩ = some (.int .i64 (purseOf x i)))) (by kernel_rfl) (by (first | (with_reducible exact ⟨D0.out.b, D0.out.a.lt, D0.out.a.cell, D0.out.r.lt, c0⟩))) (fun hHeld => ?_)
  iterate 8
    (first | refine tkW 0 (v := ?_) ?_ ?_ | refine tkW 1 (v := ?_) ?_ ?_ | refine tkW 2 (v := ?_) ?_ ?_ | refine tkW 4 (v := ?_) ?_ ?_ | refine tkW 5 (v := ?_) ?_ ?_ | refine tkW 6 (v := ?_) ?_ ?_ | refine tkW 7 (v := ?_) ?_ ?_ | refine tkW 8 (v := ?_) ?_ ?_)
    rotate_left
    · (intro ww hSw; (try dsimp only at hSw); go_simp; (try with_reducible rfl))
    try simp only [Act.put, List.setIfInBounds_toArray, List.set_cons_zero, List.set_cons_succ]
  refine rdy1 3 (fun K hK => ?_)
  go_simp
  refine (tunder_any x ⟨pd, some ⟨b, o, none⟩, pac, some ⟨kb, ko, none⟩, pkc, pw, pwc⟩ ⟨1, (i : Int)⟩ HT.out _ (HWA.out.below D0.out.b (Nat.le_refl _)).wh HW16.out).mono ?_; rintro e w3 ⟨ia, ic, rfl, g2, hb2⟩; have D2 := Lib.hid (D0.out.call hb2); have G2 := Lib.hid g2; have HB2 := Lib.hid hb2; have c2 := cell_call c0 hb2; clear hb2 g2
  try go_wp2_with fail
  refine hK.out _ _ (by (first | (with_reducible exact ⟨D2.out.b, D2.out.a.lt, D2.out.a.cell, D2.out.r.lt, c2⟩))) (fun hHeld => ?_)
  clear hK K
  try simp only [Act.put, List.setIfInBounds_toArray, List.set_cons_zero, List.set_cons_succ]
  iterate 1
    (first | refine tkW 9 (v := ?_) ?_ ?_)
    rotate_left
    · (intro ww hSw; (try dsimp only at hSw); go_simp; (try with_reducible rfl))
    try simp only [Act.put, List.setIfInBounds_toArray, List.set_cons_zero, List.set_cons_succ]
  have hc2 := D2.out.r.cell
  have hz2 := D2.out.r.frozen
  have hs2 := D2.out.r.lt
  refine rdy1 10 (fun K hK => ?_)
  go_simp
  try go_wp2_with fail
  refine hK.out _ _ (by (first | (refine and5 (two_S (t := 29) (s := 36) (w := w) ?_) ?_; exact (by (iterate 6 with_reducible refine TwoE.set2 ?_ _ _); with_reducible exact TwoE.mk D2.out); (iterate 6 with_reducible refine (World.cell?_setCell_far _ _ _ _ (by show w.heap.size + 1 ≠ kb; omega)).trans ?_); with_reducible exact c2))) (fun hHeld => ?_)
  clear hK K
  try simp only [Act.put, List.setIfInBounds_toArray, List.set_cons_zero, List.set_cons_succ]
  refine wpAnyH_done (by kernel_rfl) ?_ _
  refine NoPanic.normal ?_
  go_wp2_with fail
  refine bodyPost_ret (v := .agg #[.int .i64 0, .int .i64 10, .int .i64 0, .slice none 0 0, .slice ia (underN x.wher x.wher.length ⟨1, (i : Int)⟩).length ic, .int .i64 (purseOf x i)]) (by simp [results, Try.results13, go_sem, hc2]) rfl ⟨none, ia, 0, ic, rfl, ?_, ?_⟩
  · refine NewR.less (n := w.heap.size + 2) ?_ (by omega)
    iterate 6 refine NewR.set (q := w.heap.size + 1) ?_ (by omega) _ _
    exact ⟨own_nil _ _ _ _ _, G2.out.less (by have := D0.out.size; omega)⟩
  · iterate 6 refine Below.setCell ?_ (by show w.heap.size ≤ w.heap.size + 1; omega) _
    exact D2.out.b
theorem sown_any (x : Wd) (p : Wp) (i : Nat) (w : World) (hx : rightW x = true) (h : WorldAt w p x) (hi : i < x.at_.length) {R : Rp} (hR : haveR x i = R) : Calls Try.prog 13 #[.agg #[.slice p.d.ex x.d.exits.length p.d.exc, .slice p.d.pl x.d.players.length p.d.plc, .slice p.d.co x.d.coins.length p.d.coc, .slice p.d.it x.d.items.length p.d.itc, .slice p.d.bo x.d.boxes.length p.d.boc, .int .i64 x.d.room, .int .i64 x.d.player, .int .i64 x.d.box, .slice p.at_ x.at_.length p.atc, .slice p.co x.coins.length p.coc, .slice p.wh x.wher.length p.whc], .int .i64 (i : Int)] w fun e w' => ∃ qa ia qc ic, e = .returned (.agg #[.int .i64 R.err, .int .i64 R.kind, .int .i64 R.room, .slice qa R.players.length qc, .slice ia R.items.length ic, .int .i64 R.coins]) ∧ NewR w.heap.size w' qa ia R ∧ Below w.heap.size w w' := by
  subst hR
  obtain ⟨pd, pa, pac, pk, pkc, pw, pwc⟩ := p
  obtain ⟨b, o, eb, -, -⟩ := h.at_.at_ hi
  simp only at eb
  subst eb
  obtain ⟨hk, -⟩ := purse_at hx hi
  obtain ⟨kb, ko, ek, -, -⟩ := h.co.at_ hk
  simp only at ek
  subst ek
  exact sown_go x pd b o pac kb ko pkc pw pwc i w hx h hi
end Go.Proofs.Ytojfichbnnfjpaa
