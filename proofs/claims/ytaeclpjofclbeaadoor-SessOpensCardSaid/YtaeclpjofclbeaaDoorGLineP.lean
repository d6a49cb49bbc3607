/- line: the closures that put a piece's words behind others. -/
import Derived.Test.YtaeclpjofclbeaaDoorGLineA
import Derived.Test.YtaeclpjofclbeaaDoorGTokW
namespace Go.Proofs.YtaeclpjofclbeaaDoor
open Go.ChangeShapes Go.WideShapes Go.ChangeAt Go.RowKit Go.Proofs.Tryd
open Lib (hid)
set_option linter.unusedVariables false
set_option maxHeartbeats 1000000
set_option maxRecDepth 100000
section
open Go.RowKit Go
def Al7 (W:World) (base:Nat) (v:Value) (ws:List (List UInt8)) (e:Ending) (W':World):Prop :=
 ∃v',e=.returned v'∧W'.ownsRow base 9 1 v' ws.length (ws.map str)∧W.grownBy W' v.ownBlock∧Zo W v v'
theorem Bc8 {w W W1:World} {p q r:Addr} {x y z:Value} (hp:p.block<w.heap.size) (hq:q.block<w.heap.size) (hr:r.block<w.heap.size)
 (h:w.heap.size≤W.heap.size∧W.cell? p=some x∧W.cell? q=some y∧W.cell? r=some z) (hb:Below W.heap.size W W1):w.heap.size≤W1.heap.size∧W1.cell? p=some x∧W1.cell? q=some y∧W1.cell? r=some z :=
 ⟨Nat.le_trans h.1 hb.size,(hb.cell (by omega)).trans h.2.1,(hb.cell (by omega)).trans h.2.2.1,(hb.cell (by omega)).trans h.2.2.2⟩
theorem Au7 {w W W1:World} {p q r:Addr} {x y z:Value} {o:Option Nat} (hp:some p.block≠o) (hq:some q.block≠o) (hr:some r.block≠o)
 (h:w.heap.size≤W.heap.size∧W.cell? p=some x∧W.cell? q=some y∧W.cell? r=some z) (hb:W.grownBy W1 o):w.heap.size≤W1.heap.size∧W1.cell? p=some x∧W1.cell? q=some y∧W1.cell? r=some z :=
 ⟨Nat.le_trans h.1 hb.size,hb.cell h.2.1 hp,hb.cell h.2.2.1 hq,hb.cell h.2.2.2 hr⟩
theorem Az1 {w w1 W2:World} {base:Nat} {v v':Value} {ws:List (List UInt8)} {x:List UInt8} (hC:Below w.drew.heap.size w.drew w1) (hO:W2.ownsRow base 9 1 v' (ws.length+1) (ws.map str++[str x])) (hG:w1.grownBy W2 v.ownBlock) (hM:Zo w1 v v') :
 Al7 w base v (ws++[x]) (.returned v') W2 :=
 ⟨v',rfl,by simpa using hO,Da (Az (W:=w) (W1:=w1) ⟨hC.os,hC.tape,hC.output,hC.size,hC.block⟩ v.ownBlock) hG (.inl rfl),(Zo.refl w v).trans hC.size hM⟩
theorem Ar2 (n:Int) (w:World) (h0:0≤n) (h1:n≤1073741824) (ht:Tab w):Calls prog 67 #[.int .i64 n] w fun e w'=>e=.returned (.string ⟨(wd n).toArray⟩)∧Below w.heap.size w w':=by
 have:=Xr n.toNat w (by omega) ht
 rwa [show ((n.toNat:Nat):Int)=n by omega] at this
theorem Eb2 (a b B o base:Nat) (n:Int) (v:Value) (ws:List (List UInt8)) (w:World) (ht:KTab w) (bA:Blk w a 95 #[.pointer (some ⟨B,o,none⟩)]) (bB:Blk w b 96 #[.func (.func 52) #[] #[]])
 (cF:w.cell? ⟨B,o,none⟩=some (.int .i64 n)) (hrow:w.ownsRow base 9 1 v ws.length (ws.map str)) (hbase:base≤w.heap.size) (hl:ws.length≤10000) (m1:some a≠v.ownBlock) (m2:some b≠v.ownBlock) (m3:some B≠v.ownBlock) :
 Calls prog 63 #[v,.pointer (some ⟨b,0,none⟩),.pointer (some ⟨a,0,none⟩)] w (Al7 w base v (ws++[Aw n])):=by
 have l1:=bA.lt
 have l2:=bB.lt
 have c1:=bA.cell 0
 have c2:=bB.cell 0
 have l3:B<w.heap.size:=Decidable.byContradiction fun hn=>by
  have:w.heap[B]?=none:=by simp;omega
  simp [World.cell?,this] at cF
 have T3:=hid (fun (W W1:World) h hb=>Bc8 (w:=w) (W:=W) (W1:=W1) (p:=⟨b,0,none⟩) (q:=⟨a,0,none⟩) (r:=⟨B,o,none⟩) (x:=.func (.func 52) #[] #[]) (y:=.pointer (some ⟨B,o,none⟩)) (z:=.int .i64 n) l2 l1 l3 h hb)
 have G3:=hid (fun (W W1:World) h hb=>Au7 (w:=w) (W:=W) (W1:=W1) (o:=v.ownBlock) (p:=⟨b,0,none⟩) (q:=⟨a,0,none⟩) (r:=⟨B,o,none⟩) (x:=.func (.func 52) #[] #[]) (y:=.pointer (some ⟨B,o,none⟩)) (z:=.int .i64 n) m2 m1 m3 h hb)
 have S0:=hid (show w.heap.size≤w.drew.heap.size∧w.drew.cell? ⟨b,0,none⟩=some (.func (.func 52) #[] #[])∧w.drew.cell? ⟨a,0,none⟩=some (.pointer (some ⟨B,o,none⟩))∧w.drew.cell? ⟨B,o,none⟩=some (.int .i64 n) from ⟨Nat.le_refl _,c2,c1,cF⟩)
 have HT:=hid (show KTab w.drew from ht)
 have HR:=hid (show w.drew.ownsRow base 9 1 v ws.length (ws.map str) from hrow)
 have HL:=hid hl
 have HB:=hid hbase
 clear bA bB hrow l1 l2 l3 m1 m2 m3 c1 c2 cF ht hl hbase
 go_enter func63,ntmps63
 go_wp2_with fail
 refine tkS (S:=(fun w'=>w.heap.size≤w'.heap.size∧w'.cell? ⟨b,0,none⟩=some (.func (.func 52) #[] #[])∧w'.cell? ⟨a,0,none⟩=some (.pointer (some ⟨B,o,none⟩))∧w'.cell? ⟨B,o,none⟩=some (.int .i64 n))) (by (first|(exact S0.out)|(exact T3.out _ _ hHeld HC.out)|(exact T3.out _ _ hHeld (b_a _))|(exact G3.out w1 _ (by assumption) HG.out))) (fun hHeld=>?_)
 refine tkl [0,1,2,3,4,5,6] ?_
 iterate 7
  first
   | refine tW ?_|refine tN ?_
   | (refine rT (fun K hK=>?_)
      go_simp
      first
       | (go_at_call 52;(with_reducible refine (Rf n _ HT.out).mono ?_);rintro e w1 ⟨rfl,hb⟩;have HC:=hid hb;obtain ⟨v',W2,hrun,hown,hg,hm⟩:=Jo ((HR.out.kept (w':=w1) (row:=none) (Az hb none) (by cases v.ownBlock<;>simp))) (Aw n) (by have:=HL.out;omega) (Nat.le_trans HB.out hb.size);have HO:=hid hown;have HG:=hid hg;have HM:=hid hm;have HN:=hid hrun;clear hb hown hg hm hrun)
       | (skip)
      try go_wp2_with fail
      refine hK.out _ _ (by (first|(exact S0.out)|(exact T3.out _ _ hHeld HC.out)|(exact T3.out _ _ hHeld (b_a _))|(exact G3.out w1 _ (by assumption) HG.out))) (fun hHeld=>?_)
      clear hK K)
  try go_frame
 refine rdy1 7 (fun K hK=>?_)
 refine Gb rfl (.tmp 5) (.tmp 11) 22 rfl v _ v' W2 rfl rfl HN.out ?_
 refine hK.out _ _ (by (first|(exact S0.out)|(exact T3.out _ _ hHeld HC.out)|(exact T3.out _ _ hHeld (b_a _))|(exact G3.out w1 _ (by assumption) HG.out))) (fun hHeld=>?_)
 clear hK K
 try go_frame
 refine tkl [8] ?_
 iterate 1
  first
   | refine tW ?_|refine tN ?_
   | (refine rT (fun K hK=>?_)
      go_simp
      first
       | (go_at_call 52;(with_reducible refine (Rf n _ HT.out).mono ?_);rintro e w1 ⟨rfl,hb⟩;have HC:=hid hb;obtain ⟨v',W2,hrun,hown,hg,hm⟩:=Jo ((HR.out.kept (w':=w1) (row:=none) (Az hb none) (by cases v.ownBlock<;>simp))) (Aw n) (by have:=HL.out;omega) (Nat.le_trans HB.out hb.size);have HO:=hid hown;have HG:=hid hg;have HM:=hid hm;have HN:=hid hrun;clear hb hown hg hm hrun)
       | (skip)
      try go_wp2_with fail
      refine hK.out _ _ (by (first|(exact S0.out)|(exact T3.out _ _ hHeld HC.out)|(exact T3.out _ _ hHeld (b_a _))|(exact G3.out w1 _ (by assumption) HG.out))) (fun hHeld=>?_)
      clear hK K)
  try go_frame
 refine tkD ?_
 go_wp2_with fail
 go_ret
 exact Az1 HC.out HO.out HG.out HM.out
theorem Ek9 (a b B o base:Nat) (n:Int) (v:Value) (ws:List (List UInt8)) (w:World) (ht:WTab w) (bA:Blk w a 95 #[.pointer (some ⟨B,o,none⟩)]) (bB:Blk w b 96 #[.func (.func 65) #[] #[]])
 (cF:w.cell? ⟨B,o,none⟩=some (.int .i64 n)) (hrow:w.ownsRow base 9 1 v ws.length (ws.map str)) (hbase:base≤w.heap.size) (hl:ws.length≤10000) (m1:some a≠v.ownBlock) (m2:some b≠v.ownBlock) (m3:some B≠v.ownBlock) :
 Calls prog 63 #[v,.pointer (some ⟨b,0,none⟩),.pointer (some ⟨a,0,none⟩)] w (Al7 w base v (ws++[Nl n])):=by
 have l1:=bA.lt
 have l2:=bB.lt
 have c1:=bA.cell 0
 have c2:=bB.cell 0
 have l3:B<w.heap.size:=Decidable.byContradiction fun hn=>by
  have:w.heap[B]?=none:=by simp;omega
  simp [World.cell?,this] at cF
 have T3:=hid (fun (W W1:World) h hb=>Bc8 (w:=w) (W:=W) (W1:=W1) (p:=⟨b,0,none⟩) (q:=⟨a,0,none⟩) (r:=⟨B,o,none⟩) (x:=.func (.func 65) #[] #[]) (y:=.pointer (some ⟨B,o,none⟩)) (z:=.int .i64 n) l2 l1 l3 h hb)
 have G3:=hid (fun (W W1:World) h hb=>Au7 (w:=w) (W:=W) (W1:=W1) (o:=v.ownBlock) (p:=⟨b,0,none⟩) (q:=⟨a,0,none⟩) (r:=⟨B,o,none⟩) (x:=.func (.func 65) #[] #[]) (y:=.pointer (some ⟨B,o,none⟩)) (z:=.int .i64 n) m2 m1 m3 h hb)
 have S0:=hid (show w.heap.size≤w.drew.heap.size∧w.drew.cell? ⟨b,0,none⟩=some (.func (.func 65) #[] #[])∧w.drew.cell? ⟨a,0,none⟩=some (.pointer (some ⟨B,o,none⟩))∧w.drew.cell? ⟨B,o,none⟩=some (.int .i64 n) from ⟨Nat.le_refl _,c2,c1,cF⟩)
 have HT:=hid (show WTab w.drew from ht)
 have HR:=hid (show w.drew.ownsRow base 9 1 v ws.length (ws.map str) from hrow)
 have HL:=hid hl
 have HB:=hid hbase
 clear bA bB hrow l1 l2 l3 m1 m2 m3 c1 c2 cF ht hl hbase
 go_enter func63,ntmps63
 go_wp2_with fail
 refine tkS (S:=(fun w'=>w.heap.size≤w'.heap.size∧w'.cell? ⟨b,0,none⟩=some (.func (.func 65) #[] #[])∧w'.cell? ⟨a,0,none⟩=some (.pointer (some ⟨B,o,none⟩))∧w'.cell? ⟨B,o,none⟩=some (.int .i64 n))) (by (first|(exact S0.out)|(exact T3.out _ _ hHeld HC.out)|(exact T3.out _ _ hHeld (b_a _))|(exact G3.out w1 _ (by assumption) HG.out))) (fun hHeld=>?_)
 refine tkl [0,1,2,3,4,5,6] ?_
 iterate 7
  first
   | refine tW ?_|refine tN ?_
   | (refine rT (fun K hK=>?_)
      go_simp
      first
       | (go_at_call 65;(with_reducible refine (Am4 n _ HT.out).mono ?_);rintro e w1 ⟨rfl,hb⟩;have HC:=hid hb;obtain ⟨v',W2,hrun,hown,hg,hm⟩:=Jo ((HR.out.kept (w':=w1) (row:=none) (Az hb none) (by cases v.ownBlock<;>simp))) (Nl n) (by have:=HL.out;omega) (Nat.le_trans HB.out hb.size);have HO:=hid hown;have HG:=hid hg;have HM:=hid hm;have HN:=hid hrun;clear hb hown hg hm hrun)
       | (skip)
      try go_wp2_with fail
      refine hK.out _ _ (by (first|(exact S0.out)|(exact T3.out _ _ hHeld HC.out)|(exact T3.out _ _ hHeld (b_a _))|(exact G3.out w1 _ (by assumption) HG.out))) (fun hHeld=>?_)
      clear hK K)
  try go_frame
 refine rdy1 7 (fun K hK=>?_)
 refine Gb rfl (.tmp 5) (.tmp 11) 22 rfl v _ v' W2 rfl rfl HN.out ?_
 refine hK.out _ _ (by (first|(exact S0.out)|(exact T3.out _ _ hHeld HC.out)|(exact T3.out _ _ hHeld (b_a _))|(exact G3.out w1 _ (by assumption) HG.out))) (fun hHeld=>?_)
 clear hK K
 try go_frame
 refine tkl [8] ?_
 iterate 1
  first
   | refine tW ?_|refine tN ?_
   | (refine rT (fun K hK=>?_)
      go_simp
      first
       | (go_at_call 65;(with_reducible refine (Am4 n _ HT.out).mono ?_);rintro e w1 ⟨rfl,hb⟩;have HC:=hid hb;obtain ⟨v',W2,hrun,hown,hg,hm⟩:=Jo ((HR.out.kept (w':=w1) (row:=none) (Az hb none) (by cases v.ownBlock<;>simp))) (Nl n) (by have:=HL.out;omega) (Nat.le_trans HB.out hb.size);have HO:=hid hown;have HG:=hid hg;have HM:=hid hm;have HN:=hid hrun;clear hb hown hg hm hrun)
       | (skip)
      try go_wp2_with fail
      refine hK.out _ _ (by (first|(exact S0.out)|(exact T3.out _ _ hHeld HC.out)|(exact T3.out _ _ hHeld (b_a _))|(exact G3.out w1 _ (by assumption) HG.out))) (fun hHeld=>?_)
      clear hK K)
  try go_frame
 refine tkD ?_
 go_wp2_with fail
 go_ret
 exact Az1 HC.out HO.out HG.out HM.out
theorem El0 (a b B o base:Nat) (n:Int) (v:Value) (ws:List (List UInt8)) (w:World) (ht:Tab w) (h0:0≤n) (h1:n≤1073741824) (bA:Blk w a 95 #[.pointer (some ⟨B,o,none⟩)]) (bB:Blk w b 96 #[.func (.func 67) #[] #[]])
 (cF:w.cell? ⟨B,o,none⟩=some (.int .i64 n)) (hrow:w.ownsRow base 9 1 v ws.length (ws.map str)) (hbase:base≤w.heap.size) (hl:ws.length≤10000) (m1:some a≠v.ownBlock) (m2:some b≠v.ownBlock) (m3:some B≠v.ownBlock) :
 Calls prog 63 #[v,.pointer (some ⟨b,0,none⟩),.pointer (some ⟨a,0,none⟩)] w (Al7 w base v (ws++[wd n])):=by
 have l1:=bA.lt
 have l2:=bB.lt
 have c1:=bA.cell 0
 have c2:=bB.cell 0
 have l3:B<w.heap.size:=Decidable.byContradiction fun hn=>by
  have:w.heap[B]?=none:=by simp;omega
  simp [World.cell?,this] at cF
 have T3:=hid (fun (W W1:World) h hb=>Bc8 (w:=w) (W:=W) (W1:=W1) (p:=⟨b,0,none⟩) (q:=⟨a,0,none⟩) (r:=⟨B,o,none⟩) (x:=.func (.func 67) #[] #[]) (y:=.pointer (some ⟨B,o,none⟩)) (z:=.int .i64 n) l2 l1 l3 h hb)
 have G3:=hid (fun (W W1:World) h hb=>Au7 (w:=w) (W:=W) (W1:=W1) (o:=v.ownBlock) (p:=⟨b,0,none⟩) (q:=⟨a,0,none⟩) (r:=⟨B,o,none⟩) (x:=.func (.func 67) #[] #[]) (y:=.pointer (some ⟨B,o,none⟩)) (z:=.int .i64 n) m2 m1 m3 h hb)
 have S0:=hid (show w.heap.size≤w.drew.heap.size∧w.drew.cell? ⟨b,0,none⟩=some (.func (.func 67) #[] #[])∧w.drew.cell? ⟨a,0,none⟩=some (.pointer (some ⟨B,o,none⟩))∧w.drew.cell? ⟨B,o,none⟩=some (.int .i64 n) from ⟨Nat.le_refl _,c2,c1,cF⟩)
 have HT:=hid (show Tab w.drew from ht)
 have HR:=hid (show w.drew.ownsRow base 9 1 v ws.length (ws.map str) from hrow)
 have HL:=hid hl
 have HB:=hid hbase
 clear bA bB hrow l1 l2 l3 m1 m2 m3 c1 c2 cF ht hl hbase
 go_enter func63,ntmps63
 go_wp2_with fail
 refine tkS (S:=(fun w'=>w.heap.size≤w'.heap.size∧w'.cell? ⟨b,0,none⟩=some (.func (.func 67) #[] #[])∧w'.cell? ⟨a,0,none⟩=some (.pointer (some ⟨B,o,none⟩))∧w'.cell? ⟨B,o,none⟩=some (.int .i64 n))) (by (first|(exact S0.out)|(exact T3.out _ _ hHeld HC.out)|(exact T3.out _ _ hHeld (b_a _))|(exact G3.out w1 _ (by assumption) HG.out))) (fun hHeld=>?_)
 refine tkl [0,1,2,3,4,5,6] ?_
 iterate 7
  first
   | refine tW ?_|refine tN ?_
   | (refine rT (fun K hK=>?_)
      go_simp
      first
       | (go_at_call 67;(with_reducible refine (Ar2 n _ h0 h1 HT.out).mono ?_);rintro e w1 ⟨rfl,hb⟩;have HC:=hid hb;obtain ⟨v',W2,hrun,hown,hg,hm⟩:=Jo ((HR.out.kept (w':=w1) (row:=none) (Az hb none) (by cases v.ownBlock<;>simp))) (wd n) (by have:=HL.out;omega) (Nat.le_trans HB.out hb.size);have HO:=hid hown;have HG:=hid hg;have HM:=hid hm;have HN:=hid hrun;clear hb hown hg hm hrun)
       | (skip)
      try go_wp2_with fail
      refine hK.out _ _ (by (first|(exact S0.out)|(exact T3.out _ _ hHeld HC.out)|(exact T3.out _ _ hHeld (b_a _))|(exact G3.out w1 _ (by assumption) HG.out))) (fun hHeld=>?_)
      clear hK K)
  try go_frame
 refine rdy1 7 (fun K hK=>?_)
 refine Gb rfl (.tmp 5) (.tmp 11) 22 rfl v _ v' W2 rfl rfl HN.out ?_
 refine hK.out _ _ (by (first|(exact S0.out)|(exact T3.out _ _ hHeld HC.out)|(exact T3.out _ _ hHeld (b_a _))|(exact G3.out w1 _ (by assumption) HG.out))) (fun hHeld=>?_)
 clear hK K
 try go_frame
 refine tkl [8] ?_
 iterate 1
  first
   | refine tW ?_|refine tN ?_
   | (refine rT (fun K hK=>?_)
      go_simp
      first
       | (go_at_call 67;(with_reducible refine (Ar2 n _ h0 h1 HT.out).mono ?_);rintro e w1 ⟨rfl,hb⟩;have HC:=hid hb;obtain ⟨v',W2,hrun,hown,hg,hm⟩:=Jo ((HR.out.kept (w':=w1) (row:=none) (Az hb none) (by cases v.ownBlock<;>simp))) (wd n) (by have:=HL.out;omega) (Nat.le_trans HB.out hb.size);have HO:=hid hown;have HG:=hid hg;have HM:=hid hm;have HN:=hid hrun;clear hb hown hg hm hrun)
       | (skip)
      try go_wp2_with fail
      refine hK.out _ _ (by (first|(exact S0.out)|(exact T3.out _ _ hHeld HC.out)|(exact T3.out _ _ hHeld (b_a _))|(exact G3.out w1 _ (by assumption) HG.out))) (fun hHeld=>?_)
      clear hK K)
  try go_frame
 refine tkD ?_
 go_wp2_with fail
 go_ret
 exact Az1 HC.out HO.out HG.out HM.out
theorem Fk6 (a base:Nat) (x:List UInt8) (v:Value) (ws:List (List UInt8)) (w:World) (bA:Blk w a 9 #[str x])
 (hrow:w.ownsRow base 9 1 v ws.length (ws.map str)) (hbase:base≤w.heap.size) (hl:ws.length≤10000) :
 Calls prog 69 #[v,.pointer (some ⟨a,0,none⟩)] w (Al7 w base v (ws++[x])):=by
 have c1:=bA.cell 0
 unfold str at c1
 obtain ⟨v',W2,hrun,hown,hg,hm⟩:=Jo hrow x (by omega) hbase
 have HO:=hid hown
 have HG:=hid hg
 have HM:=hid hm
 have HN:=hid hrun
 clear hown hg hm hrun hrow bA
 go_enter func69,ntmps69
 go_wp2_with (at_builtin;refine Ic rfl (.tmp 4) (.tmp 6) 22 rfl v _ v' W2 rfl rfl HN.out ?_)
 go_ret
 exact Az1 (w:=w) (w1:=w) ⟨rfl,rfl,rfl,Nat.le_refl _,fun _ _=>rfl⟩ HO.out HG.out HM.out
end
section
open Go.RowKit Go
theorem Gq7 {w:World} {base n:Nat} {v:Value} {ys:List Value} (h:w.ownsRow base 9 1 v n ys) {k:Nat} (e:v.ownBlock=some k):base≤k:=(h.lt k e).1
theorem Bj8 {w wr:World} {base n:Nat} {v:Value} {ys:List Value} (h:w.ownsRow base 9 1 v n ys) (hb:base≤w.heap.size) (hg:w.grownBy wr v.ownBlock):Below base w wr :=
 (Below.refl base w).grown hg hb (fun k e=>Gq7 h e)
def Off (a:Option Addr) (xs:List Int) (v:Value):Prop:=xs=[]∨∀p,a=some p→some p.block≠v.ownBlock
theorem Off.moves {W:World} {a:Option Addr} {xs:List Int} {u v:Value} (h:Off a xs u) (hI:Ae W a xs) (hm:Zo W u v):Off a xs v:=by
 rcases h with h|h
 ·exact .inl h
 ·rcases hI.2 with h2|⟨b,off,rfl,hb,_⟩
  ·exact .inl h2
  ·refine .inr fun p hp=>?_
   obtain rfl:(⟨b,off,none⟩:Addr)=p:=Option.some.inj hp
   rcases hm with hm|⟨g,hm,hg⟩
   ·rw [hm];exact h _ rfl
   ·rw [hm];intro e;have:=Option.some.inj e;simp at this;omega
theorem Ae.grown {w w':World} {a:Option Addr} {xs:List Int} {v:Value} (h:Ae w a xs) (hg:w.grownBy w' v.ownBlock) (hne:Off a xs v):Ae w' a xs:=by
 obtain ⟨hl,h⟩:=h
 refine ⟨hl,?_⟩
 rcases h with h|⟨b,off,rfl,hb2,hc⟩
 ·exact .inl h
 rcases hne with hne|hne
 ·exact .inl hne
 ·exact .inr ⟨b,off,rfl,Nat.lt_of_lt_of_le hb2 hg.size,fun i hi=>hg.cell (hc i hi) (hne ⟨b,off,none⟩ rfl)⟩
theorem Dg3 {l:List Int} (h:areB l=true) (k:Nat) (hk:k<l.length):0≤l[k]∧l[k]≤1073741824:=by
 have:=List.all_eq_true.1 h l[k] (List.getElem_mem hk)
 simpa [okN] using this
theorem Fd0 (ws:List (List UInt8)) (l:List Int) (k:Nat) (h:k<l.length):((ws++(l.take k).map wd).map str)++[str (wd l[k])]=(ws++(l.take (k+1)).map wd).map str:=by
 rw [List.take_succ_eq_append_getElem h];simp only [List.map_append,List.map_cons,List.map_nil,List.append_assoc]
theorem El2 (a base B o:Nat) (g:Option Addr) (cap:Nat) (l:List Int) (v:Value) (ws:List (List UInt8)) (w:World) (hT:∀W',Below base w W'→Tab W') (bA:Blk w a 107 #[.pointer (some ⟨B,o,none⟩)])
 (cF:w.cell? ⟨B,o,none⟩=some (.slice g l.length cap)) (hI:Ae w g l) (hne:Off g l v) (hok:areB l=true) (hrow:w.ownsRow base 9 1 v ws.length (ws.map str)) (hbase:base≤w.heap.size) (hl:ws.length+l.length≤9999) :
 Calls prog 76 #[v,.pointer (some ⟨a,0,none⟩)] w (Al7 w base v (ws++l.map wd)):=by
 have c1:=bA.cell 0
 have hlen:=hI.len
 have HT:=hid hT
 have HI:=hid hI
 have HNE:=hid hne
 have HOK:=hid hok
 have HR:=hid hrow
 have HB:=hid hbase
 have HL:=hid hl
 clear hT bA hI hne hok hrow hbase hl
 go_enter func76,ntmps76
 go_wp2_with fail
 go_loopw [0,10] (fun u i wr=>∃k:Nat,k≤l.length∧i=.int .i64 k∧wr.ownsRow base 9 1 u (ws.length+k) ((ws++(l.take k).map wd).map str)∧w.grownBy wr v.ownBlock∧Zo w v u) (fun _ i _=>l.length-(intOf i).toNat)
 case atStart=>exact ⟨0,Nat.zero_le _,rfl,by simpa using HR.out,Xi _ _,Zo.refl _ _⟩
 case round =>
  clear c1 cF
  obtain ⟨k,hk,rfl,hown,hgr,hmv⟩:=hrel
  have HOW:=hid hown
  have HGR:=hid hgr
  have HMV:=hid hmv
  clear hown hgr hmv
  by_cases hlt:k<l.length
  ·have hI2:=HI.grown HGR.out HNE.out
   obtain ⟨b,off,rfl,hb,hc⟩:=hI2.at_ hlt
   have hcell:=hc k hlt
   clear hI2 hc hb
   obtain ⟨n0,n1⟩:=Dg3 HOK.out k hlt
   have HW:=hid (Fd0 ws l k hlt)
   generalize l[k]=n at *
   have ht:=hid (HT.out _ (Bj8 HR.out HB.out HGR.out))
   have hz:=hid (Nat.le_trans HB.out HGR.size)
   go_wp2_with fail
   refine (Ar2 n _ n0 n1 ht.out).mono ?_
   rintro e w1 ⟨rfl,hb⟩
   obtain ⟨v',W2,hrun,hown,hg,hm⟩:=Jo (Ba3 HOW.out hb) (wd n) (by have:=HL.out;omega) (Nat.le_trans hz.out hb.size)
   have HO:=hid hown
   have HG:=hid (Da HGR.out (Da (Az hb _) hg (.inl rfl)) HMV.out)
   have HM:=hid (HMV.trans HGR.size (((Zo.refl _ _).trans hb.size hm)))
   have HN:=hid hrun
   clear hown hg hm hrun hb
   go_wp2_with (at_builtin;refine Ic rfl (.tmp 14) (.tmp 17) 22 rfl _ _ v' W2 rfl rfl HN.out ?_)
   go_roundw
   case rel=>exact ⟨k+1,by omega,by go_num,by rw [←HW.out];exact HO.out,HG.out,HM.out⟩
   case measure=>simp [intOf];omega
  ·have hke:k=l.length:=by omega
   subst hke
   have HE:=hid (show (l.take l.length).map wd=l.map wd by rw [List.take_of_length_le lr0])
   go_wp2_with fail
   go_ret
   refine ⟨_,rfl,?_,HGR.out,HMV.out⟩
   have h:=HOW.out
   rw [HE.out] at h
   rw [show (ws++l.map wd).length=ws.length+l.length by simp]
   exact h
end
section
open Go.RowKit Go
def Tabs (w:World):Prop:=KTab w∧WTab w∧Tab w
theorem Tabs.below {w w':World} {B:Nat} (h:Tabs w) (hb:Below B w w') (hB:w.heap.size≤B):Tabs w' :=
 ⟨h.1.below (hb.mono hB),h.2.1.below (hb.mono hB),Joins.var_stays (g:=5) (by kernel_rfl) h.2.2 hb hB⟩
def fitP (c:Cm):Pt→Bool
 | .one .num f=>okN (getF c f)
 | .one _ _=>true
 | .word _=>true
 | .nums g=>areB (getL c g)&&decide ((getL c g).length≤16)
theorem Fp3 {c:Cm} (h:mayB c=true):∀p∈Be c.kind,fitP c p=true:=by
 obtain ⟨hk,h2,h3,h4,h5,h6,h7,h8,h9,-,l1,l2⟩:=Oa h
 unfold Be
 repeat' split
 all_goals
  intro p hp
  simp only [List.mem_cons,List.not_mem_nil,or_false] at hp
 all_goals
  first
   | (subst hp;simp [fitP,getF, *];done)
   | (rcases hp with rfl|rfl<;>simp [fitP,getF, *];done)
   | (rcases hp with rfl|rfl|rfl<;>simp [fitP,getF, *];done)
   | (rcases hp with rfl|rfl|rfl|rfl|rfl|rfl|rfl|rfl|rfl<;>simp [fitP,getF,getL, *];done)
theorem Hd5 {c:Cm} {p:Pt} (h:fitP c p=true):(putP c p).length≤16:=by
 cases p with
 | one k f=>simp [putP]
 | word x=>simp [putP]
 | nums g=>simp [fitP] at h;simp [putP];exact h.2
theorem Er0:Enters prog 63:=enters_of func63 (by kernel_rfl) rfl
theorem Ec6:Enters prog 69:=enters_of func69 (by kernel_rfl) rfl
theorem Ec8:Enters prog 76:=enters_of func76 (by kernel_rfl) rfl
theorem De5 {W:World} {B:Nat} {c:Cm} {ga wa:Option Addr} {gc wc:Nat} (hB:Blk W B 25 (cC c ga gc wa wc)) (f:Fd):W.cell? ⟨B,f.off,none⟩=some (.int .i64 (getF c f)):=by
 cases f<;>exact hB.cell _
theorem Fx3 {W:World} {B:Nat} {c:Cm} {ga wa:Option Addr} {gc wc:Nat} (hB:Blk W B 25 (cC c ga gc wa wc)) (g:Bool):W.cell? ⟨B,An3 g,none⟩=some (if g then .slice ga c.gives.length gc else .slice wa c.wants.length wc):=by
 cases g<;>exact hB.cell _
theorem Ds3 {W0 W:World} {lo B base:Nat} {pv tv v:Value} {p:Pt} {c:Cm} {ga wa:Option Addr} {gc wc:Nat} {ws:List (List UInt8)} (hp:Nu W0 lo B pv tv p) (hs:Stay lo W0 W) (hfar:∀q,lo≤q→q<W0.heap.size→some q≠v.ownBlock)
 (hB:Blk W B 25 (cC c ga gc wa wc)) (hBo:some B≠v.ownBlock) (hT:∀W',Below base W W'→Tabs W') (hfit:fitP c p=true) (hG:Ae W ga c.gives) (hGo:Off ga c.gives v) (hW:Ae W wa c.wants) (hWo:Off wa c.wants v)
 (hrow:W.ownsRow base 9 1 v ws.length (ws.map str)) (hbase:base≤W.heap.size) (hl:ws.length≤9000) :
 ∃F fs,pv=.func (.func F) #[] fs∧Enters prog F∧Calls prog F (#[v]++fs) W (Al7 W base v (ws++putP c p)):=by
 have hT0:=hT W (Below.refl _ _)
 cases p with
 | one k f =>
   obtain ⟨a,b,q,h1,h2,h3,e1,e2,b1,b2,b3⟩:=hp
   refine ⟨_,_,e1,Er0,?_⟩
   have m1:=hfar a h1 b1.lt
   have m2:=hfar b h2 b2.lt
   have hc:=De5 hB f
   cases k with
   | name=>exact Eb2 a b B f.off base (getF c f) v ws W hT0.1 (b1.stay hs h1) (b2.stay hs h2) hc hrow hbase (by omega) m1 m2 hBo
   | way=>exact Ek9 a b B f.off base (getF c f) v ws W hT0.2.1 (b1.stay hs h1) (b2.stay hs h2) hc hrow hbase (by omega) m1 m2 hBo
   | num =>
     simp only [fitP,okN,Bool.and_eq_true,decide_eq_true_eq] at hfit
     exact El0 a b B f.off base (getF c f) v ws W hT0.2.2 hfit.1 hfit.2 (b1.stay hs h1) (b2.stay hs h2) hc hrow hbase (by omega) m1 m2 hBo
 | word x =>
   obtain ⟨a,h1,e1,e2,b1⟩:=hp
   exact ⟨_,_,e1,Ec6,Fk6 a base x v ws W (b1.stay hs h1) hrow hbase (by omega)⟩
 | nums g =>
   obtain ⟨a,h1,e1,e2,b1⟩:=hp
   refine ⟨_,_,e1,Ec8,?_⟩
   simp only [fitP,Bool.and_eq_true,decide_eq_true_eq] at hfit
   have hc:=Fx3 hB g
   cases g with
   | true=>exact El2 a base B _ ga gc c.gives v ws W (fun W' hb=>(hT W' hb).2.2) (b1.stay hs h1) hc hG hGo hfit.1 hrow hbase (by have:=hfit.2;simp only [getL,if_true] at this;omega)
   | false=>exact El2 a base B _ wa wc c.wants v ws W (fun W' hb=>(hT W' hb).2.2) (b1.stay hs h1) hc hW hWo hfit.1 hrow hbase (by have:=hfit.2;simp only [getL] at this;simp at this;omega)
end
section
theorem Fc7 {n:Int} (h:okN n=true):(wd n).length≤10:=by
 apply Decidable.byContradiction;intro hn
 have:=Cu1 (l:=wd n) (by omega)
 rw [(Rm h).1] at this;cases this
theorem Dv4 {l:List UInt8} (h:dig l=true) (h0:l≠[]):plain l=true:=by
 simp only [plain,Bool.and_eq_true,Bool.not_eq_true']
 refine ⟨by cases l with|nil=>exact absurd rfl h0|cons a b=>rfl,?_⟩
 simp only [dig,List.all_eq_true] at h
 rw [List.all_eq_true]
 intro x hx
 have:=(Oj x).1 (h x hx)
 simp only [bne_iff_ne,ne_eq]
 intro e;rw [e] at this;simp at this
theorem Ar4 (n:Int):plain (wd n)=true:=by
 unfold wd
 obtain ⟨a,-,b,-⟩:=Ol n.toNat
 exact Dv4 a b
theorem Fv9 {n:Int} (h:Cq n=true):plain (Nl n)=true:=by
 simp only [Cq,Bool.and_eq_true,decide_eq_true_eq] at h
 have:n=0∨n=1∨n=2∨n=3:=by omega
 rcases this with rfl|rfl|rfl|rfl<;>decide
theorem lname_plain {n:Int} (h:Co n=true):plain (Aw n)=true:=by
 rcases Pj h with rfl|rfl|rfl|rfl|rfl|rfl|rfl|rfl|rfl|rfl<;>decide
def Uj (x:List UInt8):Bool:=plain x&&decide (x.length≤10)
theorem Ar3 {n:Int} (h:okN n=true):Uj (wd n)=true:=by simp [Uj,Ar4,Fc7 h]
theorem Cy8 {l:List Int} (h:areB l=true):∀x∈l.map wd,Uj x=true:=by
 intro x hx
 obtain ⟨n,hn,rfl⟩:=List.mem_map.1 hx
 exact Ar3 (List.all_eq_true.1 h n hn)
theorem Cl6 {c:Cm} (h:mayB c=true):∀x∈wordsOf c,Uj x=true:=by
 obtain ⟨hk,h2,h3,h4,h5,h6,h7,h8,h9,-,l1,l2⟩:=Oa h
 have hn:Uj (Aw c.kind)=true:=by
  have:=Ac1 c.kind
  simp [Uj,lname_plain hk];omega
 have hw:Uj (Nl c.dir)=true:=by
  have:=Eu5 c.dir
  simp [Uj,Fv9 h2];omega
 have i3:=Ar3 h3
 have i4:=Ar3 h4
 have i5:=Ar3 h5
 have i6:=Ar3 h6
 have i7:=Ar3 h7
 have i8:=Cy8 h8
 have i9:=Cy8 h9
 have k1:Uj sIn=true:=by decide
 have k2:Uj As0=true:=by decide
 have k3:Uj sTo=true:=by decide
 have k4:Uj Lg=true:=by decide
 have k5:Uj Dc=true:=by decide
 have k6:Uj sFor=true:=by decide
 have hp:∀p∈Be c.kind,∀x∈putP c p,Uj x=true:=by
  unfold Be
  repeat' split
  all_goals
   intro p hp x hx
   simp only [List.mem_cons,List.not_mem_nil,or_false] at hp
  all_goals
   first
    | (subst hp;simp only [putP,Kd.word,getF,List.mem_singleton] at hx;subst hx;assumption)
    | (rcases hp with rfl|rfl<;>simp only [putP,Kd.word,getF,List.mem_singleton] at hx<;>subst hx<;>assumption)
    | (rcases hp with rfl|rfl|rfl<;>simp only [putP,Kd.word,getF,List.mem_singleton] at hx<;>subst hx<;>assumption)
    | (rcases hp with rfl|rfl|rfl|rfl|rfl|rfl|rfl|rfl|rfl<;>first|exact i8 x hx|exact i9 x hx|(simp only [putP,Kd.word,getF,List.mem_singleton] at hx;subst hx;assumption))
 intro x hx
 rcases List.mem_cons.1 hx with rfl|hx
 ·exact hn
 ·obtain ⟨p,hp1,hp2⟩:=List.mem_flatMap.1 hx
  exact hp p hp1 x hp2
theorem Aj1 {c:Cm} (h:mayB c=true):∀x∈wordsOf c,plain x=true:=fun x hx=>by
 have:=Cl6 h x hx
 simp only [Uj,Bool.and_eq_true] at this;exact this.1
def putK (c:Cm) (pts:List Pt) (k:Nat):List (List UInt8):=Aw c.kind :: (pts.take k).flatMap (putP c)
theorem Ga6 (c:Cm) (pts:List Pt) (k:Nat) (h:k<pts.length):putK c pts (k+1)=putK c pts k++putP c pts[k]:=by
 unfold putK
 rw [List.take_succ_eq_append_getElem h];simp only [List.flatMap_append,List.flatMap_cons,List.flatMap_nil,List.append_nil,List.cons_append]
theorem Ek4 (c:Cm):putK c (Be c.kind) (Be c.kind).length=wordsOf c:=by unfold putK wordsOf;rw [List.take_of_length_le lr0]
theorem Cg7 (k:Int):(Be k).length≤9:=by
 unfold Be
 repeat' split
 all_goals simp
theorem lflat_len {c:Cm}:∀{pts:List Pt},(∀p∈pts,fitP c p=true)→(pts.flatMap (putP c)).length≤16*pts.length
 | [],_=>by simp
 | p :: r,h=>by
   have h1:=Hd5 (h p (by simp))
   have h2:=lflat_len (fun q hq=>h q (List.mem_cons_of_mem _ hq))
   rw [List.flatMap_cons,List.length_append,List.length_cons];omega
theorem Ek3 {c:Cm} (h:mayB c=true) (k:Nat):(putK c (Be c.kind) k).length≤145:=by
 have h1:=lflat_len (c:=c) (pts:=(Be c.kind).take k) (fun p hp=>Fp3 h p (List.mem_of_mem_take hp))
 have h2:=Cg7 c.kind
 have h3:((Be c.kind).take k).length≤(Be c.kind).length:=List.length_take_le' _ _
 unfold putK;rw [List.length_cons];omega
theorem Cm4:∀{xs:List (List UInt8)},(∀x∈xs,Uj x=true)→Jd xs≤11*xs.length
 | [],_=>by simp [Jd]
 | x :: r,h=>by
   have h1:=h x (by simp)
   have h2:=Cm4 (fun y hy=>h y (List.mem_cons_of_mem _ hy))
   simp only [Uj,Bool.and_eq_true,decide_eq_true_eq] at h1
   simp only [Jd,List.map_cons,List.sum_cons,List.length_cons] at h2 ⊢
   omega
theorem Xo {c:Cm} (h:mayB c=true):Jd (wordsOf c)≤1595∧(wordsOf c).length≤145:=by
 have h1:=Cm4 (Cl6 h)
 have h2:=Ek3 h (Be c.kind).length
 rw [Ek4] at h2
 omega
end
end Go.Proofs.YtaeclpjofclbeaaDoor
