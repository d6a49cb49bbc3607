/- plan's answers, and the document's own, over worlds of one shape. -/
import Derived.Test.YtnhkojpbbdaedaaHoldS
import Derived.Test.YtnhkojpbbdaedaaPlanC
namespace Go.Proofs.Ytnhkojpbbdaedaa
open Go.ChangeShapes Go.WideShapes Go.ChangeAt Go.RowKit Go.Proofs.Try
set_option linter.unusedVariables false
open Go.RowKit
section
variable {x y:Wd} {p:Wp} {W:World}
theorem worldQ_as (hs:Like x y) {z:Wd} {e:Ending} {w':World} (h:WorldQ W y p.d z e w'):WorldQ W x p.d z e w':=by
 obtain ⟨q,rfl,h2,h3⟩:=h
 exact ⟨q,by rw [hs.shape.val],h2,h3⟩
theorem pdo_as (hs:Like x y) {z:Wd} (c:Wr) (h:Ab W p y) (hf:FewW y) (hm:mayX y c=true) (hz:doX y c=z):Calls prog 17 #[.agg (wC x p),.agg #[.int .i64 c.kind,.int .i64 c.id,.int .i64 c.num,.int .i64 c.pl.kind,.int .i64 c.pl.id]] W fun e w'=>WorldQ W x p.d z e w':=by
 subst hz
 have h2:=pdo_any y p c W h hf hm
 rw [hs.shape.val] at h2
 exact h2.mono fun e w' h3=>worldQ_as hs h3
theorem pall_as (hs:Like x y) {z:Wd} {la:Option Addr} {lc n:Nat} {l:List Wr} (hn:l.length=n) (h:Ab W p y) (hf:FewW y) (hl:WrsAt W la l) (hm:∀c∈l,mayX y c=true) (hz:allP y l=z):Calls prog 15 #[.agg (wC x p),.slice la n lc] W fun e w'=>WorldQ W x p.d z e w':=by
 subst hn hz
 have h2:=pall_any y p la lc l W h hf hl hm
 rw [hs.shape.val] at h2
 exact h2.mono fun e w' h3=>worldQ_as hs h3
theorem pset_as (hs:Like x y) {z:Wd} {la:Option Addr} {lc n:Nat} {l:List Sl} (hn:l.length=n) (h:Ab W p y) (hf:FewW y) (hl:PlansAt W la l) (hm:∀s∈l,MayS y s) (hz:setW y l=z):Calls prog 19 #[.agg (wC x p),.slice la n lc] W fun e w'=>WorldQ W x p.d z e w':=by
 subst hn hz
 have h2:=pset_any y p la lc l W h hf hl hm
 rw [hs.shape.val] at h2
 exact h2.mono fun e w' h3=>worldQ_as hs h3
theorem own_q {z:Wd} {e:Ending} {w':World} (hd:Ce W p.d z.d) (h:∃q:Wp,e=.returned (.agg (wC x q))∧Cc W.heap.size w' p.d q z∧Below W.heap.size W w'):WorldQ W x p.d z e w':=by
 obtain ⟨q,rfl,h2,h3⟩:=h
 exact ⟨q,rfl,h2.pnew hd h3,h3⟩
theorem qdo_as (hs:Like x y) {z:Wd} (c:Wr) (h:Ab W p y) (hf:FewW y) (hm:mayX y c=true) (hz:doX y c=z):Calls prog 18 #[.agg (wC x p),.agg #[.int .i64 c.kind,.int .i64 c.id,.int .i64 c.num,.int .i64 c.pl.kind,.int .i64 c.pl.id]] W fun e w'=>WorldQ W x p.d z e w':=by
 subst hz
 have h2:=rpdo_any y p c W h hf hm
 have hd:Ce W p.d (doX y c).d:=by rw [(Hm5 y c).d];exact h.d
 rw [hs.shape.val] at h2
 exact h2.mono fun e w' ⟨q,h3,h4,h5⟩=>own_q hd ⟨q,h3.trans (by rw [hs.shape.val]),h4,h5⟩
theorem qall_as (hs:Like x y) {z:Wd} {la:Option Addr} {lc n:Nat} {l:List Wr} (hn:l.length=n) (h:Ab W p y) (hf:FewW y) (hl:WrsAt W la l) (hm:∀c∈l,mayX y c=true) (hz:allP y l=z):Calls prog 16 #[.agg (wC x p),.slice la n lc] W fun e w'=>WorldQ W x p.d z e w':=by
 subst hn hz
 have h2:=rpall_any y p la lc l W h hf hl hm
 have hd:Ce W p.d (allP y l).d:=by rw [(Gw8 l y).d];exact h.d
 rw [hs.shape.val] at h2
 exact h2.mono fun e w' ⟨q,h3,h4,h5⟩=>own_q hd ⟨q,h3.trans (by rw [hs.shape.val]),h4,h5⟩
theorem qset_as (hs:Like x y) {z:Wd} {la:Option Addr} {lc n:Nat} {l:List Sl} (hn:l.length=n) (h:Ab W p y) (hf:FewW y) (hl:PlansAt W la l) (hm:∀s∈l,MayS y s) (hz:setW y l=z):Calls prog 20 #[.agg (wC x p),.slice la n lc] W fun e w'=>WorldQ W x p.d z e w':=by
 subst hn hz
 have h2:=rpset_any y p la lc l W h hf hl hm
 have hd:Ce W p.d (setW y l).d:=by rw [(setW_like l y).d];exact h.d
 rw [hs.shape.val] at h2
 exact h2.mono fun e w' ⟨q,h3,h4,h5⟩=>own_q hd ⟨q,h3.trans (by rw [hs.shape.val]),h4,h5⟩
theorem pfrom_as {q:Wp} {y z:Wd} {L:List Wr} (hx:Like x z) (hy:Like x y) (h:Ab W p z) (h2:Ab W q y) (n1:x.at_.length≤1000) (n2:x.coins.length≤1000) (n3:x.wher.length≤1000) (hL:Ao3 z y=L) :
 Calls prog 11 #[.agg (wC x p),.agg (wC x q)] W fun e w'=>FromQ W L e w':=by
 subst hL
 have h3:=pfrom_any z y p q W h h2 (hx.symm.trans hy) (by rw [hx.al];exact n1) (by rw [hx.cl];exact n2) (by rw [hx.wl];exact n3)
 rw [hx.shape.val,hy.shape.val] at h3
 exact h3
theorem qfrom_as {q:Wp} {y z:Wd} {L:List Wr} (hx:Like x z) (hy:Like x y) (h:Ab W p z) (h2:Ab W q y) (n1:x.at_.length≤1000) (n2:x.coins.length≤1000) (n3:x.wher.length≤1000) (hL:Ao3 z y=L) :
 Calls prog 12 #[.agg (wC x p),.agg (wC x q)] W fun e w'=>FromQ W L e w':=by
 subst hL
 have hl:=hx.symm.trans hy
 have h3:=rfrom_any z y p q W h h2 hl.al hl.cl hl.wl (by rw [hx.al];exact n1) (by rw [hx.cl];exact n2) (by rw [hx.wl];exact n3)
 rw [hx.shape.val,hy.shape.val] at h3
 exact h3.mono fun e w' ⟨a,c,h4,h5,h6⟩=>⟨a,c,h4,h5.wrc,h6⟩
theorem wsame_as {L M:List Wr} {n m:Nat} {a b:Option Addr} {ca cb:Nat} {r:Bool} (hn:L.length=n) (hm:M.length=m) (h1:WrsAt W a L) (h2:WrsAt W b M) (hr:decide (L=M)=r):Calls prog 10 #[.slice a n ca,.slice b m cb] W fun e w'=>e=.returned (.bool r)∧Below W.heap.size W w':=by
 subst hn hm hr
 exact wrsame_any a b ca cb L M W h1 h2
theorem psame_as {q:Wp} {y z:Wd} {r:Bool} (hy:Like x y) (hz:Like x z) (h1:Ab W p y) (h2:Ab W q z) (hr:decide (y=z)=r):Calls prog 14 #[.agg (wC x p),.agg (wC x q)] W fun e w'=>e=.returned (.bool r)∧Below W.heap.size W w':=by
 subst hr
 exact Ab5 hy.shape hz.shape p q W h1 h2
end
end Go.Proofs.Ytnhkojpbbdaedaa
