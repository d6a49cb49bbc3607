/- mutex: the code's Take, Give, Held. -/
import Derived.Test.YtchmbmkdceaboaaMutexB
namespace Go.Proofs.Ytchmbmkdceaboaa
open Go.ChangeShapes Go.WideShapes Go.ChangeAt Go.RowKit
set_option linter.unusedVariables false
open Go.RowKit Go
def Dx5 (a:Option Addr) (cap:Nat) (l:List Int) (ok:Bool) (w:World) (e:Ending) (w':World):Prop :=
 ∃g gc,e=.returned (.tuple #[.slice g l.length gc,.bool ok])∧LkAt w' g gc l∧((g=a∧gc=cap∧ok=false)∨NewA w.heap.size g)∧Below w.heap.size w w'
def Ee0 (l:List Int) (w:World) (e:Ending) (w':World):Prop :=
 ∃g gc,e=.returned (.slice g l.length gc)∧LkAt w' g gc l∧NewA w.heap.size g∧(g=none∨∃q cur,g=some ⟨q,0,none⟩∧Blk w' q 3 cur∧l.length≤cur.size)∧Below w.heap.size w w'
theorem Ee0.of {l:List Int} {w w':World} {v:Value} (h:RowI w.heap.size w' v l) (hb:Below w.heap.size w w'):Ee0 l w (.returned v) w':=by
 obtain ⟨g,gc,rfl,hx,hn,hr⟩:=h.own
 exact ⟨g,gc,rfl,hx,hn,hr,hb⟩
end Go.Proofs.Ytchmbmkdceaboaa
