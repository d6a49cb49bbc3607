/- desc.May, desc.Right. -/
import Derived.Test.YtnhkojpbbdaedaaGreatGDescF
import Derived.Test.YtnhkojpbbdaedaaGreatGDescN
namespace Go.Proofs.YtnhkojpbbdaedaaGreat
open Go.ChangeShapes Go.WideShapes Go.ChangeAt Go.RowKit
set_option linter.unusedVariables false
open Go.RowKit
theorem Ul {n:Int} (h0:-9223372036854775808≤n) (h1:n≤9223372036854775807):(Lit.int .i64 n).wf=true:=by
 simp [Lit.wf,IntKind.min,IntKind.max,IntKind.signed,IntKind.bits];omega
theorem Ci4 {d:Ds} (hx:ofB d.items d.exits.length=true) (hl:d.exits.length≤9223372036854775807):∀p∈Bu d.items,0≤p.kind∧p.kind<3∧PlWf p:=by
 intro p hp
 obtain ⟨r,hr,rfl⟩:=List.mem_map.1 hp
 have:=(Ux _ _).1 hx r hr
 exact ⟨by simp,by simp,Ul (by simp) (by simp),Ul (by simp only;omega) (by simp only;omega)⟩
end Go.Proofs.YtnhkojpbbdaedaaGreat
