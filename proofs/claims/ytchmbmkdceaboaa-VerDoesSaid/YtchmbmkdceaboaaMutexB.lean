/- mutex: the code's with: the locks ahead, the other one, the locks behind. -/
import Derived.Test.YtchmbmkdceaboaaMutexA
namespace Go.Proofs.Ytchmbmkdceaboaa
open Go.ChangeShapes Go.WideShapes Go.ChangeAt Go.RowKit
set_option linter.unusedVariables false
open Go.RowKit Go
def behA (b o k cap:Nat):Addr:=if cap=k+1 then ⟨b,o,none⟩ else ⟨b,o+(k+1),none⟩
theorem cut_ahead (b o k n cap:Nat) (hk:k<n) (hc:n≤cap) (W:World):(Instr.slice 22 (.slice (some ⟨b,o,none⟩) n cap) none (some (.int .i64 (k:Int))) (some (.int .i64 (k:Int)))).run Try.prog W=.ok (.slice (some ⟨b,o,none⟩) k k) W:=by
 obtain ⟨i0,hi0,hz0,hz1,hz2⟩:=info_parts Fj
 simp [Instr.slice,run_underlying Try.underlying22,Instr.sliceBounds,run_sliceBound,sizeOf,typeInfo,hi0,show (k:Int)≤(cap:Int) by omega]
 intro;simp [Addr.add]
theorem cut_behind (b o k n cap:Nat) (hk:k<n) (hc:n≤cap) (W:World):(Instr.slice 22 (.slice (some ⟨b,o,none⟩) n cap) (some (.int .i64 ((k:Int)+1))) none none).run Try.prog W=.ok (.slice (some (behA b o k cap)) (n-(k+1)) (cap-(k+1))) W:=by
 obtain ⟨i0,hi0,hz0,hz1,hz2⟩:=info_parts Fj
 have e:((k:Int)+1).toNat=k+1:=by omega
 simp [Instr.slice,run_underlying Try.underlying22,Instr.sliceBounds,run_sliceBound,sizeOf,typeInfo,hi0,hz1,e,show (0:Int)≤(k:Int)+1 by omega,show (k:Int)+1≤(n:Int) by omega,behA]
 split<;>simp [Addr.add]
end Go.Proofs.Ytchmbmkdceaboaa
