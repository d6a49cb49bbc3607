/- A list of integers that was handed in, and its capacity; the contracts as the laws take them. -/
import Derived.Test.YtchmbmkdceaboaaSlices
import Derived.Test.YtchmbmkdceaboaaMutexR
import Derived.Test.YtchmbmkdceaboaaMutexAw
namespace Go.Proofs.Ytchmbmkdceaboaa
open Go.ChangeShapes Go.WideShapes Go.ChangeAt Go.RowKit
set_option linter.unusedVariables false
open Go.RowKit Go.ChangeShapes Go.WideShapes Go.ChangeAt Go.Deep
def InL (l:List Int):Prop:=∀x∈l,x≤9223372036854775807
theorem Xg {l:List Int} (h:mayL l=true) (hi:InL l):Yj l:=by
 simp [mayL] at h
 exact ⟨h.2,fun x hx=>⟨h.1 x hx,hi x hx⟩⟩
theorem read_lks {H:Type} {enc:TypeId × Value→H} {W:World} {base:Nat} {v:Value} {d:DataW H} {ps:List MemPlace}
 (hv:Value.okWide Try.prog W .any base 22 v) (h:DataW.Trod enc Try.prog W 0 (fun _=>true) true 22 v d ps) :
 ∃(a:Option Addr) (cap:Nat) (xs:List Int),v=.slice a xs.length cap∧LkAt W a cap xs∧InL xs:=by
 obtain ⟨a0,len,cap,rfl⟩:=okWide_slice Try.underlying22 hv
 obtain ⟨fuel,hf⟩:=h
 rcases open_ints Try.underlying22 Try.underlying3 (by kernel_rfl) hf with ⟨hcs,hx⟩|⟨a,len',cap',zs,hcs,_,hl,hm,hz,hx,hcell,hwz⟩
 ·simp [Value.cells] at hcs
  obtain ⟨rfl,rfl,rfl⟩:=hcs
  exact ⟨none,0,[],rfl,⟨Ae.nil _ _,by simp,by simp⟩,by simp [InL]⟩
 ·simp [Value.cells] at hcs
  obtain ⟨rfl,rfl,rfl⟩:=hcs
  simp only [if_true] at hz
  have hlen:(zs.take len).length=len:=by simp;omega
  refine ⟨some a,cap,zs.take len,by rw [hlen],⟨⟨by omega,?_⟩,by omega,hm⟩,fun n hn=>?_⟩
  ·by_cases h0:len=0
   ·left;subst h0;simp
   ·right
    obtain ⟨b,off,spot⟩:=a
    have h1:=hcell 0 (by omega)
    have hspot:spot=none:=by simpa [Addr.add] using World.cell?_spot h1
    subst hspot
    refine ⟨b,off,rfl,?_,fun i hi=>?_⟩
    ·apply Decidable.byContradiction;intro hb
     have e2:W.heap[b]?=none:=by simp;omega
     simp [World.cell?,Addr.add,e2] at h1
    ·have:=hcell i (by omega)
     rw [List.getElem_take]
     have ea:((⟨b,off,none⟩:Addr).add i)=⟨b,off+i,none⟩:=by
      by_cases hi0:i=0<;>simp [Addr.add,hi0]
     rw [ea] at this
     simpa [List.getD,List.getElem?_eq_getElem (show i<zs.length by omega)] using this
  ·have h:=hwz n (List.mem_of_mem_take hn)
   simp [Lit.wf,IntKind.min,IntKind.max,IntKind.signed,IntKind.bits] at h
   omega
theorem LkAt.cell {W:World} {b o cap k:Nat} {l:List Int} (h:LkAt W (some ⟨b,o,none⟩) cap l) (hk:k<l.length):W.cell? ⟨b,o+k,none⟩=some (.int .i64 l[k]):=by
 obtain ⟨b2,o2,e,_,hc⟩:=h.1.at_ hk
 cases e
 exact hc k hk
def Hn1 (n:Nat) (a:Option Addr) (cap:Nat) (l:List Int) (ok:Bool) (w:World) (e:Ending) (w':World):Prop :=
 ∃g gc,e=.returned (.tuple #[.slice g n gc,.bool ok])∧LkAt w' g gc l∧((g=a∧gc=cap∧ok=false)∨NewA w.heap.size g)∧Below w.heap.size w w'
section
variable {a b:Option Addr} {cap c d n:Nat} {l l2:List Int} {p s:Int} {ok:Bool} {W:World}
theorem msame_as (hn:l.length=n) (h1:LkAt W a c l) (h2:LkAt W b d l):Calls Try.prog 12 #[.slice a n c,.slice b n d] W fun e w'=>e=.returned (.bool true)∧Below W.heap.size W w':=Dw9 a b c d l n hn W h1 h2
end
end Go.Proofs.Ytchmbmkdceaboaa
