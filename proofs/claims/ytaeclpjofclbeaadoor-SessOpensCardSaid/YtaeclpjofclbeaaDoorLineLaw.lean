/- line's laws: what every one of them needs: the table of Itoa out of the row; a command's block and a read one's. -/
import Derived.Test.YtaeclpjofclbeaaDoorCmdLaw
import Derived.Test.YtaeclpjofclbeaaDoorLineAwake
namespace Go.Proofs.YtaeclpjofclbeaaDoor
open Go.ChangeShapes Go.WideShapes Go.ChangeAt Go.RowKit
set_option linter.unusedVariables false
open Go.RowKit Go
theorem Vz (W : World) {rest : List (String × DataW Unit)} (h : laidMet Tryd.prog (("internal/strconv.uint64pow10", Rows.laid_internal_strconv_uint64pow10) :: rest) W) : Tab W := by
 unfold Tab
 exact Lib.tabIs_of_head (g:=5) (k:=.u64) (zs:=Lib.pow10Tab) (by kernel_rfl) (by kernel_rfl) Tryd.underlying132 Tryd.underlying126 (by kernel_rfl) (by kernel_rfl) h
theorem Tabs.call {w W:World} (h:Tabs w) (hb:Below w.heap.size w W):Tabs W:=h.below hb lr0
def TwoC (w:World) (c d:Cm) (ga wa gb wb:Option Addr) (gc wc gcb wcb:Nat) (W:World):Prop :=
 Below w.heap.size w W∧Nh W w.heap.size (cC c ga gc wa wc) c ga wa∧Nh W (w.heap.size+1) (cC d gb gcb wb wcb) d gb wb
section
variable {w W W':World} {c d:Cm} {ga wa gb wb:Option Addr} {gc wc gcb wcb:Nat}
theorem Nh.newn {g:Nat} {cs:Array Value} (hg:W.heap.size=g) (h1:Ae W ga c.gives) (h2:Ae W wa c.wants):Nh (W.alloc (.cells cs 25)) g cs c ga wa:=by
 subst hg;exact Nh.new cs h1 h2
theorem TwoC.start (h1:Ae w ga c.gives) (h2:Ae w wa c.wants) (h3:Ae w gb d.gives) (h4:Ae w wb d.wants) :
 TwoC w c d ga wa gb wb gc wc gcb wcb ((w.alloc (.cells (cC c ga gc wa wc) 25)).alloc (.cells (cC d gb gcb wb wcb) 25)) :=
 have b:Below w.heap.size w (w.alloc (.cells (cC c ga gc wa wc) 25)):=b_a _
 ⟨b.alloc b.size _,(Nh.new _ h1 h2).alloc _,Nh.newn (by simp) (h3.below b lr0) (h4.below b lr0)⟩
theorem TwoC.call (h:TwoC w c d ga wa gb wb gc wc gcb wcb W) (hb:Below W.heap.size W W'):TwoC w c d ga wa gb wb gc wc gcb wcb W':=⟨bl h.1 hb,h.2.1.call hb,h.2.2.call hb⟩
theorem TwoC.alloc (h:TwoC w c d ga wa gb wb gc wc gcb wcb W) (o:Obj):TwoC w c d ga wa gb wb gc wc gcb wcb (W.alloc o):=h.call (b_a _)
def OneC (w:World) (c:Cm) (ga wa:Option Addr) (gc wc:Nat) (W:World):Prop:=Below w.heap.size w W∧Nh W w.heap.size (cC c ga gc wa wc) c ga wa
theorem OneC.start (h1:Ae w ga c.gives) (h2:Ae w wa c.wants):OneC w c ga wa gc wc (w.alloc (.cells (cC c ga gc wa wc) 25)):=⟨b_a _,Nh.new _ h1 h2⟩
theorem OneC.call (h:OneC w c ga wa gc wc W) (hb:Below W.heap.size W W'):OneC w c ga wa gc wc W':=⟨bl h.1 hb,h.2.call hb⟩
theorem OneC.alloc (h:OneC w c ga wa gc wc W) (o:Obj):OneC w c ga wa gc wc (W.alloc o):=h.call (b_a _)
end
theorem Fj0 {c:Cm} (h:mayB c=true):(glue (wordsOf c)).length≤2000:=by
 have h1:=Ag0 (wordsOf c)
 have h2:=Xo h
 omega
theorem Ct5 {c:Cm} (h:mayB c=true):∃A:ByteArray,Oz c=.tuple #[.string A,.int .i64 0]∧A.data.toList=glue (wordsOf c)∧A.size≤2000 :=
 ⟨⟨(glue (wordsOf c)).toArray⟩,by simp [Oz,h,str],by simp,by show (glue (wordsOf c)).toArray.size≤2000;simpa using Fj0 h⟩
theorem Gq6 {c:Cm} (h:mayB c=false):∃A:ByteArray,Oz c=.tuple #[.string A,.int .i64 2]:=⟨⟨#[]⟩,by simp [Oz,h,str]⟩
theorem Ar1 {c:Cm} (h:mayB c=true):Aq (glue (wordsOf c))=wordsOf c:=Sz _ (Aj1 h)
theorem Ga5 {c d:Cm} {A B:ByteArray} (h1:mayB c=true) (h2:mayB d=true) (hA:A.data.toList=glue (wordsOf c)) (hB:B.data.toList=glue (wordsOf d)):(A.toList==B.toList)=Gg c d:=by
 rw [ByteArray.toList_eq,ByteArray.toList_eq,Bool.eq_iff_iff,Zu,beq_iff_eq,hA,hB]
 constructor
 ·intro e
  have:=congrArg Aq e
  rw [Ar1 h1,Ar1 h2] at this
  exact Do2 h1 h2 this
 ·intro e
  subst e
  rfl
theorem Cf0 (l:List UInt8):Aq (l++[32])=Aq l:=by
 rw [show [32]=32 :: ([]:List UInt8) from rfl,Aj2,Xp,List.append_nil]
end Go.Proofs.YtaeclpjofclbeaaDoor
