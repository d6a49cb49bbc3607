/- strings.splitSeq's iterator at a separator of one byte 20, within a range over a function: it hands over a line's parts, one by one. It keeps what is left of the line in a cell of its own. -/
import Derived.RangeFuncNested
import Derived.RangeFuncBox
import Derived.RangeFuncCalls
import Derived.RangeFuncLeaves
import Derived.Shelf.Abstract
import Derived.Shelf.RegionOpen
import Derived.OwnWalkIn
import Derived.TacticsInMore
import Derived.LoopNIn
import Derived.LoopIn
import Derived.Test.YtaeclpjofclbeaaDoorShelf
import Derived.Test.YtaeclpjofclbeaaDoorGTokM
namespace Go.Proofs.YtaeclpjofclbeaaDoor
open Go.ChangeShapes Go.WideShapes Go.ChangeAt Go.RowKit Go.Shelf
set_option linter.unusedVariables false
attribute [local go_sem] Oper.semAt_some
def Fi1 (w:World) (b:Nat):Nat:=match w.cell? ⟨b,0,none⟩ with|some (.string s)=>s.size|_=>0
def Mid (n1 n0:Nat) (W W':World):Prop:=∀b,n1≤b→b<n0→W'.heap[b]?=W.heap[b]?
theorem Mid.trans {n1 n0:Nat} {A B C:World} (h:Mid n1 n0 A B) (k:Mid n1 n0 B C):Mid n1 n0 A C:=fun b h1 h2=>(k b h1 h2).trans (h b h1 h2)
theorem Mid.of_below {n1 n0:Nat} {A B:World} (h:Below n0 A B):Mid n1 n0 A B:=fun b _ h2=>h.block b h2
theorem Mid.put {n1 n0:Nat} {A:World} {r:Nat} {o:Obj} (h:n0≤r):Mid n1 n0 A (A.putObj r o):=fun b _ h2=>World.putObj_heap_other (by omega)
theorem Mid.set {n1 n0:Nat} {A:World} {c:Nat} {v:Value} (h:c<n1):Mid n1 n0 A (A.setCell ⟨c,0,none⟩ v):=fun b h1 _=>Below.heap_setCell A ⟨c,0,none⟩ v b (by show b≠c;omega)
def Gx4 (n l n1 n0 N:Nat) (J:List (List UInt8)→World→Prop):Prop :=
 ∀pre x W,J pre W→pre.length≤N→x.length≤N→YieldAt Fence.wide (n-1) Tryd.prog l #[str x] W fun e W'=>e=.returned (.bool true)∧J (pre++[x]) W'∧Mid n1 n0 W W'
theorem Bj7 {n0:Nat} {W W':World} {B:Nat} {T:TypeId} {v:Value} (h:Boxed W B T v) {n1:Nat} (hb:Mid n1 n0 W W') (hB:n1≤B∧B<n0):Boxed W' B T v:=(hb B hB.1 hB.2).trans h
theorem Bj6 {W:World} {B C:Nat} {T:TypeId} {v u:Value} (h:Boxed W B T v) (hne:B≠C):Boxed (W.setCell ⟨C,0,none⟩ u) B T v:=(Below.heap_setCell W ⟨C,0,none⟩ u B hne).trans h
theorem Dd3 {W:World} {B:Nat} {T:TypeId} {x:List UInt8} (h:Boxed W B T (str x)):Fi1 W B=x.length:=by
 unfold Fi1;rw [h.cell];simp [str,ByteArray.size]
theorem Hk3 (x:List UInt8) (i:Nat):(⟨x.toArray⟩:ByteArray).extract 0 i=⟨(x.take i).toArray⟩:=by
 have:=ByteArray.extract_mk x 0 i
 simpa using this
theorem Eq5 (x:List UInt8) (i:Nat):(⟨x.toArray⟩:ByteArray).extract i x.length=⟨(x.drop i).toArray⟩:=by
 have:=ByteArray.extract_mk x i x.length
 rw [this,List.take_of_length_le (by simp)]
set_option maxRecDepth 100000 in
set_option maxHeartbeats 1000000 in
theorem Gk8 (n l n1 n0 bS bP bZ:Nat) (s0:List UInt8) (J:List (List UInt8)→World→Prop) (hn:1≤n) (hlen:s0.length≤9000000000000000000)
 (hY:Gx4 n l n1 n0 s0.length J) (hset:∀pre W v,J pre W→J pre (W.setCell ⟨bS,0,none⟩ v)) (hPS:bP≠bS) (hZS:bZ≠bS) (hS:n1≤bS∧bS<n0) (hP:n1≤bP∧bP<n0) (hZ:n1≤bZ∧bZ<n0) (W:World)
 (cS:Boxed W bS 9 (str s0)) (cP:Boxed W bP 9 (.string ⟨#[32]⟩)) (cZ:Boxed W bZ 3 (.int .i64 0)) (h0:J [] W) :
 CallsIn Fence.wide n Tryd.prog 72 #[.func (.yield l) #[] #[],.pointer (some ⟨bP,0,none⟩),.pointer (some ⟨bS,0,none⟩),.pointer (some ⟨bZ,0,none⟩)] W fun e W'=>(∃v,e=.returned v)∧J (cuts s0) W':=by
 refine callsIn_of_wp Tryd.func72 rfl trivial ?_ rfl
 simp only [Tryd.ntmps72,List.size_toArray,List.length_cons,List.length_nil,Nat.reduceAdd,Nat.reduceSub,Array.replicate_succ,Array.replicate_zero,List.push_toArray,List.append_toArray,List.nil_append,List.cons_append]
 have hY':=hid hY
 have hset':=hid hset
 have h0':=hid h0
 have cS':=hid cS
 have cZ':=hid cZ
 have cP':=hid cP
 have cP1:=cP.cell
 clear hY hset h0 cS cZ cP
 gi_wp2
 gi_loopw [7] (fun _ wr=>∃pre rest,cuts s0=pre++cuts rest∧rest.length≤s0.length∧Boxed wr bS 9 (str rest)∧Boxed wr bP 9 (.string ⟨#[32]⟩)∧Boxed wr bZ 3 (.int .i64 0)∧J pre wr) (fun _ wr=>Fi1 wr bS)
 case atStart=>exact ⟨[],s0,rfl,Nat.le_refl _,cS'.out,cP'.out,cZ'.out,h0'.out⟩
 case round =>
  clear cP1 cS' cP' cZ' h0'
  obtain ⟨pre,rest,hcut,hrl,bxS,bxP,bxZ,hJ⟩:=hrel
  have k1:=bxS.cell
  have k2:=bxP.cell
  have k3:=bxZ.cell
  have k4:=bxS.frozen
  have HS:=hid bxS
  have HP:=hid bxP
  have HZ:=hid bxZ
  have hpl:pre.length≤s0.length:=by
   have q1:=congrArg List.length hcut
   have q2:=Er9 s0
   have q3:0<(cuts rest).length:=List.length_pos_iff.2 (Ab1 rest)
   rw [List.length_append] at q1;omega
  have HC:=hid hcut
  have HJ:=hid hJ
  clear bxS bxP bxZ hcut hJ
  have hsz:(⟨rest.toArray⟩:ByteArray).size=rest.length:=rfl
  unfold str at k1
  rcases Dd8 rest with ⟨hi,ha⟩|⟨i,hi,hil,ha,hr⟩
  ·have HI:=hid hi
   have HR:=hid (Ay6 rest ha)
   clear hi ha
   obtain ⟨fn,tmps,assign,body,hy,hR⟩:=hY'.out pre rest wr HJ.out hpl hrl
   unfold str at hy
   gi_wp2_with (refine ⟨trivial,?_⟩;gi_at_call 74;refine (callsIn_wide.2 (Tryd.strings_Index_one ⟨rest.toArray⟩ 32 _)).mono ?_;rintro e w' ⟨rfl,rfl⟩;rw [HI.out])
   refine hR.mono ?_
   rintro e W3 ⟨rfl,hJ3,hk3⟩
   have HJ3:=hid hJ3
   clear hJ3 hk3
   gi_wp2
   go_end0
   exact ⟨⟨_,rfl⟩,by rw [HC.out,HR.out];exact HJ3.out⟩
  ·have HI:=hid hi
   have HR:=hid (show cuts rest=rest.take i :: cuts (rest.drop (i+1)) by
    have:=Cd8 (rest.take i) (rest.drop (i+1)) ha
    rw [←hr] at this;exact this)
   clear hi ha hr
   obtain ⟨fn,tmps,assign,body,hy,hR⟩:=hY'.out pre (rest.take i) wr HJ.out hpl (by rw [List.length_take];omega)
   unfold str at hy
   rw [←Hk3] at hy
   gi_wp2_with (refine ⟨trivial,?_⟩;gi_at_call 74;refine (callsIn_wide.2 (Tryd.strings_Index_one ⟨rest.toArray⟩ 32 _)).mono ?_;rintro e w' ⟨rfl,rfl⟩;rw [HI.out])
   refine hR.mono ?_
   rintro e W3 ⟨rfl,hJ3,hk3⟩
   have bS3:=Bj7 HS.out hk3 hS
   have bP3:=Bj7 HP.out hk3 hP
   have bZ3:=Bj7 HZ.out hk3 hZ
   have q1:=bS3.cell
   have q2:=bP3.cell
   have q4:=bS3.frozen
   have HS3:=hid bS3
   have HP3:=hid bP3
   have HZ3:=hid bZ3
   have HJ3:=hid hJ3
   unfold str at q1
   clear bS3 bP3 bZ3 hJ3 hk3 k1 k2 k3 k4
   gi_wp2
   go_roundw
   case rel =>
    have e1:=Eq5 rest (i+1)
    have e2:(Value.string ((⟨rest.toArray⟩:ByteArray).extract (i+1) rest.length))=str (rest.drop (i+1)):=by rw [e1];rfl
    refine ⟨pre++[rest.take i],rest.drop (i+1),by rw [HC.out,HR.out];simp,by simp;omega,?_,Bj6 HP3.out hPS,Bj6 HZ3.out hZS,hset'.out _ _ _ HJ3.out⟩
    rw [←e2];exact HS3.set _
   case measure =>
    have e1:=Eq5 rest (i+1)
    have e2:(Value.string ((⟨rest.toArray⟩:ByteArray).extract (i+1) rest.length))=str (rest.drop (i+1)):=by rw [e1];rfl
    rw [Dd3 HS.out,e2,Dd3 (HS3.set _)]
    simp;omega
end Go.Proofs.YtaeclpjofclbeaaDoor
