/- The document's own Few of a session; few of a script. -/
import Derived.Test.YtaeclpjofclbeaaDoorGCmdR
import Derived.Test.YtaeclpjofclbeaaDoorGRepR
import Derived.Test.YtaeclpjofclbeaaDoorGSess
import Derived.Test.YtaeclpjofclbeaaDoorSessBlk
import Derived.Deep.DeepCutAuto
namespace Go.Proofs.YtaeclpjofclbeaaDoor
open Go.ChangeShapes Go.WideShapes Go.ChangeAt Go.RowKit
open Lib (hid)
set_option linter.unusedVariables false
open Go.RowKit Go
def linesN (ls:List ByteArray) (k:Nat):Nat:=((ls.take k).map (·.size)).sum
theorem lines_more {ls:List ByteArray} {k:Nat} (h:k<ls.length):linesN ls (k+1)=linesN ls k+(ls[k]).size:=by
 unfold linesN;rw [List.take_succ_eq_append_getElem h,List.map_append,List.sum_append];simp
theorem lines_most {ls:List ByteArray} {B:Nat} (h:∀b∈ls,b.size≤B):∀k,linesN ls k≤k*B
 | 0=>by simp [linesN]
 | k+1=>by
   by_cases hk:k<ls.length
   ·rw [lines_more hk,Nat.add_mul,Nat.one_mul]
    have:=lines_most h k
    have:=h _ (List.getElem_mem hk)
    omega
   ·have e:linesN ls (k+1)=linesN ls k:=by unfold linesN;rw [List.take_of_length_le (by omega),List.take_of_length_le (by omega)]
    rw [e,Nat.add_mul]
    have:=lines_most h k
    omega
theorem lines_all {ls:List ByteArray} {k:Nat} (h:k=100∨k=ls.length∧k≤100):linesN ls k=linesN ls 100:=by
 rcases h with h|⟨h,h2⟩
 ·rw [h]
 ·unfold linesN;rw [List.take_of_length_le (by omega),List.take_of_length_le (by omega)]
theorem sum_mem {n:Nat}:∀{l:List Nat},n∈l→n≤l.sum
 | x :: r,h=>by
   rw [List.sum_cons]
   rcases List.mem_cons.1 h with rfl|h
   ·omega
   ·have:=sum_mem h;omega
theorem line_few {ls:List ByteArray} (h1:ls.length≤40) (h2:linesN ls 100≤20000) {b:ByteArray} (hb:b∈ls):b.size≤20000:=by
 unfold linesN at h2
 rw [List.take_of_length_le (by omega)] at h2
 have:b.size≤(ls.map (·.size)).sum:=sum_mem (List.mem_map_of_mem hb)
 omega
def sfewB (s:Sl):Bool:=decide (s.ls.length≤40)&&(decide (linesN s.ls 100≤20000)&&(Dz s.c&&(Ph s.r&&(decide (s.foot.length≤20)&&(decide (s.plan.length≤60)&&(decide (s.copies.length≤60)&&decide (s.heads.length≤60)))))))
set_option maxRecDepth 100000 in
set_option maxHeartbeats 1000000 in
theorem sfew_any (s:Sl) (w:World) (h:SessAt w s) (hz:∀b∈s.ls,b.size≤140737488351232):Calls Tryd.prog 6 #[.agg (slC s).toArray] w fun e w'=>e=.returned (.bool (sfewB s))∧Below w.heap.size w w':=by
 have H:=hid h
 have HZ:=hid hz
 have hl1:=h.ls.1
 have hl2:=h.foot.1
 have hl3:=h.plan.1
 have hl4:=h.cp.1
 have hl5:=h.hd.1
 unfold maxLen at hl1 hl2 hl3 hl4 hl5
 clear h hz
 have B0:=hid (Blk.new w 34 #[.int .i64 s.player,.slice s.la s.ls.length s.lc,.int .i64 s.next,.int .i64 s.phase,.int .i64 s.step,.int .i64 s.c.kind,.int .i64 s.c.dir,.int .i64 s.c.item,.int .i64 s.c.box,.int .i64 s.c.who,.slice s.ga s.c.gives.length s.gc,.int .i64 s.c.pay,.slice s.wa s.c.wants.length s.wc,.int .i64 s.c.fee,.slice s.fa s.foot.length s.fc,.int .i64 s.has,.slice s.pa s.plan.length s.pc,.int .i64 s.r.err,.int .i64 s.r.kind,.int .i64 s.r.room,.slice s.rpa s.r.players.length s.rpc,.slice s.ria s.r.items.length s.ric,.int .i64 s.r.coins,.bool s.stale,.int .i64 s.tries,.int .i64 s.ver,.int .i64 s.room,.slice s.ca s.copies.length s.cc,.slice s.ha s.heads.length s.hc,.int .i64 s.purse])
 have W0:=hid (b_a (w:=w) (.cells #[.int .i64 s.player,.slice s.la s.ls.length s.lc,.int .i64 s.next,.int .i64 s.phase,.int .i64 s.step,.int .i64 s.c.kind,.int .i64 s.c.dir,.int .i64 s.c.item,.int .i64 s.c.box,.int .i64 s.c.who,.slice s.ga s.c.gives.length s.gc,.int .i64 s.c.pay,.slice s.wa s.c.wants.length s.wc,.int .i64 s.c.fee,.slice s.fa s.foot.length s.fc,.int .i64 s.has,.slice s.pa s.plan.length s.pc,.int .i64 s.r.err,.int .i64 s.r.kind,.int .i64 s.r.room,.slice s.rpa s.r.players.length s.rpc,.slice s.ria s.r.items.length s.ric,.int .i64 s.r.coins,.bool s.stale,.int .i64 s.tries,.int .i64 s.ver,.int .i64 s.room,.slice s.ca s.copies.length s.cc,.slice s.ha s.heads.length s.hc,.int .i64 s.purse] 34))
 rw [slC_eta]
 go_enter Tryd.func6,Tryd.ntmps6
 go_upto_region 1 with fail
 generalize w.alloc (.cells #[.int .i64 s.player,.slice s.la s.ls.length s.lc,.int .i64 s.next,.int .i64 s.phase,.int .i64 s.step,.int .i64 s.c.kind,.int .i64 s.c.dir,.int .i64 s.c.item,.int .i64 s.c.box,.int .i64 s.c.who,.slice s.ga s.c.gives.length s.gc,.int .i64 s.c.pay,.slice s.wa s.c.wants.length s.wc,.int .i64 s.c.fee,.slice s.fa s.foot.length s.fc,.int .i64 s.has,.slice s.pa s.plan.length s.pc,.int .i64 s.r.err,.int .i64 s.r.kind,.int .i64 s.r.room,.slice s.rpa s.r.players.length s.rpc,.slice s.ria s.r.items.length s.ric,.int .i64 s.r.coins,.bool s.stale,.int .i64 s.tries,.int .i64 s.ver,.int .i64 s.room,.slice s.ca s.copies.length s.cc,.slice s.ha s.heads.length s.hc,.int .i64 s.purse] 34)=V at *
 obtain ⟨m,hm⟩:∃m,w.heap.size=m:=⟨_,rfl⟩
 rw [hm] at B0
 rw [hm]
 have HM:=hid hm
 clear hm
 go_wp2_with fail
 go_loopw [3,4] (fun nv iv wr=>∃k:Nat,k≤s.ls.length∧k≤100∧iv=.int .i64 k∧nv=.int .i64 (linesN s.ls k)∧wr=V) (fun _ iv _=>s.ls.length-(intOf iv).toNat)
 case atStart=>exact ⟨0,Nat.zero_le _,by omega,rfl,rfl,rfl⟩
 case round =>
  obtain ⟨k,hk,hk2,rfl,rfl,hwr⟩:=hrel
  subst hwr
  have hc:=B0.cell 1
  simp only [List.getElem?_toArray,List.getElem?_cons_succ,List.getElem?_cons_zero] at hc
  by_cases hlt:k<s.ls.length∧k<100
  ·obtain ⟨b,o,hla,hb,hx⟩:=H.ls.at_ hlt.1
   have hcx:=(W0.cell (p:=⟨b,o+k*1+0,none⟩) hb).trans (hx k hlt.1 0 (by decide))
   rw [Nat.mul_one,Nat.add_zero] at hcx
   rw [hla] at hc
   have HN:=hid (lines_more hlt.1)
   have hs:=HZ.out _ (List.getElem_mem hlt.1)
   have hmo:=lines_most HZ.out k
   simp only [sbC,List.getElem?_cons_zero] at hcx
   generalize s.ls[k]=x at *
   obtain ⟨N,hN⟩:∃N,linesN s.ls k=N:=⟨_,rfl⟩
   rw [hN] at HN hmo
   rw [hN]
   have hw1:IntKind.i64.wrap ((N:Int)+(x.size:Int))=((N+x.size:Nat):Int):=by rw [IntWalk.i64_in _ (by have:k*140737488351232≤100*140737488351232:=Nat.mul_le_mul (by omega) lr0;omega)];omega
   have hw2:IntKind.i64.wrap ((k:Int)+1)=(k:Int)+1:=IntWalk.i64_in _ (by omega)
   have hsz:(x.size:Int)≤9223372036854775807:=by omega
   obtain ⟨h1,h2⟩:=hlt
   clear hs hmo hN hx hla
   go_wp2_with fail
   exact ⟨⟨k+1,by omega,by omega,by go_num,by rw [HN.out,Int.natCast_add],trivial⟩,by simp [intOf];omega⟩
  ·have HA:=hid (lines_all (ls:=s.ls) (k:=k) (by omega))
   have hcell:=B0.cell
   rw [HA.out]
   clear hc
   obtain ⟨N,hN⟩:∃N,linesN s.ls 100=N:=⟨_,rfl⟩
   rw [hN]
   have HNN:=hid hN
   have hh:¬k<s.ls.length∨¬k<100:=by omega
   clear hN hlt
   rcases hh with hh|hh
   ·by_cases c1:s.ls.length≤40
    ·by_cases c2:N≤20000
     ·go_wp2_with fail
      refine (Cy s.c s.ga s.wa s.gc s.wc _ (H.below W0.out lr0).g (H.below W0.out lr0).w).mono ?_
      rintro e w2 ⟨rfl,b2⟩
      have W2:=hid (bl W0.out b2)
      have B2:=hid (B0.call b2)
      clear b2 hcell
      have hcell:=B2.cell
      obtain ⟨fc,hfc⟩:∃b,Dz s.c=b:=⟨_,rfl⟩
      rw [hfc]
      have HFC:=hid hfc
      clear hfc
      cases fc
      ·have HF:=hid (show sfewB s=false by simp [sfewB,HFC.out])
       go_wp2_with fail
       go_ret
       exact ⟨Ag HF.symm,W2.out⟩
      ·go_wp2_with fail
       refine (Oo s.r s.rpa s.ria s.rpc s.ric _ (H.below W2.out lr0).rp (H.below W2.out lr0).ri).mono ?_
       rintro e w3 ⟨rfl,b3⟩
       have W3:=hid (bl W2.out b3)
       have B3:=hid (B2.call b3)
       clear b3 hcell
       have hcell:=B3.cell
       obtain ⟨fr,hfr⟩:∃b,Ph s.r=b:=⟨_,rfl⟩
       rw [hfr]
       have HFR:=hid hfr
       clear hfr
       cases fr
       ·have HF:=hid (show sfewB s=false by simp [sfewB,HFR.out])
        go_wp2_with fail
        go_ret
        first|exact ⟨Ag HF.symm,W3.out⟩|exact ⟨Ag (by rw [HF.out];simp;omega),W3.out⟩
       ·by_cases c5:s.foot.length≤20
        ·by_cases c6:s.plan.length≤60
         ·by_cases c7:s.copies.length≤60
          ·by_cases c8:s.heads.length≤60
           ·have HF:=hid (show sfewB s=true by simp [sfewB,c1,c2,HNN.out,HFC.out,HFR.out,c5,c6,c7,c8])
            go_wp2_with fail
            go_ret
            first|exact ⟨Ag HF.symm,W3.out⟩|exact ⟨Ag (by rw [HF.out];simp;omega),W3.out⟩
           ·have HF:=hid (show sfewB s=false by simp [sfewB,c8])
            go_wp2_with fail
            go_ret
            first|exact ⟨Ag HF.symm,W3.out⟩|exact ⟨Ag (by rw [HF.out];simp;omega),W3.out⟩
          ·have HF:=hid (show sfewB s=false by simp [sfewB,c7])
           go_wp2_with fail
           go_ret
           first|exact ⟨Ag HF.symm,W3.out⟩|exact ⟨Ag (by rw [HF.out];simp;omega),W3.out⟩
         ·have HF:=hid (show sfewB s=false by simp [sfewB,c6])
          go_wp2_with fail
          go_ret
          first|exact ⟨Ag HF.symm,W3.out⟩|exact ⟨Ag (by rw [HF.out];simp;omega),W3.out⟩
        ·have HF:=hid (show sfewB s=false by simp [sfewB,c5])
         go_wp2_with fail
         go_ret
         first|exact ⟨Ag HF.symm,W3.out⟩|exact ⟨Ag (by rw [HF.out];simp;omega),W3.out⟩
     ·have HF:=hid (show sfewB s=false by simp [sfewB,HNN.out,c2])
      go_wp2_with fail
      go_ret
      exact ⟨Ag HF.symm,W0.out⟩
    ·have HF:=hid (show sfewB s=false by simp [sfewB,c1])
     go_wp2_with fail
     go_ret
     exact ⟨Ag HF.symm,W0.out⟩
   ·have c1:¬s.ls.length≤40:=by omega
    have HF:=hid (show sfewB s=false by simp [sfewB,c1])
    go_wp2_with fail
    all_goals
     go_ret
     exact ⟨Ag HF.symm,W0.out⟩
theorem few19_any (x:Sc) (w:World) (h:ScAt w x) (hz:∀b∈x.ls,b.size≤140737488351232):Calls Tryd.prog 11 #[.agg (scC x).toArray] w fun e w'=>e=.returned (.bool (decide (x.ls.length≤40)&&decide (linesN x.ls 100≤20000)))∧Below w.heap.size w w':=by
 have H:=hid h
 have HZ:=hid hz
 clear h hz
 change Calls _ _ #[.agg #[.int .i64 x.player,.slice x.la x.ls.length x.lc]] _ _
 have W0:=hid (b_a (w:=w) (.cells #[.int .i64 x.player,.slice x.la x.ls.length x.lc] 42))
 go_enter Tryd.func11,Tryd.ntmps11
 go_wp2_with fail
 refine (sfew_any (s0 0 x.ls x.la x.lc 0 0) _ ⟨H.below W0.out lr0,Ae.nil _ _,Ae.nil _ _,Ar.nil _ _,Ar.nil _ _,Ae.nil _ _,Bd.nil _ _,Ar.nil _ _,Ae.nil _ _⟩ HZ.out).mono ?_
 rintro e w2 ⟨rfl,b2⟩
 have W2:=hid (bl W0.out b2)
 have HF:=hid (show sfewB (s0 0 x.ls x.la x.lc 0 0)=(decide (x.ls.length≤40)&&decide (linesN x.ls 100≤20000)) by simp [sfewB,s0,Dz,Ph]<;>rfl)
 rw [HF.out]
 clear b2
 go_wp2_with fail
 go_ret
 exact ⟨rfl,W2.out⟩
end Go.Proofs.YtaeclpjofclbeaaDoor
