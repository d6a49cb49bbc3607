/- slices.Clone of a session's lists: each in a block of its own. -/
import Derived.Test.YtaeclpjofclbeaaGreatDoorGCopy
import Derived.Test.YtaeclpjofclbeaaGreatDoorGSlAt
namespace Go.Proofs.YtaeclpjofclbeaaGreatDoor
open Go.ChangeShapes Go.WideShapes Go.ChangeAt Go.RowKit Go.Proofs.Tryz
open Lib (hid)
set_option linter.unusedVariables false
open Go.RowKit
def senC (s:Sn):List Value:=[.int .i64 s.item,.int .i64 s.kind,.int .i64 s.id]
theorem senC_len (x:Sn):(senC x).length=3:=rfl
theorem senC_one (x:Sn):∀u∈senC x,u.oneCell'=true:=by intro u hu;simp [senC] at hu;rcases hu with rfl|rfl|rfl<;>rfl
theorem sen_info:(prog.info? 78).map (fun i=>(i.zero,i.size,i.bytes))=some (some (.agg #[.int .i64 0,.int .i64 0,.int .i64 0]),3,24):=by kernel_rfl
theorem sen_row {w:World} {a:Option Addr} {xs:List Sn} (h:Ar 3 senC w a xs):Bd w a xs:=by
 obtain ⟨hl,h⟩:=h
 refine ⟨hl,h.imp id ?_⟩
 rintro ⟨b,off,rfl,hb,hc⟩
 exact ⟨b,off,rfl,hb,fun i hi=>⟨hc i hi 0 (by decide),hc i hi 1 (by decide),hc i hi 2 (by decide)⟩⟩
theorem skey_info:(prog.info? 66).map (fun i=>(i.zero,i.size,i.bytes))=some (some (.agg #[.int .i64 0,.int .i64 0]),2,16):=by kernel_rfl
theorem nil_keys (c:Nat) (w:World):(binOp .eql 30 (.slice none 0 c) (.slice none 0 0)).run prog w=.ok (.bool true) w:=by kernel_rfl
theorem some_keys (p:Addr) (l c:Nat) (w:World):(binOp .eql 30 (.slice (some p) l c) (.slice none 0 0)).run prog w=.ok (.bool false) w:=by kernel_rfl
theorem clone_keys (a:Option Addr) (c:Nat) (xs:List Pl) (w:World) (h:Ar 2 plC w a xs) (hl:xs.length≤1000000) :
 Calls prog 40 #[.slice a xs.length c] w fun e w'=>∃g gc,e=.returned (.slice g xs.length gc)∧OwnR 2 66 plC w.heap.size w' g xs∧Below w.heap.size w w':=by
 cases a with
 | none =>
   have hx:xs=[]:=by
    rcases h.2 with h|⟨b,off,h,_⟩
    ·exact h
    ·cases h
   subst hx
   clear h
   have hq:=nil_keys c
   go_enter func40,ntmps40
   go_wp2_with fail
   go_ret
   exact ⟨none,0,rfl,⟨by simp,.inl ⟨rfl,rfl⟩⟩,Below.refl _ _⟩
 | some p =>
   obtain ⟨g,gc,cur,w2,hr,hg,hb,hc,hl2⟩:=Kh 30 66 2 16 (.agg #[.int .i64 0,.int .i64 0]) plC underlying30 skey_info rfl (by decide) (by decide) Ni Zk (cap:=c) (xs:=xs) w.heap.size (Blk.new w 66 #[]) (h.alloc _) hl
   have HR:=hid hr
   have HC:=hid hc
   have HB:=hid hb
   have HM:=hid h.1
   have H2:=hid (((Below.refl w.heap.size w).alloc lr0 (.cells #[] 66)).trans hl2)
   clear hr hc hb hl2 h
   have hq:=some_keys p xs.length c
   go_enter func40,ntmps40
   go_wp2_with (at_builtin;refine Bb rfl (.tmp 5) (.tmp 6) 30 rfl _ _ _ w2 rfl rfl HR.out ?_)
   go_wp2_with fail
   go_ret
   exact ⟨_,_,rfl,⟨HM.out,.inr ⟨g,cur,rfl,hg,HB.out,HC.out⟩⟩,H2.out⟩
theorem nil_wrs (c:Nat) (w:World):(binOp .eql 31 (.slice none 0 c) (.slice none 0 0)).run prog w=.ok (.bool true) w:=by kernel_rfl
theorem some_wrs (p:Addr) (l c:Nat) (w:World):(binOp .eql 31 (.slice (some p) l c) (.slice none 0 0)).run prog w=.ok (.bool false) w:=by kernel_rfl
theorem clone_wrs (a:Option Addr) (c:Nat) (xs:List Wr) (w:World) (h:Ar 5 wrC w a xs) (hl:xs.length≤1000000) :
 Calls prog 41 #[.slice a xs.length c] w fun e w'=>∃g gc,e=.returned (.slice g xs.length gc)∧OwnR 5 70 wrC w.heap.size w' g xs∧Below w.heap.size w w':=by
 cases a with
 | none =>
   have hx:xs=[]:=by
    rcases h.2 with h|⟨b,off,h,_⟩
    ·exact h
    ·cases h
   subst hx
   clear h
   have hq:=nil_wrs c
   go_enter func41,ntmps41
   go_wp2_with fail
   go_ret
   exact ⟨none,0,rfl,⟨by simp,.inl ⟨rfl,rfl⟩⟩,Below.refl _ _⟩
 | some p =>
   obtain ⟨g,gc,cur,w2,hr,hg,hb,hc,hl2⟩:=Kh 31 70 5 40 (.agg #[.int .i64 0,.int .i64 0,.int .i64 0,.int .i64 0,.int .i64 0]) wrC underlying31 wr_info rfl (by decide) (by decide) wrC_len wrC_one (cap:=c) (xs:=xs) w.heap.size (Blk.new w 70 #[]) (h.alloc _) hl
   have HR:=hid hr
   have HC:=hid hc
   have HB:=hid hb
   have HM:=hid h.1
   have H2:=hid (((Below.refl w.heap.size w).alloc lr0 (.cells #[] 70)).trans hl2)
   clear hr hc hb hl2 h
   have hq:=some_wrs p xs.length c
   go_enter func41,ntmps41
   go_wp2_with (at_builtin;refine Bb rfl (.tmp 5) (.tmp 6) 31 rfl _ _ _ w2 rfl rfl HR.out ?_)
   go_wp2_with fail
   go_ret
   exact ⟨_,_,rfl,⟨HM.out,.inr ⟨g,cur,rfl,hg,HB.out,HC.out⟩⟩,H2.out⟩
theorem sen_back {w:World} {a:Option Addr} {xs:List Sn} (h:Bd w a xs):Ar 3 senC w a xs:=by
 obtain ⟨hl,h⟩:=h
 refine ⟨hl,h.imp id ?_⟩
 rintro ⟨b,off,rfl,hb,hc⟩
 refine ⟨b,off,rfl,hb,fun i hi j hj=>?_⟩
 obtain ⟨h0,h1,h2⟩:=hc i hi
 match j,hj with
 | 0,_=>exact h0
 | 1,_=>exact h1
 | 2,_=>exact h2
theorem nil_sns (c:Nat) (w:World):(binOp .eql 33 (.slice none 0 c) (.slice none 0 0)).run prog w=.ok (.bool true) w:=by kernel_rfl
theorem some_sns (p:Addr) (l c:Nat) (w:World):(binOp .eql 33 (.slice (some p) l c) (.slice none 0 0)).run prog w=.ok (.bool false) w:=by kernel_rfl
theorem clone_sns (a:Option Addr) (c:Nat) (xs:List Sn) (w:World) (h:Ar 3 senC w a xs) (hl:xs.length≤1000000) :
 Calls prog 43 #[.slice a xs.length c] w fun e w'=>∃g gc,e=.returned (.slice g xs.length gc)∧OwnR 3 78 senC w.heap.size w' g xs∧Below w.heap.size w w':=by
 cases a with
 | none =>
   have hx:xs=[]:=by
    rcases h.2 with h|⟨b,off,h,_⟩
    ·exact h
    ·cases h
   subst hx
   clear h
   have hq:=nil_sns c
   go_enter func43,ntmps43
   go_wp2_with fail
   go_ret
   exact ⟨none,0,rfl,⟨by simp,.inl ⟨rfl,rfl⟩⟩,Below.refl _ _⟩
 | some p =>
   obtain ⟨g,gc,cur,w2,hr,hg,hb,hc,hl2⟩:=Kh 33 78 3 24 (.agg #[.int .i64 0,.int .i64 0,.int .i64 0]) senC underlying33 sen_info rfl (by decide) (by decide) senC_len senC_one (cap:=c) (xs:=xs) w.heap.size (Blk.new w 78 #[]) (h.alloc _) hl
   have HR:=hid hr
   have HC:=hid hc
   have HB:=hid hb
   have HM:=hid h.1
   have H2:=hid (((Below.refl w.heap.size w).alloc lr0 (.cells #[] 78)).trans hl2)
   clear hr hc hb hl2 h
   have hq:=some_sns p xs.length c
   go_enter func43,ntmps43
   go_wp2_with (at_builtin;refine Bb rfl (.tmp 5) (.tmp 6) 33 rfl _ _ _ w2 rfl rfl HR.out ?_)
   go_wp2_with fail
   go_ret
   exact ⟨_,_,rfl,⟨HM.out,.inr ⟨g,cur,rfl,hg,HB.out,HC.out⟩⟩,H2.out⟩
end Go.Proofs.YtaeclpjofclbeaaGreatDoor
