/- slices.Clone of a session's lists: each in a block of its own. -/
import Derived.Test.YtaeclpjofclbeaaDoorGCopy
import Derived.Test.YtaeclpjofclbeaaDoorGSlAt
namespace Go.Proofs.YtaeclpjofclbeaaDoor
open Go.ChangeShapes Go.WideShapes Go.ChangeAt Go.RowKit Go.Proofs.Tryd
open Lib (hid)
set_option linter.unusedVariables false
open Go.RowKit
def senC (s:Sn):List Value:=[.int .i64 s.item,.int .i64 s.kind,.int .i64 s.id]
theorem senC_len (x:Sn):(senC x).length=3:=rfl
theorem senC_one (x:Sn):∀u∈senC x,u.oneCell'=true:=by intro u hu;simp [senC] at hu;rcases hu with rfl|rfl|rfl<;>rfl
theorem sen_info:(prog.info? 72).map (fun i=>(i.zero,i.size,i.bytes))=some (some (.agg #[.int .i64 0,.int .i64 0,.int .i64 0]),3,24):=by kernel_rfl
theorem sen_row {w:World} {a:Option Addr} {xs:List Sn} (h:Ar 3 senC w a xs):Bd w a xs:=by
 obtain ⟨hl,h⟩:=h
 refine ⟨hl,h.imp id ?_⟩
 rintro ⟨b,off,rfl,hb,hc⟩
 exact ⟨b,off,rfl,hb,fun i hi=>⟨hc i hi 0 (by decide),hc i hi 1 (by decide),hc i hi 2 (by decide)⟩⟩
theorem skey_info:(prog.info? 55).map (fun i=>(i.zero,i.size,i.bytes))=some (some (.agg #[.int .i64 0,.int .i64 0]),2,16):=by kernel_rfl
theorem nil_keys (c:Nat) (w:World):(binOp .eql 26 (.slice none 0 c) (.slice none 0 0)).run prog w=.ok (.bool true) w:=by kernel_rfl
theorem some_keys (p:Addr) (l c:Nat) (w:World):(binOp .eql 26 (.slice (some p) l c) (.slice none 0 0)).run prog w=.ok (.bool false) w:=by kernel_rfl
theorem clone_keys (a:Option Addr) (c:Nat) (xs:List Pl) (w:World) (h:Ar 2 plC w a xs) (hl:xs.length≤1000000) :
 Calls prog 37 #[.slice a xs.length c] w fun e w'=>∃g gc,e=.returned (.slice g xs.length gc)∧OwnR 2 55 plC w.heap.size w' g xs∧Below w.heap.size w w':=by
 cases a with
 | none =>
   have hx:xs=[]:=by
    rcases h.2 with h|⟨b,off,h,_⟩
    ·exact h
    ·cases h
   subst hx
   clear h
   have hq:=nil_keys c
   go_enter func37,ntmps37
   go_wp2_with fail
   go_ret
   exact ⟨none,0,rfl,⟨by simp,.inl ⟨rfl,rfl⟩⟩,Below.refl _ _⟩
 | some p =>
   obtain ⟨g,gc,cur,w2,hr,hg,hb,hc,hl2⟩:=Kh 26 55 2 16 (.agg #[.int .i64 0,.int .i64 0]) plC underlying26 skey_info rfl (by decide) (by decide) Ni Zk (cap:=c) (xs:=xs) w.heap.size (Blk.new w 55 #[]) (h.alloc _) hl
   have HR:=hid hr
   have HC:=hid hc
   have HB:=hid hb
   have HM:=hid h.1
   have H2:=hid (((Below.refl w.heap.size w).alloc lr0 (.cells #[] 55)).trans hl2)
   clear hr hc hb hl2 h
   have hq:=some_keys p xs.length c
   go_enter func37,ntmps37
   go_wp2_with (at_builtin;refine Bb rfl (.tmp 5) (.tmp 6) 26 rfl _ _ _ w2 rfl rfl HR.out ?_)
   go_wp2_with fail
   go_ret
   exact ⟨_,_,rfl,⟨HM.out,.inr ⟨g,cur,rfl,hg,HB.out,HC.out⟩⟩,H2.out⟩
theorem nil_wrs (c:Nat) (w:World):(binOp .eql 27 (.slice none 0 c) (.slice none 0 0)).run prog w=.ok (.bool true) w:=by kernel_rfl
theorem some_wrs (p:Addr) (l c:Nat) (w:World):(binOp .eql 27 (.slice (some p) l c) (.slice none 0 0)).run prog w=.ok (.bool false) w:=by kernel_rfl
theorem clone_wrs (a:Option Addr) (c:Nat) (xs:List Wr) (w:World) (h:Ar 5 wrC w a xs) (hl:xs.length≤1000000) :
 Calls prog 38 #[.slice a xs.length c] w fun e w'=>∃g gc,e=.returned (.slice g xs.length gc)∧OwnR 5 59 wrC w.heap.size w' g xs∧Below w.heap.size w w':=by
 cases a with
 | none =>
   have hx:xs=[]:=by
    rcases h.2 with h|⟨b,off,h,_⟩
    ·exact h
    ·cases h
   subst hx
   clear h
   have hq:=nil_wrs c
   go_enter func38,ntmps38
   go_wp2_with fail
   go_ret
   exact ⟨none,0,rfl,⟨by simp,.inl ⟨rfl,rfl⟩⟩,Below.refl _ _⟩
 | some p =>
   obtain ⟨g,gc,cur,w2,hr,hg,hb,hc,hl2⟩:=Kh 27 59 5 40 (.agg #[.int .i64 0,.int .i64 0,.int .i64 0,.int .i64 0,.int .i64 0]) wrC underlying27 wr_info rfl (by decide) (by decide) wrC_len wrC_one (cap:=c) (xs:=xs) w.heap.size (Blk.new w 59 #[]) (h.alloc _) hl
   have HR:=hid hr
   have HC:=hid hc
   have HB:=hid hb
   have HM:=hid h.1
   have H2:=hid (((Below.refl w.heap.size w).alloc lr0 (.cells #[] 59)).trans hl2)
   clear hr hc hb hl2 h
   have hq:=some_wrs p xs.length c
   go_enter func38,ntmps38
   go_wp2_with (at_builtin;refine Bb rfl (.tmp 5) (.tmp 6) 27 rfl _ _ _ w2 rfl rfl HR.out ?_)
   go_wp2_with fail
   go_ret
   exact ⟨_,_,rfl,⟨HM.out,.inr ⟨g,cur,rfl,hg,HB.out,HC.out⟩⟩,H2.out⟩
theorem sen_back {w:World} {a:Option Addr} {xs:List Sn} (h:Bd w a xs):Ar 3 senC w a xs:=by
 obtain ⟨hl,h⟩:=h
 refine ⟨hl,h.imp id ?_⟩
 rintro ⟨b,off,rfl,hb,hc⟩
 refine ⟨b,off,rfl,hb,fun i hi j hj=>?_⟩
 obtain ⟨h0,h1,h2⟩:=hc i hi
 match j,hj with
 | 0,_=>exact h0
 | 1,_=>exact h1
 | 2,_=>exact h2
theorem nil_sns (c:Nat) (w:World):(binOp .eql 29 (.slice none 0 c) (.slice none 0 0)).run prog w=.ok (.bool true) w:=by kernel_rfl
theorem some_sns (p:Addr) (l c:Nat) (w:World):(binOp .eql 29 (.slice (some p) l c) (.slice none 0 0)).run prog w=.ok (.bool false) w:=by kernel_rfl
theorem clone_sns (a:Option Addr) (c:Nat) (xs:List Sn) (w:World) (h:Ar 3 senC w a xs) (hl:xs.length≤1000000) :
 Calls prog 39 #[.slice a xs.length c] w fun e w'=>∃g gc,e=.returned (.slice g xs.length gc)∧OwnR 3 72 senC w.heap.size w' g xs∧Below w.heap.size w w':=by
 cases a with
 | none =>
   have hx:xs=[]:=by
    rcases h.2 with h|⟨b,off,h,_⟩
    ·exact h
    ·cases h
   subst hx
   clear h
   have hq:=nil_sns c
   go_enter func39,ntmps39
   go_wp2_with fail
   go_ret
   exact ⟨none,0,rfl,⟨by simp,.inl ⟨rfl,rfl⟩⟩,Below.refl _ _⟩
 | some p =>
   obtain ⟨g,gc,cur,w2,hr,hg,hb,hc,hl2⟩:=Kh 29 72 3 24 (.agg #[.int .i64 0,.int .i64 0,.int .i64 0]) senC underlying29 sen_info rfl (by decide) (by decide) senC_len senC_one (cap:=c) (xs:=xs) w.heap.size (Blk.new w 72 #[]) (h.alloc _) hl
   have HR:=hid hr
   have HC:=hid hc
   have HB:=hid hb
   have HM:=hid h.1
   have H2:=hid (((Below.refl w.heap.size w).alloc lr0 (.cells #[] 72)).trans hl2)
   clear hr hc hb hl2 h
   have hq:=some_sns p xs.length c
   go_enter func39,ntmps39
   go_wp2_with (at_builtin;refine Bb rfl (.tmp 5) (.tmp 6) 29 rfl _ _ _ w2 rfl rfl HR.out ?_)
   go_wp2_with fail
   go_ret
   exact ⟨_,_,rfl,⟨HM.out,.inr ⟨g,cur,rfl,hg,HB.out,HC.out⟩⟩,H2.out⟩
end Go.Proofs.YtaeclpjofclbeaaDoor
