/- sess: Same: sessions held against one another. -/
import Derived.Test.YtaeclpjofclbeaaDoorGRepR
import Derived.Test.YtaeclpjofclbeaaDoorGSess
import Derived.Test.YtaeclpjofclbeaaDoorSessBlk
import Derived.Deep.DeepCutAuto
namespace Go.Proofs.YtaeclpjofclbeaaDoor
open Go.ChangeShapes Go.WideShapes Go.ChangeAt Go.RowKit Go.Proofs.Tryd
open Lib (hid)
set_option linter.unusedVariables false
set_option maxRecDepth 100000
open Go.RowKit Go
theorem samel_strs (a b:Option Addr) (ca cb:Nat) (xs:List ByteArray) (w:World) (h1:Ar 1 sbC w a xs) (h2:Ar 1 sbC w b xs) :
 Calls prog 21 #[.slice a xs.length ca,.slice b xs.length cb] w fun e w'=>e=.returned (.bool true)∧Below w.heap.size w w':=by
 have hm:=h1.1
 unfold maxLen at hm
 have H1:=hid h1
 have H2:=hid h2
 clear h1 h2
 go_enter func21,ntmps21
 go_wp2_with fail
 go_loopw [5,13] (fun _ i wr=>∃k:Nat,k≤xs.length∧i=.int .i64 k∧Below w.heap.size w wr) (fun _ i _=>xs.length-(intOf i).toNat)
 case atStart=>exact ⟨0,Nat.zero_le _,rfl,Below.refl _ _⟩
 case round =>
  obtain ⟨k,hk,rfl,hbel⟩:=hrel
  by_cases hlt:k<xs.length
  ·obtain ⟨xb,xo,rfl,hxb,hxc⟩:=H1.at_ hlt
   obtain ⟨yb,yo,rfl,hyb,hyc⟩:=H2.at_ hlt
   have h1_0:wr.cell? ⟨xb,xo+k,none⟩=(sbC xs[k])[0]?:=by have:=(hbel.cell (p:=⟨xb,xo+k*1+0,none⟩) hxb).trans (hxc k hlt 0 (by decide));rwa [Nat.mul_one,Nat.add_zero] at this
   have h2_0:wr.cell? ⟨yb,yo+k,none⟩=(sbC xs[k])[0]?:=by have:=(hbel.cell (p:=⟨yb,yo+k*1+0,none⟩) hyb).trans (hyc k hlt 0 (by decide));rwa [Nat.mul_one,Nat.add_zero] at this
   clear hxc hyc H1 H2
   generalize xs[k]=x at *
   simp only [sbC,List.getElem?_cons_zero] at h1_0 h2_0
   go_wp2_with fail
   go_quiet (fail)
   go_wp2_with fail
   go_roundw
   case rel=>exact ⟨k+1,by omega,by go_num,Ib hbel _⟩
   case measure=>simp [intOf];omega
  ·have hke:k=xs.length:=by omega
   subst hke
   clear H1 H2
   go_wp2_with fail
   go_ret
   exact ⟨Ag rfl,hbel⟩
theorem sne_keys (a:Pl) (w:World):(binOp .neq 55 (.agg #[.int .i64 a.kind,.int .i64 a.id]) (.agg #[.int .i64 a.kind,.int .i64 a.id])).run prog w=.ok (.bool false) w:=by
 go_simp
theorem samel_keys (a b:Option Addr) (ca cb:Nat) (xs:List Pl) (w:World) (h1:Ar 2 plC w a xs) (h2:Ar 2 plC w b xs) :
 Calls prog 22 #[.slice a xs.length ca,.slice b xs.length cb] w fun e w'=>e=.returned (.bool true)∧Below w.heap.size w w':=by
 have hm:=h1.1
 unfold maxLen at hm
 have H1:=hid h1
 have H2:=hid h2
 clear h1 h2
 go_enter func22,ntmps22
 go_wp2_with fail
 go_loopw [5,13] (fun _ i wr=>∃k:Nat,k≤xs.length∧i=.int .i64 k∧Below w.heap.size w wr) (fun _ i _=>xs.length-(intOf i).toNat)
 case atStart=>exact ⟨0,Nat.zero_le _,rfl,Below.refl _ _⟩
 case round =>
  obtain ⟨k,hk,rfl,hbel⟩:=hrel
  by_cases hlt:k<xs.length
  ·obtain ⟨xb,xo,rfl,hxb,hxc⟩:=H1.at_ hlt
   obtain ⟨yb,yo,rfl,hyb,hyc⟩:=H2.at_ hlt
   have h1_0:wr.cell? ⟨xb,xo+k*2,none⟩=(plC xs[k])[0]?:=(hbel.cell (p:=⟨xb,xo+k*2,none⟩) hxb).trans (hxc k hlt 0 (by decide))
   have h2_0:wr.cell? ⟨yb,yo+k*2,none⟩=(plC xs[k])[0]?:=(hbel.cell (p:=⟨yb,yo+k*2,none⟩) hyb).trans (hyc k hlt 0 (by decide))
   have h1_1:wr.cell? ⟨xb,xo+k*2+1,none⟩=(plC xs[k])[1]?:=(hbel.cell (p:=⟨xb,xo+k*2+1,none⟩) hxb).trans (hxc k hlt 1 (by decide))
   have h2_1:wr.cell? ⟨yb,yo+k*2+1,none⟩=(plC xs[k])[1]?:=(hbel.cell (p:=⟨yb,yo+k*2+1,none⟩) hyb).trans (hyc k hlt 1 (by decide))
   clear hxc hyc H1 H2
   generalize xs[k]=x at *
   simp only [plC,List.getElem?_cons_zero,List.getElem?_cons_succ] at h1_0 h1_1 h2_0 h2_1
   have hrun:=sne_keys x
   go_wp2_with fail
   go_quiet (fail)
   go_wp2_with fail
   go_roundw
   case rel=>exact ⟨k+1,by omega,by go_num,Ib hbel _⟩
   case measure=>simp [intOf];omega
  ·have hke:k=xs.length:=by omega
   subst hke
   clear H1 H2
   go_wp2_with fail
   go_ret
   exact ⟨Ag rfl,hbel⟩
theorem sne_wrs (a:Wr) (w:World):(binOp .neq 59 (.agg #[.int .i64 a.kind,.int .i64 a.id,.int .i64 a.num,.int .i64 a.pl.kind,.int .i64 a.pl.id]) (.agg #[.int .i64 a.kind,.int .i64 a.id,.int .i64 a.num,.int .i64 a.pl.kind,.int .i64 a.pl.id])).run prog w=.ok (.bool false) w:=by
 go_simp
theorem samel_wrs (a b:Option Addr) (ca cb:Nat) (xs:List Wr) (w:World) (h1:Ar 5 wrC w a xs) (h2:Ar 5 wrC w b xs) :
 Calls prog 23 #[.slice a xs.length ca,.slice b xs.length cb] w fun e w'=>e=.returned (.bool true)∧Below w.heap.size w w':=by
 have hm:=h1.1
 unfold maxLen at hm
 have H1:=hid h1
 have H2:=hid h2
 clear h1 h2
 go_enter func23,ntmps23
 go_wp2_with fail
 go_loopw [5,13] (fun _ i wr=>∃k:Nat,k≤xs.length∧i=.int .i64 k∧Below w.heap.size w wr) (fun _ i _=>xs.length-(intOf i).toNat)
 case atStart=>exact ⟨0,Nat.zero_le _,rfl,Below.refl _ _⟩
 case round =>
  obtain ⟨k,hk,rfl,hbel⟩:=hrel
  by_cases hlt:k<xs.length
  ·obtain ⟨xb,xo,rfl,hxb,hxc⟩:=H1.at_ hlt
   obtain ⟨yb,yo,rfl,hyb,hyc⟩:=H2.at_ hlt
   have h1_0:wr.cell? ⟨xb,xo+k*5,none⟩=(wrC xs[k])[0]?:=(hbel.cell (p:=⟨xb,xo+k*5,none⟩) hxb).trans (hxc k hlt 0 (by decide))
   have h2_0:wr.cell? ⟨yb,yo+k*5,none⟩=(wrC xs[k])[0]?:=(hbel.cell (p:=⟨yb,yo+k*5,none⟩) hyb).trans (hyc k hlt 0 (by decide))
   have h1_1:wr.cell? ⟨xb,xo+k*5+1,none⟩=(wrC xs[k])[1]?:=(hbel.cell (p:=⟨xb,xo+k*5+1,none⟩) hxb).trans (hxc k hlt 1 (by decide))
   have h2_1:wr.cell? ⟨yb,yo+k*5+1,none⟩=(wrC xs[k])[1]?:=(hbel.cell (p:=⟨yb,yo+k*5+1,none⟩) hyb).trans (hyc k hlt 1 (by decide))
   have h1_2:wr.cell? ⟨xb,xo+k*5+2,none⟩=(wrC xs[k])[2]?:=(hbel.cell (p:=⟨xb,xo+k*5+2,none⟩) hxb).trans (hxc k hlt 2 (by decide))
   have h2_2:wr.cell? ⟨yb,yo+k*5+2,none⟩=(wrC xs[k])[2]?:=(hbel.cell (p:=⟨yb,yo+k*5+2,none⟩) hyb).trans (hyc k hlt 2 (by decide))
   have h1_3:wr.cell? ⟨xb,xo+k*5+3,none⟩=(wrC xs[k])[3]?:=(hbel.cell (p:=⟨xb,xo+k*5+3,none⟩) hxb).trans (hxc k hlt 3 (by decide))
   have h2_3:wr.cell? ⟨yb,yo+k*5+3,none⟩=(wrC xs[k])[3]?:=(hbel.cell (p:=⟨yb,yo+k*5+3,none⟩) hyb).trans (hyc k hlt 3 (by decide))
   have h1_4:wr.cell? ⟨xb,xo+k*5+4,none⟩=(wrC xs[k])[4]?:=(hbel.cell (p:=⟨xb,xo+k*5+4,none⟩) hxb).trans (hxc k hlt 4 (by decide))
   have h2_4:wr.cell? ⟨yb,yo+k*5+4,none⟩=(wrC xs[k])[4]?:=(hbel.cell (p:=⟨yb,yo+k*5+4,none⟩) hyb).trans (hyc k hlt 4 (by decide))
   clear hxc hyc H1 H2
   generalize xs[k]=x at *
   simp only [wrC,List.getElem?_cons_zero,List.getElem?_cons_succ] at h1_0 h1_1 h1_2 h1_3 h1_4 h2_0 h2_1 h2_2 h2_3 h2_4
   have hrun:=sne_wrs x
   go_wp2_with fail
   go_quiet (fail)
   go_wp2_with fail
   go_roundw
   case rel=>exact ⟨k+1,by omega,by go_num,Ib hbel _⟩
   case measure=>simp [intOf];omega
  ·have hke:k=xs.length:=by omega
   subst hke
   clear H1 H2
   go_wp2_with fail
   go_ret
   exact ⟨Ag rfl,hbel⟩
theorem sne_pls (a:Pl) (w:World):(binOp .neq 57 (.agg #[.int .i64 a.kind,.int .i64 a.id]) (.agg #[.int .i64 a.kind,.int .i64 a.id])).run prog w=.ok (.bool false) w:=by
 go_simp
theorem samel_pls (a b:Option Addr) (ca cb:Nat) (xs:List Pl) (w:World) (h1:Ar 2 plC w a xs) (h2:Ar 2 plC w b xs) :
 Calls prog 24 #[.slice a xs.length ca,.slice b xs.length cb] w fun e w'=>e=.returned (.bool true)∧Below w.heap.size w w':=by
 have hm:=h1.1
 unfold maxLen at hm
 have H1:=hid h1
 have H2:=hid h2
 clear h1 h2
 go_enter func24,ntmps24
 go_wp2_with fail
 go_loopw [5,13] (fun _ i wr=>∃k:Nat,k≤xs.length∧i=.int .i64 k∧Below w.heap.size w wr) (fun _ i _=>xs.length-(intOf i).toNat)
 case atStart=>exact ⟨0,Nat.zero_le _,rfl,Below.refl _ _⟩
 case round =>
  obtain ⟨k,hk,rfl,hbel⟩:=hrel
  by_cases hlt:k<xs.length
  ·obtain ⟨xb,xo,rfl,hxb,hxc⟩:=H1.at_ hlt
   obtain ⟨yb,yo,rfl,hyb,hyc⟩:=H2.at_ hlt
   have h1_0:wr.cell? ⟨xb,xo+k*2,none⟩=(plC xs[k])[0]?:=(hbel.cell (p:=⟨xb,xo+k*2,none⟩) hxb).trans (hxc k hlt 0 (by decide))
   have h2_0:wr.cell? ⟨yb,yo+k*2,none⟩=(plC xs[k])[0]?:=(hbel.cell (p:=⟨yb,yo+k*2,none⟩) hyb).trans (hyc k hlt 0 (by decide))
   have h1_1:wr.cell? ⟨xb,xo+k*2+1,none⟩=(plC xs[k])[1]?:=(hbel.cell (p:=⟨xb,xo+k*2+1,none⟩) hxb).trans (hxc k hlt 1 (by decide))
   have h2_1:wr.cell? ⟨yb,yo+k*2+1,none⟩=(plC xs[k])[1]?:=(hbel.cell (p:=⟨yb,yo+k*2+1,none⟩) hyb).trans (hyc k hlt 1 (by decide))
   clear hxc hyc H1 H2
   generalize xs[k]=x at *
   simp only [plC,List.getElem?_cons_zero,List.getElem?_cons_succ] at h1_0 h1_1 h2_0 h2_1
   have hrun:=sne_pls x
   go_wp2_with fail
   go_quiet (fail)
   go_wp2_with fail
   go_roundw
   case rel=>exact ⟨k+1,by omega,by go_num,Ib hbel _⟩
   case measure=>simp [intOf];omega
  ·have hke:k=xs.length:=by omega
   subst hke
   clear H1 H2
   go_wp2_with fail
   go_ret
   exact ⟨Ag rfl,hbel⟩
theorem samel_ints (a b:Option Addr) (ca cb:Nat) (xs:List Int) (w:World) (h1:Ar 1 inC w a xs) (h2:Ar 1 inC w b xs) :
 Calls prog 25 #[.slice a xs.length ca,.slice b xs.length cb] w fun e w'=>e=.returned (.bool true)∧Below w.heap.size w w':=by
 have hm:=h1.1
 unfold maxLen at hm
 have H1:=hid h1
 have H2:=hid h2
 clear h1 h2
 go_enter func25,ntmps25
 go_wp2_with fail
 go_loopw [5,13] (fun _ i wr=>∃k:Nat,k≤xs.length∧i=.int .i64 k∧Below w.heap.size w wr) (fun _ i _=>xs.length-(intOf i).toNat)
 case atStart=>exact ⟨0,Nat.zero_le _,rfl,Below.refl _ _⟩
 case round =>
  obtain ⟨k,hk,rfl,hbel⟩:=hrel
  by_cases hlt:k<xs.length
  ·obtain ⟨xb,xo,rfl,hxb,hxc⟩:=H1.at_ hlt
   obtain ⟨yb,yo,rfl,hyb,hyc⟩:=H2.at_ hlt
   have h1_0:wr.cell? ⟨xb,xo+k,none⟩=(inC xs[k])[0]?:=by have:=(hbel.cell (p:=⟨xb,xo+k*1+0,none⟩) hxb).trans (hxc k hlt 0 (by decide));rwa [Nat.mul_one,Nat.add_zero] at this
   have h2_0:wr.cell? ⟨yb,yo+k,none⟩=(inC xs[k])[0]?:=by have:=(hbel.cell (p:=⟨yb,yo+k*1+0,none⟩) hyb).trans (hyc k hlt 0 (by decide));rwa [Nat.mul_one,Nat.add_zero] at this
   clear hxc hyc H1 H2
   generalize xs[k]=x at *
   simp only [inC,List.getElem?_cons_zero] at h1_0 h2_0
   go_wp2_with fail
   go_quiet (fail)
   go_wp2_with fail
   go_roundw
   case rel=>exact ⟨k+1,by omega,by go_num,Ib hbel _⟩
   case measure=>simp [intOf];omega
  ·have hke:k=xs.length:=by omega
   subst hke
   clear H1 H2
   go_wp2_with fail
   go_ret
   exact ⟨Ag rfl,hbel⟩
theorem snums_any (s:Sl) (w:World):Calls prog 18 #[.agg (slC s).toArray] w fun e w'=>e=.returned (.agg #[.int .i64 s.player,.int .i64 s.next,.int .i64 s.phase,.int .i64 s.step,.int .i64 s.has,.int .i64 s.tries,.int .i64 s.ver,.int .i64 s.room,.int .i64 s.purse,.bool s.stale])∧Below w.heap.size w w':=by
 rw [slC_eta]
 go_enter func18,ntmps18
 go_wp2_with fail
 exact bodyPost_ret (v:=.agg #[.int .i64 s.player,.int .i64 s.next,.int .i64 s.phase,.int .i64 s.step,.int .i64 s.has,.int .i64 s.tries,.int .i64 s.ver,.int .i64 s.room,.int .i64 s.purse,.bool s.stale]) (by simp [results,results18,go_sem]) rfl ⟨rfl,(b_a _).alloc (by simp) _⟩
theorem run_snums (s:Sl) (w:World):(binOp .eql 50 (.agg #[.int .i64 s.player,.int .i64 s.next,.int .i64 s.phase,.int .i64 s.step,.int .i64 s.has,.int .i64 s.tries,.int .i64 s.ver,.int .i64 s.room,.int .i64 s.purse,.bool s.stale]) (.agg #[.int .i64 s.player,.int .i64 s.next,.int .i64 s.phase,.int .i64 s.step,.int .i64 s.has,.int .i64 s.tries,.int .i64 s.ver,.int .i64 s.room,.int .i64 s.purse,.bool s.stale])).run prog w=.ok (.bool true) w:=by
 rw [run_eql_struct];go_simp
theorem range_of {b:Nat} {s:Sl} {W:World} (h:∀i,W.cell? ⟨b,i,none⟩=(slC s).toArray[i]?):W.rangeAt b 0 (slC s):=fun j v hv=>by
 rw [Nat.zero_add];exact (h j).trans (by simpa using hv)
set_option maxHeartbeats 2000000 in
theorem ssame_go (a:Sl) (la_2:Option Addr) (lc_2:Nat) (ga_2:Option Addr) (gc_2:Nat) (wa_2:Option Addr) (wc_2:Nat) (fa_2:Option Addr) (fc_2:Nat) (pa_2:Option Addr) (pc_2:Nat) (rpa_2:Option Addr) (rpc_2:Nat) (ria_2:Option Addr) (ric_2:Nat) (ca_2:Option Addr) (cc_2:Nat) (ha_2:Option Addr) (hc_2:Nat) (w:World) (ha:SessAt w a) (hb:SessAt w (⟨a.player,a.ls,la_2,lc_2,a.next,a.phase,a.step,a.c,ga_2,gc_2,wa_2,wc_2,a.foot,fa_2,fc_2,a.has,a.plan,pa_2,pc_2,a.r,rpa_2,rpc_2,ria_2,ric_2,a.stale,a.tries,a.ver,a.room,a.copies,ca_2,cc_2,a.heads,ha_2,hc_2,a.purse⟩:Sl)):Calls prog 8 #[.agg (slC a).toArray,.agg (slC (⟨a.player,a.ls,la_2,lc_2,a.next,a.phase,a.step,a.c,ga_2,gc_2,wa_2,wc_2,a.foot,fa_2,fc_2,a.has,a.plan,pa_2,pc_2,a.r,rpa_2,rpc_2,ria_2,ric_2,a.stale,a.tries,a.ver,a.room,a.copies,ca_2,cc_2,a.heads,ha_2,hc_2,a.purse⟩:Sl)).toArray] w fun e w'=>e=.returned (.bool true)∧Below w.heap.size w w':=by
 have HA:=hid ha
 have HB:=hid hb
 clear ha hb
 have HC:=hid (show Gg a.c a.c=true by simp [Gg,Qe])
 have HR:=hid (show Gl a.r a.r=true from (Kn _ _).2 rfl)
 have hrn:=run_snums a
 have C0:=hid (Two.start 34 34 w #[.int .i64 a.player,.slice a.la a.ls.length a.lc,.int .i64 a.next,.int .i64 a.phase,.int .i64 a.step,.int .i64 a.c.kind,.int .i64 a.c.dir,.int .i64 a.c.item,.int .i64 a.c.box,.int .i64 a.c.who,.slice a.ga a.c.gives.length a.gc,.int .i64 a.c.pay,.slice a.wa a.c.wants.length a.wc,.int .i64 a.c.fee,.slice a.fa a.foot.length a.fc,.int .i64 a.has,.slice a.pa a.plan.length a.pc,.int .i64 a.r.err,.int .i64 a.r.kind,.int .i64 a.r.room,.slice a.rpa a.r.players.length a.rpc,.slice a.ria a.r.items.length a.ric,.int .i64 a.r.coins,.bool a.stale,.int .i64 a.tries,.int .i64 a.ver,.int .i64 a.room,.slice a.ca a.copies.length a.cc,.slice a.ha a.heads.length a.hc,.int .i64 a.purse] #[.int .i64 a.player,.slice la_2 a.ls.length lc_2,.int .i64 a.next,.int .i64 a.phase,.int .i64 a.step,.int .i64 a.c.kind,.int .i64 a.c.dir,.int .i64 a.c.item,.int .i64 a.c.box,.int .i64 a.c.who,.slice ga_2 a.c.gives.length gc_2,.int .i64 a.c.pay,.slice wa_2 a.c.wants.length wc_2,.int .i64 a.c.fee,.slice fa_2 a.foot.length fc_2,.int .i64 a.has,.slice pa_2 a.plan.length pc_2,.int .i64 a.r.err,.int .i64 a.r.kind,.int .i64 a.r.room,.slice rpa_2 a.r.players.length rpc_2,.slice ria_2 a.r.items.length ric_2,.int .i64 a.r.coins,.bool a.stale,.int .i64 a.tries,.int .i64 a.ver,.int .i64 a.room,.slice ca_2 a.copies.length cc_2,.slice ha_2 a.heads.length hc_2,.int .i64 a.purse])
 change Calls _ _ #[.agg #[.int .i64 a.player,.slice a.la a.ls.length a.lc,.int .i64 a.next,.int .i64 a.phase,.int .i64 a.step,.int .i64 a.c.kind,.int .i64 a.c.dir,.int .i64 a.c.item,.int .i64 a.c.box,.int .i64 a.c.who,.slice a.ga a.c.gives.length a.gc,.int .i64 a.c.pay,.slice a.wa a.c.wants.length a.wc,.int .i64 a.c.fee,.slice a.fa a.foot.length a.fc,.int .i64 a.has,.slice a.pa a.plan.length a.pc,.int .i64 a.r.err,.int .i64 a.r.kind,.int .i64 a.r.room,.slice a.rpa a.r.players.length a.rpc,.slice a.ria a.r.items.length a.ric,.int .i64 a.r.coins,.bool a.stale,.int .i64 a.tries,.int .i64 a.ver,.int .i64 a.room,.slice a.ca a.copies.length a.cc,.slice a.ha a.heads.length a.hc,.int .i64 a.purse],.agg #[.int .i64 a.player,.slice la_2 a.ls.length lc_2,.int .i64 a.next,.int .i64 a.phase,.int .i64 a.step,.int .i64 a.c.kind,.int .i64 a.c.dir,.int .i64 a.c.item,.int .i64 a.c.box,.int .i64 a.c.who,.slice ga_2 a.c.gives.length gc_2,.int .i64 a.c.pay,.slice wa_2 a.c.wants.length wc_2,.int .i64 a.c.fee,.slice fa_2 a.foot.length fc_2,.int .i64 a.has,.slice pa_2 a.plan.length pc_2,.int .i64 a.r.err,.int .i64 a.r.kind,.int .i64 a.r.room,.slice rpa_2 a.r.players.length rpc_2,.slice ria_2 a.r.items.length ric_2,.int .i64 a.r.coins,.bool a.stale,.int .i64 a.tries,.int .i64 a.ver,.int .i64 a.room,.slice ca_2 a.copies.length cc_2,.slice ha_2 a.heads.length hc_2,.int .i64 a.purse]] _ _
 go_enter func8,ntmps8
 go_upto_region 1 with fail
 generalize (w.alloc (.cells #[.int .i64 a.player,.slice a.la a.ls.length a.lc,.int .i64 a.next,.int .i64 a.phase,.int .i64 a.step,.int .i64 a.c.kind,.int .i64 a.c.dir,.int .i64 a.c.item,.int .i64 a.c.box,.int .i64 a.c.who,.slice a.ga a.c.gives.length a.gc,.int .i64 a.c.pay,.slice a.wa a.c.wants.length a.wc,.int .i64 a.c.fee,.slice a.fa a.foot.length a.fc,.int .i64 a.has,.slice a.pa a.plan.length a.pc,.int .i64 a.r.err,.int .i64 a.r.kind,.int .i64 a.r.room,.slice a.rpa a.r.players.length a.rpc,.slice a.ria a.r.items.length a.ric,.int .i64 a.r.coins,.bool a.stale,.int .i64 a.tries,.int .i64 a.ver,.int .i64 a.room,.slice a.ca a.copies.length a.cc,.slice a.ha a.heads.length a.hc,.int .i64 a.purse] 34)).alloc (.cells #[.int .i64 a.player,.slice la_2 a.ls.length lc_2,.int .i64 a.next,.int .i64 a.phase,.int .i64 a.step,.int .i64 a.c.kind,.int .i64 a.c.dir,.int .i64 a.c.item,.int .i64 a.c.box,.int .i64 a.c.who,.slice ga_2 a.c.gives.length gc_2,.int .i64 a.c.pay,.slice wa_2 a.c.wants.length wc_2,.int .i64 a.c.fee,.slice fa_2 a.foot.length fc_2,.int .i64 a.has,.slice pa_2 a.plan.length pc_2,.int .i64 a.r.err,.int .i64 a.r.kind,.int .i64 a.r.room,.slice rpa_2 a.r.players.length rpc_2,.slice ria_2 a.r.items.length ric_2,.int .i64 a.r.coins,.bool a.stale,.int .i64 a.tries,.int .i64 a.ver,.int .i64 a.room,.slice ca_2 a.copies.length cc_2,.slice ha_2 a.heads.length hc_2,.int .i64 a.purse] 34)=v0 at *
 have C:=hid C0.drew
 clear C0
 refine tkS (S:=(fun w'=>(∀i,w'.cell? ⟨w.heap.size,i,none⟩=(#[.int .i64 a.player,.slice a.la a.ls.length a.lc,.int .i64 a.next,.int .i64 a.phase,.int .i64 a.step,.int .i64 a.c.kind,.int .i64 a.c.dir,.int .i64 a.c.item,.int .i64 a.c.box,.int .i64 a.c.who,.slice a.ga a.c.gives.length a.gc,.int .i64 a.c.pay,.slice a.wa a.c.wants.length a.wc,.int .i64 a.c.fee,.slice a.fa a.foot.length a.fc,.int .i64 a.has,.slice a.pa a.plan.length a.pc,.int .i64 a.r.err,.int .i64 a.r.kind,.int .i64 a.r.room,.slice a.rpa a.r.players.length a.rpc,.slice a.ria a.r.items.length a.ric,.int .i64 a.r.coins,.bool a.stale,.int .i64 a.tries,.int .i64 a.ver,.int .i64 a.room,.slice a.ca a.copies.length a.cc,.slice a.ha a.heads.length a.hc,.int .i64 a.purse][i]?:Option Value))∧(∀i,w'.cell? ⟨w.heap.size+1,i,none⟩=(#[.int .i64 a.player,.slice la_2 a.ls.length lc_2,.int .i64 a.next,.int .i64 a.phase,.int .i64 a.step,.int .i64 a.c.kind,.int .i64 a.c.dir,.int .i64 a.c.item,.int .i64 a.c.box,.int .i64 a.c.who,.slice ga_2 a.c.gives.length gc_2,.int .i64 a.c.pay,.slice wa_2 a.c.wants.length wc_2,.int .i64 a.c.fee,.slice fa_2 a.foot.length fc_2,.int .i64 a.has,.slice pa_2 a.plan.length pc_2,.int .i64 a.r.err,.int .i64 a.r.kind,.int .i64 a.r.room,.slice rpa_2 a.r.players.length rpc_2,.slice ria_2 a.r.items.length ric_2,.int .i64 a.r.coins,.bool a.stale,.int .i64 a.tries,.int .i64 a.ver,.int .i64 a.room,.slice ca_2 a.copies.length cc_2,.slice ha_2 a.heads.length hc_2,.int .i64 a.purse][i]?:Option Value)))) (by (exact ⟨C.a.cell,C.r.cell⟩)) (fun hHeld=>?_)
 refine tkl [0,2] ?_
 refine tW ?_ (hy:=by exact fun ww hSw=>exec_load rfl (load_sess (range_of (s:=a) hSw.1)))
 try go_frame
 refine tW ?_ (hy:=by exact fun ww hSw=>exec_load rfl (load_sess (range_of (s:=(⟨a.player,a.ls,la_2,lc_2,a.next,a.phase,a.step,a.c,ga_2,gc_2,wa_2,wc_2,a.foot,fa_2,fc_2,a.has,a.plan,pa_2,pc_2,a.r,rpa_2,rpc_2,ria_2,ric_2,a.stale,a.tries,a.ver,a.room,a.copies,ca_2,cc_2,a.heads,ha_2,hc_2,a.purse⟩:Sl)) hSw.2)))
 try go_frame
 refine rdy1 1 (fun K hK=>?_)
 go_simp
 refine (snums_any a _).mono ?_;rintro e w9 ⟨rfl,hb⟩;have C9:=hid (C.call hb);clear hb C;have C:=C9;clear C9
 try go_wp2_with fail
 refine hK.out _ _ (by (exact ⟨C.a.cell,C.r.cell⟩)) (fun hHeld=>?_)
 clear hK K
 try go_frame
 refine rdy1 3 (fun K hK=>?_)
 go_simp
 refine (snums_any (⟨a.player,a.ls,la_2,lc_2,a.next,a.phase,a.step,a.c,ga_2,gc_2,wa_2,wc_2,a.foot,fa_2,fc_2,a.has,a.plan,pa_2,pc_2,a.r,rpa_2,rpc_2,ria_2,ric_2,a.stale,a.tries,a.ver,a.room,a.copies,ca_2,cc_2,a.heads,ha_2,hc_2,a.purse⟩:Sl) _).mono ?_;rintro e w9 ⟨rfl,hb⟩;have C9:=hid (C.call hb);clear hb C;have C:=C9;clear C9
 try go_wp2_with fail
 refine hK.out _ _ (by (exact ⟨C.a.cell,C.r.cell⟩)) (fun hHeld=>?_)
 clear hK K
 try go_frame
 refine tkl [4,5,6,7,8,9] ?_
 iterate 6
  refine tW ?_
  try go_frame
 refine rdy1 10 (fun K hK=>?_)
 go_simp
 refine (Dq a.c a.c a.ga a.wa ga_2 wa_2 a.gc a.wc gc_2 wc_2 _ (HA.below C.b lr0).g (HA.below C.b lr0).w (HB.below C.b lr0).g (HB.below C.b lr0).w).mono ?_;rintro e w9 ⟨rfl,hb⟩;rw [HC.out];have C9:=hid (C.call hb);clear hb C;have C:=C9;clear C9
 try go_wp2_with fail
 refine hK.out _ _ (by (exact ⟨C.a.cell,C.r.cell⟩)) (fun hHeld=>?_)
 clear hK K
 try go_frame
 refine tkl [11,12,13,14,15,16] ?_
 iterate 6
  refine tW ?_
  try go_frame
 refine rdy1 17 (fun K hK=>?_)
 go_simp
 refine (Hf a.r a.r a.rpa a.ria rpa_2 ria_2 a.rpc a.ric rpc_2 ric_2 _ (HA.below C.b lr0).rp (HA.below C.b lr0).ri (HB.below C.b lr0).rp (HB.below C.b lr0).ri).mono ?_;rintro e w9 ⟨rfl,hb⟩;rw [HR.out];have C9:=hid (C.call hb);clear hb C;have C:=C9;clear C9
 try go_wp2_with fail
 refine hK.out _ _ (by (exact ⟨C.a.cell,C.r.cell⟩)) (fun hHeld=>?_)
 clear hK K
 try go_frame
 refine tkl [18,19,20,21,22,23] ?_
 iterate 6
  refine tW ?_
  try go_frame
 refine rdy1 24 (fun K hK=>?_)
 go_simp
 refine (samel_strs _ _ _ _ _ _ (HA.below C.b lr0).ls (HB.below C.b lr0).ls).mono ?_;rintro e w9 ⟨rfl,hb⟩;have C9:=hid (C.call hb);clear hb C;have C:=C9;clear C9
 try go_wp2_with fail
 refine hK.out _ _ (by (exact ⟨C.a.cell,C.r.cell⟩)) (fun hHeld=>?_)
 clear hK K
 try go_frame
 refine tkl [25,26,27,28,29,30] ?_
 iterate 6
  refine tW ?_
  try go_frame
 refine rdy1 31 (fun K hK=>?_)
 go_simp
 refine (samel_keys _ _ _ _ _ _ (HA.below C.b lr0).foot (HB.below C.b lr0).foot).mono ?_;rintro e w9 ⟨rfl,hb⟩;have C9:=hid (C.call hb);clear hb C;have C:=C9;clear C9
 try go_wp2_with fail
 refine hK.out _ _ (by (exact ⟨C.a.cell,C.r.cell⟩)) (fun hHeld=>?_)
 clear hK K
 try go_frame
 refine tkl [32,33,34,35,36,37] ?_
 iterate 6
  refine tW ?_
  try go_frame
 refine rdy1 38 (fun K hK=>?_)
 go_simp
 refine (samel_wrs _ _ _ _ _ _ (HA.below C.b lr0).plan (HB.below C.b lr0).plan).mono ?_;rintro e w9 ⟨rfl,hb⟩;have C9:=hid (C.call hb);clear hb C;have C:=C9;clear C9
 try go_wp2_with fail
 refine hK.out _ _ (by (exact ⟨C.a.cell,C.r.cell⟩)) (fun hHeld=>?_)
 clear hK K
 try go_frame
 refine tkl [39,40,41,42,43,44] ?_
 iterate 6
  refine tW ?_
  try go_frame
 refine rdy1 45 (fun K hK=>?_)
 go_simp
 refine (samel_pls _ _ _ _ _ _ (HA.below C.b lr0).cp (HB.below C.b lr0).cp).mono ?_;rintro e w9 ⟨rfl,hb⟩;have C9:=hid (C.call hb);clear hb C;have C:=C9;clear C9
 try go_wp2_with fail
 refine hK.out _ _ (by (exact ⟨C.a.cell,C.r.cell⟩)) (fun hHeld=>?_)
 clear hK K
 try go_frame
 refine tkl [46,47,48,49,50,51] ?_
 iterate 6
  refine tW ?_
  try go_frame
 refine rdy1 52 (fun K hK=>?_)
 go_simp
 refine (samel_ints _ _ _ _ _ _ (Av.1 (HA.below C.b lr0).hd) (Av.1 (HB.below C.b lr0).hd)).mono ?_;rintro e w9 ⟨rfl,hb⟩;have C9:=hid (C.call hb);clear hb C;have C:=C9;clear C9
 try go_wp2_with fail
 refine hK.out _ _ (by (exact ⟨C.a.cell,C.r.cell⟩)) (fun hHeld=>?_)
 clear hK K
 try go_frame
 refine tkl [53,54] ?_
 iterate 2
  refine tW ?_
  try go_frame
 refine tkD ?_
 go_wp2_with fail
 go_ret
 exact ⟨Ag rfl,C.b⟩
theorem ssame_yes (a b:Sl) (w:World) (hq:a.q=b.q) (ha:SessAt w a) (hb:SessAt w b):Calls prog 8 #[.agg (slC a).toArray,.agg (slC b).toArray] w fun e w'=>e=.returned (.bool true)∧Below w.heap.size w w':=by
 obtain ⟨player,ls,la,lc,next,phase,step,c,ga,gc,wa,wc,foot,fa,fc,has,plan,pa,pc,r,rpa,rpc,ria,ric,stale,tries,ver,room,copies,ca,cc,heads,ha_,hc,purse⟩:=b
 simp only [Sl.q,Sq.mk.injEq] at hq
 obtain ⟨rfl,rfl,rfl,rfl,rfl,rfl,rfl,rfl,rfl,rfl,rfl,rfl,rfl,rfl,rfl,rfl,rfl⟩:=hq
 exact ssame_go a la lc ga gc wa wc fa fc pa pc rpa rpc ria ric ca cc ha_ hc w ha hb
end Go.Proofs.YtaeclpjofclbeaaDoor
