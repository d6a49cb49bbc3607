/- A session's 30 cells in a block: loaded, stored, answered whole. -/
import Derived.Test.YtaeclpjofclbeaaDoorGCopy
import Derived.Test.YtaeclpjofclbeaaDoorGSlAt
import Derived.Deep.MidRow
namespace Go.Proofs.YtaeclpjofclbeaaDoor
open Go.ChangeShapes Go.WideShapes Go.ChangeAt Go.RowKit Go.Proofs.Tryd
open Lib (hid)
set_option linter.unusedVariables false
open Go.RowKit Go
theorem exec_load {ρ:Operand→Value} {o:Oper} {t:TypeId} {a:Operand} {P:Program} {w:World} {u:Value} (ho:o.op=.load t a) (h:(Instr.loadAt t (ρ a)).run P w=.ok u w):(execOp ρ o).run P w=.ok (.value u) w:=by
 simp [execOp,ho,h,Result.andThen]
theorem sess_size:(prog.info? 34).map (·.size)=some 30:=by kernel_rfl
theorem slC_cells (s:Sl):(slC s).toArray.all (·.oneCell')=true:=all_oneCell_toArray fun v hv=>by
 simp only [slC,List.mem_cons,List.not_mem_nil,or_false] at hv
 rcases hv with rfl|rfl|rfl|rfl|rfl|rfl|rfl|rfl|rfl|rfl|rfl|rfl|rfl|rfl|rfl|rfl|rfl|rfl|rfl|rfl|rfl|rfl|rfl|rfl|rfl|rfl|rfl|rfl|rfl|rfl<;>rfl
theorem blk_range {W:World} {b:Nat} {t:TypeId} {L:List Value} (h:Blk W b t L.toArray):W.rangeAt b 0 L:=fun j v hv=>by
 have:=h.cell j
 rw [Nat.zero_add]
 exact this.trans (by simpa using hv)
theorem load_sess {b o:Nat} {s:Sl} {W:World} (h:W.rangeAt b o (slC s)):(Instr.loadAt 34 (.pointer (some ⟨b,o,none⟩))).run prog W=.ok (.agg (slC s).toArray) W :=
 run_loadAt_mid W b o _ (slC s) _ h underlying34 rfl sess_size
theorem there_new (w:World) (Z:Array Value) (t:TypeId):(w.alloc (.cells Z t)).there w.heap.size 0 Z.size:=fun j hj=>by
 have h:=Blk.new w t Z
 rw [Nat.zero_add]
 exact ⟨by rw [h.cell j];simp;omega,h.frozen j⟩
theorem blk_sets {b:Nat} {t:TypeId}:∀(vs:List Value) (o:Nat) {W:World} {C:Array Value},Blk W b t C→∃D:Array Value,D.size=C.size∧Blk (W.setCells b o vs) b t D
 | [],_,_,C,h=>⟨C,rfl,h⟩
 | v :: r,o,W,C,h=>by
   obtain ⟨D,hD,h2⟩:=blk_sets r (o+1) (h.set_ o v)
   exact ⟨D,by simpa using hD,h2⟩
theorem below_sets {w:World} {n b:Nat} (hn:n≤b):∀(vs:List Value) (o:Nat) {W:World},Below n w W→Below n w (W.setCells b o vs)
 | [],_,_,h=>h
 | v :: r,o,W,h=>below_sets hn r (o+1) (h.setCell (p:=⟨b,o,none⟩) hn v)
theorem blk_stored {W:World} {b:Nat} {t:TypeId} {C:Array Value} {vs:List Value} (h:Blk W b t C) (hz:C.size=vs.length):Blk (W.setCells b 0 vs) b t vs.toArray:=by
 obtain ⟨D,hD,h2⟩:=blk_sets vs 0 h
 have hr:=World.rangeAt_setCells_same W b 0 vs (fun j hj=>by
  rw [Nat.zero_add]
  exact ⟨by rw [h.cell j];simp;omega,h.frozen j⟩)
 have e:D=vs.toArray:=by
  apply Array.ext_getElem?
  intro j
  by_cases hj:j<vs.length
  ·have h3:=hr j vs[j] (List.getElem?_eq_getElem hj)
   rw [Nat.zero_add,h2.cell j] at h3
   rw [h3];simp [hj]
  ·rw [Array.getElem?_eq_none (by omega)];simp;omega
 rw [←e];exact h2
def sets (C:Array Value):Nat→List Value→Array Value
 | _,[]=>C
 | o,v :: r=>sets (C.setIfInBounds o v) (o+1) r
theorem blk_mid {b:Nat} {t:TypeId}:∀(vs:List Value) (o:Nat) {W:World} {C:Array Value},Blk W b t C→Blk (W.setCells b o vs) b t (sets C o vs)
 | [],_,_,_,h=>h
 | v :: r,o,_,_,h=>blk_mid r (o+1) (h.set_ o v)
theorem size_sets (b:Nat):∀(vs:List Value) (o:Nat) (W:World),(W.setCells b o vs).heap.size=W.heap.size
 | [],_,_=>rfl
 | v :: r,o,W=>(size_sets b r (o+1) _).trans (by simp [World.setCell])
theorem blk_there {W:World} {b o n:Nat} {t:TypeId} {C:Array Value} (h:Blk W b t C) (hn:o+n≤C.size):W.there b o n:=fun j hj=>⟨by rw [h.cell];simp;omega,h.frozen _⟩
theorem blk_part {W:World} {b o:Nat} {t:TypeId} {C:Array Value} {L:List Value} (h:Blk W b t C) (hL:∀j v,L[j]?=some v→C[o+j]?=some v):W.rangeAt b o L:=fun j v hv=>(h.cell _).trans (hL j v hv)
theorem blk_far {b c:Nat} {t:TypeId} (hne:c≠b):∀(vs:List Value) (o:Nat) {W:World} {C:Array Value},Blk W c t C→Blk (W.setCells b o vs) c t C
 | [],_,_,_,h=>h
 | v :: r,o,_,_,h=>blk_far hne r (o+1) (h.far hne v)
theorem res_at {P:Program} {fn:Func} {tmps:Array Value} {k b:Nat} {W:World} {T:TypeId} {L:List Value} {d:TypeDesc} (hf:fn.results=#[.cell k T]) (ht:tmps[k]?.getD undef=.pointer (some ⟨b,0,none⟩)) (h:W.rangeAt b 0 L) (hu:P.underlying T=some d) (hd:d.isRow=true) (hi:(P.info? T).map (·.size)=some L.length):(results fn tmps).run P W=.ok (.agg L.toArray) W:=by
 have hl:=run_loadVar_mid W b 0 T L d h hu hd hi
 simp [results,hf,ht,asAddr,hl]
theorem res_sess {fn:Func} {tmps:Array Value} {k b:Nat} {W:World} {s:Sl} (hf:fn.results=#[.cell k 34]) (ht:tmps[k]?.getD undef=.pointer (some ⟨b,0,none⟩)) (h:W.rangeAt b 0 (slC s)):(results fn tmps).run prog W=.ok (.agg (slC s).toArray) W :=
 res_at hf ht h underlying34 rfl sess_size
theorem OwnR.sets {α:Type} {k:Nat} {e:TypeId} {enc:α→List Value} {n q:Nat} {a:Option Addr} {xs:List α} (hq:q<n):∀(vs:List Value) (o:Nat) {W:World},OwnR k e enc n W a xs→OwnR k e enc n (W.setCells q o vs) a xs
 | [],_,_,h=>h
 | v :: r,o,_,h=>OwnR.sets hq r (o+1) (h.set hq o v)
def cmL (c:Cm) (ga:Option Addr) (gc:Nat) (wa:Option Addr) (wc:Nat):List Value:=[.int .i64 c.kind,.int .i64 c.dir,.int .i64 c.item,.int .i64 c.box,.int .i64 c.who,.slice ga c.gives.length gc,.int .i64 c.pay,.slice wa c.wants.length wc,.int .i64 c.fee]
theorem cmd_size:(prog.info? 25).map (·.size)=some 9:=by kernel_rfl
theorem cmL_cells (c:Cm) (ga:Option Addr) (gc:Nat) (wa:Option Addr) (wc:Nat):(cmL c ga gc wa wc).toArray.all (·.oneCell')=true:=all_oneCell_toArray fun v hv=>by
 simp only [cmL,List.mem_cons,List.not_mem_nil,or_false] at hv
 rcases hv with rfl|rfl|rfl|rfl|rfl|rfl|rfl|rfl|rfl<;>rfl
structure SB (w V:World) (n m:Nat) (z:Array Value) (s:Sl):Prop where
 za:Blk V n 34 z
 sb:Blk V m 34 (slC s).toArray
 b:Below w.heap.size w V
 hn:w.heap.size≤n
 hm:w.heap.size≤m
 ne:n≠m
section
variable {w V V':World} {n m:Nat} {z:Array Value} {s s':Sl}
theorem SB.call (h:SB w V n m z s) (hb:Below V.heap.size V V'):SB w V' n m z s:=⟨h.za.call hb,h.sb.call hb,bl h.b hb,h.hn,h.hm,h.ne⟩
theorem SB.sets (h:SB w V n m z s) (o:Nat) (vs:List Value) (e:sets (slC s).toArray o vs=(slC s').toArray):SB w (V.setCells m o vs) n m z s':=⟨blk_far h.ne vs o h.za,e ▸ blk_mid vs o h.sb,below_sets h.hm vs o h.b,h.hn,h.hm,h.ne⟩
theorem SB.set (h:SB w V n m z s) (i:Nat) (v:Value) (e:(slC s).toArray.setIfInBounds i v=(slC s').toArray):SB w (V.setCell ⟨m,i,none⟩ v) n m z s':=h.sets i [v] e
theorem SB.cell (h:SB w V n m z s) (i:Nat) (v:Value) (e:(slC s).toArray[i]?=some v):V.cell? ⟨m,i,none⟩=some v:=(h.sb.cell i).trans e
theorem SB.fin (h:SB w V n m z s) (hz:z.size=30):Blk (V.setCells n 0 (slC s)) n 34 (slC s).toArray∧Below w.heap.size w (V.setCells n 0 (slC s)):=⟨blk_stored h.za (hz.trans (slC_len s).symm),below_sets h.hn _ _ h.b⟩
theorem SB.there (h:SB w V n m z s) (hz:z.size=30):V.there n 0 (slC s).toArray.size:=blk_there h.za (by rw [hz,List.size_toArray,slC_len];decide)
theorem SB.part (h:SB w V n m z s) (o:Nat) (L:List Value) (hL:∀j v,L[j]?=some v→(slC s).toArray[o+j]?=some v):V.rangeAt m o L:=blk_part h.sb hL
theorem SB.range (h:SB w V n m z s):V.rangeAt m 0 (slC s):=blk_range h.sb
end
theorem cmd_part (s:Sl) (j:Nat) (v:Value) (h:(cmL s.c s.ga s.gc s.wa s.wc)[j]?=some v):(slC s).toArray[5+j]?=some v:=by
 have hj:j<9:=(List.getElem?_eq_some_iff.1 h).1
 match j,hj with
 | 0,_=>exact h
 | 1,_=>exact h
 | 2,_=>exact h
 | 3,_=>exact h
 | 4,_=>exact h
 | 5,_=>exact h
 | 6,_=>exact h
 | 7,_=>exact h
 | 8,_=>exact h
theorem sets_cmd (s:Sl) (c:Cm) (ga:Option Addr) (gc:Nat) (wa:Option Addr) (wc:Nat):sets (slC s).toArray 5 (cmL c ga gc wa wc)=(slC { s with c:=c,ga:=ga,gc:=gc,wa:=wa,wc:=wc }).toArray:=by
 simp [sets,slC,cmL]
theorem gen_at {P:Program} {c:Code} {K:Exit→Act→World→Prop} {a:Act} {W:World} (F:World→Prop) (hF:F W) (h:∀V,F V→Code.wp P c K a V):Code.wp P c K a W:=h W hF
def s0 (p:Int) (ls:List ByteArray) (la:Option Addr) (lc:Nat) (n ph:Int):Sl:=⟨p,ls,la,lc,n,ph,0,⟨0,0,0,0,0,[],0,[],0⟩,none,0,none,0,[],none,0,0,[],none,0,⟨0,0,0,[],[],0⟩,none,0,none,0,false,0,0,0,[],none,0,[],none,0,0⟩
theorem slC_eta (s:Sl):(slC s).toArray=#[.int .i64 s.player,.slice s.la s.ls.length s.lc,.int .i64 s.next,.int .i64 s.phase,.int .i64 s.step,.int .i64 s.c.kind,.int .i64 s.c.dir,.int .i64 s.c.item,.int .i64 s.c.box,.int .i64 s.c.who,.slice s.ga s.c.gives.length s.gc,.int .i64 s.c.pay,.slice s.wa s.c.wants.length s.wc,.int .i64 s.c.fee,.slice s.fa s.foot.length s.fc,.int .i64 s.has,.slice s.pa s.plan.length s.pc,.int .i64 s.r.err,.int .i64 s.r.kind,.int .i64 s.r.room,.slice s.rpa s.r.players.length s.rpc,.slice s.ria s.r.items.length s.ric,.int .i64 s.r.coins,.bool s.stale,.int .i64 s.tries,.int .i64 s.ver,.int .i64 s.room,.slice s.ca s.copies.length s.cc,.slice s.ha s.heads.length s.hc,.int .i64 s.purse]:=rfl
set_option maxRecDepth 100000 in
theorem hasnext_any (s:Sl) (w:World):Calls prog 30 #[.agg (slC s).toArray] w fun e w'=>e=.returned (.bool (decide (0≤s.next)&&decide (s.next<s.ls.length)))∧Below w.heap.size w w':=by
 have HB:=hid (b_a (w:=w) (.cells #[.int .i64 s.player,.slice s.la s.ls.length s.lc,.int .i64 s.next,.int .i64 s.phase,.int .i64 s.step,.int .i64 s.c.kind,.int .i64 s.c.dir,.int .i64 s.c.item,.int .i64 s.c.box,.int .i64 s.c.who,.slice s.ga s.c.gives.length s.gc,.int .i64 s.c.pay,.slice s.wa s.c.wants.length s.wc,.int .i64 s.c.fee,.slice s.fa s.foot.length s.fc,.int .i64 s.has,.slice s.pa s.plan.length s.pc,.int .i64 s.r.err,.int .i64 s.r.kind,.int .i64 s.r.room,.slice s.rpa s.r.players.length s.rpc,.slice s.ria s.r.items.length s.ric,.int .i64 s.r.coins,.bool s.stale,.int .i64 s.tries,.int .i64 s.ver,.int .i64 s.room,.slice s.ca s.copies.length s.cc,.slice s.ha s.heads.length s.hc,.int .i64 s.purse] 34))
 rw [slC_eta]
 by_cases h0:0≤s.next
 ·by_cases h1:s.next<s.ls.length
  ·
   go_enter func30,ntmps30
   go_wp2_with fail
   go_ret
   exact ⟨Ag (by simp [h0,h1]),HB.out⟩
  ·
   go_enter func30,ntmps30
   go_wp2_with fail
   go_ret
   exact ⟨Ag (by simp [h1]),HB.out⟩
 ·
  go_enter func30,ntmps30
  go_wp2_with fail
  go_ret
  exact ⟨Ag (by simp;omega),HB.out⟩
theorem firstphase_any (k:Int) (w:World):Calls prog 32 #[.int .i64 k] w fun e w'=>e=.returned (.int .i64 (if k=9∨k=10 then 9 else 1))∧w'=w:=by
 by_cases h9:k=9
 ·subst h9
  go_enter func32,ntmps32
  go_wp2_with fail
  go_ret
  exact ⟨rfl,rfl⟩
 ·by_cases h10:k=10
  ·subst h10
   go_enter func32,ntmps32
   go_wp2_with fail
   go_ret
   exact ⟨rfl,rfl⟩
  ·
   go_enter func32,ntmps32
   go_wp2_with fail
   go_ret
   exact ⟨rfl,rfl⟩
end Go.Proofs.YtaeclpjofclbeaaDoor
