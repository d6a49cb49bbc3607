/- Sessions as they lie in memory, with all their lists; a session, a script that was handed in. -/
import Derived.Test.YtaeclpjofclbeaaDoorGSlAt
namespace Go.Proofs.YtaeclpjofclbeaaDoor
open Go.ChangeShapes Go.WideShapes Go.ChangeAt Go.RowKit Go.Proofs.Tryd
set_option linter.unusedVariables false
set_option maxRecDepth 100000
section
open Go.RowKit Go Go.Deep Go.Joins
def sbC (b:ByteArray):List Value:=[.string b]
theorem sbC_len (b:ByteArray):(sbC b).length=1:=rfl
structure SessAt (W:World) (s:Sl):Prop where
 ls:Ar 1 sbC W s.la s.ls
 g:Ae W s.ga s.c.gives
 w:Ae W s.wa s.c.wants
 foot:Au W s.fa s.foot
 plan:WrsAt W s.pa s.plan
 rp:Ae W s.rpa s.r.players
 ri:Bd W s.ria s.r.items
 cp:Au W s.ca s.copies
 hd:Ae W s.ha s.heads
theorem SessAt.below {W W':World} {s:Sl} (h:SessAt W s) {B:Nat} (hb:Below B W W') (hB:W.heap.size≤B):SessAt W' s :=
 ⟨h.ls.below hb hB,h.g.below hb hB,h.w.below hb hB,h.foot.below hb hB,Ar.below h.plan hb hB,h.rp.below hb hB,h.ri.below hb hB,h.cp.below hb hB,h.hd.below hb hB⟩
theorem SessAt.call {W W':World} {s:Sl} (h:SessAt W s) (hb:Below W.heap.size W W'):SessAt W' s:=h.below hb lr0
theorem trod_key2 {H:Type} {enc:TypeId × Value→H} {W:World} {fuel:Nat} {cs:List Value} {x:DataW H × List MemPlace}
 (h:DataW.trod enc prog W 0 (fun _=>true) true fuel 55 cs=some x):∃s:Pl,cs=plC s:=by
 have hc:prog.cellsOf 3=1:=by kernel_rfl
 obtain ⟨xs,n,_,_,hl,hxl,hf⟩:=DataW.trod_struct underlying55 h
 rw [show prog.cellsOf 55=2 by kernel_rfl] at hl
 match cs,hl with
 | [a,b],_ =>
   have e0:=hf 0 _ rfl
   have e1:=hf 1 _ rfl
   match xs,hxl with
   | [y0,y1],_ =>
     simp [hc] at e0 e1
     obtain ⟨i,hi,h2,h3⟩:=DataW.trod_int underlying3 e0
     obtain ⟨j,hj,h4,h5⟩:=DataW.trod_int underlying3 e1
     simp only [List.cons.injEq,and_true] at hi hj
     subst hi hj
     exact ⟨⟨i,j⟩,rfl⟩
theorem trod_place2 {H:Type} {enc:TypeId × Value→H} {W:World} {fuel:Nat} {cs:List Value} {x:DataW H × List MemPlace}
 (h:DataW.trod enc prog W 0 (fun _=>true) true fuel 57 cs=some x):∃s:Pl,cs=plC s:=by
 have hc:prog.cellsOf 3=1:=by kernel_rfl
 obtain ⟨xs,n,_,_,hl,hxl,hf⟩:=DataW.trod_struct underlying57 h
 rw [show prog.cellsOf 57=2 by kernel_rfl] at hl
 match cs,hl with
 | [a,b],_ =>
   have e0:=hf 0 _ rfl
   have e1:=hf 1 _ rfl
   match xs,hxl with
   | [y0,y1],_ =>
     simp [hc] at e0 e1
     obtain ⟨i,hi,h2,h3⟩:=DataW.trod_int underlying3 e0
     obtain ⟨j,hj,h4,h5⟩:=DataW.trod_int underlying3 e1
     simp only [List.cons.injEq,and_true] at hi hj
     subst hi hj
     exact ⟨⟨i,j⟩,rfl⟩
section
variable {H:Type} {enc:TypeId × Value→H} {P:Program}
theorem weights_all {P:Program} {e:TypeId} {d:DataW H}:∀{l:List (DataW H)},d∈l→∀n∈d.weights P e,n∈DataW.weightsAll P e l
 | x :: r,h,n,hn=>by
   rw [DataW.weightsAll,List.mem_append]
   rcases List.mem_cons.1 h with rfl|h
   ·exact .inl hn
   ·exact .inr (weights_all h n hn)
theorem weights_each {P:Program} {t:TypeId} {d:DataW H}:∀{ts:List TypeId} {l:List (DataW H)} {j:Nat},ts[j]?=some t→l[j]?=some d→∀n∈d.weights P t,n∈DataW.weightsEach P ts l
 | t0 :: ts,d0 :: ds,0,ht,hd,n,hn=>by
   simp only [List.getElem?_cons_zero,Option.some.injEq] at ht hd
   subst ht;subst hd
   simp only [DataW.weightsEach,List.mem_append]
   exact Or.inl hn
 | t0 :: ts,d0 :: ds,j+1,ht,hd,n,hn=>by
   simp only [List.getElem?_cons_succ] at ht hd
   simp only [DataW.weightsEach,List.mem_append]
   exact Or.inr (weights_each ht hd n hn)
 | [],_,_,ht,_,_,_=>by simp at ht
 | _ :: _,[],_,_,hd,_,_=>by simp at hd
theorem strs_size {W:World} {t e:TypeId} {fuel:Nat} {a:Option Addr} {cap:Nat} {xs:List ByteArray} {x:DataW H × List MemPlace} (ht:P.underlying t=some (.slice e)) (he:P.underlying e=some .string) (hc:P.cellsOf e=1)
 (hf:DataW.trod enc P W 0 (fun _=>true) true fuel t [.slice a xs.length cap]=some x) (hr:Ar 1 sbC W a xs) {N:Nat} (hN:∀n∈x.1.weights P t,n≤N):∀b∈xs,b.size≤N:=by
 intro b hb
 obtain ⟨i,hi,rfl⟩:=List.getElem_of_mem hb
 rcases open_slice ht hf with ⟨hcs,hx⟩|⟨a2,len',cap',m,n,D,Pl,hcs,_,hl,hm,hmm,hx,hD⟩
 ·simp at hcs
  obtain ⟨-,h0,-⟩:=hcs
  simp [h0] at hi
 ·simp at hcs
  obtain ⟨rfl,hlen,rfl⟩:=hcs
  simp only [if_true] at hmm
  obtain ⟨cs',h1,h2⟩:=hD i (by omega)
  rw [hc] at h1
  obtain ⟨s,rfl,hd,_⟩:=DataW.trod_string he h2
  obtain ⟨_,hcl,hat⟩:=World.cells?_some h1
  have h3:=hat 0 (by decide)
  obtain ⟨b2,off,hae,hb2,hrc⟩:=hr.at_ hi
  have h4:=hrc i hi 0 (by decide)
  simp only [Option.some.injEq] at hae
  subst hae
  have ea:(((⟨b2,off,none⟩:Addr).add (i*1)).add 0)=⟨b2,off+i*1+0,none⟩:=by
   rw [Nat.mul_one];by_cases hi0:i=0<;>simp [Addr.add,hi0]
  rw [ea] at h3
  rw [h3] at h4
  simp [sbC] at h4
  subst h4
  have hmem:D i∈(List.range len').map D:=List.mem_map.2 ⟨i,List.mem_range.2 (by omega),rfl⟩
  have hw:(xs[i]).data.toList.length∈(D i).weights P e:=by
   rw [(Prod.mk.inj hd).1];simp [DataW.weights]
  have:=hN _ (by
   rw [hx];simp only [DataW.weights,ht,List.mem_cons,List.mem_append]
   exact .inr (.inl (weights_all hmem _ hw)))
  simpa using this
end
def Sl.Wf (s:Sl):Prop:=(Lit.int .i64 s.player).wf=true∧(Lit.int .i64 s.next).wf=true∧(Lit.int .i64 s.phase).wf=true∧(Lit.int .i64 s.step).wf=true∧(Lit.int .i64 s.tries).wf=true
set_option maxHeartbeats 1000000 in
theorem trod_sess {H:Type} {enc:TypeId × Value→H} {W:World} {fuel:Nat} {cs:List Value} {x:DataW H × List MemPlace}
 (h:DataW.trod enc prog W 0 (fun _=>true) true fuel 34 cs=some x):∃s:Sl,cs=slC s∧SessAt W s∧s.Wf∧∀N:Nat,(∀n∈x.1.weights prog 34,n≤N)→∀b∈s.ls,b.size≤N:=by
 obtain ⟨xs,n,_,hxe,hl,hxl,hf⟩:=DataW.trod_struct underlying34 h
 rw [show prog.cellsOf 34=30 by kernel_rfl] at hl
 match cs,hl with
 | [a0,a1,a2,a3,a4,b0,b1,b2,b3,b4,b5,b6,b7,b8,a6,a7,a8,r0,r1,r2,r3,r4,r5,a10,a11,a12,a13,a14,a15,a16],_ =>
   match xs,hxl with
   | [y0,y1,y2,y3,y4,y5,y6,y7,y8,y9,y10,y11,y12,y13,y14,y15,y16],_ =>
     have z1:prog.cellsOf 25=9:=by kernel_rfl
     have z2:prog.cellsOf 31=6:=by kernel_rfl
     have z4:prog.cellsOf 3=1:=by kernel_rfl
     have z5:prog.cellsOf 22=1:=by kernel_rfl
     have z6:prog.cellsOf 26=1:=by kernel_rfl
     have z7:prog.cellsOf 27=1:=by kernel_rfl
     have z8:prog.cellsOf 32=1:=by kernel_rfl
     have z9:prog.cellsOf 23=1:=by kernel_rfl
     have z10:prog.cellsOf 4=1:=by kernel_rfl
     have f0:=hf 0 _ rfl
     have f1:=hf 1 _ rfl
     have f2:=hf 2 _ rfl
     have f3:=hf 3 _ rfl
     have f4:=hf 4 _ rfl
     have f5:=hf 5 _ rfl
     have f6:=hf 6 _ rfl
     have f7:=hf 7 _ rfl
     have f8:=hf 8 _ rfl
     have f9:=hf 9 _ rfl
     have f10:=hf 10 _ rfl
     have f11:=hf 11 _ rfl
     have f12:=hf 12 _ rfl
     have f13:=hf 13 _ rfl
     have f14:=hf 14 _ rfl
     have f15:=hf 15 _ rfl
     have f16:=hf 16 _ rfl
     simp [z1,z2,z4,z5,z6,z7,z8,z9,z10] at f0 f1 f2 f3 f4 f5 f6 f7 f8 f9 f10 f11 f12 f13 f14 f15 f16
     have hint:∀(n:Nat) (cs:List Value) (y:DataW H × List MemPlace),DataW.trod enc prog W 0 (fun _=>true) true n 3 cs=some y→∃s:Int,cs=inC s:=fun n cs y hy=>by
      obtain ⟨k,e,_,_⟩:=DataW.trod_int underlying3 hy
      exact ⟨k,e⟩
     have hstr:∀(n:Nat) (cs:List Value) (y:DataW H × List MemPlace),DataW.trod enc prog W 0 (fun _=>true) true n 9 cs=some y→∃s:ByteArray,cs=sbC s:=fun n cs y hy=>by
      obtain ⟨s,e,_,_⟩:=DataW.trod_string underlying9 hy
      exact ⟨s,e⟩
     obtain ⟨la,lc,ls,rfl,q1⟩:=Gj (k:=1) (en:=sbC) (by decide) ByteArray.empty underlying22 (by kernel_rfl) sbC_len hstr f1
     obtain ⟨m,ga,wa,gc,wc,e5,h5,h6⟩:=Bg5 f5
     obtain ⟨fa,fc,foot,rfl,q6⟩:=Gj (k:=2) (en:=plC) (by decide) ⟨0,0⟩ underlying26 (by kernel_rfl) (fun _=>rfl) (fun n cs y hy=>trod_key2 hy) f6
     obtain ⟨pa,pc,plan,rfl,q8⟩:=Gj (k:=5) (en:=wrC) (by decide) ⟨0,0,0,⟨0,0⟩⟩ underlying27 (by kernel_rfl) wrC_len (fun n cs y hy=>trod_wr hy) f8
     obtain ⟨r,rpa,ria,rpc,ric,e9,h9,h10⟩:=Bg4 f9
     obtain ⟨ca,cc,copies,rfl,q14⟩:=Gj (k:=2) (en:=plC) (by decide) ⟨0,0⟩ underlying32 (by kernel_rfl) (fun _=>rfl) (fun n cs y hy=>trod_place2 hy) f14
     obtain ⟨ha,hc,heads,rfl,q15⟩:=Gj (k:=1) (en:=inC) (by decide) 0 underlying23 (by kernel_rfl) (fun _=>rfl) hint f15
     obtain ⟨i0,e0,_,w0⟩:=DataW.trod_int underlying3 f0
     obtain ⟨i2,e2,_,w2⟩:=DataW.trod_int underlying3 f2
     obtain ⟨i3,e3,_,w3⟩:=DataW.trod_int underlying3 f3
     obtain ⟨i4,e4,_,w4⟩:=DataW.trod_int underlying3 f4
     obtain ⟨i7,e7,_,w7⟩:=DataW.trod_int underlying3 f7
     obtain ⟨t10,e10,_⟩:=DataW.trod_bool underlying4 f10
     obtain ⟨i11,e11,_,w11⟩:=DataW.trod_int underlying3 f11
     obtain ⟨i12,e12,_,w12⟩:=DataW.trod_int underlying3 f12
     obtain ⟨i13,e13,_,w13⟩:=DataW.trod_int underlying3 f13
     obtain ⟨i16,e16,_,w16⟩:=DataW.trod_int underlying3 f16
     simp only [List.cons.injEq,and_true] at e0 e2 e3 e4 e5 e7 e9 e10 e11 e12 e13 e16
     subst e0 e2 e3 e4 e7 e10 e11 e12 e13 e16
     obtain ⟨rfl,rfl,rfl,rfl,rfl,rfl,rfl,rfl,rfl⟩:=e5
     obtain ⟨rfl,rfl,rfl,rfl,rfl,rfl⟩:=e9
     exact ⟨⟨i0,ls,la,lc,i2,i3,i4,m,ga,gc,wa,wc,foot,fa,fc,i7,plan,pa,pc,r,rpa,rpc,ria,ric,t10,i11,i12,i13,copies,ca,cc,heads,ha,hc,i16⟩,rfl,⟨q1,h5,h6,q6,q8,h9,h10,q14,Av.2 q15⟩,⟨w0,w2,w3,w4,w11⟩,fun N hN=>strs_size underlying22 underlying9 (by kernel_rfl) f1 q1 (fun n hn=>hN n (by rw [hxe];simp only [DataW.weights,underlying34];exact weights_each (j:=1) (t:=22) (by kernel_rfl) (by simp) n hn))⟩
theorem read_sess {H:Type} {enc:TypeId × Value→H} {W:World} {base:Nat} {v:Value} {d:DataW H} {ps:List MemPlace}
 (hv:Value.okWide prog W .any base 34 v) (h:DataW.Trod enc prog W 0 (fun _=>true) true 34 v d ps):∃s:Sl,v=.agg (slC s).toArray∧SessAt W s∧s.Wf∧∀N:Nat,(∀n∈d.weights prog 34,n≤N)→∀b∈s.ls,b.size≤N:=by
 obtain ⟨cs,rfl,_⟩:=okWide_struct underlying34 hv
 obtain ⟨fuel,hf⟩:=h
 obtain ⟨s,he,h2⟩:=trod_sess (show DataW.trod enc prog W 0 (fun _=>true) true fuel 34 cs.toList=some _ from hf)
 exact ⟨s,by rw [←Array.toArray_toList (xs:=cs),he],h2⟩
structure Sc where
 player:Int
 ls:List ByteArray
 la:Option Addr
 lc:Nat
def scC (s:Sc):List Value:=[.int .i64 s.player,.slice s.la s.ls.length s.lc]
theorem scC_len (s:Sc):(scC s).length=2:=rfl
def ScAt (W:World) (s:Sc):Prop:=Ar 1 sbC W s.la s.ls
theorem ScAt.below {W W':World} {s:Sc} (h:ScAt W s) {B:Nat} (hb:Below B W W') (hB:W.heap.size≤B):ScAt W' s:=Ar.below h hb hB
structure ScsAt (W:World) (a:Option Addr) (l:List Sc):Prop where
 row:Ar 2 scC W a l
 ok:∀s∈l,ScAt W s
theorem ScsAt.below {W W':World} {a:Option Addr} {l:List Sc} (h:ScsAt W a l) {B:Nat} (hb:Below B W W') (hB:W.heap.size≤B):ScsAt W' a l:=⟨h.row.below hb hB,fun s hs=>(h.ok s hs).below hb hB⟩
section
variable {H:Type} {enc:TypeId × Value→H} {P:Program} {W:World} {T i st ss:TypeId} {f0 f1:Field}
theorem trod_script (ht:P.underlying T=some (.struct #[f0,f1])) (hi:P.underlying i=some (.int .i64)) (hs:P.underlying ss=some (.slice st)) (hst:P.underlying st=some .string)
 (c0:f0.offset=0∧f0.type=i) (c1:f1.offset=1∧f1.type=ss) (ci:P.cellsOf i=1) (cs1:P.cellsOf ss=1) (cst:P.cellsOf st=1) (hct:P.cellsOf T=2) {fuel:Nat} {cs:List Value} {x:DataW H × List MemPlace}
 (h:DataW.trod enc P W 0 (fun _=>true) true fuel T cs=some x):∃s:Sc,cs=scC s∧ScAt W s∧∀N:Nat,(∀n∈x.1.weights P T,n≤N)→∀b∈s.ls,b.size≤N:=by
 obtain ⟨xs,n,_,hxe,hl,hxl,hf⟩:=DataW.trod_struct ht h
 rw [hct] at hl
 match cs,hl with
 | [a,b],_ =>
   have e0:=hf 0 f0 rfl
   have e1:=hf 1 f1 rfl
   match xs,hxl with
   | [y0,y1],_ =>
     rw [c0.1,c0.2,ci] at e0
     rw [c1.1,c1.2,cs1] at e1
     simp at e0 e1
     obtain ⟨k,hk,_,_⟩:=DataW.trod_int hi e0
     have hstr:∀(n:Nat) (cs:List Value) (y:DataW H × List MemPlace),DataW.trod enc P W 0 (fun _=>true) true n st cs=some y→∃s:ByteArray,cs=sbC s:=fun n cs y hy=>by
      obtain ⟨s,e,_,_⟩:=DataW.trod_string hst hy
      exact ⟨s,e⟩
     obtain ⟨la,lc,ls,rfl,q1⟩:=Gj (k:=1) (en:=sbC) (by decide) ByteArray.empty hs cst sbC_len hstr e1
     simp only [List.cons.injEq,and_true] at hk
     subst hk
     exact ⟨⟨k,ls,la,lc⟩,rfl,q1,fun N hN=>strs_size hs hst cst e1 q1 (fun n hn=>hN n (by rw [hxe];simp only [DataW.weights,ht];exact weights_each (j:=1) (by simp [c1.2]) (by simp) n hn))⟩
end
theorem read_script {H:Type} {enc:TypeId × Value→H} {W:World} {base:Nat} {v:Value} {d:DataW H} {ps:List MemPlace}
 (hv:Value.okWide prog W .any base 42 v) (h:DataW.Trod enc prog W 0 (fun _=>true) true 42 v d ps):∃s:Sc,v=.agg (scC s).toArray∧ScAt W s∧∀N:Nat,(∀n∈d.weights prog 42,n≤N)→∀b∈s.ls,b.size≤N:=by
 obtain ⟨cs,rfl,_⟩:=okWide_struct underlying42 hv
 obtain ⟨fuel,hf⟩:=h
 obtain ⟨s,he,h2⟩:=trod_script underlying42 underlying3 underlying22 underlying9 ⟨rfl,rfl⟩ ⟨rfl,rfl⟩ (by kernel_rfl) (by kernel_rfl) (by kernel_rfl) (by kernel_rfl) (show DataW.trod enc prog W 0 (fun _=>true) true fuel 42 cs.toList=some _ from hf)
 exact ⟨s,by rw [←Array.toArray_toList (xs:=cs),he],h2⟩
end
section
open Go.RowKit Go
structure Sq where
 player:Int
 ls:List ByteArray
 next:Int
 phase:Int
 step:Int
 c:Cm
 foot:List Pl
 has:Int
 plan:List Wr
 r:Rp
 stale:Bool
 tries:Int
 ver:Int
 room:Int
 copies:List Pl
 heads:List Int
 purse:Int
def Sl.q (s:Sl):Sq:=⟨s.player,s.ls,s.next,s.phase,s.step,s.c,s.foot,s.has,s.plan,s.r,s.stale,s.tries,s.ver,s.room,s.copies,s.heads,s.purse⟩
def c0:Cm:=⟨0,0,0,0,0,[],0,[],0⟩
def r0:Rp:=⟨0,0,0,[],[],0⟩
def restQ (p:Int) (ls:List ByteArray) (n:Int):Sq:=⟨p,ls,n,if (ls.length:Int)≤n then 12 else 0,0,c0,[],0,[],r0,false,0,0,0,[],[],0⟩
def newQ (p:Int) (ls:List ByteArray):Sq:=restQ p ls 0
def closeQ (s:Sq):Sq:=restQ s.player s.ls (s.next+1)
def anewQ (s:Sq):Sq:={ (restQ s.player s.ls s.next) with phase:=1,c:=s.c,tries:=s.tries }
def openQ (G:ByteArray→Cm × Int) (s:Sq):Sq :=
 if ¬(G (s.ls.getD s.next.toNat ByteArray.empty)).2=0 then { s with c:=(G (s.ls.getD s.next.toNat ByteArray.empty)).1,phase:=8,r:=⟨2,0,0,[],[],0⟩ }
 else { s with c:=(G (s.ls.getD s.next.toNat ByteArray.empty)).1,phase:=if 9≤(G (s.ls.getD s.next.toNat ByteArray.empty)).1.kind then 9 else 1 }
theorem anew_two (s:Sq):anewQ (anewQ s)=anewQ s:=rfl
theorem close_open (G:ByteArray→Cm × Int) (s:Sq):closeQ (openQ G s)=closeQ s:=by unfold openQ;split<;>rfl
theorem close_rest (p:Int) (ls:List ByteArray) (n:Int):closeQ (restQ p ls n)=restQ p ls (n+1):=rfl
theorem open_only (G:ByteArray→Cm × Int) (s:Sq):{ (openQ G s) with c:=s.c,phase:=s.phase,r:=s.r }=s:=by unfold openQ;split<;>rfl
theorem open_c (G:ByteArray→Cm × Int) (s:Sq):(openQ G s).c=(G (s.ls.getD s.next.toNat ByteArray.empty)).1:=by unfold openQ;split<;>rfl
theorem open_ways (G:ByteArray→Cm × Int) (s:Sq) (h1:∀b,¬(G b).2=0→(G b).1=c0) (h2:∀b,(G b).2=0→1≤(G b).1.kind∧(G b).1.kind≤10) :
 ((openQ G s).phase=9↔((openQ G s).c.kind=9∨(openQ G s).c.kind=10))∧((openQ G s).phase=8↔(openQ G s).c.kind=0)∧((openQ G s).phase=1↔(¬(openQ G s).c.kind=0∧¬((openQ G s).c.kind=9∨(openQ G s).c.kind=10))):=by
 unfold openQ
 generalize s.ls.getD s.next.toNat ByteArray.empty=b
 split
 ·rename_i h
  have:=h1 b h
  simp [this,c0]
 ·rename_i h
  have h:=h2 b (by simpa using h)
  generalize (G b).1=m at h ⊢
  by_cases h9:9≤m.kind
  ·show (((if 9≤m.kind then (9:Int) else 1)=9)↔(m.kind=9∨m.kind=10))∧(((if 9≤m.kind then (9:Int) else 1)=8)↔m.kind=0)∧(((if 9≤m.kind then (9:Int) else 1)=1)↔(¬m.kind=0∧¬(m.kind=9∨m.kind=10)))
   rw [if_pos h9];omega
  ·show (((if 9≤m.kind then (9:Int) else 1)=9)↔(m.kind=9∨m.kind=10))∧(((if 9≤m.kind then (9:Int) else 1)=8)↔m.kind=0)∧(((if 9≤m.kind then (9:Int) else 1)=1)↔(¬m.kind=0∧¬(m.kind=9∨m.kind=10)))
   rw [if_neg h9];omega
theorem rest_idle {p:Int} {ls:List ByteArray} {n:Nat} (h:n<ls.length):(restQ p ls n).phase=0:=by
 show (if (ls.length:Int)≤(n:Int) then (12:Int) else 0)=0
 rw [if_neg (by omega)]
theorem rest_done {p:Int} {ls:List ByteArray} {n:Nat} (h:ls.length≤n):(restQ p ls n).phase=12:=by
 show (if (ls.length:Int)≤(n:Int) then (12:Int) else 0)=12
 rw [if_pos (by omega)]
def fewQ (s:Sq):Bool:=decide (s.ls.length≤40)&&(decide ((s.ls.map (·.size)).sum≤20000)&&(decide (s.c.gives.length≤40)&&(decide (s.c.wants.length≤40)&&(decide (s.foot.length≤20)&&(decide (s.plan.length≤60)&&(decide (s.copies.length≤60)&&decide (s.heads.length≤60)))))))
end
end Go.Proofs.YtaeclpjofclbeaaDoor
