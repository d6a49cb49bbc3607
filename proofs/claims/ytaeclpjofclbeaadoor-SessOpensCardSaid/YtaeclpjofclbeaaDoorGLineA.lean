/- Tables of texts: what their cells hold; an array of texts by value, indexed. Over whatever program. -/
import Derived.Laws.PanicsMore
import Derived.Lib.LaidTab
import Derived.Stop.LaidErr
import Derived.Test.YtaeclpjofclbeaaDoorClone
import Derived.Test.YtaeclpjofclbeaaDoorGCmdC
import Derived.Laws.EntriesVeiled
import Derived.Orders
import Derived.Maps.Own
import Derived.Shelf.Abstract
namespace Go.Proofs.YtaeclpjofclbeaaDoor
open Go.ChangeShapes Go.WideShapes Go.ChangeAt Go.RowKit Go.Proofs.Tryd
open Lib (hid)
set_option linter.unusedVariables false
set_option maxHeartbeats 4000000
set_option maxRecDepth 100000
section
theorem Ba1 {P:Program} (w:World) (t e:TypeId) (n:Nat) (cs:Array Value) (k:IntKind) (i:Int) (h:P.underlying t=some (.array n e)) (hs:∀w,(sizeOf e).run P w=.ok 1 w) (ha:∀w,(isAgg e).run P w=.ok false w)
 (h0:0≤i) (h1:i<n) (v:Value) (hv:cs[i.toNat]?=some v) :
 (Instr.index t (.agg cs) (.int k i)).run P w=.ok v w:=by
 simp [Instr.index,run_underlying h,asIntOf,h0,h1,go_sem,hs,ha,hv]
def Dn (P:Program) (w:World) (name:String) (ss:List (List UInt8)):Prop:=w.var? P name=some (ss.map str).toArray
theorem Cr7 {H:Type} {enc:TypeId × Value→H} {P:Program} {w:World} {base:Nat} {sp:Nat→Bool} {held:Bool} {fuel:Nat} {t e:TypeId} {n:Nat} {cs:List Value} {ss:List (List UInt8)} {p:List MemPlace}
 (ht:P.underlying t=some (.array n e)) (he:P.underlying e=some .string) (hce:P.cellsOf e=1) (hct:P.cellsOf t=n)
 (h:DataW.trod enc P w base sp held fuel t cs=some (.agg (ss.map fun s=>.lit (.string s)),p)):cs=ss.map str:=by
 cases fuel with
 | zero=>simp [DataW.trod] at h
 | succ fuel =>
   simp only [DataW.trod,ht,hce,hct,Nat.mul_one] at h
   split at h
   ·rename_i hl
    obtain ⟨xs,hm,hx⟩:=Option.map_eq_some_iff.1 h
    have hxs:xs.map (·.1)=ss.map fun s=>(DataW.lit (.string s):DataW H):=by
     have:=congrArg Prod.fst hx
     simpa using this
    have hxl:xs.length=n:=by simpa using Lib.mapM_length hm
    have hzl:ss.length=n:=by
     have:=congrArg List.length hxs
     simp at this
     omega
    apply List.ext_getElem?
    intro i
    by_cases hi:i<n
    ·obtain ⟨b,hb,hf⟩:=Lib.mapM_at hm i i (by simp [hi])
     obtain ⟨s,hc,rfl,_⟩:=DataW.trod_string he hf
     have h1:cs[i]?=some (.string s):=by
      have:=congrArg (·[0]?) hc
      simpa [List.getElem?_take,List.getElem?_drop] using this
     have h2:(xs.map (·.1))[i]?=some (DataW.lit (.string s.data.toList):DataW H):=by simp [hb]
     rw [hxs] at h2
     simp only [List.getElem?_map,Option.map_eq_some_iff,DataW.lit.injEq,Lit.string.injEq] at h2
     obtain ⟨z',hz',rfl⟩:=h2
     simp [h1,hz',str]
    ·rw [List.getElem?_eq_none (by omega),List.getElem?_eq_none (by simp;omega)]
   ·cases h
theorem Yo {P:Program} {W:World} {name:String} {ss:List (List UInt8)} {rest:List (String × DataW Unit)} {g:Nat} {t e:TypeId} {n:Nat}
 (hg:P.globalNamed name=some g) (hty:(P.globals[g]?).map (·.type)=some t) (ht:P.underlying t=some (.array n e)) (he:P.underlying e=some .string) (hce:P.cellsOf e=1) (hct:P.cellsOf t=n)
 (h:laidMet P ((name,.agg (ss.map fun s=>.lit (.string s))) :: rest) W):Dn P W name ss:=by
 obtain ⟨ps,⟨g',t',cs,fuel,p,q,hg',ht',hvar,hd,_,_⟩,_⟩:=h
 obtain rfl:=Option.some.inj (hg.symm.trans hg')
 obtain rfl:=Option.some.inj (hty.symm.trans ht')
 unfold Dn
 rw [hvar,←Cr7 ht he hce hct hd]
theorem Dn.cell {P:Program} {W:World} {name:String} {ss:List (List UInt8)} {g:Nat} (h:Dn P W name ss) (hg:P.globalNamed name=some g) (i:Nat) :
 W.cell? ⟨g,i,none⟩=(ss.map str).toArray[i]?:=World.var?_cell hg h i
theorem Dn.below {P:Program} {w w':World} {name:String} {ss:List (List UInt8)} {g:Nat} (h:Dn P w name ss) (hg:P.globalNamed name=some g) (hb:Below w.heap.size w w'):Dn P w' name ss :=
 Joins.var_stays hg h hb lr0
end
section
def KTab (w : World) : Prop := Dn prog w "innkeep/cmd.kindNames" kindNames
def WTab (w : World) : Prop := Dn prog w "innkeep/cmd.wayNames" wayNames
theorem KTab.below {w w':World} (h:KTab w) (hb:Below w.heap.size w w'):KTab w':=Dn.below (g:=0) h (by kernel_rfl) hb
theorem WTab.below {w w':World} (h:WTab w) (hb:Below w.heap.size w w'):WTab w':=Dn.below (g:=1) h (by kernel_rfl) hb
theorem KTab.cells {w:World} (h:KTab w):∀i,w.cell? ⟨0,i,none⟩=(#[.string ⟨#[109,111,118,101]⟩,.string ⟨#[112,117,115,104]⟩,.string ⟨#[103,101,116]⟩,.string ⟨#[100,114,111,112]⟩,.string ⟨#[112,117,116]⟩,.string ⟨#[116,97,107,101]⟩,.string ⟨#[103,105,118,101]⟩,.string ⟨#[116,114,97,100,101]⟩,.string ⟨#[108,111,111,107]⟩,.string ⟨#[111,119,110]⟩][i]?:Option Value):=fun i=>Dn.cell (g:=0) h (by kernel_rfl) i
theorem WTab.cells {w:World} (h:WTab w):∀i,w.cell? ⟨1,i,none⟩=(#[.string ⟨#[110,111,114,116,104]⟩,.string ⟨#[101,97,115,116]⟩,.string ⟨#[115,111,117,116,104]⟩,.string ⟨#[119,101,115,116]⟩][i]?:Option Value):=fun i=>Dn.cell (g:=1) h (by kernel_rfl) i
theorem karr (k:Nat) (h:k<10):(#[.string ⟨#[109,111,118,101]⟩,.string ⟨#[112,117,115,104]⟩,.string ⟨#[103,101,116]⟩,.string ⟨#[100,114,111,112]⟩,.string ⟨#[112,117,116]⟩,.string ⟨#[116,97,107,101]⟩,.string ⟨#[103,105,118,101]⟩,.string ⟨#[116,114,97,100,101]⟩,.string ⟨#[108,111,111,107]⟩,.string ⟨#[111,119,110]⟩]:Array Value)[k]?=some (.string ⟨(kindNames.getD k []).toArray⟩):=by
 match k,h with
 | 0,_|1,_|2,_|3,_|4,_|5,_|6,_|7,_|8,_|9,_=>rfl
theorem warr (k:Nat) (h:k<4):(#[.string ⟨#[110,111,114,116,104]⟩,.string ⟨#[101,97,115,116]⟩,.string ⟨#[115,111,117,116,104]⟩,.string ⟨#[119,101,115,116]⟩]:Array Value)[k]?=some (.string ⟨(wayNames.getD k []).toArray⟩):=by
 match k,h with
 | 0,_|1,_|2,_|3,_=>rfl
theorem As4 {n m:Int} {b c:Bool} (h1:n=m) (h2:b=c):Ending.returned (.tuple #[.int .i64 n,.bool b])=.returned (.tuple #[.int .i64 m,.bool c]):=by rw [h1,h2]
theorem Slk (l:List UInt8) (w:World) (ht:KTab w) :
 Calls prog 53 #[.string ⟨l.toArray⟩] w fun e w'=>e=.returned (.tuple #[.int .i64 (Ct l),.bool (Qq l)])∧w=w':=by
 have HT:=hid ht
 have hc:=ht.cells
 clear ht
 go_enter func53,ntmps53
 go_wp2_with fail
 clear hc
 go_loop [4,5,7] (fun _ _ i=>∃k:Nat,k≤10∧i=.int .i64 k∧l ∉ kindNames.take k) (fun _ _ i=>10-(intOf i).toNat)
 case atStart=>exact ⟨0,Nat.zero_le _,rfl,by simp⟩
 case round =>
  obtain ⟨k,hk,rfl,hm⟩:=hrel
  have HM:=hid hm
  clear hm
  by_cases hlt:k<10
  ·have hidx:∀w,(Instr.index 105 (.agg #[.string ⟨#[109,111,118,101]⟩,.string ⟨#[112,117,115,104]⟩,.string ⟨#[103,101,116]⟩,.string ⟨#[100,114,111,112]⟩,.string ⟨#[112,117,116]⟩,.string ⟨#[116,97,107,101]⟩,.string ⟨#[103,105,118,101]⟩,.string ⟨#[116,114,97,100,101]⟩,.string ⟨#[108,111,111,107]⟩,.string ⟨#[111,119,110]⟩]) (.int .i64 k)).run prog w=.ok (.string ⟨(kindNames.getD k []).toArray⟩) w:=fun w =>
    Ba1 w 105 9 10 _ _ k underlying105 (fun w=>by rw [Tryd.sizeOf9]) (fun w=>by rw [Tryd.isAgg9]) (by omega) (by omega) _ (by simpa using karr k hlt)
   have HH:=hid (Dd4 hlt)
   have HN:=hid (Yv (ss:=kindNames) (k:=k) (x:=l) (by simpa [kindNames] using hlt) HM.out)
   generalize kindNames.getD k []=x at *
   by_cases he:x=l
   ·subst he
    have H2:=hid (HH.out HM.out)
    go_wp2_with fail
    go_ret2
    exact ⟨As4 H2.1.symm H2.2.symm,rfl⟩
   ·have hne:(x==l)=false:=by simpa using he
    have H2:=hid (HN.out he)
    clear he
    go_wp2_with fail
    go_round
    case rel=>exact ⟨k+1,by omega,by go_num,H2.out⟩
    case measure=>simp [intOf];omega
  ·have hke:k=10:=by omega
   subst hke
   have H2:=hid (Ch4 HM.out)
   go_wp2_with fail
   go_ret2
   exact ⟨As4 H2.1.symm H2.2.symm,rfl⟩
theorem Ao6 (l:List UInt8) (w:World) (ht:WTab w) :
 Calls prog 66 #[.string ⟨l.toArray⟩] w fun e w'=>e=.returned (.tuple #[.int .i64 (dirN l),.bool (dirB l)])∧w=w':=by
 have HT:=hid ht
 have hc:=ht.cells
 clear ht
 go_enter func66,ntmps66
 go_wp2_with fail
 clear hc
 go_loop [4,5,7] (fun _ _ i=>∃k:Nat,k≤4∧i=.int .i64 k∧l ∉ wayNames.take k) (fun _ _ i=>4-(intOf i).toNat)
 case atStart=>exact ⟨0,Nat.zero_le _,rfl,by simp⟩
 case round =>
  obtain ⟨k,hk,rfl,hm⟩:=hrel
  have HM:=hid hm
  clear hm
  by_cases hlt:k<4
  ·have hidx:∀w,(Instr.index 114 (.agg #[.string ⟨#[110,111,114,116,104]⟩,.string ⟨#[101,97,115,116]⟩,.string ⟨#[115,111,117,116,104]⟩,.string ⟨#[119,101,115,116]⟩]) (.int .i64 k)).run prog w=.ok (.string ⟨(wayNames.getD k []).toArray⟩) w:=fun w =>
    Ba1 w 114 9 4 _ _ k underlying114 (fun w=>by rw [Tryd.sizeOf9]) (fun w=>by rw [Tryd.isAgg9]) (by omega) (by omega) _ (by simpa using warr k hlt)
   have HH:=hid (Fs0 hlt)
   have HN:=hid (Yv (ss:=wayNames) (k:=k) (x:=l) (by simpa [wayNames] using hlt) HM.out)
   generalize wayNames.getD k []=x at *
   by_cases he:x=l
   ·subst he
    have H2:=hid (HH.out HM.out)
    go_wp2_with fail
    go_ret2
    exact ⟨As4 H2.1.symm H2.2.symm,rfl⟩
   ·have hne:(x==l)=false:=by simpa using he
    have H2:=hid (HN.out he)
    clear he
    go_wp2_with fail
    go_round
    case rel=>exact ⟨k+1,by omega,by go_num,H2.out⟩
    case measure=>simp [intOf];omega
  ·have hke:k=4:=by omega
   subst hke
   have H2:=hid (Er5 HM.out)
   go_wp2_with fail
   go_ret2
   exact ⟨As4 H2.1.symm H2.2.symm,rfl⟩
theorem Bz8 {x y:List UInt8} (h:x=y):Ending.returned (.string ⟨x.toArray⟩)=.returned (.string ⟨y.toArray⟩):=by rw [h]
theorem Rf (n:Int) (w:World) (ht:KTab w) :
 Calls prog 52 #[.int .i64 n] w fun e w'=>e=.returned (.string ⟨(Aw n).toArray⟩)∧Below w.heap.size w w':=by
 cases hk:Co n
 ·have HK:=hid hk
  have HX:=hid (show Aw n=[] by
   simp only [Co,Bool.and_eq_false_iff,decide_eq_false_iff_not] at hk
   unfold Aw;rw [if_neg (by omega)])
  clear hk ht
  go_enter func52,ntmps52
  go_wp2_with fail
  refine (Hr _ _).mono ?_
  rintro e w' ⟨rfl,rfl⟩
  rw [HK.out]
  go_wp2_with fail
  go_ret
  exact ⟨Bz8 (x:=[]) HX.symm,Below.refl _ _⟩
 ·have HK:=hid hk
  simp only [Co,Bool.and_eq_true,decide_eq_true_eq] at hk
  obtain ⟨h1,h2⟩:=hk
  have HX:=hid (show kindNames.getD (n-1).toNat []=Aw n by unfold Aw;rw [if_pos ⟨h1,h2⟩])
  have hl:=Ac1 n
  have hcell:=(ht.cells (n-1).toNat).trans (karr (n-1).toNat (by omega))
  rw [HX.out,show (n-1).toNat=n.toNat-1 by omega] at hcell
  have h3:0≤n-1:=by omega
  have h4:n-1<10:=by omega
  clear ht HX
  generalize Aw n=x at *
  go_enter func52,ntmps52
  go_wp2_with fail
  refine (Hr _ _).mono ?_
  rintro e w' ⟨rfl,rfl⟩
  rw [HK.out]
  go_wp2_with fail
  refine (Ba9 _ _ (by show (List.toArray _).size≤_;rw [List.size_toArray];omega)).mono ?_
  rintro e w1 ⟨rfl,b1⟩
  go_wp2_with fail
  go_ret
  exact ⟨rfl,b1⟩
theorem Am4 (n:Int) (w:World) (ht:WTab w) :
 Calls prog 65 #[.int .i64 n] w fun e w'=>e=.returned (.string ⟨(Nl n).toArray⟩)∧Below w.heap.size w w':=by
 cases hk:Cq n
 ·have HK:=hid hk
  have HX:=hid (show Nl n=[] by
   simp only [Cq,Bool.and_eq_false_iff,decide_eq_false_iff_not] at hk
   unfold Nl;rw [if_neg (by omega)])
  clear hk ht
  go_enter func65,ntmps65
  go_wp2_with fail
  refine (Ut _ _).mono ?_
  rintro e w' ⟨rfl,rfl⟩
  rw [HK.out]
  go_wp2_with fail
  go_ret
  exact ⟨Bz8 (x:=[]) HX.symm,Below.refl _ _⟩
 ·have HK:=hid hk
  simp only [Cq,Bool.and_eq_true,decide_eq_true_eq] at hk
  obtain ⟨h1,h2⟩:=hk
  have HX:=hid (show wayNames.getD n.toNat []=Nl n by unfold Nl;rw [if_pos ⟨h1,h2⟩])
  have hl:=Eu5 n
  have hcell:=(ht.cells n.toNat).trans (warr n.toNat (by omega))
  rw [HX.out] at hcell
  clear ht HX
  generalize Nl n=x at *
  go_enter func65,ntmps65
  go_wp2_with fail
  refine (Ut _ _).mono ?_
  rintro e w' ⟨rfl,rfl⟩
  rw [HK.out]
  go_wp2_with fail
  refine (Ba9 _ _ (by show (List.toArray _).size≤_;rw [List.size_toArray];omega)).mono ?_
  rintro e w1 ⟨rfl,b1⟩
  go_wp2_with fail
  go_ret
  exact ⟨rfl,b1⟩
end
section
def wd (n:Int):List UInt8:=Lib.decDigits n.toNat
def sIn:List UInt8:=[105,110]
def As0:List UInt8:=[102,114,111,109]
def sTo:List UInt8:=[116,111]
def Lg:List UInt8:=[103,105,118,101]
def Dc:List UInt8:=[99,111,105,110,115]
def sFor:List UInt8:=[102,111,114]
inductive Fd where
 | kind|dir|item|box|who|pay|fee
 deriving DecidableEq
inductive Kd where
 | name|way|num
 deriving DecidableEq
inductive Pt where
 | one (k:Kd) (f:Fd)
 | word (x:List UInt8)
 | nums (g:Bool)
def getF (c:Cm):Fd→Int
 | .kind=>c.kind|.dir=>c.dir|.item=>c.item|.box=>c.box|.who=>c.who|.pay=>c.pay|.fee=>c.fee
def setF (c:Cm) (n:Int):Fd→Cm
 | .kind=>{ c with kind:=n }|.dir=>{ c with dir:=n }|.item=>{ c with item:=n }|.box=>{ c with box:=n }|.who=>{ c with who:=n }|.pay=>{ c with pay:=n }|.fee=>{ c with fee:=n }
def getL (c:Cm) (g:Bool):List Int:=if g then c.gives else c.wants
def lsetL (c:Cm) (g:Bool) (l:List Int):Cm:=if g then { c with gives:=l } else { c with wants:=l }
def Kd.word:Kd→Int→List UInt8
 | .name=>Aw|.way=>Nl|.num=>wd
def Kd.n:Kd→List UInt8→Int
 | .name=>Ct|.way=>dirN|.num=>fun l=>(numN l:Int)
def Kd.b:Kd→List UInt8→Bool
 | .name=>Qq|.way=>dirB|.num=>numB
theorem Gj4 {w:List UInt8} (h:numB w=true):wd (numN w:Int)=w:=by
 unfold wd;rw [Int.toNat_natCast];exact Am3 h
theorem He3 {k:Kd} {w:List UInt8} (h:k.b w=true):k.word (k.n w)=w:=by
 cases k
 ·exact Bl4 h
 ·exact Dy0 h
 ·exact Gj4 h
def putP (c:Cm):Pt→List (List UInt8)
 | .one k f=>[k.word (getF c f)]
 | .word x=>[x]
 | .nums g=>(getL c g).map wd
def Es (c:Cm) (ws:List (List UInt8)):Pt→Cm × List (List UInt8) × Bool
 | .one k f=>match ws with
   | []=>(c,[],false)
   | w :: r=>(setF c (k.n w) f,r,k.b w)
 | .word x=>match ws with
   | []=>(c,[],false)
   | w :: r=>if w=x then (c,r,true) else (c,[],false)
 | .nums g=>(lsetL c g (getL c g++(ws.takeWhile numB).map fun w=>(numN w:Int)),ws.dropWhile numB,true)
def Be (k:Int):List Pt :=
 if k=1 then [.one .way .dir] else
 if k=2 then [.one .num .who,.one .way .dir] else
 if k=3 then [.one .num .item] else
 if k=4 then [.one .num .item] else
 if k=5 then [.one .num .item,.word sIn,.one .num .box] else
 if k=6 then [.one .num .item,.word As0,.one .num .box] else
 if k=7 then [.one .num .item,.word sTo,.one .num .who] else
 if k=8 then [.one .num .who,.word Lg,.nums true,.word Dc,.one .num .pay,.word sFor,.nums false,.word Dc,.one .num .fee] else []
def runP (c:Cm) (ws:List (List UInt8)):List Pt→Cm × List (List UInt8) × Bool
 | []=>(c,ws,true)
 | p :: r=>if (Es c ws p).2.2 then runP (Es c ws p).1 (Es c ws p).2.1 r else Es c ws p
def wordsOf (c:Cm):List (List UInt8):=Aw c.kind :: (Be c.kind).flatMap (putP c)
def Dh:Cm:=⟨0,0,0,0,0,[],0,[],0⟩
def Vx (ws:List (List UInt8)):Cm × List (List UInt8) × Bool :=
 if (Es Dh ws (.one .name .kind)).2.2 then runP (Es Dh ws (.one .name .kind)).1 (Es Dh ws (.one .name .kind)).2.1 (Be (Es Dh ws (.one .name .kind)).1.kind) else Es Dh ws (.one .name .kind)
def Ej5 (ws:List (List UInt8)):Bool:=(Vx ws).2.2&&decide ((Vx ws).2.1=[])
def La (ws:List (List UInt8)):Bool:=Ej5 ws&&mayB (Vx ws).1
def Ng (ws:List (List UInt8)):Cm:=if La ws then (Vx ws).1 else Dh
def Pt.key:Pt→Nat
 | .one _ .kind=>1|.one _ .dir=>2|.one _ .item=>3|.one _ .box=>4|.one _ .who=>5|.one _ .pay=>6|.one _ .fee=>7
 | .word _=>0
 | .nums true=>8|.nums false=>9
theorem Db9 (c:Cm) (ws:List (List UInt8)) (p q:Pt) (h:p.key≠q.key∨q.key=0):putP (Es c ws p).1 q=putP c q:=by
 cases p with
 | one k f =>
   cases ws with
   | nil=>rfl
   | cons w r =>
     cases q with
     | one k2 f2=>cases f<;>cases f2<;>first|rfl|(simp [Pt.key] at h)
     | word x=>rfl
     | nums g=>cases f<;>rfl
 | word x =>
   cases ws with
   | nil=>rfl
   | cons w r=>simp only [Es];split<;>rfl
 | nums g =>
   cases q with
   | one k2 f2=>cases g<;>cases f2<;>rfl
   | word x=>rfl
   | nums g2=>cases g<;>cases g2<;>first|rfl|(simp [Pt.key] at h)
theorem Bs1 (c:Cm) (ws:List (List UInt8)) (p:Pt) (g:Bool) (h:p.key≠(Pt.nums g).key):getL (Es c ws p).1 g=getL c g:=by
 cases p with
 | one k f =>
   cases ws with
   | nil=>rfl
   | cons w r=>cases f<;>rfl
 | word x =>
   cases ws with
   | nil=>rfl
   | cons w r=>simp only [Es];split<;>rfl
 | nums g2=>cases g<;>cases g2<;>first|rfl|(simp [Pt.key] at h)
theorem Gd4 (c:Cm) (n:Int) (f:Fd):getF (setF c n f) f=n:=by cases f<;>rfl
theorem Gd3 (c:Cm) (g:Bool) (l:List Int):getL (lsetL c g l) g=l:=by cases g<;>rfl
theorem Eb5 (ws:List (List UInt8)):((ws.takeWhile numB).map fun w=>(numN w:Int)).map wd=ws.takeWhile numB:=by
 induction ws with
 | nil=>rfl
 | cons w r ih =>
   rw [List.takeWhile_cons]
   cases h:numB w
   ·simp
   ·simp only [if_true,List.map_cons,ih,Gj4 h]
theorem Ef8 (c:Cm) (ws:List (List UInt8)) (p:Pt) (hl:∀g,p=.nums g→getL c g=[]) (h:(Es c ws p).2.2=true):ws=putP (Es c ws p).1 p++(Es c ws p).2.1:=by
 cases p with
 | one k f =>
   cases ws with
   | nil=>simp [Es] at h
   | cons w r =>
     have h2:k.b w=true:=h
     show w :: r=[k.word (getF (setF c (k.n w) f) f)]++r
     rw [Gd4,He3 h2];rfl
 | word x =>
   cases ws with
   | nil=>simp [Es] at h
   | cons w r =>
     simp only [Es] at h ⊢
     split at h
     ·rename_i e;subst e;simp [putP]
     ·simp at h
 | nums g =>
   show ws=(getL (lsetL c g _) g).map wd++ws.dropWhile numB
   rw [Gd3,hl g rfl,List.nil_append,Eb5,List.takeWhile_append_dropWhile]
def apart:List Pt→Bool
 | []=>true
 | p :: r=>(r.all fun q=>decide (p.key≠q.key∨q.key=0))&&apart r
theorem Cz2 (pts:List Pt) (c:Cm) (ws:List (List UInt8)) (q:Pt) (h:∀p∈pts,p.key≠q.key∨q.key=0):putP (runP c ws pts).1 q=putP c q:=by
 induction pts generalizing c ws with
 | nil=>rfl
 | cons p r ih =>
   rw [runP]
   split
   ·rw [ih _ _ (fun p' hp=>h p' (by simp [hp])),Db9 _ _ _ _ (h p (by simp))]
   ·exact Db9 _ _ _ _ (h p (by simp))
theorem Fd7 (pts:List Pt) (c:Cm) (ws:List (List UInt8)) (ha:apart pts=true) (hl:∀g,.nums g∈pts→getL c g=[]) (h:(runP c ws pts).2.2=true) :
 ws=pts.flatMap (putP (runP c ws pts).1)++(runP c ws pts).2.1:=by
 induction pts generalizing c ws with
 | nil=>rfl
 | cons p r ih =>
   simp only [apart,Bool.and_eq_true,List.all_eq_true,decide_eq_true_eq] at ha
   rw [runP] at h ⊢
   split at h
   ·rename_i ht
    rw [if_pos ht]
    have h1:=Ef8 c ws p (fun g e=>hl g (by simp [e])) ht
    have h2:=ih (Es c ws p).1 (Es c ws p).2.1 ha.2 (fun g hg=>by
     have hk:=ha.1 (.nums g) hg
     rw [Bs1 c ws p g (by rcases hk with hk|hk;exact hk;cases g<;>simp [Pt.key] at hk)]
     exact hl g (by simp [hg])) h
    have h3:putP (runP (Es c ws p).1 (Es c ws p).2.1 r).1 p=putP (Es c ws p).1 p:=by
     by_cases hk:p.key=0
     ·exact Cz2 r _ _ p (fun q hq=>.inr hk)
     ·refine Cz2 r _ _ p (fun q hq=>.inl ?_)
      rcases ha.1 q hq with e|e
      ·exact fun e2=>e e2.symm
      ·intro e2;omega
    rw [List.flatMap_cons,h3,List.append_assoc,←h2]
    exact h1
   ·rename_i ht
    exact absurd h ht
theorem Bh1 (k:Int):apart (Be k)=true∧∀p∈Be k,p.key≠1:=by
 unfold Be
 repeat' split
 all_goals exact ⟨by decide,by simp [Pt.key]⟩
theorem En4 (k:Int) (c:Cm) (ws:List (List UInt8)):(runP c ws (Be k)).1.kind=c.kind:=by
 have:∀(pts:List Pt) (c:Cm) (ws:List (List UInt8)),(∀p∈pts,p.key≠1)→(runP c ws pts).1.kind=c.kind:=by
  intro pts
  induction pts with
  | nil=>intros;rfl
  | cons p r ih =>
    intro c ws h
    have h1:(Es c ws p).1.kind=c.kind:=by
     have hp:=h p (by simp)
     cases p with
     | one k f=>cases ws with
       | nil=>rfl
       | cons w r=>cases f<;>first|rfl|(simp [Pt.key] at hp)
     | word x=>cases ws with
       | nil=>rfl
       | cons w r=>simp only [Es];split<;>rfl
     | nums g=>cases g<;>rfl
    rw [runP]
    split
    ·rw [ih _ _ (fun q hq=>h q (by simp [hq])),h1]
    ·exact h1
 exact this _ c ws (Bh1 k).2
theorem Fg4 (ws:List (List UInt8)) (h:Ej5 ws=true):wordsOf (Vx ws).1=ws:=by
 simp only [Ej5,Bool.and_eq_true,decide_eq_true_eq] at h
 obtain ⟨h1,h2⟩:=h
 unfold Vx at h1 h2 ⊢
 cases ws with
 | nil=>simp [Es] at h1
 | cons w r =>
   split at h1
   ·rename_i ht
    rw [if_pos ht] at h2 ⊢
    have hb:Qq w=true:=ht
    have e0:Es Dh (w :: r) (.one .name .kind)=(setF Dh (Ct w) .kind,r,Qq w):=rfl
    rw [e0] at h1 h2 ⊢
    have hs:=Fd7 (Be (Ct w)) (setF Dh (Ct w) .kind) r (Bh1 _).1 (fun g _=>by cases g<;>rfl) h1
    have hk:(runP (setF Dh (Ct w) .kind) r (Be (Ct w))).1.kind=Ct w:=En4 _ _ _
    unfold wordsOf
    show Aw (runP (setF Dh (Ct w) .kind) r (Be (Ct w))).1.kind :: (Be (runP (setF Dh (Ct w) .kind) r (Be (Ct w))).1.kind).flatMap (putP (runP (setF Dh (Ct w) .kind) r (Be (Ct w))).1)=w :: r
    rw [hk,Bl4 hb]
    have h2':(runP (setF Dh (Ct w) .kind) r (Be (Ct w))).2.1=[]:=h2
    rw [h2',List.append_nil] at hs
    rw [←hs]
   ·rename_i ht
    exact absurd h1 ht
theorem Rm {n:Int} (h:okN n=true):numB (wd n)=true∧(numN (wd n):Int)=n:=by
 simp only [okN,Bool.and_eq_true,decide_eq_true_eq] at h
 unfold wd
 refine ⟨Ah9 (by omega),?_⟩
 rw [Bj9 (by omega)];omega
theorem Ef2 {n:Int} (h:Cq n=true):dirB (Nl n)=true∧dirN (Nl n)=n:=by
 simp only [Cq,Bool.and_eq_true,decide_eq_true_eq] at h
 have:n=0∨n=1∨n=2∨n=3:=by omega
 rcases this with rfl|rfl|rfl|rfl<;>decide
theorem Ai3 {n:Int} (h:Co n=true):Qq (Aw n)=true∧Ct (Aw n)=n:=by
 rcases Pj h with rfl|rfl|rfl|rfl|rfl|rfl|rfl|rfl|rfl|rfl<;>decide
theorem Dp8 {l:List Int} {x:List UInt8} {r:List (List UInt8)} (h:areB l=true) (hx:numB x=false) :
 ((l.map wd++x :: r).takeWhile numB).map (fun w=>(numN w:Int))=l∧(l.map wd++x :: r).dropWhile numB=x :: r:=by
 induction l with
 | nil=>simp [hx]
 | cons n l ih =>
   simp only [areB,List.all_cons,Bool.and_eq_true] at h
   obtain ⟨a,b⟩:=Rm h.1
   obtain ⟨i1,i2⟩:=ih h.2
   simp only [List.map_cons,List.cons_append,List.takeWhile_cons,List.dropWhile_cons,a,if_true,b,i1,i2,and_self]
theorem Oa {c:Cm} (h:mayB c=true):Co c.kind=true∧Cq c.dir=true∧okN c.item=true∧okN c.box=true∧okN c.who=true∧okN c.pay=true∧okN c.fee=true∧areB c.gives=true∧areB c.wants=true∧c=ownC c∧c.gives.length≤16∧c.wants.length≤16:=by
 simp only [mayB,Gn,areB,List.all_cons,List.all_nil,Uh,Bool.and_eq_true,Bool.and_true,decide_eq_true_eq,Zu] at h
 obtain ⟨⟨h1,⟨⟨h2,h3,h4,h5,h6,h7⟩,h8,h9⟩,h10,h11⟩,h12⟩:=h
 exact ⟨h1,h2,h3,h4,h5,h6,h7,h9,h11,h12,h8,h10⟩
theorem Df4:numB Dc=false:=by decide
theorem Dm9 {c:Cm} (h:mayB c=true):Vx (wordsOf c)=(c,[],true):=by
 obtain ⟨hk,h2,h3,h4,h5,h6,h7,h8,h9,h10,-,-⟩:=Oa h
 clear h
 obtain ⟨n1,n2⟩:=Ai3 hk
 obtain ⟨d1,d2⟩:=Ef2 h2
 obtain ⟨i1,i2⟩:=Rm h3
 obtain ⟨b1,b2⟩:=Rm h4
 obtain ⟨w1,w2⟩:=Rm h5
 obtain ⟨p1,p2⟩:=Rm h6
 obtain ⟨f1,f2⟩:=Rm h7
 obtain ⟨k,a2,a3,a4,a5,a6,a7,a8,a9⟩:=c
 simp only at *
 unfold Vx wordsOf
 simp only [Es,Kd.b,Kd.n,n1,n2,if_true]
 rcases Pj hk with rfl|rfl|rfl|rfl|rfl|rfl|rfl|rfl|rfl|rfl
 all_goals
  simp only [ownC,keep,Nf,Cm.mk.injEq] at h10
  simp at h10
 ·simp [Be,runP,Es,putP,setF,getF,Dh,Kd.word,Kd.n,Kd.b, *]
 ·simp [Be,runP,Es,putP,setF,getF,Dh,Kd.word,Kd.n,Kd.b, *]
 ·simp [Be,runP,Es,putP,setF,getF,Dh,Kd.word,Kd.n,Kd.b, *]
 ·simp [Be,runP,Es,putP,setF,getF,Dh,Kd.word,Kd.n,Kd.b, *]
 ·simp [Be,runP,Es,putP,setF,getF,Dh,Kd.word,Kd.n,Kd.b, *]
 ·simp [Be,runP,Es,putP,setF,getF,Dh,Kd.word,Kd.n,Kd.b, *]
 ·simp [Be,runP,Es,putP,setF,getF,Dh,Kd.word,Kd.n,Kd.b, *]
 ·have g1:=fun r=>Dp8 (x:=Dc) (r:=r) h8 Df4
  have g2:=fun r=>Dp8 (x:=Dc) (r:=r) h9 Df4
  simp [Be,runP,Es,putP,setF,getF,lsetL,getL,Dh,Kd.word,Kd.n,Kd.b, *]
 ·simp [Be,runP,setF,Dh, *]
 ·simp [Be,runP,setF,Dh, *]
theorem Im {c:Cm} (h:mayB c=true):La (wordsOf c)=true∧Ng (wordsOf c)=c:=by
 have hr:=Dm9 h
 have hb:La (wordsOf c)=true:=by simp [La,Ej5,hr,h]
 exact ⟨hb,by unfold Ng;rw [if_pos hb,hr]⟩
theorem Zz {ws:List (List UInt8)} (h:La ws=true):mayB (Ng ws)=true∧wordsOf (Ng ws)=ws:=by
 unfold Ng;rw [if_pos h]
 simp only [La,Bool.and_eq_true] at h
 exact ⟨h.2,Fg4 ws h.1⟩
theorem Gv6 (ws:List (List UInt8)):La ws=true↔∃c,mayB c=true∧wordsOf c=ws :=
 ⟨fun h=>⟨_,Zz h⟩,fun ⟨c,h1,h2⟩=>h2 ▸ (Im h1).1⟩
theorem Do2 {c d:Cm} (h1:mayB c=true) (h2:mayB d=true) (h:wordsOf c=wordsOf d):c=d:=by
 have e:=(Im h1).2
 rw [h,(Im h2).2] at e
 exact e.symm
end
section
def Fd.off:Fd→Nat
 | .kind=>0|.dir=>1|.item=>2|.box=>3|.who=>4|.pay=>6|.fee=>8
def An3 (g:Bool):Nat:=if g then 5 else 7
def Kd.wf:Kd→Value
 | .name=>.func (.func 52) #[] #[]|.way=>.func (.func 65) #[] #[]|.num=>.func (.func 67) #[] #[]
def Kd.nf:Kd→Value
 | .name=>.func (.func 53) #[] #[]|.way=>.func (.func 66) #[] #[]|.num=>.func (.func 68) #[] #[]
def Nu (W:World) (lo B:Nat) (pv tv:Value):Pt→Prop
 | .one k f=>∃a b c,lo≤a∧lo≤b∧lo≤c∧pv=.func (.func 63) #[] #[.pointer (some ⟨b,0,none⟩),.pointer (some ⟨a,0,none⟩)]∧tv=.func (.func 64) #[] #[.pointer (some ⟨c,0,none⟩),.pointer (some ⟨a,0,none⟩)] ∧
    Blk W a 95 #[.pointer (some ⟨B,f.off,none⟩)]∧Blk W b 96 #[k.wf]∧Blk W c 97 #[k.nf]
 | .word x=>∃a,lo≤a∧pv=.func (.func 69) #[] #[.pointer (some ⟨a,0,none⟩)]∧tv=.func (.func 70) #[] #[.pointer (some ⟨a,0,none⟩)]∧Blk W a 9 #[str x]
 | .nums g=>∃a,lo≤a∧pv=.func (.func 76) #[] #[.pointer (some ⟨a,0,none⟩)]∧tv=.func (.func 77) #[] #[.pointer (some ⟨a,0,none⟩)]∧Blk W a 107 #[.pointer (some ⟨B,An3 g,none⟩)]
def Stay (lo:Nat) (W W':World):Prop:=∀b,lo≤b→b<W.heap.size→W'.heap[b]?=W.heap[b]?
theorem Stay.refl (lo:Nat) (W:World):Stay lo W W:=fun _ _ _=>rfl
theorem Stay.trans {lo:Nat} {W W1 W2:World} (h:Stay lo W W1) (hs:W.heap.size≤W1.heap.size) (k:Stay lo W1 W2):Stay lo W W2:=fun b h1 h2=>(k b h1 (by omega)).trans (h b h1 h2)
theorem Stay.below {lo:Nat} {W W':World} (h:Below W.heap.size W W'):Stay lo W W':=fun b _ h2=>h.block b h2
theorem Blk.stay {W W':World} {g lo:Nat} {t:TypeId} {cs:Array Value} (h:Blk W g t cs) (hs:Stay lo W W') (hg:lo≤g):Blk W' g t cs:=(hs g hg h.lt).trans h
theorem Nu.stay {W W':World} {lo B:Nat} {pv tv:Value} {p:Pt} (h:Nu W lo B pv tv p) (hs:Stay lo W W'):Nu W' lo B pv tv p:=by
 cases p with
 | one k f =>
   obtain ⟨a,b,c,h1,h2,h3,e1,e2,b1,b2,b3⟩:=h
   exact ⟨a,b,c,h1,h2,h3,e1,e2,b1.stay hs h1,b2.stay hs h2,b3.stay hs h3⟩
 | word x=>obtain ⟨a,h1,e1,e2,b1⟩:=h;exact ⟨a,h1,e1,e2,b1.stay hs h1⟩
 | nums g=>obtain ⟨a,h1,e1,e2,b1⟩:=h;exact ⟨a,h1,e1,e2,b1.stay hs h1⟩
theorem Nu.mono {W:World} {lo lo' B:Nat} {pv tv:Value} {p:Pt} (h:Nu W lo B pv tv p) (hl:lo'≤lo):Nu W lo' B pv tv p:=by
 cases p with
 | one k f =>
   obtain ⟨a,b,c,h1,h2,h3,e⟩:=h
   exact ⟨a,b,c,by omega,by omega,by omega,e⟩
 | word x=>obtain ⟨a,h1,e⟩:=h;exact ⟨a,by omega,e⟩
 | nums g=>obtain ⟨a,h1,e⟩:=h;exact ⟨a,by omega,e⟩
def Gd (w:World) (B:Nat) (p:Pt) (e:Ending) (w':World):Prop:=∃pv tv,e=.returned (.agg #[pv,tv])∧Nu w' w.heap.size B pv tv p∧Below w.heap.size w w'
theorem hmf (fn:Fn) (first cap:Array Value) (w:World):(Instr.makeFunc fn first cap).run prog w=.ok (.func fn first cap) w:=rfl
theorem Eb3 (o B F G:Nat) (w:World):Calls prog 51 #[.pointer (some ⟨B,o,none⟩),.func (.func F) #[] #[],.func (.func G) #[] #[]] w fun e w' =>
 e=.returned (.agg #[.func (.func 63) #[] #[.pointer (some ⟨w.heap.size+1,0,none⟩),.pointer (some ⟨w.heap.size,0,none⟩)],.func (.func 64) #[] #[.pointer (some ⟨w.heap.size+1+1,0,none⟩),.pointer (some ⟨w.heap.size,0,none⟩)]]) ∧
 Blk w' w.heap.size 95 #[.pointer (some ⟨B,o,none⟩)]∧Blk w' (w.heap.size+1) 96 #[.func (.func F) #[] #[]]∧Blk w' (w.heap.size+1+1) 97 #[.func (.func G) #[] #[]]∧Below w.heap.size w w':=by
 have hm:=hmf
 go_enter func51,ntmps51
 go_wp2_with fail
 refine bodyPost_ret (v:=.agg #[.func (.func 63) #[] #[.pointer (some ⟨w.heap.size+1,0,none⟩),.pointer (some ⟨w.heap.size,0,none⟩)],.func (.func 64) #[] #[.pointer (some ⟨w.heap.size+1+1,0,none⟩),.pointer (some ⟨w.heap.size,0,none⟩)]]) (by simp [results,results51,go_sem]) rfl ⟨rfl,?_⟩
 have b0:=Blk.new w 95 #[.pointer (some ⟨B,o,none⟩)]
 have b1:=Blk.newn (w.alloc (.cells #[.pointer (some ⟨B,o,none⟩)] 95)) 96 #[.func (.func F) #[] #[]] (n:=w.heap.size+1) (by simp)
 have b2:=Blk.newn ((w.alloc (.cells #[.pointer (some ⟨B,o,none⟩)] 95)).alloc (.cells #[.func (.func F) #[] #[]] 96)) 97 #[.func (.func G) #[] #[]] (n:=w.heap.size+1+1) (by simp)
 refine ⟨((b0.alloc _).alloc _).alloc _,(b1.alloc _).alloc _,b2.alloc _,(((b_a _).alloc ?_ _).alloc ?_ _).alloc ?_ _⟩
 all_goals (simp;try omega)
theorem Dc3 (k:Kd) (f:Fd) (B:Nat) (w:World):Calls prog 51 #[.pointer (some ⟨B,f.off,none⟩),k.wf,k.nf] w (Gd w B (.one k f)):=by
 cases k
 ·exact (Eb3 f.off B 52 53 w).mono fun e w' ⟨h,b0,b1,b2,hb⟩=>⟨_,_,h,⟨_,_,_,Nat.le_refl _,by omega,by omega,rfl,rfl,b0,b1,b2⟩,hb⟩
 ·exact (Eb3 f.off B 65 66 w).mono fun e w' ⟨h,b0,b1,b2,hb⟩=>⟨_,_,h,⟨_,_,_,Nat.le_refl _,by omega,by omega,rfl,rfl,b0,b1,b2⟩,hb⟩
 ·exact (Eb3 f.off B 67 68 w).mono fun e w' ⟨h,b0,b1,b2,hb⟩=>⟨_,_,h,⟨_,_,_,Nat.le_refl _,by omega,by omega,rfl,rfl,b0,b1,b2⟩,hb⟩
theorem Ai0 (x:ByteArray) (B:Nat) (w:World):Calls prog 56 #[.string x] w (Gd w B (.word x.data.toList)):=by
 have hm:=hmf
 go_enter func56,ntmps56
 go_wp2_with fail
 refine bodyPost_ret (v:=.agg #[.func (.func 69) #[] #[.pointer (some ⟨w.heap.size,0,none⟩)],.func (.func 70) #[] #[.pointer (some ⟨w.heap.size,0,none⟩)]]) (by simp [results,results56,go_sem]) rfl ⟨_,_,rfl,⟨_,Nat.le_refl _,rfl,rfl,?_⟩,?_⟩
 ·rw [←Dm4]
  exact (Blk.new w 9 #[.string x]).alloc _
 ·exact (b_a _).alloc (by simp) _
theorem Ds5 (g:Bool) (B:Nat) (w:World):Calls prog 71 #[.pointer (some ⟨B,An3 g,none⟩)] w (Gd w B (.nums g)):=by
 have hm:=hmf
 go_enter func71,ntmps71
 go_wp2_with fail
 refine bodyPost_ret (v:=.agg #[.func (.func 76) #[] #[.pointer (some ⟨w.heap.size,0,none⟩)],.func (.func 77) #[] #[.pointer (some ⟨w.heap.size,0,none⟩)]]) (by simp [results,results71,go_sem]) rfl ⟨_,_,rfl,⟨_,Nat.le_refl _,rfl,rfl,?_⟩,?_⟩
 ·exact (Blk.new w 107 #[.pointer (some ⟨B,An3 g,none⟩)]).alloc _
 ·exact (b_a _).alloc (by simp) _
theorem Gd.on {w w1 w2:World} {B:Nat} {p:Pt} {pv tv:Value} {n:Nat} (hn:w.heap.size≤n) (hw:w1.heap.size=w.heap.size+1) (hb1:Below w.heap.size w w1) (hp:Nu w2 w1.heap.size B pv tv p) (hb:Below w1.heap.size w1 w2) (u v:Value)
 (hlt:n<w1.heap.size):Nu ((w2.setCell ⟨n,0,none⟩ u).setCell ⟨n,1,none⟩ v) w.heap.size B pv tv p∧Below w.heap.size w ((w2.setCell ⟨n,0,none⟩ u).setCell ⟨n,1,none⟩ v):=by
 refine ⟨(hp.stay (fun b h1 h2=>?_)).mono (by omega),((hb1.trans (hb.mono (by omega))).setCell hn _).setCell hn _⟩
 exact (Below.heap_setCell _ _ _ b (by show b≠n;omega)).trans (Below.heap_setCell _ _ _ b (by show b≠n;omega))
theorem Nu.funcs {W:World} {lo B:Nat} {pv tv:Value} {p:Pt} (h:Nu W lo B pv tv p):∃F fs G gs,pv=.func (.func F) #[] fs∧tv=.func (.func G) #[] gs:=by
 cases p with
 | one k f=>obtain ⟨a,b,c,h1,h2,h3,rfl,rfl,_⟩:=h;exact ⟨_,_,_,_,rfl,rfl⟩
 | word x=>obtain ⟨a,h1,rfl,rfl,_⟩:=h;exact ⟨_,_,_,_,rfl,rfl⟩
 | nums g=>obtain ⟨a,h1,rfl,rfl,_⟩:=h;exact ⟨_,_,_,_,rfl,rfl⟩
theorem Ef3 (w w1:World) (hb:Below (w.alloc (.cells #[.nilFunc,.nilFunc] 84)).heap.size (w.alloc (.cells #[.nilFunc,.nilFunc] 84)) w1) :
 (w1.cell? ⟨w.heap.size,0,none⟩=some .nilFunc∧w1.cell? ⟨w.heap.size,1,none⟩=some .nilFunc)∧w1.frozen? ⟨w.heap.size,0,none⟩=false∧w1.frozen? ⟨w.heap.size,1,none⟩=false:=by
 have b:=(Blk.new w 84 #[.nilFunc,.nilFunc]).call hb
 exact ⟨⟨b.cell 0,b.cell 1⟩,b.frozen 0,b.frozen 1⟩
theorem Dt0 (B:Nat) (w:World):Calls prog 44 #[.pointer (some ⟨B,0,none⟩)] w (Gd w B (.one .name .kind)):=by
 go_enter func44,ntmps44
 go_wp2_with fail
 refine (Dc3 .name .kind B _).mono ?_
 rintro e w1 ⟨pv,tv,rfl,hp,hb⟩
 obtain ⟨F,fs,G,gs,rfl,rfl⟩:=hp.funcs
 obtain ⟨⟨c0,c1⟩,f0,f1⟩:=Ef3 w w1 hb
 have HR:=hid (Gd.on (n:=w.heap.size) lr0 (by simp) ((Below.refl w.heap.size w).alloc lr0 _) hp hb (.func (.func F) #[] fs) (.func (.func G) #[] gs) (by simp))
 have HP:=hid hp
 have HB:=hid hb
 clear hp hb
 go_wp2_with fail
 refine bodyPost_ret (v:=.agg #[.func (.func F) #[] fs,.func (.func G) #[] gs]) (by simp [results,results44,go_sem,c0,c1]) rfl ⟨_,_,rfl,HR.out⟩
theorem Gj5 (f:Fd) (B:Nat) (w:World):Calls prog 54 #[.pointer (some ⟨B,f.off,none⟩)] w (Gd w B (.one .way f)):=by
 go_enter func54,ntmps54
 go_wp2_with fail
 refine (Dc3 .way f B _).mono ?_
 rintro e w1 ⟨pv,tv,rfl,hp,hb⟩
 obtain ⟨F,fs,G,gs,rfl,rfl⟩:=hp.funcs
 obtain ⟨⟨c0,c1⟩,f0,f1⟩:=Ef3 w w1 hb
 have HR:=hid (Gd.on (n:=w.heap.size) lr0 (by simp) ((Below.refl w.heap.size w).alloc lr0 _) hp hb (.func (.func F) #[] fs) (.func (.func G) #[] gs) (by simp))
 have HP:=hid hp
 have HB:=hid hb
 clear hp hb
 go_wp2_with fail
 refine bodyPost_ret (v:=.agg #[.func (.func F) #[] fs,.func (.func G) #[] gs]) (by simp [results,results54,go_sem,c0,c1]) rfl ⟨_,_,rfl,HR.out⟩
theorem Ab9 (f:Fd) (B:Nat) (w:World):Calls prog 55 #[.pointer (some ⟨B,f.off,none⟩)] w (Gd w B (.one .num f)):=by
 go_enter func55,ntmps55
 go_wp2_with fail
 refine (Dc3 .num f B _).mono ?_
 rintro e w1 ⟨pv,tv,rfl,hp,hb⟩
 obtain ⟨F,fs,G,gs,rfl,rfl⟩:=hp.funcs
 obtain ⟨⟨c0,c1⟩,f0,f1⟩:=Ef3 w w1 hb
 have HR:=hid (Gd.on (n:=w.heap.size) lr0 (by simp) ((Below.refl w.heap.size w).alloc lr0 _) hp hb (.func (.func F) #[] fs) (.func (.func G) #[] gs) (by simp))
 have HP:=hid hp
 have HB:=hid hb
 clear hp hb
 go_wp2_with fail
 refine bodyPost_ret (v:=.agg #[.func (.func F) #[] fs,.func (.func G) #[] gs]) (by simp [results,results55,go_sem,c0,c1]) rfl ⟨_,_,rfl,HR.out⟩
end
section
def AccL (W:World) (lo B:Nat):List Value→List Pt→Prop
 | [],[]=>True
 | pv :: tv :: l,p :: pts=>Nu W lo B pv tv p∧AccL W lo B l pts
 | _,_=>False
theorem AccL.stay {W W':World} {lo B:Nat} (hs:Stay lo W W'):∀{l:List Value} {pts:List Pt},AccL W lo B l pts→AccL W' lo B l pts
 | [],[],_=>trivial
 | _ :: _ :: _,_ :: _,h=>⟨h.1.stay hs,h.2.stay hs⟩
 | [_],_,h=>by simp [AccL] at h
 | _ :: _ :: _,[],h=>by simp [AccL] at h
 | [],_ :: _,h=>by simp [AccL] at h
theorem AccL.mono {W:World} {lo lo' B:Nat} (hl:lo'≤lo):∀{l:List Value} {pts:List Pt},AccL W lo B l pts→AccL W lo' B l pts
 | [],[],_=>trivial
 | _ :: _ :: _,_ :: _,h=>⟨h.1.mono hl,h.2.mono hl⟩
 | [_],_,h=>by simp [AccL] at h
 | _ :: _ :: _,[],h=>by simp [AccL] at h
 | [],_ :: _,h=>by simp [AccL] at h
theorem AccL.snoc {W:World} {lo B:Nat} {pv tv:Value} {p:Pt} (hp:Nu W lo B pv tv p):∀{l:List Value} {pts:List Pt},AccL W lo B l pts→AccL W lo B (l++[pv,tv]) (pts++[p])
 | [],[],_=>⟨hp,trivial⟩
 | _ :: _ :: _,_ :: _,h=>⟨h.1,AccL.snoc hp h.2⟩
 | [_],_,h=>by simp [AccL] at h
 | _ :: _ :: _,[],h=>by simp [AccL] at h
 | [],_ :: _,h=>by simp [AccL] at h
theorem AccL.get {W:World} {lo B:Nat}:∀{l:List Value} {pts:List Pt},AccL W lo B l pts→∀i (hi:i<pts.length),∃pv tv,l[2*i]?=some pv∧l[2*i+1]?=some tv∧Nu W lo B pv tv pts[i]
 | [],[],_,i,hi=>by simp at hi
 | pv :: tv :: l,p :: pts,h,i,hi=>by
   cases i with
   | zero=>exact ⟨pv,tv,rfl,rfl,h.1⟩
   | succ i =>
     obtain ⟨a,b,h1,h2,h3⟩:=AccL.get h.2 i (by simpa using hi)
     exact ⟨a,b,by simpa [Nat.mul_add] using h1,by rw [show 2*(i+1)+1=(2*i+1)+1+1 by omega];simpa using h2,h3⟩
 | [_],_,h,_,_=>by simp [AccL] at h
 | _ :: _ :: _,[],h,_,_=>by simp [AccL] at h
 | [],_ :: _,h,_,_=>by simp [AccL] at h
def Acc (w:World) (B:Nat) (l:List Value) (pts:List Pt) (W:World):Prop:=Below w.heap.size w W∧AccL W w.heap.size B l pts
theorem Acc.nil (w:World) (B:Nat):Acc w B [] [] w:=⟨Below.refl _ _,trivial⟩
theorem Acc.nild (w:World) (B:Nat):Acc w B [] [] w.drew:=⟨⟨rfl,rfl,rfl,Nat.le_refl _,fun _ _=>rfl⟩,trivial⟩
theorem Acc.snoc {w W W':World} {B:Nat} {l:List Value} {pts:List Pt} {pv tv:Value} {p:Pt} (h:Acc w B l pts W) (hp:Nu W' W.heap.size B pv tv p) (hb:Below W.heap.size W W'):Acc w B (l++[pv,tv]) (pts++[p]) W' :=
 ⟨bl h.1 hb,(h.2.stay (Stay.below hb)).snoc (hp.mono h.1.size)⟩
def Ik (W:World) (lo B:Nat) (v:Value) (pts:List Pt):Prop :=
 ∃g l,v=.slice (some ⟨g,0,none⟩) pts.length pts.length∧lo≤g∧Blk W g 84 l.toArray∧AccL W lo B l pts
theorem Ik.stay {W W':World} {lo B:Nat} {v:Value} {pts:List Pt} (h:Ik W lo B v pts) (hs:Stay lo W W'):Ik W' lo B v pts:=by
 obtain ⟨g,l,e,hg,hb,ha⟩:=h
 exact ⟨g,l,e,hg,hb.stay hs hg,ha.stay hs⟩
theorem Ik.mono {W:World} {lo lo' B:Nat} {v:Value} {pts:List Pt} (h:Ik W lo B v pts) (hl:lo'≤lo):Ik W lo' B v pts:=by
 obtain ⟨g,l,e,hg,hb,ha⟩:=h
 exact ⟨g,l,e,by omega,hb,ha.mono hl⟩
theorem Acc.built {w W:World} {B:Nat} {l:List Value} {pts:List Pt} (h:Acc w B l pts W) {cs:Array Value} (hc:cs=l.toArray) {n:Nat} (hn:n=pts.length) :
 Ik (W.alloc (.cells cs 84)) w.heap.size B (.slice (some ⟨W.heap.size,0,none⟩) n n) pts∧Below w.heap.size w (W.alloc (.cells cs 84)):=by
 subst hc hn
 exact ⟨⟨W.heap.size,l,rfl,h.1.size,Blk.new _ _ _,h.2.stay (fun b _ hb=>Below.heap_alloc W _ b hb)⟩,h.1.alloc h.1.size _⟩
def Fk4 (w:World) (B:Nat) (pts:List Pt) (e:Ending) (w':World):Prop:=∃v,e=.returned v∧Ik w' w.heap.size B v pts∧Below w.heap.size w w'
theorem Kc (B:Nat) (w:World):Calls prog 55 #[.pointer (some ⟨B,4,none⟩)] w (Gd w B (.one .num .who)):=Ab9 .who B w
theorem Md (B:Nat) (w:World):Calls prog 55 #[.pointer (some ⟨B,6,none⟩)] w (Gd w B (.one .num .pay)):=Ab9 .pay B w
theorem Me (B:Nat) (w:World):Calls prog 55 #[.pointer (some ⟨B,8,none⟩)] w (Gd w B (.one .num .fee)):=Ab9 .fee B w
theorem Ac0 (B:Nat) (w:World):Calls prog 55 #[.pointer (some ⟨B,2,none⟩)] w (Gd w B (.one .num .item)):=Ab9 .item B w
theorem Dc5 (B:Nat) (w:World):Calls prog 55 #[.pointer (some ⟨B,3,none⟩)] w (Gd w B (.one .num .box)):=Ab9 .box B w
theorem Ef1 (B:Nat) (w:World):Calls prog 54 #[.pointer (some ⟨B,1,none⟩)] w (Gd w B (.one .way .dir)):=Gj5 .dir B w
theorem Mc (B:Nat) (w:World):Calls prog 71 #[.pointer (some ⟨B,5,none⟩)] w (Gd w B (.nums true)):=Ds5 true B w
theorem Ma (B:Nat) (w:World):Calls prog 71 #[.pointer (some ⟨B,7,none⟩)] w (Gd w B (.nums false)):=Ds5 false B w
theorem Ow (B:Nat) (w:World):Calls prog 56 #[.string ⟨#[103,105,118,101]⟩] w (Gd w B (.word Lg)):=Ai0 ⟨#[103,105,118,101]⟩ B w
theorem Ls (B:Nat) (w:World):Calls prog 56 #[.string ⟨#[99,111,105,110,115]⟩] w (Gd w B (.word Dc)):=Ai0 ⟨#[99,111,105,110,115]⟩ B w
theorem Re (B:Nat) (w:World):Calls prog 56 #[.string ⟨#[102,111,114]⟩] w (Gd w B (.word sFor)):=Ai0 ⟨#[102,111,114]⟩ B w
theorem Ha0 (B:Nat) (w:World):Calls prog 56 #[.string ⟨#[105,110]⟩] w (Gd w B (.word sIn)):=Ai0 ⟨#[105,110]⟩ B w
theorem Fv6 (B:Nat) (w:World):Calls prog 56 #[.string ⟨#[102,114,111,109]⟩] w (Gd w B (.word As0)):=Ai0 ⟨#[102,114,111,109]⟩ B w
theorem Gz9 (B:Nat) (w:World):Calls prog 56 #[.string ⟨#[116,111]⟩] w (Gd w B (.word sTo)):=Ai0 ⟨#[116,111]⟩ B w
def Hi3:List Pt:=[.one .num .who,.word Lg,.nums true,.word Dc,.one .num .pay,.word sFor,.nums false,.word Dc,.one .num .fee]
theorem Dy7 (B:Nat) (w:World):Calls prog 57 #[.pointer (some ⟨B,0,none⟩)] w (Fk4 w B Hi3):=by
 have hM:=hid (Acc.nild w B)
 go_enter func57,ntmps57
 go_wp2_with fail
 refine tkS (S:=(fun _=>True)) (by (trivial)) (fun hHeld=>?_)
 refine tkl [0,1,2,5,6,7,10,11,12,15,16,17,20,21,22,3,4,8,9,13,14,18,19,23,24,25] ?_
 iterate 26
  first
   | refine tW ?_|refine tN ?_
   | (refine rT (fun K hK=>?_)
      go_simp
      first
       | (go_at_call 55;(first|(with_reducible refine (Kc B _).mono ?_)|(with_reducible refine (Md B _).mono ?_)|(with_reducible refine (Me B _).mono ?_));rintro e w9 ⟨pv,tv,rfl,hp,hb⟩;obtain ⟨F,fs,G,gs,rfl,rfl⟩:=hp.funcs;replace hM:=hid (hM.out.snoc hp hb);clear hp hb)
       | (go_at_call 71;(first|(with_reducible refine (Mc B _).mono ?_)|(with_reducible refine (Ma B _).mono ?_));rintro e w9 ⟨pv,tv,rfl,hp,hb⟩;obtain ⟨F,fs,G,gs,rfl,rfl⟩:=hp.funcs;replace hM:=hid (hM.out.snoc hp hb);clear hp hb)
       | (go_at_call 56;(first|(with_reducible refine (Ow B _).mono ?_)|(with_reducible refine (Ls B _).mono ?_)|(with_reducible refine (Re B _).mono ?_));rintro e w9 ⟨pv,tv,rfl,hp,hb⟩;obtain ⟨F,fs,G,gs,rfl,rfl⟩:=hp.funcs;replace hM:=hid (hM.out.snoc hp hb);clear hp hb)
       | (skip)
      try go_wp2_with fail
      refine hK.out _ _ (by (trivial)) (fun hHeld=>?_)
      clear hK K)
  try go_frame
 refine tkD ?_
 go_wp2_with fail
 go_ret
 exact ⟨_,rfl,hM.built (by simp) rfl⟩
end
section
theorem Fs7:∀(l:List Bool) (i:Nat),l[i]?=some false→(l.set i true).countP (fun b=>!b)+1=l.countP (fun b=>!b)
 | [],i,h=>by simp at h
 | b :: l,0,h=>by simp at h;subst h;simp
 | b :: l,i+1,h=>by
   have:=Fs7 l i (by simpa using h)
   cases b<;>simp<;>omega
theorem Eu3 {P:Program} {ops:Array Oper} {Q:Exit→Act→World→Prop} {md:Region.Mode} (Inv:Array Bool→Act→World→Prop)
 (hback:∀(i:Nat) (o:Oper),ops[i]?=some o→∀e∈o.after,e.on<i)
 (hstep:∀(listed:Array Bool) (a:Act) (w:World) (i:Nat) (o:Oper),listed.size=ops.size→Inv listed a w→listed.getD i true=false→ops[i]?=some o→(∀e∈o.after,Region.binds md e=true→listed.getD e.on false=true)→wpOp P ops Q i (Inv (listed.setIfInBounds i true)) a w)
 (hdone:∀(listed:Array Bool) (a:Act) (w:World),listed.size=ops.size→(∀i,i<ops.size→listed.getD i false=true)→Inv listed a w→Q .normal a w) :
 ∀(fuel:Nat) (listed:Array Bool) (a:Act) (w:World),listed.size=ops.size→listed.toList.countP (fun b=>!b)≤fuel→Inv listed a w→wpAny P md ops Q fuel listed a w:=by
 have hnone:∀listed:Array Bool,listed.size=ops.size→Region.ready md ops listed=[]→∀i,i<ops.size→listed.getD i false=true:=by
  intro listed hs hr i
  induction i using Nat.strongRecOn with
  | ind i ih =>
    intro hi
    cases hb:listed.getD i false with
    | true=>rfl
    | false =>
      have h1:listed.getD i true=false:=by
       have:i<listed.size:=by omega
       simp [this] at hb ⊢;exact hb
      have:i∈Region.ready md ops listed:=mem_ready.2 ⟨h1,ops[i],Array.getElem?_eq_getElem hi,fun e he _=>ih e.on (hback i _ (Array.getElem?_eq_getElem hi) e he) (by have:=hback i _ (Array.getElem?_eq_getElem hi) e he;omega)⟩
      rw [hr] at this;cases this
 intro fuel
 induction fuel with
 | zero =>
   intro listed a w hs hc hI
   have hall:∀i,i<ops.size→listed.getD i false=true:=by
    intro i hi
    have h0:listed.toList.countP (fun b=>!b)=0:=by omega
    rw [List.countP_eq_zero] at h0
    have hl:i<listed.size:=by omega
    have:=h0 listed[i] (by simp)
    simp [hl];simpa using this
   refine ⟨?_,hdone listed a w hs hall hI⟩
   cases hr:Region.ready md ops listed with
   | nil=>rfl
   | cons j r =>
     have hj:j∈Region.ready md ops listed:=by rw [hr];simp
     obtain ⟨h1,o,ho,_⟩:=mem_ready.1 hj
     have hlt:j<ops.size:=(Array.getElem?_eq_some_iff.1 ho).1
     have h2:=hall j hlt
     have:j<listed.size:=by omega
     simp [this] at h1 h2
     rw [h1] at h2;cases h2
 | succ fuel ih =>
   intro listed a w hs hc hI
   refine ⟨fun hr=>hdone listed a w hs (hnone listed hs hr) hI,fun i hi=>?_⟩
   obtain ⟨h1,o,ho,hall⟩:=mem_ready.1 hi
   have hlt:i<listed.size:=by
    apply Decidable.byContradiction;intro hn
    simp [Array.getElem?_eq_none (Nat.le_of_not_lt hn)] at h1
   refine wpOp_mono (fun a' w' h=>ih _ a' w' (by simpa using hs) ?_ h) (hstep listed a w i o hs hI h1 ho hall)
   have hf:listed.toList[i]?=some false:=by simp [hlt] at h1 ⊢;exact h1
   have:=Fs7 listed.toList i hf
   rw [Array.toList_setIfInBounds]
   omega
end
section
open Go.RowKit Go.ChangeMaps Go.MapKept
def Wn (W W':World):Prop:=∀(b:Nat) (cs:Array Value) (t:TypeId) (f:Nat × Nat),W.heap[b]?=some (.cells cs t f)→W'.heap[b]?=some (.cells cs t f)
theorem Wn.below {W W':World} (hb:Below W.heap.size W W'):Wn W W':=fun b cs t f h=>(hb.block b (Array.getElem?_eq_some_iff.1 h).1).trans h
theorem Wn.set {W:World} {b n:Nat} {es:Array MapEntry} (h:W.heap[b]?=some (.map es n)) (o:Obj):Wn W (setBlock W b o):=fun i cs t f hi=>(heap_setBlock_other h o (by intro e;subst e;rw [h] at hi;cases hi)).trans hi
theorem Blk.keepc {W W':World} {g:Nat} {t:TypeId} {cs:Array Value} (h:Blk W g t cs) (k:Wn W W'):Blk W' g t cs:=k _ _ _ _ h
theorem Nu.keepc {W W':World} {lo B:Nat} {pv tv:Value} {p:Pt} (h:Nu W lo B pv tv p) (k:Wn W W'):Nu W' lo B pv tv p:=by
 cases p with
 | one q f =>
   obtain ⟨a,b,c,h1,h2,h3,e1,e2,b1,b2,b3⟩:=h
   exact ⟨a,b,c,h1,h2,h3,e1,e2,b1.keepc k,b2.keepc k,b3.keepc k⟩
 | word x=>obtain ⟨a,h1,e1,e2,b1⟩:=h;exact ⟨a,h1,e1,e2,b1.keepc k⟩
 | nums g=>obtain ⟨a,h1,e1,e2,b1⟩:=h;exact ⟨a,h1,e1,e2,b1.keepc k⟩
theorem AccL.keepc {W W':World} {lo B:Nat} (k:Wn W W'):∀{l:List Value} {pts:List Pt},AccL W lo B l pts→AccL W' lo B l pts
 | [],[],_=>trivial
 | _ :: _ :: _,_ :: _,h=>⟨h.1.keepc k,h.2.keepc k⟩
 | [_],_,h=>by simp [AccL] at h
 | _ :: _ :: _,[],h=>by simp [AccL] at h
 | [],_ :: _,h=>by simp [AccL] at h
theorem Ik.keepc {W W':World} {lo B:Nat} {v:Value} {pts:List Pt} (h:Ik W lo B v pts) (k:Wn W W'):Ik W' lo B v pts:=by
 obtain ⟨g,l,e,hg,hb,ha⟩:=h
 exact ⟨g,l,e,hg,hb.keepc k,ha.keepc k⟩
inductive Role where
 | val (off:Nat)
 | part (p:Pt)
 | list (k:Int)
def Good (w0:World) (B:Nat) (w:World):Role→Value→Prop
 | .val off,x=>x=.pointer (some ⟨B,off,none⟩)
 | .part p,x=>∃pv tv,x=.agg #[pv,tv]∧Nu w w0.heap.size B pv tv p
 | .list k,x=>Ik w w0.heap.size B x (Be k)
theorem Good.keepc {w0 w w1:World} {B:Nat} {r:Role} {x:Value} (h:Good w0 B w r x) (k:Wn w w1):Good w0 B w1 r x:=by
 cases r with
 | val off=>exact h
 | part p=>obtain ⟨pv,tv,e,hp⟩:=h;exact ⟨pv,tv,e,hp.keepc k⟩
 | list q=>exact Ik.keepc h k
def Bz7:List (Option (Nat × Role)):=[none,some (4,.val 0),some (5,.val 0),some (6,.val 1),some (7,.part (.one .way .dir)),some (8,.list 1),none,some (9,.val 0),some (10,.val 0),some (11,.val 4),some (12,.part (.one .num .who)),some (13,.val 0),some (14,.val 0),some (15,.val 1),some (16,.part (.one .way .dir)),some (17,.list 2),none,some (18,.val 0),some (19,.val 0),some (20,.val 2),some (21,.part (.one .num .item)),some (22,.list 3),none,some (23,.val 0),some (24,.val 0),some (25,.val 2),some (26,.part (.one .num .item)),some (27,.list 4),none,some (28,.val 0),some (29,.val 0),some (30,.val 2),some (31,.part (.one .num .item)),some (32,.part (.word sIn)),some (33,.val 0),some (34,.val 0),some (35,.val 3),some (36,.part (.one .num .box)),some (37,.list 5),none,some (38,.val 0),some (39,.val 0),some (40,.val 2),some (41,.part (.one .num .item)),some (42,.part (.word As0)),some (43,.val 0),some (44,.val 0),some (45,.val 3),some (46,.part (.one .num .box)),some (47,.list 6),none,some (48,.val 0),some (49,.val 0),some (50,.val 2),some (51,.part (.one .num .item)),some (52,.part (.word sTo)),some (53,.val 0),some (54,.val 0),some (55,.val 4),some (56,.part (.one .num .who)),some (57,.list 7),none,some (58,.val 0),some (59,.list 8),none,some (60,.list 9),none,some (61,.list 10),none,none,none]
def Gz (i:Nat):Option (Nat × Role):=(Bz7[i]?).bind id
def Dd7:List Nat:=[6,16,22,28,39,50,61,64,66,68]
def Rv (k:Int):Nat:=Dd7.getD (k.toNat-1) 0
def Sv (w0:World) (B:Nat) (has:Int→Prop) (b:Nat) (w:World):Prop :=
 w0.heap.size≤b∧∃es n,w.heap[b]?=some (.map es n)∧(∀x∈es.toList,∃k,x.key=.int .i64 k∧has k∧Ik w w0.heap.size B x.val (Be k))∧∀k,has k→∃x∈es.toList,x.key=.int .i64 k
theorem Sv.below {w0 w w1:World} {B b:Nat} {has:Int→Prop} (h:Sv w0 B has b w) (hb:Below w.heap.size w w1):Sv w0 B has b w1:=by
 obtain ⟨h0,es,n,h1,h2,h3⟩:=h
 refine ⟨h0,es,n,(hb.block b (Array.getElem?_eq_some_iff.1 h1).1).trans h1,fun x hx=>?_,h3⟩
 obtain ⟨k,e1,e2,e3⟩:=h2 x hx
 exact ⟨k,e1,e2,e3.keepc (Wn.below hb)⟩
theorem Sv.congr {w0 w:World} {B b:Nat} {has has':Int→Prop} (h:Sv w0 B has b w) (hh:∀k,has k↔has' k):Sv w0 B has' b w:=by
 obtain ⟨h0,es,n,h1,h2,h3⟩:=h
 refine ⟨h0,es,n,h1,fun x hx=>?_,fun k hk=>h3 k ((hh k).2 hk)⟩
 obtain ⟨k,e1,e2,e3⟩:=h2 x hx
 exact ⟨k,e1,(hh k).1 e2,e3⟩
theorem Xz (k:Int):IsKey (.int .i64) (.int .i64 k):=by simp [IsKey]
theorem Sv.keys {w0 w:World} {B:Nat} {has:Int→Prop} {es:Array MapEntry} (h:∀x∈es.toList,∃k,x.key=.int .i64 k∧has k∧Ik w w0.heap.size B x.val (Be k)):∀x∈es.toList,IsKey (.int .i64) x.key:=by
 intro x hx;obtain ⟨k,e,_⟩:=h x hx;rw [e];exact Xz k
theorem Sv.insert {w0 w:World} {B b:Nat} {has:Int→Prop} (h:Sv w0 B has b w) (hb:Below w0.heap.size w0 w) (k:Int) (hk:¬has k) {v:Value} (hp:Ik w w0.heap.size B v (Be k)) :
 ∃w1,(Instr.mapUpdate 87 (.map (some b)) (.int .i64 k) v).run prog w=.ok () w1∧Sv w0 B (fun j=>has j∨j=k) b w1∧Wn w w1∧Below w0.heap.size w0 w1:=by
 obtain ⟨h0,es,n,h1,h2,h3⟩:=h
 have hf:Instr.findNow (.int .i64) (.int .i64 k) es.toList 0=some none:=by
  rcases findNow_spec (Xz k) es.toList 0 (Sv.keys h2) with ⟨e,_⟩|⟨j,x,_,e2,e3⟩
  ·exact e
  ·obtain ⟨q,e4,e5,_⟩:=h2 x (List.mem_of_getElem? e2)
   rw [e3] at e4
   obtain rfl:k=q:=by simpa using e4
   exact absurd e5 hk
 have hkc:=Wn.set h1 (.map (es.push ⟨.int .i64 k,v,n⟩) (n+1))
 refine ⟨setBlock w b (.map (es.push ⟨.int .i64 k,v,n⟩) (n+1)),?_,⟨h0,es.push ⟨.int .i64 k,v,n⟩,n+1,heap_setBlock_same h1 _,fun x hx=>?_,fun j hj=>?_⟩,hkc,?_⟩
 ·simp [Instr.mapUpdate,run_underlying underlying87,MapKept.run_getObj_map h1,MapKept.run_checkKey underlying3 (Xz k),MapKept.run_findKey underlying3 hf,MapKept.run_setObj_map _ h1,Result.andThen,setBlock]
 ·simp only [Array.toList_push,List.mem_append,List.mem_singleton] at hx
  rcases hx with hx|rfl
  ·obtain ⟨q,e1,e2,e3⟩:=h2 x hx
   exact ⟨q,e1,.inl e2,e3.keepc hkc⟩
  ·exact ⟨k,rfl,.inr rfl,hp.keepc hkc⟩
 ·rcases hj with hj|rfl
  ·obtain ⟨x,hx,e⟩:=h3 j hj
   exact ⟨x,by simp [hx],e⟩
  ·exact ⟨⟨.int .i64 j,v,n⟩,by simp,rfl⟩
 ·exact ⟨hb.os,hb.tape,hb.output,by simpa [setBlock] using hb.size,fun j hj=>(heap_setBlock_other h1 _ (by omega)).trans (hb.block j hj)⟩
theorem Sv.lookup {w0 w:World} {B b:Nat} {has:Int→Prop} (h:Sv w0 B has b w) (k:Int) (hk:has k) :
 ∃v,(Instr.lookup 87 (.map (some b)) (.int .i64 k) false).run prog w=.ok v w∧Ik w w0.heap.size B v (Be k):=by
 obtain ⟨h0,es,n,h1,h2,h3⟩:=h
 rcases findNow_spec (Xz k) es.toList 0 (Sv.keys h2) with ⟨_,e⟩|⟨j,x,e1,e2,e3⟩
 ·obtain ⟨x,hx,ex⟩:=h3 k hk
  exact absurd ex (e x hx)
 ·obtain ⟨q,e4,_,e6⟩:=h2 x (List.mem_of_getElem? e2)
  rw [e3] at e4
  obtain rfl:k=q:=by simpa using e4
  refine ⟨x.val,?_,e6⟩
  simp [Instr.lookup,run_underlying underlying87,MapKept.run_getObj_map h1,MapKept.run_checkKey underlying3 (Xz k),MapKept.run_findKey underlying3 e1,Result.andThen]
def Nv (k:Int):Prop:=1≤k∧k≤10
def Eu2 (w:World) (B:Nat) (e:Ending) (w':World):Prop:=∃b,e=.returned (.map (some b))∧Sv w B Nv b w'∧Below w.heap.size w w'
structure PInv (w0:World) (B:Nat) (listed:Array Bool) (a:Act) (w:World):Prop where
 size:a.tmps.size=63
 defers:a.defers=[]
 tmp0:a.tmps[0]?=some (.pointer (some ⟨B,0,none⟩))
 below:Below w0.heap.size w0 w
 slots:∀i s r,Gz i=some (s,r)→listed.getD i false=true→∃x,a.tmps[s]?=some x∧Good w0 B w r x
 map:listed.getD 0 false=true→∃b,a.tmps[3]?=some (.map (some b))∧Sv w0 B (fun k=>Nv k∧listed.getD (Rv k) false=true) b w
 fin1:listed.getD 69 false=true→listed.getD 0 false=true∧a.tmps[62]?=a.tmps[3]?
 fin2:listed.getD 70 false=true→listed.getD 0 false=true∧a.tmps[2]?=a.tmps[3]?
 ins:∀k,Nv k→listed.getD (Rv k) false=true→listed.getD 0 false=true
def Bd7 (i:Nat):Option Nat:=(Gz i).map (·.1)
def Fl7:Bool:=(List.range 71).all fun i=>match Bd7 i with
 | none=>true
 | some s=>decide (s<63)&&decide (s≠0)&&decide (s≠2)&&decide (s≠3)&&decide (s≠62)&&decide (i≠0)&&decide (i≠69)&&decide (i≠70)&&!(Dd7.contains i)&&(List.range 71).all fun j=>decide (Bd7 j≠some s)||decide (i=j)
theorem Eg8:Fl7=true:=by decide +kernel
theorem Ad9 {k:Int} (h:Nv k):Rv k∈Dd7∧Rv k<69∧Rv k≠0:=by
 obtain ⟨h1,h2⟩:=h
 have:k=1∨k=2∨k=3∨k=4∨k=5∨k=6∨k=7∨k=8∨k=9∨k=10:=by omega
 rcases this with rfl|rfl|rfl|rfl|rfl|rfl|rfl|rfl|rfl|rfl<;>decide
theorem Fq4 {k j:Int} (h:Nv k) (h':Nv j) (e:Rv k=Rv j):k=j:=by
 obtain ⟨h1,h2⟩:=h
 obtain ⟨h3,h4⟩:=h'
 have:k=1∨k=2∨k=3∨k=4∨k=5∨k=6∨k=7∨k=8∨k=9∨k=10:=by omega
 have:j=1∨j=2∨j=3∨j=4∨j=5∨j=6∨j=7∨j=8∨j=9∨j=10:=by omega
 rcases ‹k=1∨_› with rfl|rfl|rfl|rfl|rfl|rfl|rfl|rfl|rfl|rfl<;>rcases ‹j=1∨_› with rfl|rfl|rfl|rfl|rfl|rfl|rfl|rfl|rfl|rfl<;>first|rfl|(exfalso;revert e;decide)
theorem Di7 {i s:Nat} {r:Role} (h:Gz i=some (s,r)):i<71:=by
 apply Decidable.byContradiction;intro hn
 have:Bz7[i]?=none:=List.getElem?_eq_none (by have:Bz7.length=71:=by decide
                                              omega)
 unfold Gz at h;rw [this] at h;cases h
theorem Vd {i s:Nat} {r:Role} (h:Gz i=some (s,r)):s<63∧s≠0∧s≠2∧s≠3∧s≠62∧i≠0∧i≠69∧i≠70∧(∀k,Nv k→i≠Rv k)∧∀j r',Gz j=some (s,r')→i=j:=by
 have hi:=Di7 h
 have h1:=List.all_eq_true.1 Eg8 i (by simpa using hi)
 have hs:Bd7 i=some s:=by unfold Bd7;rw [h];rfl
 rw [hs] at h1
 simp only [Bool.and_eq_true,decide_eq_true_eq,Bool.not_eq_true'] at h1
 obtain ⟨⟨⟨⟨⟨⟨⟨⟨⟨a1,a2⟩,a3⟩,a4⟩,a5⟩,a6⟩,a7⟩,a8⟩,a9⟩,a10⟩:=h1
 refine ⟨a1,a2,a3,a4,a5,a6,a7,a8,fun k hk e=>?_,fun j r' hj=>?_⟩
 ·have:=(Ad9 hk).1
  rw [←e] at this
  rw [List.contains_iff_mem.2 this] at a9;cases a9
 ·have hj2:=Di7 hj
  have:=List.all_eq_true.1 a10 j (by simpa using hj2)
  simp only [Bool.or_eq_true,decide_eq_true_eq] at this
  rcases this with e|e
  ·exact absurd (by unfold Bd7;rw [hj];rfl) e
  ·exact e
theorem Fw {a:Act} {s t:Nat} {v:Value} (h:s≠t):(a.put (some s) v).tmps[t]?=a.tmps[t]?:=by simp [Act.put,Array.getElem?_setIfInBounds_ne h]
theorem Scg {a:Act} {s:Nat} {v:Value} (h:s<a.tmps.size):(a.put (some s) v).tmps[s]?=some v:=by simp [Act.put,h]
theorem Ah6 {listed:Array Bool} {i:Nat} (h:i<listed.size):(listed.setIfInBounds i true).getD i false=true:=by simp [h]
theorem PInv.put {w0 w w1:World} {B:Nat} {listed:Array Bool} {a:Act} {i s:Nat} {r:Role} {x:Value} (h:PInv w0 B listed a w) (hr:Gz i=some (s,r)) (hb:Below w.heap.size w w1) (hx:Good w0 B w1 r x) :
 PInv w0 B (listed.setIfInBounds i true) (a.put (some s) x) w1:=by
 obtain ⟨f1,f2,f3,f4,f5,f6,f7,f8,f9,f10⟩:=Vd hr
 refine ⟨by simpa [Act.put] using h.size,h.defers,by rw [Fw f2];exact h.tmp0,bl h.below hb,fun j t q hj hl=>?_,fun hl=>?_,fun hl=>?_,fun hl=>?_,fun k hk hl=>by rw [getD_set_ne false (f9 k hk)] at hl;exact getD_set_true (h.ins k hk hl)⟩
 ·by_cases e:t=s
  ·subst e
   obtain rfl:i=j:=f10 j q hj
   rw [hr] at hj
   obtain rfl:r=q:=by simpa using hj
   exact ⟨x,Scg (by rw [h.size];exact f1),hx⟩
  ·have hne:i≠j:=by intro e2;subst e2;rw [hr] at hj;exact e (by simpa using (congrArg Prod.fst (Option.some.inj hj)).symm)
   rw [getD_set_ne false hne] at hl
   obtain ⟨y,h1,h2⟩:=h.slots j t q hj hl
   exact ⟨y,by rw [Fw (Ne.symm e)];exact h1,h2.keepc (Wn.below hb)⟩
 ·rw [getD_set_ne false f6] at hl
  obtain ⟨b,h1,h2⟩:=h.map hl
  exact ⟨b,by rw [Fw f4];exact h1,(h2.below hb).congr fun k=>and_congr_right fun hk=>by rw [getD_set_ne false (f9 k hk)]⟩
 ·rw [getD_set_ne false f7] at hl
  obtain ⟨h1,h2⟩:=h.fin1 hl
  exact ⟨getD_set_true h1,by rw [Fw f5,Fw f4];exact h2⟩
 ·rw [getD_set_ne false f8] at hl
  obtain ⟨h1,h2⟩:=h.fin2 hl
  exact ⟨getD_set_true h1,by rw [Fw f3,Fw f4];exact h2⟩
section
variable {P:Program} {ops:Array Oper} {Q:Exit→Act→World→Prop} {K:Act→World→Prop} {a:Act} {w w1:World} {i:Nat} {o:Oper}
theorem Jy (ho:ops[i]?=some o) (hg:o.guard=none) {v:Value} (hr:(execOp a.eval o).run P w=.ok (.value v) w1) (hK:K (a.put o.dst v) w1):wpOp P ops Q i K a w :=
 wpOp_step ho fun K' hK'=>by
  rw [if_pos (by simp [Region.wanted,hg])]
  unfold Oper.wp;rw [hr];exact hK' _ _ hK
theorem Do1 (ho:ops[i]?=some o) (hg:o.guard=none) (hr:(execOp a.eval o).run P w=.ok .skip w1) (hK:K (a.put o.dst undef) w1):wpOp P ops Q i K a w :=
 wpOp_step ho fun K' hK'=>by
  rw [if_pos (by simp [Region.wanted,hg])]
  unfold Oper.wp;rw [hr];exact hK' _ _ hK
theorem Aj0 (ho:ops[i]?=some o) (hg:o.guard=none) {f:FuncId} {args:Array Value} {R:Ending→World→Prop} (hr:(execOp a.eval o).run P w=.ok (.enter f args) w) (hc:Calls P f args w R)
 (hK:∀e w',R e w'→∃v,e=.returned v∧K (a.put o.dst v) w'):wpOp P ops Q i K a w :=
 wpOp_step ho fun K' hK'=>by
  rw [if_pos (by simp [Region.wanted,hg])]
  unfold Oper.wp;rw [hr,Oper.upon_enter]
  refine hc.mono fun e w' h=>?_
  obtain ⟨v,rfl,h2⟩:=hK e w' h
  exact hK' _ _ h2
end
theorem Qr {a:Act} {d:Nat} {x:Value} (h:a.tmps[d]?=some x):a.eval (.tmp d)=x:=by simp [Act.eval,Array.getD_eq_getD_getElem?,h]
def Av7 (o:Oper):Option Tmp × Op × Option (Nat × Bool) × List Nat:=(o.dst,o.op,o.guard,(o.after.toList.filter (fun e=>match e.ground with|.data|.chain=>true|_=>false)).map (·.on))
theorem Eo {o:Oper} {d:Option Tmp} {p:Op} {l:List Nat} (h:Av7 o=(d,p,none,l)):o.dst=d∧o.op=p∧o.guard=none:=by
 simp only [Av7,Prod.mk.injEq] at h;exact ⟨h.1,h.2.1,h.2.2.1⟩
theorem Dg {o:Oper} {d:Option Tmp} {p:Op} {l:List Nat} {listed:Array Bool} (hall:∀e∈o.after,Region.binds .any e=true→listed.getD e.on false=true) (h:Av7 o=(d,p,none,l)) {j:Nat} (hj:j∈l):listed.getD j false=true:=by
 simp only [Av7,Prod.mk.injEq] at h
 rw [←h.2.2.2] at hj
 obtain ⟨e,he,rfl⟩:=List.mem_map.1 hj
 obtain ⟨he1,he2⟩:=List.mem_filter.1 he
 refine hall e (by simpa using he1) ?_
 unfold Region.binds
 cases hg:e.ground<;>rw [hg] at he2<;>first|rfl|cases he2
section
variable {ops:Array Oper} {Q:Exit→Act→World→Prop} {w0:World} {B:Nat} {listed:Array Bool} {a:Act} {w:World} {i s:Nat} {o:Oper}
theorem Pz (h:PInv w0 B listed a w) (ho:ops[i]?=some o) (hv:o.dst=some s∧o.op=.move (.tmp 0)∧o.guard=none) (hr:Gz i=some (s,.val 0)):wpOp prog ops Q i (PInv w0 B (listed.setIfInBounds i true)) a w:=by
 refine Jy (v:=.pointer (some ⟨B,0,none⟩)) (w1:=w) ho hv.2.2 ?_ (by rw [hv.1];exact h.put hr (Below.refl _ _) rfl)
 simp [execOp,hv.2.1,Qr h.tmp0]
theorem Um (h:PInv w0 B listed a w) (ho:ops[i]?=some o) {d j:Nat} (hv:o.dst=some s∧o.op=.nilCheck (.tmp d)∧o.guard=none) (hd:Gz j=some (d,.val 0)) (hj:listed.getD j false=true) (hr:Gz i=some (s,.val 0)):wpOp prog ops Q i (PInv w0 B (listed.setIfInBounds i true)) a w:=by
 obtain ⟨x,h1,h2⟩:=h.slots j d _ hd hj
 obtain rfl:x=_:=h2
 refine Jy (v:=.pointer (some ⟨B,0,none⟩)) (w1:=w) ho hv.2.2 ?_ (by rw [hv.1];exact h.put hr (Below.refl _ _) rfl)
 simp [execOp,hv.2.1,Qr h1]
theorem Rb (h:PInv w0 B listed a w) (ho:ops[i]?=some o) {d j f:Nat} (hv:o.dst=some s∧o.op=.fieldAddr 25 (.tmp d) f∧o.guard=none) (hd:Gz j=some (d,.val 0)) (hj:listed.getD j false=true) {off:Nat} (hr:Gz i=some (s,.val off))
 (hrun:∀W,(Instr.fieldAt 25 (.pointer (some ⟨B,0,none⟩)) f).run prog W=.ok (.pointer (some ⟨B,off,none⟩)) W):wpOp prog ops Q i (PInv w0 B (listed.setIfInBounds i true)) a w:=by
 obtain ⟨x,h1,h2⟩:=h.slots j d _ hd hj
 obtain rfl:x=_:=h2
 refine Jy (v:=.pointer (some ⟨B,off,none⟩)) (w1:=w) ho hv.2.2 ?_ (by rw [hv.1];exact h.put hr (Below.refl _ _) rfl)
 simp [execOp,hv.2.1,Qr h1,hrun,Result.andThen]
theorem Ra (h:PInv w0 B listed a w) (ho:ops[i]?=some o) {d j F t off:Nat} {p:Pt} (hv:o.dst=some s∧o.op=.call { callee:=.value (.func F),args:=#[.tmp d],argTypes:=#[t] }∧o.guard=none) (hd:Gz j=some (d,.val off)) (hj:listed.getD j false=true) (hr:Gz i=some (s,.part p))
 (he:Enters prog F) (hc:∀W,Calls prog F #[.pointer (some ⟨B,off,none⟩)] W (Gd W B p)):wpOp prog ops Q i (PInv w0 B (listed.setIfInBounds i true)) a w:=by
 obtain ⟨x,h1,h2⟩:=h.slots j d _ hd hj
 obtain rfl:x=_:=h2
 refine Aj0 ho hv.2.2 (f:=F) (args:=#[.pointer (some ⟨B,off,none⟩)]) ?_ (hc w) ?_
 ·simp [execOp,hv.2.1,resolve,invoke,Act.eval,h1,Deferred.ofValue,he _ _]
 ·rintro e w1 ⟨pv,tv,rfl,hp,hb⟩
  exact ⟨_,rfl,by rw [hv.1];exact h.put hr hb ⟨pv,tv,rfl,hp.mono h.below.size⟩⟩
theorem Bt8 (h:PInv w0 B listed a w) (ho:ops[i]?=some o) {F t:Nat} {c:Value} {p:Pt} (hv:o.dst=some s∧o.op=.call { callee:=.value (.func F),args:=#[.const c],argTypes:=#[t] }∧o.guard=none) (hr:Gz i=some (s,.part p))
 (he:Enters prog F) (hc:∀W,Calls prog F #[c] W (Gd W B p)):wpOp prog ops Q i (PInv w0 B (listed.setIfInBounds i true)) a w:=by
 refine Aj0 ho hv.2.2 (f:=F) (args:=#[c]) ?_ (hc w) ?_
 ·simp [execOp,hv.2.1,resolve,invoke,Act.eval,Deferred.ofValue,he _ _]
 ·rintro e w1 ⟨pv,tv,rfl,hp,hb⟩
  exact ⟨_,rfl,by rw [hv.1];exact h.put hr hb ⟨pv,tv,rfl,hp.mono h.below.size⟩⟩
theorem Dz0 (h:PInv w0 B listed a w) (ho:ops[i]?=some o) {d j t:Nat} (hv:o.dst=some s∧o.op=.call { callee:=.value (.func 57),args:=#[.tmp d],argTypes:=#[t] }∧o.guard=none) (hd:Gz j=some (d,.val 0)) (hj:listed.getD j false=true) (hr:Gz i=some (s,.list 8)) :
 wpOp prog ops Q i (PInv w0 B (listed.setIfInBounds i true)) a w:=by
 obtain ⟨x,h1,h2⟩:=h.slots j d _ hd hj
 obtain rfl:x=_:=h2
 have he:Enters prog 57:=enters_of func57 (by kernel_rfl) rfl
 refine Aj0 ho hv.2.2 (f:=57) (args:=#[.pointer (some ⟨B,0,none⟩)]) ?_ (Dy7 B w) ?_
 ·simp [execOp,hv.2.1,resolve,invoke,Act.eval,h1,Deferred.ofValue,he _ _]
 ·rintro e w1 ⟨v,rfl,hp,hb⟩
  exact ⟨_,rfl,by rw [hv.1];exact h.put hr hb (Ik.mono (pts:=Be 8) hp h.below.size)⟩
theorem Gy0:(prog.info? 84).map (fun i=>(i.zero,i.size))=some (some (.agg #[.nilFunc,.nilFunc]),2):=by kernel_rfl
theorem Gm5 (W:World):(Instr.buildSlice 86 0 #[]).run prog W=.ok (.slice (some ⟨W.heap.size,0,none⟩) 0 0) (W.alloc (.cells #[] 84)):=by go_simp
theorem Gm4 (p t:Value) (W:World):(Instr.buildSlice 86 1 #[(0,.agg #[p,t])]).run prog W=.ok (.slice (some ⟨W.heap.size,0,none⟩) 1 1) (W.alloc (.cells #[p,t] 84)):=by go_simp
theorem Gm3 (p t p1 t1:Value) (W:World):(Instr.buildSlice 86 2 #[(0,.agg #[p,t]),(1,.agg #[p1,t1])]).run prog W=.ok (.slice (some ⟨W.heap.size,0,none⟩) 2 2) (W.alloc (.cells #[p,t,p1,t1] 84)):=by go_simp
theorem Gm2 (p t p1 t1 p2 t2:Value) (W:World):(Instr.buildSlice 86 3 #[(0,.agg #[p,t]),(1,.agg #[p1,t1]),(2,.agg #[p2,t2])]).run prog W=.ok (.slice (some ⟨W.heap.size,0,none⟩) 3 3) (W.alloc (.cells #[p,t,p1,t1,p2,t2] 84)):=by go_simp
theorem Ge8 (B:Nat) (W:World):(Instr.fieldAt 25 (.pointer (some ⟨B,0,none⟩)) 1).run prog W=.ok (.pointer (some ⟨B,1,none⟩)) W:=by go_simp
theorem Cr8 (B:Nat) (W:World):(Instr.fieldAt 25 (.pointer (some ⟨B,0,none⟩)) 2).run prog W=.ok (.pointer (some ⟨B,2,none⟩)) W:=by go_simp
theorem Ge7 (B:Nat) (W:World):(Instr.fieldAt 25 (.pointer (some ⟨B,0,none⟩)) 3).run prog W=.ok (.pointer (some ⟨B,3,none⟩)) W:=by go_simp
theorem Ge6 (B:Nat) (W:World):(Instr.fieldAt 25 (.pointer (some ⟨B,0,none⟩)) 4).run prog W=.ok (.pointer (some ⟨B,4,none⟩)) W:=by go_simp
theorem Ci6:Enters prog 54:=enters_of func54 (by kernel_rfl) rfl
theorem Mg:Enters prog 55:=enters_of func55 (by kernel_rfl) rfl
theorem Ao4:Enters prog 56:=enters_of func56 (by kernel_rfl) rfl
theorem Cd9 {W:World} {lo:Nat} {l:List Value} {pts:List Pt} (ha:AccL W lo B l pts) (hlo:lo≤W.heap.size) {n:Nat} (hn:n=pts.length) :
 Ik (W.alloc (.cells l.toArray 84)) lo B (.slice (some ⟨W.heap.size,0,none⟩) n n) pts∧Below W.heap.size W (W.alloc (.cells l.toArray 84)):=by
 subst hn
 exact ⟨⟨W.heap.size,l,rfl,hlo,Blk.new _ _ _,ha.stay (fun b _ hb=>Below.heap_alloc W _ b hb)⟩,b_a _⟩
theorem Bt9 (h:PInv w0 B listed a w) (ho:ops[i]?=some o) (hv:o.dst=some s∧o.op=.buildSlice 86 0 #[]∧o.guard=none) {k:Int} (hr:Gz i=some (s,.list k)) (hk:Be k=[]):wpOp prog ops Q i (PInv w0 B (listed.setIfInBounds i true)) a w:=by
 have hb:=Cd9 (W:=w) (B:=B) (lo:=w0.heap.size) (l:=[]) (pts:=[]) trivial h.below.size (n:=0) rfl
 refine Jy (v:=.slice (some ⟨w.heap.size,0,none⟩) 0 0) (w1:=w.alloc (.cells #[] 84)) ho hv.2.2 ?_ (by rw [hv.1];exact h.put hr hb.2 (by show Ik _ _ _ _ (Be k);rw [hk];exact hb.1))
 simp [execOp,hv.2.1,Gm5,Result.andThen]
theorem Av1 (h:PInv w0 B listed a w) (ho:ops[i]?=some o) {s0 i0:Nat} {p0:Pt} (hv:o.dst=some s∧o.op=.buildSlice 86 1 #[(0,.tmp s0)]∧o.guard=none) (hd0:Gz i0=some (s0,.part p0)) (hj0:listed.getD i0 false=true) {k:Int} (hr:Gz i=some (s,.list k)) (hk:Be k=[p0]):wpOp prog ops Q i (PInv w0 B (listed.setIfInBounds i true)) a w:=by
 obtain ⟨x0,e0,pv0,tv0,rfl,hp0⟩:=h.slots _ _ _ hd0 hj0
 have hb:=Cd9 (W:=w) (B:=B) (lo:=w0.heap.size) (l:=[pv0,tv0]) (pts:=[p0]) ⟨hp0,trivial⟩ h.below.size (n:=1) rfl
 refine Jy (v:=.slice (some ⟨w.heap.size,0,none⟩) 1 1) (w1:=w.alloc (.cells #[pv0,tv0] 84)) ho hv.2.2 ?_ (by rw [hv.1];exact h.put hr hb.2 (by show Ik _ _ _ _ (Be k);rw [hk];exact hb.1))
 simp [execOp,hv.2.1,Qr e0,Gm4,Result.andThen]
theorem Di1 (h:PInv w0 B listed a w) (ho:ops[i]?=some o) {s0 i0 s1 i1:Nat} {p0 p1:Pt} (hv:o.dst=some s∧o.op=.buildSlice 86 2 #[(0,.tmp s0),(1,.tmp s1)]∧o.guard=none) (hd0:Gz i0=some (s0,.part p0)) (hj0:listed.getD i0 false=true) (hd1:Gz i1=some (s1,.part p1)) (hj1:listed.getD i1 false=true) {k:Int} (hr:Gz i=some (s,.list k)) (hk:Be k=[p0,p1]):wpOp prog ops Q i (PInv w0 B (listed.setIfInBounds i true)) a w:=by
 obtain ⟨x0,e0,pv0,tv0,rfl,hp0⟩:=h.slots _ _ _ hd0 hj0
 obtain ⟨x1,e1,pv1,tv1,rfl,hp1⟩:=h.slots _ _ _ hd1 hj1
 have hb:=Cd9 (W:=w) (B:=B) (lo:=w0.heap.size) (l:=[pv0,tv0,pv1,tv1]) (pts:=[p0,p1]) ⟨hp0,hp1,trivial⟩ h.below.size (n:=2) rfl
 refine Jy (v:=.slice (some ⟨w.heap.size,0,none⟩) 2 2) (w1:=w.alloc (.cells #[pv0,tv0,pv1,tv1] 84)) ho hv.2.2 ?_ (by rw [hv.1];exact h.put hr hb.2 (by show Ik _ _ _ _ (Be k);rw [hk];exact hb.1))
 simp [execOp,hv.2.1,Qr e0,Qr e1,Gm3,Result.andThen]
theorem Av0 (h:PInv w0 B listed a w) (ho:ops[i]?=some o) {s0 i0 s1 i1 s2 i2:Nat} {p0 p1 p2:Pt} (hv:o.dst=some s∧o.op=.buildSlice 86 3 #[(0,.tmp s0),(1,.tmp s1),(2,.tmp s2)]∧o.guard=none) (hd0:Gz i0=some (s0,.part p0)) (hj0:listed.getD i0 false=true) (hd1:Gz i1=some (s1,.part p1)) (hj1:listed.getD i1 false=true) (hd2:Gz i2=some (s2,.part p2)) (hj2:listed.getD i2 false=true) {k:Int} (hr:Gz i=some (s,.list k)) (hk:Be k=[p0,p1,p2]):wpOp prog ops Q i (PInv w0 B (listed.setIfInBounds i true)) a w:=by
 obtain ⟨x0,e0,pv0,tv0,rfl,hp0⟩:=h.slots _ _ _ hd0 hj0
 obtain ⟨x1,e1,pv1,tv1,rfl,hp1⟩:=h.slots _ _ _ hd1 hj1
 obtain ⟨x2,e2,pv2,tv2,rfl,hp2⟩:=h.slots _ _ _ hd2 hj2
 have hb:=Cd9 (W:=w) (B:=B) (lo:=w0.heap.size) (l:=[pv0,tv0,pv1,tv1,pv2,tv2]) (pts:=[p0,p1,p2]) ⟨hp0,hp1,hp2,trivial⟩ h.below.size (n:=3) rfl
 refine Jy (v:=.slice (some ⟨w.heap.size,0,none⟩) 3 3) (w1:=w.alloc (.cells #[pv0,tv0,pv1,tv1,pv2,tv2] 84)) ho hv.2.2 ?_ (by rw [hv.1];exact h.put hr hb.2 (by show Ik _ _ _ _ (Be k);rw [hk];exact hb.1))
 simp [execOp,hv.2.1,Qr e0,Qr e1,Qr e2,Gm2,Result.andThen]
theorem Vw (h:PInv w0 B listed a w) (ho:ops[i]?=some o) {d j:Nat} {k:Int} (hv:o.dst=none∧o.op=.insert 87 (.tmp 3) (.const (.int .i64 k)) (.tmp d)∧o.guard=none) (h1:1≤k) (h10:k≤10) (hi:i=Rv k) (h0:listed.getD 0 false=true)
 (hd:Gz j=some (d,.list k)) (hj:listed.getD j false=true) (hf:listed.getD i true=false):wpOp prog ops Q i (PInv w0 B (listed.setIfInBounds i true)) a w:=by
 have hk:Nv k:=⟨h1,h10⟩
 obtain ⟨f1,f2,f3⟩:=Ad9 hk
 obtain ⟨v,e1,hp⟩:=h.slots j d _ hd hj
 obtain ⟨b,e2,hm⟩:=h.map h0
 have hlt:i<listed.size:=by
  apply Decidable.byContradiction;intro hn
  simp [Array.getElem?_eq_none (Nat.le_of_not_lt hn)] at hf
 have hnot:¬(Nv k∧listed.getD (Rv k) false=true):=by
  rintro ⟨_,e⟩
  rw [←hi] at e
  simp [hlt] at e hf;rw [hf] at e;cases e
 obtain ⟨w1,hrun,hm1,hkc,hb1⟩:=hm.insert h.below k hnot hp
 refine Do1 ho hv.2.2 (w1:=w1) ?_ ?_
 ·simp [execOp,hv.2.1,e1,e2,Act.eval,hrun,Result.andThen]
 ·rw [hv.1]
  refine ⟨h.size,h.defers,h.tmp0,hb1,fun q t r hq hl=>?_,fun _=>⟨b,e2,hm1.congr fun q=>?_⟩,fun hl=>?_,fun hl=>?_,fun _ _ _=>getD_set_true h0⟩
  ·have hne:i≠q:=by
    intro e;subst e
    exact (Vd hq).2.2.2.2.2.2.2.2.1 k hk hi
   rw [getD_set_ne false hne] at hl
   obtain ⟨y,z1,z2⟩:=h.slots q t r hq hl
   exact ⟨y,z1,z2.keepc hkc⟩
  ·constructor
   ·rintro (⟨z1,z2⟩|rfl)
    ·exact ⟨z1,getD_set_true z2⟩
    ·exact ⟨hk,by rw [←hi];exact Ah6 hlt⟩
   ·rintro ⟨z1,z2⟩
    by_cases e:q=k
    ·exact .inr e
    ·have hne:i≠Rv q:=by rw [hi];intro e2;exact e (Fq4 hk z1 e2).symm
     rw [getD_set_ne false hne] at z2
     exact .inl ⟨z1,z2⟩
  ·rw [getD_set_ne false (by omega)] at hl
   obtain ⟨z1,z2⟩:=h.fin1 hl
   exact ⟨getD_set_true z1,z2⟩
  ·rw [getD_set_ne false (by omega)] at hl
   obtain ⟨z1,z2⟩:=h.fin2 hl
   exact ⟨getD_set_true z1,z2⟩
theorem Gh1 (h:PInv w0 B listed a w) (ho:ops[0]?=some o) (hlt:0<listed.size) (hv:o.dst=some 3∧o.op=.makeMap 87 none∧o.guard=none) (hnone:∀k,Nv k→listed.getD (Rv k) false=false)
 (hf1:listed.getD 69 false=false) (hf2:listed.getD 70 false=false):wpOp prog ops Q 0 (PInv w0 B (listed.setIfInBounds 0 true)) a w:=by
 have hb:Below w.heap.size w (w.alloc (.map #[] 0)):=b_a _
 refine Jy (v:=.map (some w.heap.size)) (w1:=w.alloc (.map #[] 0)) ho hv.2.2 ?_ ?_
 ·simp [execOp,hv.2.1,run_makeMap,Result.andThen]
 ·rw [hv.1]
  refine ⟨by simpa [Act.put] using h.size,h.defers,by rw [Fw (by omega)];exact h.tmp0,bl h.below hb,fun q t r hq hl=>?_,fun _=>⟨w.heap.size,Scg (by rw [h.size];omega),h.below.size,#[],0,(MapKept.heap_alloc w _).1,by simp,fun k hk=>?_⟩,fun hl=>?_,fun hl=>?_,fun _ _ _=>Ah6 hlt⟩
  ·obtain ⟨f1,f2,f3,f4,f5,f6,f7⟩:=Vd hq
   rw [getD_set_ne false (Ne.symm f6)] at hl
   obtain ⟨y,z1,z2⟩:=h.slots q t r hq hl
   exact ⟨y,by rw [Fw (Ne.symm f4)];exact z1,z2.keepc (Wn.below hb)⟩
  ·obtain ⟨hk1,hk2⟩:=hk
   rw [getD_set_ne false (Ne.symm (Ad9 hk1).2.2),hnone k hk1] at hk2;cases hk2
  ·rw [getD_set_ne false (by omega),hf1] at hl;cases hl
  ·rw [getD_set_ne false (by omega),hf2] at hl;cases hl
theorem Ev3 (h:PInv w0 B listed a w) (ho:ops[69]?=some o) (hlt:69<listed.size) (hv:o.dst=some 62∧o.op=.move (.tmp 3)∧o.guard=none) (h0:listed.getD 0 false=true):wpOp prog ops Q 69 (PInv w0 B (listed.setIfInBounds 69 true)) a w:=by
 obtain ⟨b,e1,hm⟩:=h.map h0
 refine Jy (v:=.map (some b)) (w1:=w) ho hv.2.2 ?_ ?_
 ·simp [execOp,hv.2.1,e1,Act.eval]
 ·rw [hv.1]
  refine ⟨by simpa [Act.put] using h.size,h.defers,by rw [Fw (by omega)];exact h.tmp0,h.below,fun q t r hq hl=>?_,fun _=>⟨b,by rw [Fw (by omega)];exact e1,hm.congr fun k=>and_congr_right fun hk=>?_⟩,fun _=>⟨getD_set_true h0,?_⟩,fun hl=>?_,fun _ _ _=>getD_set_true h0⟩
  ·obtain ⟨f1,f2,f3,f4,f5,f6,f7,f8⟩:=Vd hq
   rw [getD_set_ne false (Ne.symm f7)] at hl
   obtain ⟨y,z1,z2⟩:=h.slots q t r hq hl
   exact ⟨y,by rw [Fw (Ne.symm f5)];exact z1,z2⟩
  ·rw [getD_set_ne false (by have:=(Ad9 hk).2.1;omega)]
  ·rw [Scg (by rw [h.size];omega),Fw (by omega),e1]
  ·rw [getD_set_ne false (by omega)] at hl
   obtain ⟨z1,z2⟩:=h.fin2 hl
   exact ⟨getD_set_true z1,by rw [Fw (by omega),Fw (by omega)];exact z2⟩
theorem Ev2 (h:PInv w0 B listed a w) (ho:ops[70]?=some o) (hlt:70<listed.size) (hv:o.dst=some 2∧o.op=.assign (.tmp 62)∧o.guard=none) (h0:listed.getD 69 false=true):wpOp prog ops Q 70 (PInv w0 B (listed.setIfInBounds 70 true)) a w:=by
 obtain ⟨g0,g1⟩:=h.fin1 h0
 obtain ⟨b,e1,hm⟩:=h.map g0
 rw [e1] at g1
 refine Jy (v:=.map (some b)) (w1:=w) ho hv.2.2 ?_ ?_
 ·simp [execOp,hv.2.1,g1,Act.eval]
 ·rw [hv.1]
  refine ⟨by simpa [Act.put] using h.size,h.defers,by rw [Fw (by omega)];exact h.tmp0,h.below,fun q t r hq hl=>?_,fun _=>⟨b,by rw [Fw (by omega)];exact e1,hm.congr fun k=>and_congr_right fun hk=>?_⟩,fun _=>⟨getD_set_true g0,?_⟩,fun _=>⟨getD_set_true g0,?_⟩,fun _ _ _=>getD_set_true g0⟩
  ·obtain ⟨f1,f2,f3,f4,f5,f6,f7,f8,f9⟩:=Vd hq
   rw [getD_set_ne false (Ne.symm f8)] at hl
   obtain ⟨y,z1,z2⟩:=h.slots q t r hq hl
   exact ⟨y,by rw [Fw (Ne.symm f3)];exact z1,z2⟩
  ·rw [getD_set_ne false (by have:=(Ad9 hk).2.1;omega)]
  ·rw [Fw (by omega),Fw (by omega),g1,e1]
  ·rw [Scg (by rw [h.size];omega),Fw (by omega),e1]
end
def Ad6:List (Option Tmp × Op × Option (Nat × Bool) × List Nat):=[
 (some 3,.makeMap 87 none,none,[]),
 (some 4,.move (.tmp 0),none,[]),
 (some 5,.nilCheck (.tmp 4),none,[1]),
 (some 6,.fieldAddr 25 (.tmp 5) 1,none,[2]),
 (some 7,.call { callee:=.value (.func 54),args:=#[.tmp 6],argTypes:=#[95] },none,[3]),
 (some 8,.buildSlice 86 1 #[(0,.tmp 7)],none,[4]),
 (none,.insert 87 (.tmp 3) (.const (.int .i64 1)) (.tmp 8),none,[0,5]),
 (some 9,.move (.tmp 0),none,[]),
 (some 10,.nilCheck (.tmp 9),none,[7]),
 (some 11,.fieldAddr 25 (.tmp 10) 4,none,[8]),
 (some 12,.call { callee:=.value (.func 55),args:=#[.tmp 11],argTypes:=#[95] },none,[9,4]),
 (some 13,.move (.tmp 0),none,[]),
 (some 14,.nilCheck (.tmp 13),none,[11]),
 (some 15,.fieldAddr 25 (.tmp 14) 1,none,[12]),
 (some 16,.call { callee:=.value (.func 54),args:=#[.tmp 15],argTypes:=#[95] },none,[13,10]),
 (some 17,.buildSlice 86 2 #[(0,.tmp 12),(1,.tmp 16)],none,[10,14]),
 (none,.insert 87 (.tmp 3) (.const (.int .i64 2)) (.tmp 17),none,[0,15]),
 (some 18,.move (.tmp 0),none,[]),
 (some 19,.nilCheck (.tmp 18),none,[17]),
 (some 20,.fieldAddr 25 (.tmp 19) 2,none,[18]),
 (some 21,.call { callee:=.value (.func 55),args:=#[.tmp 20],argTypes:=#[95] },none,[19,14]),
 (some 22,.buildSlice 86 1 #[(0,.tmp 21)],none,[20]),
 (none,.insert 87 (.tmp 3) (.const (.int .i64 3)) (.tmp 22),none,[0,21]),
 (some 23,.move (.tmp 0),none,[]),
 (some 24,.nilCheck (.tmp 23),none,[23]),
 (some 25,.fieldAddr 25 (.tmp 24) 2,none,[24]),
 (some 26,.call { callee:=.value (.func 55),args:=#[.tmp 25],argTypes:=#[95] },none,[25,20]),
 (some 27,.buildSlice 86 1 #[(0,.tmp 26)],none,[26]),
 (none,.insert 87 (.tmp 3) (.const (.int .i64 4)) (.tmp 27),none,[0,27]),
 (some 28,.move (.tmp 0),none,[]),
 (some 29,.nilCheck (.tmp 28),none,[29]),
 (some 30,.fieldAddr 25 (.tmp 29) 2,none,[30]),
 (some 31,.call { callee:=.value (.func 55),args:=#[.tmp 30],argTypes:=#[95] },none,[31,26]),
 (some 32,.call { callee:=.value (.func 56),args:=#[.const (.string ⟨#[105,110]⟩)],argTypes:=#[9] },none,[32]),
 (some 33,.move (.tmp 0),none,[]),
 (some 34,.nilCheck (.tmp 33),none,[34]),
 (some 35,.fieldAddr 25 (.tmp 34) 3,none,[35]),
 (some 36,.call { callee:=.value (.func 55),args:=#[.tmp 35],argTypes:=#[95] },none,[36,33]),
 (some 37,.buildSlice 86 3 #[(0,.tmp 31),(1,.tmp 32),(2,.tmp 36)],none,[32,33,37]),
 (none,.insert 87 (.tmp 3) (.const (.int .i64 5)) (.tmp 37),none,[0,38]),
 (some 38,.move (.tmp 0),none,[]),
 (some 39,.nilCheck (.tmp 38),none,[40]),
 (some 40,.fieldAddr 25 (.tmp 39) 2,none,[41]),
 (some 41,.call { callee:=.value (.func 55),args:=#[.tmp 40],argTypes:=#[95] },none,[42,37]),
 (some 42,.call { callee:=.value (.func 56),args:=#[.const (.string ⟨#[102,114,111,109]⟩)],argTypes:=#[9] },none,[43]),
 (some 43,.move (.tmp 0),none,[]),
 (some 44,.nilCheck (.tmp 43),none,[45]),
 (some 45,.fieldAddr 25 (.tmp 44) 3,none,[46]),
 (some 46,.call { callee:=.value (.func 55),args:=#[.tmp 45],argTypes:=#[95] },none,[47,44]),
 (some 47,.buildSlice 86 3 #[(0,.tmp 41),(1,.tmp 42),(2,.tmp 46)],none,[43,44,48]),
 (none,.insert 87 (.tmp 3) (.const (.int .i64 6)) (.tmp 47),none,[0,49]),
 (some 48,.move (.tmp 0),none,[]),
 (some 49,.nilCheck (.tmp 48),none,[51]),
 (some 50,.fieldAddr 25 (.tmp 49) 2,none,[52]),
 (some 51,.call { callee:=.value (.func 55),args:=#[.tmp 50],argTypes:=#[95] },none,[53,48]),
 (some 52,.call { callee:=.value (.func 56),args:=#[.const (.string ⟨#[116,111]⟩)],argTypes:=#[9] },none,[54]),
 (some 53,.move (.tmp 0),none,[]),
 (some 54,.nilCheck (.tmp 53),none,[56]),
 (some 55,.fieldAddr 25 (.tmp 54) 4,none,[57]),
 (some 56,.call { callee:=.value (.func 55),args:=#[.tmp 55],argTypes:=#[95] },none,[58,55]),
 (some 57,.buildSlice 86 3 #[(0,.tmp 51),(1,.tmp 52),(2,.tmp 56)],none,[54,55,59]),
 (none,.insert 87 (.tmp 3) (.const (.int .i64 7)) (.tmp 57),none,[0,60]),
 (some 58,.move (.tmp 0),none,[]),
 (some 59,.call { callee:=.value (.func 57),args:=#[.tmp 58],argTypes:=#[78] },none,[62,59]),
 (none,.insert 87 (.tmp 3) (.const (.int .i64 8)) (.tmp 59),none,[0,63]),
 (some 60,.buildSlice 86 0 #[],none,[]),
 (none,.insert 87 (.tmp 3) (.const (.int .i64 9)) (.tmp 60),none,[0,65]),
 (some 61,.buildSlice 86 0 #[],none,[]),
 (none,.insert 87 (.tmp 3) (.const (.int .i64 10)) (.tmp 61),none,[0,67]),
 (some 62,.move (.tmp 3),none,[0,1,2,3,4,5,6,7,8,9,10,11,12,13,14,15,16,17,18,19,20,21,22,23,24,25,26,27,28,29,30,31,32,33,34,35,36,37,38,39,40,41,42,43,44,45,46,47,48,49,50,51,52,53,54,55,56,57,58,59,60,61,62,63,64,65,66,67,68]),
 (some 2,.assign (.tmp 62),none,[69,63])]
theorem Da1 {P:Program} {Q:Exit→Act→World→Prop} {id:Nat} {ops:Array Oper} {b:Bool} {a:Act} {w:World} (h:∀ops',ops'=ops→(Code.region id ops' b).wp P Q a w):(Code.region id ops b).wp P Q a w:=h _ rfl
theorem Em3 {listed:Array Bool} {w0:World} {B:Nat} {a:Act} {w:World} (h:PInv w0 B listed a w) (hs:listed.size=71) (hf:listed.getD 0 true=false):(∀k,Nv k→listed.getD (Rv k) false=false)∧listed.getD 69 false=false∧listed.getD 70 false=false:=by
 have h0:¬listed.getD 0 false=true:=by
  have:0<listed.size:=by omega
  simp [this] at hf ⊢;exact hf
 refine ⟨fun k hk=>?_,?_,?_⟩
 ·rw [Bool.eq_false_iff];exact fun e=>h0 (h.ins k hk e)
 ·rw [Bool.eq_false_iff];exact fun e=>h0 (h.fin1 e).1
 ·rw [Bool.eq_false_iff];exact fun e=>h0 (h.fin2 e).1
theorem vw {i:Nat} {o:Oper} {x:Option Tmp × Op × Option (Nat × Bool) × List Nat} (h:Ad6[i]?=some (Av7 o)) (h2:Ad6[i]?=some x):Av7 o=x:=Option.some.inj (h.symm.trans h2)
theorem Eg5 {ops:Array Oper} {Q:Exit→Act→World→Prop} {w0:World} {B:Nat} {listed:Array Bool} {a:Act} {w:World} {o:Oper} (h:PInv w0 B listed a w) (hs:listed.size=71) (i:Nat) (hi:i<71) (hv:Ad6[i]?=some (Av7 o)) (ho:ops[i]?=some o)
 (hall:∀e∈o.after,Region.binds .any e=true→listed.getD e.on false=true) (hf:listed.getD i true=false):wpOp prog ops Q i (PInv w0 B (listed.setIfInBounds i true)) a w:=by
 match i,hi,hv,ho,hf with
 | 0,_,hv,ho,hf=>have hv:=vw hv rfl;exact Gh1 h ho (by omega) (Eo hv) (Em3 h hs hf).1 (Em3 h hs hf).2.1 (Em3 h hs hf).2.2
 | 1,_,hv,ho,hf=>have hv:=vw hv rfl;exact Pz h ho (Eo hv) rfl
 | 2,_,hv,ho,hf=>have hv:=vw hv rfl;exact Um h ho (Eo hv) (j:=1) (d:=4) rfl (Dg hall hv (by decide)) rfl
 | 3,_,hv,ho,hf=>have hv:=vw hv rfl;exact Rb h ho (Eo hv) (j:=2) (d:=5) rfl (Dg hall hv (by decide)) rfl (Ge8 B)
 | 4,_,hv,ho,hf=>have hv:=vw hv rfl;exact Ra h ho (Eo hv) (j:=3) (d:=6) rfl (Dg hall hv (by decide)) rfl Ci6 (Ef1 B)
 | 5,_,hv,ho,hf=>have hv:=vw hv rfl;exact Av1 h ho (Eo hv) (i0:=4) (s0:=7) rfl (Dg hall hv (by decide)) rfl rfl
 | 6,_,hv,ho,hf=>have hv:=vw hv rfl;exact Vw h ho (Eo hv) (k:=1) (by decide) (by decide) rfl (Dg hall hv (by decide)) (j:=5) (d:=8) rfl (Dg hall hv (by decide)) hf
 | 7,_,hv,ho,hf=>have hv:=vw hv rfl;exact Pz h ho (Eo hv) rfl
 | 8,_,hv,ho,hf=>have hv:=vw hv rfl;exact Um h ho (Eo hv) (j:=7) (d:=9) rfl (Dg hall hv (by decide)) rfl
 | 9,_,hv,ho,hf=>have hv:=vw hv rfl;exact Rb h ho (Eo hv) (j:=8) (d:=10) rfl (Dg hall hv (by decide)) rfl (Ge6 B)
 | 10,_,hv,ho,hf=>have hv:=vw hv rfl;exact Ra h ho (Eo hv) (j:=9) (d:=11) rfl (Dg hall hv (by decide)) rfl Mg (Kc B)
 | 11,_,hv,ho,hf=>have hv:=vw hv rfl;exact Pz h ho (Eo hv) rfl
 | 12,_,hv,ho,hf=>have hv:=vw hv rfl;exact Um h ho (Eo hv) (j:=11) (d:=13) rfl (Dg hall hv (by decide)) rfl
 | 13,_,hv,ho,hf=>have hv:=vw hv rfl;exact Rb h ho (Eo hv) (j:=12) (d:=14) rfl (Dg hall hv (by decide)) rfl (Ge8 B)
 | 14,_,hv,ho,hf=>have hv:=vw hv rfl;exact Ra h ho (Eo hv) (j:=13) (d:=15) rfl (Dg hall hv (by decide)) rfl Ci6 (Ef1 B)
 | 15,_,hv,ho,hf=>have hv:=vw hv rfl;exact Di1 h ho (Eo hv) (i0:=10) (s0:=12) rfl (Dg hall hv (by decide)) (i1:=14) (s1:=16) rfl (Dg hall hv (by decide)) rfl rfl
 | 16,_,hv,ho,hf=>have hv:=vw hv rfl;exact Vw h ho (Eo hv) (k:=2) (by decide) (by decide) rfl (Dg hall hv (by decide)) (j:=15) (d:=17) rfl (Dg hall hv (by decide)) hf
 | 17,_,hv,ho,hf=>have hv:=vw hv rfl;exact Pz h ho (Eo hv) rfl
 | 18,_,hv,ho,hf=>have hv:=vw hv rfl;exact Um h ho (Eo hv) (j:=17) (d:=18) rfl (Dg hall hv (by decide)) rfl
 | 19,_,hv,ho,hf=>have hv:=vw hv rfl;exact Rb h ho (Eo hv) (j:=18) (d:=19) rfl (Dg hall hv (by decide)) rfl (Cr8 B)
 | 20,_,hv,ho,hf=>have hv:=vw hv rfl;exact Ra h ho (Eo hv) (j:=19) (d:=20) rfl (Dg hall hv (by decide)) rfl Mg (Ac0 B)
 | 21,_,hv,ho,hf=>have hv:=vw hv rfl;exact Av1 h ho (Eo hv) (i0:=20) (s0:=21) rfl (Dg hall hv (by decide)) rfl rfl
 | 22,_,hv,ho,hf=>have hv:=vw hv rfl;exact Vw h ho (Eo hv) (k:=3) (by decide) (by decide) rfl (Dg hall hv (by decide)) (j:=21) (d:=22) rfl (Dg hall hv (by decide)) hf
 | 23,_,hv,ho,hf=>have hv:=vw hv rfl;exact Pz h ho (Eo hv) rfl
 | 24,_,hv,ho,hf=>have hv:=vw hv rfl;exact Um h ho (Eo hv) (j:=23) (d:=23) rfl (Dg hall hv (by decide)) rfl
 | 25,_,hv,ho,hf=>have hv:=vw hv rfl;exact Rb h ho (Eo hv) (j:=24) (d:=24) rfl (Dg hall hv (by decide)) rfl (Cr8 B)
 | 26,_,hv,ho,hf=>have hv:=vw hv rfl;exact Ra h ho (Eo hv) (j:=25) (d:=25) rfl (Dg hall hv (by decide)) rfl Mg (Ac0 B)
 | 27,_,hv,ho,hf=>have hv:=vw hv rfl;exact Av1 h ho (Eo hv) (i0:=26) (s0:=26) rfl (Dg hall hv (by decide)) rfl rfl
 | 28,_,hv,ho,hf=>have hv:=vw hv rfl;exact Vw h ho (Eo hv) (k:=4) (by decide) (by decide) rfl (Dg hall hv (by decide)) (j:=27) (d:=27) rfl (Dg hall hv (by decide)) hf
 | 29,_,hv,ho,hf=>have hv:=vw hv rfl;exact Pz h ho (Eo hv) rfl
 | 30,_,hv,ho,hf=>have hv:=vw hv rfl;exact Um h ho (Eo hv) (j:=29) (d:=28) rfl (Dg hall hv (by decide)) rfl
 | 31,_,hv,ho,hf=>have hv:=vw hv rfl;exact Rb h ho (Eo hv) (j:=30) (d:=29) rfl (Dg hall hv (by decide)) rfl (Cr8 B)
 | 32,_,hv,ho,hf=>have hv:=vw hv rfl;exact Ra h ho (Eo hv) (j:=31) (d:=30) rfl (Dg hall hv (by decide)) rfl Mg (Ac0 B)
 | 33,_,hv,ho,hf=>have hv:=vw hv rfl;exact Bt8 h ho (Eo hv) rfl Ao4 (Ha0 B)
 | 34,_,hv,ho,hf=>have hv:=vw hv rfl;exact Pz h ho (Eo hv) rfl
 | 35,_,hv,ho,hf=>have hv:=vw hv rfl;exact Um h ho (Eo hv) (j:=34) (d:=33) rfl (Dg hall hv (by decide)) rfl
 | 36,_,hv,ho,hf=>have hv:=vw hv rfl;exact Rb h ho (Eo hv) (j:=35) (d:=34) rfl (Dg hall hv (by decide)) rfl (Ge7 B)
 | 37,_,hv,ho,hf=>have hv:=vw hv rfl;exact Ra h ho (Eo hv) (j:=36) (d:=35) rfl (Dg hall hv (by decide)) rfl Mg (Dc5 B)
 | 38,_,hv,ho,hf=>have hv:=vw hv rfl;exact Av0 h ho (Eo hv) (i0:=32) (s0:=31) rfl (Dg hall hv (by decide)) (i1:=33) (s1:=32) rfl (Dg hall hv (by decide)) (i2:=37) (s2:=36) rfl (Dg hall hv (by decide)) rfl rfl
 | 39,_,hv,ho,hf=>have hv:=vw hv rfl;exact Vw h ho (Eo hv) (k:=5) (by decide) (by decide) rfl (Dg hall hv (by decide)) (j:=38) (d:=37) rfl (Dg hall hv (by decide)) hf
 | 40,_,hv,ho,hf=>have hv:=vw hv rfl;exact Pz h ho (Eo hv) rfl
 | 41,_,hv,ho,hf=>have hv:=vw hv rfl;exact Um h ho (Eo hv) (j:=40) (d:=38) rfl (Dg hall hv (by decide)) rfl
 | 42,_,hv,ho,hf=>have hv:=vw hv rfl;exact Rb h ho (Eo hv) (j:=41) (d:=39) rfl (Dg hall hv (by decide)) rfl (Cr8 B)
 | 43,_,hv,ho,hf=>have hv:=vw hv rfl;exact Ra h ho (Eo hv) (j:=42) (d:=40) rfl (Dg hall hv (by decide)) rfl Mg (Ac0 B)
 | 44,_,hv,ho,hf=>have hv:=vw hv rfl;exact Bt8 h ho (Eo hv) rfl Ao4 (Fv6 B)
 | 45,_,hv,ho,hf=>have hv:=vw hv rfl;exact Pz h ho (Eo hv) rfl
 | 46,_,hv,ho,hf=>have hv:=vw hv rfl;exact Um h ho (Eo hv) (j:=45) (d:=43) rfl (Dg hall hv (by decide)) rfl
 | 47,_,hv,ho,hf=>have hv:=vw hv rfl;exact Rb h ho (Eo hv) (j:=46) (d:=44) rfl (Dg hall hv (by decide)) rfl (Ge7 B)
 | 48,_,hv,ho,hf=>have hv:=vw hv rfl;exact Ra h ho (Eo hv) (j:=47) (d:=45) rfl (Dg hall hv (by decide)) rfl Mg (Dc5 B)
 | 49,_,hv,ho,hf=>have hv:=vw hv rfl;exact Av0 h ho (Eo hv) (i0:=43) (s0:=41) rfl (Dg hall hv (by decide)) (i1:=44) (s1:=42) rfl (Dg hall hv (by decide)) (i2:=48) (s2:=46) rfl (Dg hall hv (by decide)) rfl rfl
 | 50,_,hv,ho,hf=>have hv:=vw hv rfl;exact Vw h ho (Eo hv) (k:=6) (by decide) (by decide) rfl (Dg hall hv (by decide)) (j:=49) (d:=47) rfl (Dg hall hv (by decide)) hf
 | 51,_,hv,ho,hf=>have hv:=vw hv rfl;exact Pz h ho (Eo hv) rfl
 | 52,_,hv,ho,hf=>have hv:=vw hv rfl;exact Um h ho (Eo hv) (j:=51) (d:=48) rfl (Dg hall hv (by decide)) rfl
 | 53,_,hv,ho,hf=>have hv:=vw hv rfl;exact Rb h ho (Eo hv) (j:=52) (d:=49) rfl (Dg hall hv (by decide)) rfl (Cr8 B)
 | 54,_,hv,ho,hf=>have hv:=vw hv rfl;exact Ra h ho (Eo hv) (j:=53) (d:=50) rfl (Dg hall hv (by decide)) rfl Mg (Ac0 B)
 | 55,_,hv,ho,hf=>have hv:=vw hv rfl;exact Bt8 h ho (Eo hv) rfl Ao4 (Gz9 B)
 | 56,_,hv,ho,hf=>have hv:=vw hv rfl;exact Pz h ho (Eo hv) rfl
 | 57,_,hv,ho,hf=>have hv:=vw hv rfl;exact Um h ho (Eo hv) (j:=56) (d:=53) rfl (Dg hall hv (by decide)) rfl
 | 58,_,hv,ho,hf=>have hv:=vw hv rfl;exact Rb h ho (Eo hv) (j:=57) (d:=54) rfl (Dg hall hv (by decide)) rfl (Ge6 B)
 | 59,_,hv,ho,hf=>have hv:=vw hv rfl;exact Ra h ho (Eo hv) (j:=58) (d:=55) rfl (Dg hall hv (by decide)) rfl Mg (Kc B)
 | 60,_,hv,ho,hf=>have hv:=vw hv rfl;exact Av0 h ho (Eo hv) (i0:=54) (s0:=51) rfl (Dg hall hv (by decide)) (i1:=55) (s1:=52) rfl (Dg hall hv (by decide)) (i2:=59) (s2:=56) rfl (Dg hall hv (by decide)) rfl rfl
 | 61,_,hv,ho,hf=>have hv:=vw hv rfl;exact Vw h ho (Eo hv) (k:=7) (by decide) (by decide) rfl (Dg hall hv (by decide)) (j:=60) (d:=57) rfl (Dg hall hv (by decide)) hf
 | 62,_,hv,ho,hf=>have hv:=vw hv rfl;exact Pz h ho (Eo hv) rfl
 | 63,_,hv,ho,hf=>have hv:=vw hv rfl;exact Dz0 h ho (Eo hv) (j:=62) (d:=58) rfl (Dg hall hv (by decide)) rfl
 | 64,_,hv,ho,hf=>have hv:=vw hv rfl;exact Vw h ho (Eo hv) (k:=8) (by decide) (by decide) rfl (Dg hall hv (by decide)) (j:=63) (d:=59) rfl (Dg hall hv (by decide)) hf
 | 65,_,hv,ho,hf=>have hv:=vw hv rfl;exact Bt9 h ho (Eo hv) rfl rfl
 | 66,_,hv,ho,hf=>have hv:=vw hv rfl;exact Vw h ho (Eo hv) (k:=9) (by decide) (by decide) rfl (Dg hall hv (by decide)) (j:=65) (d:=60) rfl (Dg hall hv (by decide)) hf
 | 67,_,hv,ho,hf=>have hv:=vw hv rfl;exact Bt9 h ho (Eo hv) rfl rfl
 | 68,_,hv,ho,hf=>have hv:=vw hv rfl;exact Vw h ho (Eo hv) (k:=10) (by decide) (by decide) rfl (Dg hall hv (by decide)) (j:=67) (d:=61) rfl (Dg hall hv (by decide)) hf
 | 69,_,hv,ho,hf=>have hv:=vw hv rfl;exact Ev3 h ho (by omega) (Eo hv) (Dg hall hv (by decide))
 | 70,_,hv,ho,hf=>have hv:=vw hv rfl;exact Ev2 h ho (by omega) (Eo hv) (Dg hall hv (by decide))
def Cp6 (l:List Oper):Bool:=l.zipIdx.all fun (o,i)=>o.after.toList.all fun e=>decide (e.on<i)
theorem Ek5 {ops:Array Oper} (h:Cp6 ops.toList=true) (i:Nat) (o:Oper) (ho:ops[i]?=some o):∀e∈o.after,e.on<i:=by
 intro e he
 have h1:=List.all_eq_true.1 h (o,i) (by
  rw [List.mem_zipIdx_iff_getElem?]
  simpa using ho)
 have h2:=List.all_eq_true.1 h1 e (by simpa using he)
 simpa using h2
theorem Fs8 (n:Nat):(Array.replicate n false).toList.countP (fun b=>!b)≤n:=by
 have:=List.countP_le_length (p:=fun b=>!b) (l:=(Array.replicate n false).toList)
 simpa using this
theorem Te (B:Nat) (w:World):Calls prog 45 #[.pointer (some ⟨B,0,none⟩)] w (Eu2 w B):=by
 go_enter func45,ntmps45
 go_wp2_with fail
 refine Da1 (fun ops hops=>?_)
 have hview:ops.toList.map Av7=Ad6:=by rw [hops];kernel_rfl
 have hprior:Cp6 ops.toList=true:=by rw [hops];kernel_rfl
 have hn:ops.size=71:=by rw [hops];kernel_rfl
 clear hops
 refine wp_region_any (by kernel_rfl) ?_
 refine Eu3 (PInv w B) (Ek5 hprior) (fun listed a W i o hs hI hf ho hall=>?_) (fun listed a W hs hall hI=>?_) _ _ _ _ (by simp) (Fs8 _) ?_
 ·have hi:i<71:=by rw [←hn];exact (Array.getElem?_eq_some_iff.1 ho).1
  refine Eg5 hI (hs.trans hn) i hi ?_ ho hall hf
  rw [←hview,List.getElem?_map]
  have:ops.toList[i]?=some o:=by simpa using ho
  rw [this];rfl
 ·obtain ⟨g0,g1⟩:=hI.fin2 (hall 70 (by omega))
  obtain ⟨b,e1,hm⟩:=hI.map g0
  rw [e1] at g1
  have hm2:Sv w B Nv b W:=hm.congr fun k=>⟨fun h=>h.1,fun h=>⟨h,hall _ (by have:=(Ad9 h).2.1;omega)⟩⟩
  have hB:=hI.below
  have hz:=hI.size
  have hd:=hI.defers
  clear hI hm
  rename_i K hK
  refine hK a W (wp_ret (bodyPost_ret (results_tmp rfl _ _ _) hd ?_))
  refine ⟨b,?_,hm2,hB⟩
  rw [Array.getD_eq_getD_getElem?,g1];rfl
 ·refine ⟨rfl,rfl,rfl,⟨rfl,rfl,rfl,Nat.le_refl _,fun _ _=>rfl⟩,fun i s r hr hl=>?_,fun hl=>?_,fun hl=>?_,fun hl=>?_,fun k hk hl=>?_⟩
  all_goals (exfalso;simp only [Array.getD_eq_getD_getElem?,Array.getElem?_replicate] at hl;split at hl<;>cases hl)
end
end Go.Proofs.YtaeclpjofclbeaaDoor
