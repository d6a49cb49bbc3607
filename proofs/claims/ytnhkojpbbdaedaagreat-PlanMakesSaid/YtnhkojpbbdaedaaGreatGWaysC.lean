/- ways: is it one of so many; the exit; who goes. -/
import Derived.Test.YtnhkojpbbdaedaaGreatGAs
namespace Go.Proofs.YtnhkojpbbdaedaaGreat
open Go.ChangeShapes Go.WideShapes Go.ChangeAt Go.RowKit Go.Proofs.Tryz
open Lib (hid)
set_option linter.unusedVariables false
set_option maxHeartbeats 1000000
set_option maxRecDepth 100000
section
theorem Ea (n m:Int) (w:World):Calls prog 104 #[.int .i64 n,.int .i64 m] w fun e w'=>e=.returned (.bool (inB n m))∧w=w':=by
 unfold inB
 by_cases h1:0≤n
 ·by_cases h2:n<m
  ·
   have hWC:=@wC.eq_1
   go_enter func104,ntmps104
   go_wp2_with fail
   go_ret
   exact ⟨Ag (by simp),rfl⟩
  ·
   have hWC:=@wC.eq_1
   go_enter func104,ntmps104
   go_wp2_with fail
   go_ret
   exact ⟨Ag (by simp [h2]),rfl⟩
 ·
  have hWC:=@wC.eq_1
  go_enter func104,ntmps104
  go_wp2_with fail
  go_ret
  exact ⟨Ag (by simp;omega),rfl⟩
def exA (t:Int):Int:=if t=-1 then 0 else t
theorem Iz (x:Wd) (p:Wp) (r d:Nat) (hr:r<x.d.exits.length) (hd:d<4) (w:World) (h:Qu w p.d.ex x.d.exits):Calls prog 102 #[.agg (wC x p),.int .i64 (r:Int),.int .i64 (d:Int)] w fun e w'=>e=.returned (.tuple #[.int .i64 (exA (toW x r d)),.bool (toW x r d != -1)])∧Below w.heap.size w w':=by
 have hl:=h.len
 obtain ⟨b,o,hx,hb,hc⟩:=h.at_ hr
 have c0:=hc r hr d hd
 rw [Au1 _ hd,Tv hr] at c0
 have hd2:(d:Int)<4:=by omega
 have i1:=hid (show inB (r:Int) (x.d.exits.length:Int)=true by simp [inB,hr])
 have i2:=hid (show inB (d:Int) 4=true by simp [inB,hd2])
 generalize toW x r d=t at *
 clear hc h
 by_cases ht:t=-1
 ·rw [show exA t=0 by subst ht;rfl,show (t != -1)=false by subst ht;rfl]
  have hWC:=@wC.eq_1
  go_enter func102,ntmps102
  go_wp2_with fail
  refine (Ea _ _ _).mono ?_
  rintro e w' ⟨rfl,rfl⟩
  rw [i1.out]
  go_wp2_with fail
  refine (Ea _ _ _).mono ?_
  rintro e w' ⟨rfl,rfl⟩
  rw [i2.out]
  go_wp2_with fail
  go_ret2
  exact ⟨rfl,b_a _⟩
 ·rw [show exA t=t by simp [exA,ht],show (t != -1)=true by simpa using ht]
  have ht2:(t==-1)=false:=by simpa using ht
  clear ht
  have hWC:=@wC.eq_1
  go_enter func102,ntmps102
  go_wp2_with fail
  refine (Ea _ _ _).mono ?_
  rintro e w' ⟨rfl,rfl⟩
  rw [i1.out]
  go_wp2_with fail
  refine (Ea _ _ _).mono ?_
  rintro e w' ⟨rfl,rfl⟩
  rw [i2.out]
  go_wp2_with fail
  go_ret2
  exact ⟨rfl,b_a _⟩
structure Rj (W:World) (n:Nat) (x:Wd) (p:Wp) (i:Nat) (q:Int):Prop where
 lt:n+2<W.heap.size
 w:∀j,W.cell? ⟨n,j,none⟩=((wC x p)[j]?:Option Value)
 p:W.cell? ⟨n+1,0,none⟩=some (.int .i64 i)
 q:W.cell? ⟨n+2,0,none⟩=some (.int .i64 q)
theorem Rj.call {W W':World} {n:Nat} {x:Wd} {p:Wp} {i:Nat} {q:Int} (h:Rj W n x p i q) (hb:Below W.heap.size W W'):Rj W' n x p i q :=
 ⟨by have:=hb.size;have:=h.lt;omega,fun j=>(hb.cell (p:=⟨n,j,none⟩) (by show n<W.heap.size;have:=h.lt;omega)).trans (h.w j),Ad h.p hb,Ad h.q hb⟩
theorem Bi6 (x:Wd) (p:Wp) (i:Nat) (q:Int) (n:Nat) (w:World) (hn:w.heap.size=n):Calls prog 70 #[.agg (wC x p),.int .i64 (i:Int),.int .i64 q] w fun e w'=>e=.returned (.func (.func 103) #[] #[.pointer (some ⟨n+2,0,none⟩),.pointer (some ⟨n,0,none⟩),.pointer (some ⟨n+1,0,none⟩)])∧Rj w' n x p i q∧Below w.heap.size w w':=by
 subst hn
 have h1:=(Ac.new w (wC x p) 29)
 have hWC:=@wC.eq_1
 go_enter func70,ntmps70
 go_wp2_with fail
 go_ret
 refine ⟨rfl,⟨by simp,fun j=>?_,?_,?_⟩,(((Below.refl _ w).alloc (Nat.le_refl _) _).alloc (by simp) _).alloc (by simp;omega) _⟩
 ·exact ((h1.call (b_a _)).call (b_a _)).2.2 j
 ·exact ((Blk.newn (w.alloc (.cells (wC x p) 29)) 3 #[.int .i64 (i:Int)] (n:=w.heap.size+1) (by simp)).alloc _).cell 0
 ·exact World.cell?_alloc_at _ _ _ _ (by simp)
def whoW (x:Wd) (i:Nat) (q:Int):Int × Int:=if inB q x.at_.length=false then (0,3) else if Ah x i=Ah x q.toNat then (q,0) else (0,5)
theorem Wt (x:Wd) (p:Wp) (i:Nat) (q:Int) (n:Nat) (w:World) (hx:Ai x=true) (hi:i<x.at_.length) (h:Rj w n x p i q) (ha:Ae w p.at_ x.at_):Calls prog 103 #[.pointer (some ⟨n+2,0,none⟩),.pointer (some ⟨n,0,none⟩),.pointer (some ⟨n+1,0,none⟩)] w fun e w'=>e=.returned (.tuple #[.int .i64 (whoW x i q).1,.int .i64 (whoW x i q).2])∧Below w.heap.size w w':=by
 have hl:=ha.len
 obtain ⟨hlt,hw,hp,hq⟩:=h
 have HI:=hid (show inB (i:Int) x.at_.length=true by simp [inB,hi])
 cases hb:inB q x.at_.length
 ·have HB:=hid hb
  rw [show whoW x i q=(0,3) by simp [whoW,hb]]
  clear hb
  have hWC:=@wC.eq_1
  go_enter func103,ntmps103
  go_wp2_with fail
  refine (Ea _ _ _).mono ?_
  rintro e w' ⟨rfl,rfl⟩
  rw [HB.out]
  go_wp2_with fail
  go_ret2
  exact ⟨rfl,Below.refl _ _⟩
 ·have HB:=hid hb
  obtain ⟨k,rfl⟩:∃k:Nat,q=k:=⟨q.toNat,by have:=(Bi _ _).1 hb;omega⟩
  have hk:k<x.at_.length:=by have:=(Bi _ _).1 hb;omega
  obtain ⟨b,o,ea,hb2,hc⟩:=ha.at_ hi
  have c1:=hc i hi
  have c2:=hc k hk
  rw [(Bn hx hi).1] at c1
  rw [(Bn hx hk).1] at c2
  have HW:=hid (show whoW x i k=if ((Ah x i:Nat):Int)=((Ah x k:Nat):Int) then ((k:Int),0) else (0,5) by have e:∀a b:Nat,((a:Int)=b)=(a=b):=fun a b=>propext Int.ofNat_inj;simp only [whoW,hb,e];simp)
  generalize ((Ah x i:Nat):Int)=r1 at *
  generalize ((Ah x k:Nat):Int)=r2 at *
  clear hb hc ha hx
  by_cases hr:r1=r2
  ·have hne:(r1 != r2)=false:=by simpa using hr
   rw [show whoW x i k=((k:Int),0) by rw [HW.out,if_pos hr]]
   clear hr
   have hWC:=@wC.eq_1
   go_enter func103,ntmps103
   go_wp2_with fail
   refine (Ea _ _ _).mono ?_
   rintro e w' ⟨rfl,rfl⟩
   rw [HB.out]
   go_wp2_with fail
   refine tkS (S:=(fun w'=>Below w.heap.size w w'∧(∀j,w'.cell? ⟨n,j,none⟩=((wC x p)[j]?:Option Value))∧w'.cell? ⟨n+1,0,none⟩=some (.int .i64 i)∧w'.cell? ⟨n+2,0,none⟩=some (.int .i64 k)∧w'.cell? ⟨b,o+i,none⟩=some (.int .i64 r1)∧w'.cell? ⟨b,o+k,none⟩=some (.int .i64 r2))) (by (exact ⟨Af (Below.refl _ _),hw,hp,hq,c1,c2⟩)) (fun hHeld=>?_)
   refine tkl [0,1,2,3,4,5,6,7,8,9,10,11,12,13,14,15,16,17,18] ?_
   iterate 19
    first
     | refine tW ?_|refine tN ?_
     | (refine rT (fun K hK=>?_)
        go_simp
        first
         | (go_at_call 104;refine (Ea _ _ _).mono ?_;rintro e w9 ⟨rfl,rfl⟩;rw [HI.out])
        try go_wp2_with fail
        refine hK.out _ _ (by (exact ⟨Af (Below.refl _ _),hw,hp,hq,c1,c2⟩)) (fun hHeld=>?_)
        clear hK K)
    try go_frame
   refine tkD ?_
   have hB:=hid (show Below w.heap.size w _ from hHeld.1)
   clear hHeld
   go_wp2_with fail
   go_ret2
   exact ⟨rfl,hB.out⟩
  ·have hne:(r1 != r2)=true:=by simpa using hr
   rw [show whoW x i k=(0,5) by rw [HW.out,if_neg hr]]
   clear hr
   have hWC:=@wC.eq_1
   go_enter func103,ntmps103
   go_wp2_with fail
   refine (Ea _ _ _).mono ?_
   rintro e w' ⟨rfl,rfl⟩
   rw [HB.out]
   go_wp2_with fail
   refine tkS (S:=(fun w'=>Below w.heap.size w w'∧(∀j,w'.cell? ⟨n,j,none⟩=((wC x p)[j]?:Option Value))∧w'.cell? ⟨n+1,0,none⟩=some (.int .i64 i)∧w'.cell? ⟨n+2,0,none⟩=some (.int .i64 k)∧w'.cell? ⟨b,o+i,none⟩=some (.int .i64 r1)∧w'.cell? ⟨b,o+k,none⟩=some (.int .i64 r2))) (by (exact ⟨Af (Below.refl _ _),hw,hp,hq,c1,c2⟩)) (fun hHeld=>?_)
   refine tkl [0,1,2,3,4,5,6,7,8,9,10,11,12,13,14,15,16,17,18] ?_
   iterate 19
    first
     | refine tW ?_|refine tN ?_
     | (refine rT (fun K hK=>?_)
        go_simp
        first
         | (go_at_call 104;refine (Ea _ _ _).mono ?_;rintro e w9 ⟨rfl,rfl⟩;rw [HI.out])
        try go_wp2_with fail
        refine hK.out _ _ (by (exact ⟨Af (Below.refl _ _),hw,hp,hq,c1,c2⟩)) (fun hHeld=>?_)
        clear hK K)
    try go_frame
   refine tkD ?_
   have hB:=hid (show Below w.heap.size w _ from hHeld.1)
   clear hHeld
   go_wp2_with fail
   go_ret2
   exact ⟨rfl,hB.out⟩
end
section
theorem Ae8 {x:Wd} (h:Ai x=true):FewW x:=by
 have h1:=Aj h
 have h2:=Kv h1.2.2.2.2.2
 exact ⟨⟨by omega,by omega,by omega,by omega,by omega⟩,by omega,by omega,by omega⟩
theorem Di4 (x:Wd) (p:Wp) (d:Nat) (n i:Nat) (q:Int) (w:World) (hx:Ai x=true) (h:Ab w p x) (hi:i<x.at_.length) (hg:Rj w n x p i q) (he:¬(whoW x i q).2=0):Calls prog 69 #[.agg (wC x p),.int .i64 (d:Int),.func (.func 103) #[] #[.pointer (some ⟨n+2,0,none⟩),.pointer (some ⟨n,0,none⟩),.pointer (some ⟨n+1,0,none⟩)]] w fun e w'=>e=.returned (.tuple #[.agg (wC x p),.int .i64 0,.int .i64 (whoW x i q).2])∧Below w.heap.size w w':=by
 have C0:=hid (Two.start 29 29 w (wC x p) zC)
 have H:=hid h
 have HX:=hid hx
 have HG:=hid hg
 have hne:((whoW x i q).2 != 0)=true:=by simpa using he
 clear hx h hg he
 have hWC:=@wC.eq_1
 have hZC:=@zC.eq_1
 go_enter func69,ntmps69
 go_wp2_with fail
 refine (Wt x p i q n _ HX.out hi (HG.out.call C0.out.b) (H.out.at_.below C0.out.b (Nat.le_refl _))).mono ?_
 rintro e w1 ⟨rfl,b1⟩
 have D1:=hid (C0.out.call b1)
 have hc1:=D1.out.a.cell
 have hl1:=D1.out.a.lt
 obtain ⟨hc2,hz2,hs2⟩:=D1.out.r.all
 clear b1
 go_wp2_with fail
 refine bodyPost_ret (v:=.tuple #[.agg (wC x p),.int .i64 0,.int .i64 (whoW x i q).2]) (by simp [results,results69,go_sem,hc2]) rfl ⟨rfl,?_⟩
 iterate 11 refine bs_1 ?_
 exact D1.out.b
theorem Bu4 (x:Wd) (pd:Dp) (b o pac:Nat) (pk pw:Option Addr) (pkc pwc:Nat) (d:Nat) (hd:d<4) (n i k:Nat) (w:World) (hx:Ai x=true) (h:Ab w ⟨pd,some ⟨b,o,none⟩,pac,pk,pkc,pw,pwc⟩ x) (c0:w.cell? ⟨b,o+k,none⟩=some (.int .i64 (Ah x k:Int))) (hi:i<x.at_.length) (hk:k<x.at_.length) (hg:Rj w n x ⟨pd,some ⟨b,o,none⟩,pac,pk,pkc,pw,pwc⟩ i k) (he:whoW x i k=((k:Int),0)) (ht:toW x (Ah x k) d=-1):Calls prog 69 #[.agg (wC x ⟨pd,some ⟨b,o,none⟩,pac,pk,pkc,pw,pwc⟩),.int .i64 (d:Int),.func (.func 103) #[] #[.pointer (some ⟨n+2,0,none⟩),.pointer (some ⟨n,0,none⟩),.pointer (some ⟨n+1,0,none⟩)]] w fun e w'=>e=.returned (.tuple #[.agg (wC x ⟨pd,some ⟨b,o,none⟩,pac,pk,pkc,pw,pwc⟩),.int .i64 0,.int .i64 4])∧Below w.heap.size w w':=by
 have C0:=hid (Two.start 29 29 w (wC x ⟨pd,some ⟨b,o,none⟩,pac,pk,pkc,pw,pwc⟩) zC)
 have H:=hid h
 have HX:=hid hx
 have HG:=hid hg
 have HE:=hid he
 have HT:=hid ht
 have HR:=hid (Bn hx hk)
 have hlen:=h.at_.len
 clear hx h hg he ht
 have hWC:=@wC.eq_1
 have hZC:=@zC.eq_1
 go_enter func69,ntmps69
 go_wp2_with fail
 refine (Wt x _ i k n _ HX.out hi (HG.out.call C0.out.b) (H.out.at_.below C0.out.b (Nat.le_refl _))).mono ?_
 rintro e w1 ⟨rfl,b1⟩
 rw [HE.out]
 have D1:=hid (C0.out.call b1)
 have c1:=Ad c0 D1.out.b
 have hl1:=D1.out.a.lt
 clear b1 c0
 go_wp2_with fail
 refine tkS (S:=(fun w'=>Below w1.heap.size w1 w'∧(∀j,w'.cell? ⟨w.heap.size,j,none⟩=((wC x ⟨pd,some ⟨b,o,none⟩,pac,pk,pkc,pw,pwc⟩)[j]?:Option Value))∧w'.cell? ⟨b,o+k,none⟩=some (.int .i64 (Ah x k:Int)))) (by (exact ⟨Af (Below.refl _ _),D1.out.a.cell,c1⟩)) (fun hHeld=>?_)
 refine tkl [0,1,2,3,4,5,6,7,8,9,10,11,12] ?_
 iterate 13
  first
   | refine tW ?_|refine tN ?_
   | (refine rT (fun K hK=>?_)
      go_simp
      first
       | (go_at_call 102;refine (Iz x ⟨pd,some ⟨b,o,none⟩,pac,pk,pkc,pw,pwc⟩ (Ah x k) d HR.out.2 hd _ (H.out.d.ex.below (D1.out.b.trans (hHeld.1.mono D1.out.b.size)) (Nat.le_refl _))).mono ?_;rintro e w9 ⟨rfl,hb2⟩;rw [HT.out])
      try go_wp2_with fail
      refine hK.out _ _ (by (exact ⟨Aa hHeld.1 hHeld.1.size hb2,fun j=>((Aa hHeld.1 hHeld.1.size hb2).cell (p:=⟨w.heap.size,j,none⟩) hl1).trans (D1.out.a.cell j),Ad hHeld.2.2 hb2⟩)) (fun hHeld=>?_)
      clear hK K)
  try go_frame
 refine tkD ?_
 have D2:=hid (D1.out.call hHeld.1)
 clear hHeld hl1 c1
 have hc1:=D2.out.a.cell
 have hl1:=D2.out.a.lt
 obtain ⟨hc2,hz2,hs2⟩:=D2.out.r.all
 go_wp2_with fail
 refine bodyPost_ret (v:=.tuple #[.agg (wC x ⟨pd,some ⟨b,o,none⟩,pac,pk,pkc,pw,pwc⟩),.int .i64 0,.int .i64 4]) (by simp [results,results69,go_sem,hc2]) rfl ⟨rfl,?_⟩
 iterate 11 refine bs_1 ?_
 exact D2.out.b
theorem Di5 (x:Wd) (pd:Dp) (b o pac:Nat) (pk pw:Option Addr) (pkc pwc:Nat) (d:Nat) (hd:d<4) (n i k:Nat) (t:Int) (w:World) (hx:Ai x=true) (h:Ab w ⟨pd,some ⟨b,o,none⟩,pac,pk,pkc,pw,pwc⟩ x) (c0:w.cell? ⟨b,o+k,none⟩=some (.int .i64 (Ah x k:Int))) (hi:i<x.at_.length) (hk:k<x.at_.length) (hg:Rj w n x ⟨pd,some ⟨b,o,none⟩,pac,pk,pkc,pw,pwc⟩ i k) (he:whoW x i k=((k:Int),0)) (ht:toW x (Ah x k) d=t) (h1:¬t=-1):Calls prog 69 #[.agg (wC x ⟨pd,some ⟨b,o,none⟩,pac,pk,pkc,pw,pwc⟩),.int .i64 (d:Int),.func (.func 103) #[] #[.pointer (some ⟨n+2,0,none⟩),.pointer (some ⟨n,0,none⟩),.pointer (some ⟨n+1,0,none⟩)]] w fun e w'=>∃q:Wp,e=.returned (.tuple #[.agg (wC x q),.int .i64 t,.int .i64 0])∧Ao w.heap.size w' q (goW x k t)∧Below w.heap.size w w':=by
 have C0:=hid (Two.start 29 29 w (wC x ⟨pd,some ⟨b,o,none⟩,pac,pk,pkc,pw,pwc⟩) zC)
 have H:=hid h
 have HX:=hid hx
 have HG:=hid hg
 have HE:=hid he
 have HT:=hid (show toW x (Ah x k) d=t∧exA t=t∧(t != -1)=true from ⟨ht,by simp [exA,h1],by simpa using h1⟩)
 have HR:=hid (Bn hx hk)
 have hlen:=h.at_.len
 clear hx h hg he ht h1
 have hWC:=@wC.eq_1
 have hZC:=@zC.eq_1
 go_enter func69,ntmps69
 go_wp2_with fail
 refine (Wt x _ i k n _ HX.out hi (HG.out.call C0.out.b) (H.out.at_.below C0.out.b (Nat.le_refl _))).mono ?_
 rintro e w1 ⟨rfl,b1⟩
 rw [HE.out]
 have D1:=hid (C0.out.call b1)
 have c1:=Ad c0 D1.out.b
 have hl1:=D1.out.a.lt
 clear b1 c0
 go_wp2_with fail
 refine tkS (S:=(fun w'=>Below w1.heap.size w1 w'∧(∀j,w'.cell? ⟨w.heap.size,j,none⟩=((wC x ⟨pd,some ⟨b,o,none⟩,pac,pk,pkc,pw,pwc⟩)[j]?:Option Value))∧w'.cell? ⟨b,o+k,none⟩=some (.int .i64 (Ah x k:Int)))) (by (exact ⟨Af (Below.refl _ _),D1.out.a.cell,c1⟩)) (fun hHeld=>?_)
 refine tkl [0,1,2,3,4,5,6,7,8,9,10,11,12] ?_
 iterate 13
  first
   | refine tW ?_|refine tN ?_
   | (refine rT (fun K hK=>?_)
      go_simp
      first
       | (go_at_call 102;refine (Iz x ⟨pd,some ⟨b,o,none⟩,pac,pk,pkc,pw,pwc⟩ (Ah x k) d HR.out.2 hd _ (H.out.d.ex.below (D1.out.b.trans (hHeld.1.mono D1.out.b.size)) (Nat.le_refl _))).mono ?_;rintro e w9 ⟨rfl,hb2⟩;rw [HT.out.1,HT.out.2.1,HT.out.2.2])
      try go_wp2_with fail
      refine hK.out _ _ (by (exact ⟨Aa hHeld.1 hHeld.1.size hb2,fun j=>((Aa hHeld.1 hHeld.1.size hb2).cell (p:=⟨w.heap.size,j,none⟩) hl1).trans (D1.out.a.cell j),Ad hHeld.2.2 hb2⟩)) (fun hHeld=>?_)
      clear hK K)
  try go_frame
 refine tkD ?_
 have D2:=hid (D1.out.call hHeld.1)
 clear hHeld hl1 c1
 have hc1:=D2.out.a.cell
 have hl1:=D2.out.a.lt
 go_wp2_with fail
 refine (Gi x ⟨pd,some ⟨b,o,none⟩,pac,pk,pkc,pw,pwc⟩ _ (H.out.below D2.out.b (Nat.le_refl _)) (Ae8 HX.out)).mono ?_
 rintro e w3 ⟨⟨qd,qa,qac,qk,qkc,qw,qwc⟩,rfl,ho,b3⟩
 obtain ⟨g,hqa,hb1,hb2,cA,fA,hput⟩:=ho.putAt hk
 simp only at hqa
 subst hqa
 have D3:=hid (D2.out.call b3)
 have hs1:=D2.out.size
 have n1:w.heap.size+1≠g:=by omega
 have n2:g≠w.heap.size+1:=by omega
 have HB3:=hid hb1
 have HP:=hid (hput t)
 clear hc1 hl1 ho hput b3
 obtain ⟨hc2,hz2,hs2⟩:=D3.out.r.all
 have hlg:=hb2
 go_wp2_with fail
 refine bodyPost_ret (v:=.tuple #[.agg (wC x ⟨qd,some ⟨g,0,none⟩,qac,qk,qkc,qw,qwc⟩),.int .i64 t,.int .i64 0]) (by simp [results,results69,go_sem,hc2,hs2]) rfl ⟨⟨qd,some ⟨g,0,none⟩,qac,qk,qkc,qw,qwc⟩,rfl,?_,?_⟩
 ·refine Ao.alloc' (Ao.less (n:=w9.heap.size) ?_ (by omega)) _
  iterate 11 refine Ao.set (q:=w.heap.size+1) ?_ (by omega) _ _
  exact HP.out
 ·refine Below.alloc ?_ (by simp [World.setCell];omega) _
  iterate 11 refine bs_1 ?_
  refine Below.setCell ?_ (by show w.heap.size≤g;omega) _
  exact D3.out.b
end
section
def Went (n:Nat) (W:World) (p q:Wp) (x:Wd) (R:Wd × Int × Int):Prop:=(¬R.2.2=0∧R.1=x∧q=p)∨(R.2.2=0∧Ao n W q R.1)
theorem Went.call {n:Nat} {W W':World} {p q:Wp} {x:Wd} {R:Wd × Int × Int} (h:Went n W p q x R) (hb:Below W.heap.size W W'):Went n W' p q x R:=h.imp id (fun ⟨h1,h2⟩=>⟨h1,h2.call hb⟩)
theorem Went.set {n:Nat} {W:World} {p q:Wp} {x:Wd} {R:Wd × Int × Int} (h:Went n W p q x R) {b:Nat} (hb:b<n) (i:Nat) (u:Value):Went n (W.setCell ⟨b,i,none⟩ u) p q x R:=h.imp id (fun ⟨h1,h2⟩=>⟨h1,h2.set hb i u⟩)
theorem Went.less {n m:Nat} {W:World} {p q:Wp} {x:Wd} {R:Wd × Int × Int} (h:Went n W p q x R) (hm:m≤n):Went m W p q x R:=h.imp id (fun ⟨h1,h2⟩=>⟨h1,h2.less hm⟩)
theorem Went.world {n:Nat} {W:World} {p q:Wp} {x:Wd} {R:Wd × Int × Int} (h:Went n W p q x R) (hw:Ab W p x):Ab W q R.1:=by
 rcases h with ⟨_,h1,h2⟩|⟨_,h2⟩
 ·rw [h1,h2];exact hw
 ·exact h2.world
def Vb (x:Wd) (i:Nat) (q:Int) (d:Nat):Wd × Int × Int:=if (whoW x i q).2=0 then Ck x q.toNat d else (x,0,(whoW x i q).2)
theorem Dx9 {x:Wd} {i:Nat} {q:Int} (h:(whoW x i q).2=0):∃k:Nat,q=k∧k<x.at_.length∧whoW x i q=((k:Int),0):=by
 unfold whoW at h ⊢
 split at h
 ·simp at h
 ·rename_i hb
  simp only [Bool.not_eq_false,Bi] at hb
  split at h
  ·rename_i h2
   refine ⟨q.toNat,by omega,by omega,?_⟩
   rw [if_neg (by simp only [Bool.not_eq_false,Bi];exact hb),if_pos h2]
   simp;omega
  ·simp at h
theorem Bd9 (x:Wd) (p:Wp) (d:Nat) (hd:d<4) (n i:Nat) (q:Int) (w:World) (hx:Ai x=true) (h:Ab w p x) (hi:i<x.at_.length) (hg:Rj w n x p i q):Calls prog 69 #[.agg (wC x p),.int .i64 (d:Int),.func (.func 103) #[] #[.pointer (some ⟨n+2,0,none⟩),.pointer (some ⟨n,0,none⟩),.pointer (some ⟨n+1,0,none⟩)]] w fun e w'=>∃q':Wp,e=.returned (.tuple #[.agg (wC x q'),.int .i64 (Vb x i q d).2.1,.int .i64 (Vb x i q d).2.2])∧Went w.heap.size w' p q' x (Vb x i q d)∧Below w.heap.size w w':=by
 by_cases h0:(whoW x i q).2=0
 ·obtain ⟨k,rfl,hk,he⟩:=Dx9 h0
  have hr:=Bn hx hk
  obtain ⟨b,o,ea,hb,hc⟩:=h.at_.at_ hk
  have c0:=hc k hk
  rw [hr.1] at c0
  obtain ⟨pd,pa,pac,pk,pkc,pw,pwc⟩:=p
  simp only at ea
  subst ea
  have hs:Vb x i k d=Ck x k d:=by unfold Vb;rw [if_pos h0];rfl
  rw [hs]
  by_cases ht:toW x (Ah x k) d=-1
  ·have hm:Ck x k d=(x,0,4):=by unfold Ck;rw [if_pos ht]
   rw [hm]
   exact (Bu4 x pd b o pac pk pw pkc pwc d hd n i k w hx h c0 hi hk hg he ht).mono fun e w' ⟨h1,h2⟩=>⟨_,h1,.inl ⟨by simp,rfl,rfl⟩,h2⟩
  ·have hm:Ck x k d=(goW x k (toW x (Ah x k) d),toW x (Ah x k) d,0):=by unfold Ck;rw [if_neg ht]
   rw [hm]
   exact (Di5 x pd b o pac pk pw pkc pwc d hd n i k _ w hx h c0 hi hk hg he rfl ht).mono fun e w' ⟨q',h1,h2,h3⟩=>⟨q',h1,.inr ⟨rfl,h2⟩,h3⟩
 ·have hs:Vb x i q d=(x,0,(whoW x i q).2):=by unfold Vb;rw [if_neg h0]
  rw [hs]
  exact (Di4 x p d n i q w hx h hi hg h0).mono fun e w' ⟨h1,h2⟩=>⟨p,h1,.inl ⟨h0,rfl,rfl⟩,h2⟩
theorem Gj7 {w W:World} {A:Array Value} {t u:TypeId} {Z:Array Value} (h:Two t u w W A Z):Below w.heap.size w W∧w.heap.size<W.heap.size∧(∀i,W.cell? ⟨w.heap.size,i,none⟩=A[i]?)∧w.heap.size+1<W.heap.size:=⟨h.b,h.a.lt,h.a.cell,h.r.lt⟩
theorem Cf9 {x:Wd} {i:Nat} (hi:i<x.at_.length) (d:Nat):Vb x i i d=Ck x i d:=by
 unfold Vb whoW
 rw [if_neg (show ¬inB (i:Int) x.at_.length=false by simp [inB,hi]),if_pos (by simp)]
 simp
theorem Ao1 (x:Wd) (p:Wp) (i d:Nat) (hd:d<4) (w:World) (hx:Ai x=true) (h:Ab w p x) (hi:i<x.at_.length):Calls prog 41 #[.agg (wC x p),.int .i64 (i:Int),.int .i64 (d:Int)] w fun e w'=>∃q:Wp,e=.returned (.tuple #[.agg (wC x q),.int .i64 (Ck x i d).2.1,.int .i64 (Ck x i d).2.2])∧Went w.heap.size w' p q x (Ck x i d)∧Below w.heap.size w w':=by
 have H:=hid h
 have HX:=hid hx
 have HS:=hid (Cf9 hi d)
 clear h hx
 have C0:=hid (Two.start 29 29 w (wC x p) zC)
 obtain ⟨y,hy⟩:∃y,y=Ck x i d:=⟨_,rfl⟩
 have HY:=hid hy
 rw [←hy]
 clear hy
 have hWC:=@wC.eq_1
 have hZC:=@zC.eq_1
 go_enter func41,ntmps41
 go_wp2_with fail
 obtain ⟨n,hn⟩:∃n,((w.alloc (.cells (wC x p) 29)).alloc (.cells zC 29)).drew.heap.size=n:=⟨_,rfl⟩
 have HN:=hid hn
 clear hn
 refine tkS (S:=(fun w'=>Below w.heap.size w w'∧w.heap.size<w'.heap.size∧(∀i,w'.cell? ⟨w.heap.size,i,none⟩=((wC x p)[i]?:Option Value))∧w.heap.size+1<w'.heap.size)) (by (with_reducible exact ⟨C0.out.drew.b,C0.out.drew.a.lt,C0.out.drew.a.cell,C0.out.drew.r.lt⟩)) (fun hHeld=>?_)
 refine tkl [0,1,2,3,4] ?_
 iterate 5
  refine tW ?_
  try go_frame
 refine rdy1 5 (fun K hK=>?_)
 go_simp
 refine (Bi6 x p i i n _ HN.out).mono ?_;rintro e w1 ⟨rfl,hg,hb1⟩;have D1:=hid (C0.out.drew.call hb1);have HG:=hid hg;have B1:=hid hb1;clear hb1 hg
 try go_wp2_with fail
 refine hK.out _ _ (by (with_reducible exact ⟨D1.out.b,D1.out.a.lt,D1.out.a.cell,D1.out.r.lt⟩)) (fun hHeld=>?_)
 clear hK K
 try go_frame
 refine rdy1 6 (fun K hK=>?_)
 go_simp
 refine (Bd9 x p d hd _ i i _ HX.out (H.out.below D1.out.b (Nat.le_refl _)) hi HG.out).mono ?_;rintro e w2 ⟨⟨qd,qa,qac,qk,qkc,qw,qwc⟩,rfl,wn,hb2⟩;rw [HS.out,←HY.out] at wn ⊢;have D2:=hid (D1.out.call hb2)
 try go_wp2_with fail
 refine hK.out _ _ (by (with_reducible exact ⟨D2.out.b,D2.out.a.lt,D2.out.a.cell,D2.out.r.lt⟩)) (fun hHeld=>?_)
 clear hK K
 try go_frame
 have WN:=hid wn
 obtain ⟨hc2,hz2,hs2⟩:=D2.out.r.all
 clear wn hb2
 refine tkl [7,8,9] ?_
 iterate 3
  refine tW ?_
  try go_frame
 refine rdy1 10 (fun K hK=>?_)
 go_simp
 try go_wp2_with fail
 refine hK.out _ _ (by (refine Ry (t:=29) (s:=29) (w:=w) ?_;(iterate 11 with_reducible refine TwoE.set2 ?_ _ _);with_reducible exact TwoE.mk D2.out)) (fun hHeld=>?_)
 clear hK K
 try go_frame
 refine tkl [11,12] ?_
 iterate 2
  refine tW ?_
  try go_frame
 refine tkD ?_
 go_wp2_with fail
 refine bodyPost_ret (v:=.tuple #[.agg (wC x ⟨qd,qa,qac,qk,qkc,qw,qwc⟩),.int .i64 y.2.1,.int .i64 y.2.2]) (by simp [results,results41,go_sem,hc2]) rfl ⟨⟨qd,qa,qac,qk,qkc,qw,qwc⟩,rfl,?_,?_⟩
 ·refine Went.less (n:=w1.heap.size) ?_ (by have:=D1.out.r.lt;omega)
  iterate 11 refine Went.set (b:=w.heap.size+1) ?_ D1.out.r.lt _ _
  exact WN.out
 ·iterate 11 refine bs_1 ?_
  exact D2.out.b
theorem Cg3 {x:Wd} {i:Nat} {q:Int} (hi:i<x.at_.length) (hq:¬q=i) (d:Nat):Vb x i q d=Eg x i q d:=by
 unfold Vb Eg whoW
 by_cases h1:inB q x.at_.length=false
 ·simp [h1]
 ·simp only [if_neg h1,if_neg hq]
  by_cases h2:Ah x i=Ah x q.toNat
  ·simp [h2]
  ·simp [h2]
theorem Ai1 {x:Wd} {i:Nat} (hi:i<x.at_.length) (d:Nat):Eg x i i d=(x,0,12):=by
 unfold Eg
 rw [if_neg (by simp [inB,hi]),if_pos rfl]
theorem Cg4 (x:Wd) (p:Wp) (i d:Nat) (w:World):Calls prog 43 #[.agg (wC x p),.int .i64 (i:Int),.int .i64 (i:Int),.int .i64 (d:Int)] w fun e w'=>e=.returned (.tuple #[.agg (wC x p),.int .i64 0,.int .i64 12])∧Below w.heap.size w w':=by
 have C0:=hid (Two.start 29 29 w (wC x p) zC)
 obtain ⟨hc2,hz2,hs2⟩:=C0.out.r.all
 have hWC:=@wC.eq_1
 have hZC:=@zC.eq_1
 go_enter func43,ntmps43
 go_wp2_with fail
 refine bodyPost_ret (v:=.tuple #[.agg (wC x p),.int .i64 0,.int .i64 12]) (by simp [results,results43,go_sem]) rfl ⟨rfl,?_⟩
 exact (b_a _).alloc (by simp) _
theorem Bq9 (x:Wd) (p:Wp) (i:Nat) (q:Int) (d:Nat) (hd:d<4) (hq:¬q=i) (w:World) (hx:Ai x=true) (h:Ab w p x) (hi:i<x.at_.length):Calls prog 43 #[.agg (wC x p),.int .i64 (i:Int),.int .i64 q,.int .i64 (d:Int)] w fun e w'=>∃q':Wp,e=.returned (.tuple #[.agg (wC x q'),.int .i64 (Eg x i q d).2.1,.int .i64 (Eg x i q d).2.2])∧Went w.heap.size w' p q' x (Eg x i q d)∧Below w.heap.size w w':=by
 have H:=hid h
 have HX:=hid hx
 have HS:=hid (Cg3 hi hq d)
 have hne:(q==(i:Int))=false:=by simpa using hq
 clear h hx hq
 have C0:=hid (Two.start 29 29 w (wC x p) zC)
 obtain ⟨y,hy⟩:∃y,y=Eg x i q d:=⟨_,rfl⟩
 have HY:=hid hy
 rw [←hy]
 clear hy
 have hWC:=@wC.eq_1
 have hZC:=@zC.eq_1
 go_enter func43,ntmps43
 go_wp2_with fail
 obtain ⟨n,hn⟩:∃n,((w.alloc (.cells (wC x p) 29)).alloc (.cells zC 29)).drew.heap.size=n:=⟨_,rfl⟩
 have HN:=hid hn
 clear hn
 refine tkS (S:=(fun w'=>Below w.heap.size w w'∧w.heap.size<w'.heap.size∧(∀i,w'.cell? ⟨w.heap.size,i,none⟩=((wC x p)[i]?:Option Value))∧w.heap.size+1<w'.heap.size)) (by (with_reducible exact ⟨C0.out.drew.b,C0.out.drew.a.lt,C0.out.drew.a.cell,C0.out.drew.r.lt⟩)) (fun hHeld=>?_)
 refine tkl [0,1,2,3,4] ?_
 iterate 5
  refine tW ?_
  try go_frame
 refine rdy1 5 (fun K hK=>?_)
 go_simp
 refine (Bi6 x p i q n _ HN.out).mono ?_;rintro e w1 ⟨rfl,hg,hb1⟩;have D1:=hid (C0.out.drew.call hb1);have HG:=hid hg;have B1:=hid hb1;clear hb1 hg
 try go_wp2_with fail
 refine hK.out _ _ (by (with_reducible exact ⟨D1.out.b,D1.out.a.lt,D1.out.a.cell,D1.out.r.lt⟩)) (fun hHeld=>?_)
 clear hK K
 try go_frame
 refine rdy1 6 (fun K hK=>?_)
 go_simp
 refine (Bd9 x p d hd _ i q _ HX.out (H.out.below D1.out.b (Nat.le_refl _)) hi HG.out).mono ?_;rintro e w2 ⟨⟨qd,qa,qac,qk,qkc,qw,qwc⟩,rfl,wn,hb2⟩;rw [HS.out,←HY.out] at wn ⊢;have D2:=hid (D1.out.call hb2)
 try go_wp2_with fail
 refine hK.out _ _ (by (with_reducible exact ⟨D2.out.b,D2.out.a.lt,D2.out.a.cell,D2.out.r.lt⟩)) (fun hHeld=>?_)
 clear hK K
 try go_frame
 have WN:=hid wn
 obtain ⟨hc2,hz2,hs2⟩:=D2.out.r.all
 clear wn hb2
 refine tkl [7,8,9] ?_
 iterate 3
  refine tW ?_
  try go_frame
 refine rdy1 10 (fun K hK=>?_)
 go_simp
 try go_wp2_with fail
 refine hK.out _ _ (by (refine Ry (t:=29) (s:=29) (w:=w) ?_;(iterate 11 with_reducible refine TwoE.set2 ?_ _ _);with_reducible exact TwoE.mk D2.out)) (fun hHeld=>?_)
 clear hK K
 try go_frame
 refine tkl [11,12] ?_
 iterate 2
  refine tW ?_
  try go_frame
 refine tkD ?_
 go_wp2_with fail
 refine bodyPost_ret (v:=.tuple #[.agg (wC x ⟨qd,qa,qac,qk,qkc,qw,qwc⟩),.int .i64 y.2.1,.int .i64 y.2.2]) (by simp [results,results43,go_sem,hc2]) rfl ⟨⟨qd,qa,qac,qk,qkc,qw,qwc⟩,rfl,?_,?_⟩
 ·refine Went.less (n:=w1.heap.size) ?_ (by have:=D1.out.r.lt;omega)
  iterate 11 refine Went.set (b:=w.heap.size+1) ?_ D1.out.r.lt _ _
  exact WN.out
 ·iterate 11 refine bs_1 ?_
  exact D2.out.b
theorem Az2 (x:Wd) (p:Wp) (i:Nat) (q:Int) (d:Nat) (hd:d<4) (w:World) (hx:Ai x=true) (h:Ab w p x) (hi:i<x.at_.length):Calls prog 43 #[.agg (wC x p),.int .i64 (i:Int),.int .i64 q,.int .i64 (d:Int)] w fun e w'=>∃q':Wp,e=.returned (.tuple #[.agg (wC x q'),.int .i64 (Eg x i q d).2.1,.int .i64 (Eg x i q d).2.2])∧Went w.heap.size w' p q' x (Eg x i q d)∧Below w.heap.size w w':=by
 by_cases hq:q=i
 ·subst hq
  rw [Ai1 hi]
  exact (Cg4 x p i d w).mono fun e w' ⟨h1,h2⟩=>⟨_,h1,.inl ⟨by simp,rfl,rfl⟩,h2⟩
 ·exact Bq9 x p i q d hd hq w hx h hi
end
end Go.Proofs.YtnhkojpbbdaedaaGreat
