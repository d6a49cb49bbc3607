/- keys: the document's Sort: the least that is greater than the last one, again and again. -/
import Derived.Test.YtenpcndoilcjcaaGKeysS
namespace Go.Proofs.Ytenpcndoilcjcaa
open Go.ChangeShapes Go.WideShapes Go.ChangeAt Go.RowKit
open Lib (hid)
set_option linter.unusedVariables false
open Go.RowKit Go
def Pv (s:List Pl) (k:Pl):Bool:=match s.getLast? with|none=>true|some z=>Ev z k
def Kl (s l:List Pl):Nat→Option Pl
 | 0=>none
 | n+1=>match l[n]? with
   | none=>Kl s l n
   | some k=>if Pv s k then (match Kl s l n with|none=>some k|some b=>if Ev k b then some k else some b) else Kl s l n
structure Yf (l s:List Pl):Prop where
 up:s.Pairwise fun a b=>Ev a b=true
 mem:∀k,k∈s↔(k∈l∧Pv s k=false)
theorem Du7 (k:Pl):Pv [] k=true:=rfl
theorem De2 (s:List Pl) (b k:Pl):Pv (s++[b]) k=Ev b k:=by simp [Pv]
theorem Yf.start (l:List Pl):Yf l []:=⟨List.Pairwise.nil,fun k=>by simp [Du7]⟩
theorem Ae5 {s l:List Pl}:∀{n:Nat},Kl s l n=none→∀i k,i<n→l[i]?=some k→Pv s k=false
 | 0,_,i,k,hi,_=>by omega
 | n+1,h,i,k,hi,hk=>by
   unfold Kl at h
   cases hn:l[n]? with
   | none =>
     rw [hn] at h
     by_cases e:i=n
     ·subst e;rw [hn] at hk;cases hk
     ·exact Ae5 h i k (by omega) hk
   | some k0 =>
     rw [hn] at h
     simp only at h
     by_cases hf0:Pv s k0=true
     ·rw [if_pos hf0] at h
      cases hb:Kl s l n with
      | none=>rw [hb] at h;cases h
      | some b0=>rw [hb] at h;simp only at h;split at h<;>cases h
     ·rw [if_neg hf0] at h
      by_cases e:i=n
      ·subst e;rw [hn] at hk;obtain rfl:=Option.some.inj hk;simpa using hf0
      ·exact Ae5 h i k (by omega) hk
theorem Ae4 {s l:List Pl}:∀{n:Nat} {b:Pl},Kl s l n=some b→b∈l∧Pv s b=true∧∀i k,i<n→l[i]?=some k→Pv s k=true→Ev k b=false
 | 0,b,h=>by cases h
 | n+1,b,h=>by
   unfold Kl at h
   cases hn:l[n]? with
   | none =>
     rw [hn] at h
     obtain ⟨h1,h2,h3⟩:=Ae4 h
     refine ⟨h1,h2,fun i k hi hk hf=>?_⟩
     by_cases e:i=n
     ·subst e;rw [hn] at hk;cases hk
     ·exact h3 i k (by omega) hk hf
   | some k0 =>
     rw [hn] at h
     have hm:k0∈l:=List.mem_of_getElem? hn
     simp only at h
     by_cases hf0:Pv s k0=true
     ·rw [if_pos hf0] at h
      cases hb:Kl s l n with
      | none =>
        rw [hb] at h
        obtain rfl:=Option.some.inj h
        refine ⟨hm,hf0,fun i k hi hk hf=>?_⟩
        by_cases e:i=n
        ·subst e;rw [hn] at hk;obtain rfl:=Option.some.inj hk;exact Pb _
        ·exact absurd hf (by rw [Ae5 hb i k (by omega) hk];simp)
      | some b0 =>
        rw [hb] at h
        simp only at h
        obtain ⟨h1,h2,h3⟩:=Ae4 hb
        by_cases hl:Ev k0 b0=true
        ·rw [if_pos hl] at h
         obtain rfl:=Option.some.inj h
         refine ⟨hm,hf0,fun i k hi hk hf=>?_⟩
         by_cases e:i=n
         ·subst e;rw [hn] at hk;obtain rfl:=Option.some.inj hk;exact Pb _
         ·have h4:=h3 i k (by omega) hk hf
          rw [Bool.eq_false_iff,ne_eq,Qa] at h4 ⊢
          rw [Qa] at hl
          omega
        ·rw [if_neg hl] at h
         obtain rfl:=Option.some.inj h
         refine ⟨h1,h2,fun i k hi hk hf=>?_⟩
         by_cases e:i=n
         ·subst e;rw [hn] at hk;obtain rfl:=Option.some.inj hk;simpa using hl
         ·exact h3 i k (by omega) hk hf
     ·rw [if_neg hf0] at h
      obtain ⟨h1,h2,h3⟩:=Ae4 h
      refine ⟨h1,h2,fun i k hi hk hf=>?_⟩
      by_cases e:i=n
      ·subst e;rw [hn] at hk;obtain rfl:=Option.some.inj hk;exact absurd hf hf0
      ·exact h3 i k (by omega) hk hf
theorem Yf.less {l s:List Pl} (h:Yf l s) {b:Pl} (hb:Pv s b=true):∀a∈s,Ev a b=true:=by
 intro a ha
 cases hs:s.getLast? with
 | none=>rw [List.getLast?_eq_none_iff] at hs;subst hs;simp at ha
 | some z =>
   unfold Pv at hb
   rw [hs] at hb
   simp only at hb
   obtain ⟨ys,rfl⟩:=List.getLast?_eq_some_iff.1 hs
   rcases List.mem_append.1 ha with ha|ha
   ·exact Av8 ((List.pairwise_append.1 h.up).2.2 a ha z (by simp)) hb
   ·rw [List.mem_singleton] at ha;subst ha;exact hb
theorem Yf.step {l s:List Pl} (h:Yf l s) {b:Pl} (hb:Kl s l l.length=some b):Yf l (s++[b]):=by
 obtain ⟨h1,h2,h3⟩:=Ae4 hb
 have hl:=h.less h2
 refine ⟨List.pairwise_append.2 ⟨h.up,List.pairwise_singleton _ _,fun a ha c hc=>by rw [List.mem_singleton] at hc;subst hc;exact hl a ha⟩,fun k=>?_⟩
 rw [De2,List.mem_append,List.mem_singleton]
 constructor
 ·rintro (hk|rfl)
  ·exact ⟨((h.mem k).1 hk).1,At4 (hl k hk)⟩
  ·exact ⟨h1,Pb _⟩
 ·rintro ⟨hk,hf⟩
  by_cases hfk:Pv s k=true
  ·obtain ⟨i,hi,rfl⟩:=List.mem_iff_getElem.1 hk
   have h4:=h3 i _ hi (List.getElem?_eq_getElem hi) hfk
   right
   apply Decidable.byContradiction
   intro hne
   rcases Ba7 hne with h5|h5
   ·rw [h5] at h4;cases h4
   ·rw [h5] at hf;cases hf
  ·left
   exact (h.mem k).2 ⟨hk,by simpa using hfk⟩
theorem Yf.ends {l s:List Pl} (h:Yf l s) (hb:Kl s l l.length=none):Lm l s :=
 ⟨h.up,fun k=>⟨fun hk=>((h.mem k).1 hk).1,fun hk=>by
   obtain ⟨i,hi,rfl⟩:=List.mem_iff_getElem.1 hk
   exact (h.mem _).2 ⟨hk,Ae5 hb i _ hi (List.getElem?_eq_getElem hi)⟩⟩⟩
theorem Yf.len {l s:List Pl} (h:Yf l s):s.length≤l.length :=
 List.Nodup.length_le_of_subset (h.up.imp (fun h=>Bh7 h)) (fun k hk=>((h.mem k).1 hk).1)
theorem Fu4 {s l:List Pl} {n:Nat} (hn:n<l.length) (hf:Pv s l[n]=false):Kl s l (n+1)=Kl s l n:=by
 rw [Kl,List.getElem?_eq_getElem hn];simp [hf]
theorem Es6 {s l:List Pl} {n:Nat} (hn:n<l.length) (hf:Pv s l[n]=true) (hb:Kl s l n=none):Kl s l (n+1)=some l[n]:=by
 rw [Kl,List.getElem?_eq_getElem hn];simp [hf,hb]
theorem Dw1 {s l:List Pl} {n:Nat} {b:Pl} (hn:n<l.length) (hf:Pv s l[n]=true) (hb:Kl s l n=some b) (h:Ev l[n] b=true):Kl s l (n+1)=some l[n]:=by
 rw [Kl,List.getElem?_eq_getElem hn];simp [hf,hb,h]
theorem Dw0 {s l:List Pl} {n:Nat} {b:Pl} (hn:n<l.length) (hf:Pv s l[n]=true) (hb:Kl s l n=some b) (h:Ev l[n] b=false):Kl s l (n+1)=some b:=by
 rw [Kl,List.getElem?_eq_getElem hn];simp [hf,hb,h]
theorem Dk3 (W:World) (m i:Nat) (v:Value):W.grownBy (W.setCell ⟨m,i,none⟩ v) (some m) :=
 ⟨rfl,rfl,rfl,by simp [World.setCell],fun b _ hne=>Below.heap_setCell W _ v b (fun e=>hne (by rw [e]))⟩
theorem Bd8 {W:World} {m sc n:Nat} {sa:Option Addr} {s:List Pl} (u v:Value) (hg:Dt 2 47 plC n W (.slice sa s.length sc) s) (hr:Ar 2 plC W sa s) (h:∀p,sa=some p→p.block<m) :
 Dt 2 47 plC n ((W.setCell ⟨m,0,none⟩ u).setCell ⟨m,1,none⟩ v) (.slice sa s.length sc) s∧Ar 2 plC ((W.setCell ⟨m,0,none⟩ u).setCell ⟨m,1,none⟩ v) sa s:=by
 have hb:Value.ownBlock (.slice sa s.length sc)=none∨Value.ownBlock (.slice sa s.length sc)≠some m:=by
  cases sa with
  | none=>exact .inl rfl
  | some p=>right;have:=h p rfl;simp [Value.ownBlock];omega
 have hf:∀p,sa=some p→p.block≠m:=fun p hp e=>by have:=h p hp;omega
 refine ⟨World.ownsRow.kept (World.ownsRow.kept hg (Dk3 W m 0 u) hb) (Dk3 _ m 1 v) hb,?_⟩
 exact Ar.below_far (Ar.below_far hr (r:=m) (fun b hb _=>Below.heap_setCell W _ u b hb) (by simp [World.setCell]) hf) (r:=m) (fun b hb _=>Below.heap_setCell _ _ v b hb) (by simp [World.setCell]) hf
def Bc2 (o:Option Pl):Array Value:=#[.int .i64 (keyV o).kind,.int .i64 (keyV o).id]
theorem De3 {s:List Pl} {k:Pl} (h:0<s.length):Pv s k=Ev (s[s.length-1]'(by omega)) k:=by
 unfold Pv
 rw [List.getLast?_eq_getElem?,List.getElem?_eq_getElem (by omega)]
set_option maxRecDepth 100000 in
set_option maxHeartbeats 1000000 in
theorem Ei9 (a:Option Addr) (cap:Nat) (l:List Pl) (w:World) (h:Au w a l) (hl:l.length≤1000) :
 Calls Try.prog 38 #[.slice a l.length cap] w fun e w'=>∃(b:Option Addr) (c:Nat) (s:List Pl),e=.returned (.slice b s.length c)∧Lm l s∧OwnR 2 47 plC w.heap.size w' b s∧Below w.heap.size w w':=by
 have hm:=h.len
 have H:=hid h
 have HL:=hid hl
 clear h
 go_enter Try.func38,Try.ntmps38
 go_wp2_with fail
 go_loopw [3,4,5,6] (fun v _ _ _ wr=>∃s:List Pl,Yf l s∧Dt 2 47 plC w.heap.size wr v s∧Below w.heap.size w wr) (fun v _ _ _ _=>l.length+1-lenV v)
 case atStart=>exact ⟨[],Yf.start l,Dt.nil _,Below.refl _ _⟩
 case round =>
  obtain ⟨s,hS,hG,hB⟩:=hrel
  have HS:=hid hS
  have HSL:=hid hS.len
  obtain ⟨sa,sc,rfl,hO⟩:=hG.own Ni
  have HG:=hid hG
  have M0:=hid (Blk.new wr 47 #[.int .i64 0,.int .i64 0])
  have G0:=hid (hG.call (b_a (.cells #[.int .i64 0,.int .i64 0] 47)))
  have O0:=hid (Ar.call hO.row (b_a (.cells #[.int .i64 0,.int .i64 0] 47)))
  have B0:=hid (hB.alloc hB.size (.cells #[.int .i64 0,.int .i64 0] 47))
  have HM:=hid hB.size
  have HSA:=hid (show ∀p,sa=some p→p.block<wr.heap.size from fun p hp=>by
   rcases hO.2 with ⟨_,h⟩|⟨g,cs,h,_,hb,_⟩
   ·rw [h] at hp;cases hp
   ·rw [h] at hp;cases hp;exact hb.lt)
  clear hS hG hB hO
  go_wp2_with fail
  obtain ⟨m,hmm⟩:∃m,wr.heap.size=m:=⟨_,rfl⟩
  simp only [hmm]
  rw [hmm] at M0 HM HSA
  generalize wr.alloc (.cells #[.int .i64 0,.int .i64 0] 47)=W0 at *
  obtain ⟨wp,hwp⟩:∃q,q=wr:=⟨_,rfl⟩
  subst hwp
  go_loopw [4,6] (fun f i wr=>∃k:Nat,k≤l.length∧i=.int .i64 k∧f=.bool (Kl s l k).isSome∧Blk wr m 47 (Bc2 (Kl s l k))∧Dt 2 47 plC w.heap.size wr (.slice sa s.length sc) s∧Ar 2 plC wr sa s∧Below w.heap.size w wr) (fun _ i _=>l.length-(intOf i).toNat)
  case atStart=>exact ⟨0,Nat.zero_le _,rfl,rfl,M0.out,G0.out,O0.out,B0.out⟩
  case round =>
   obtain ⟨k,hk,rfl,rfl,hM,hG,hO,hB⟩:=hrel
   have HM1:=hid hM
   have HG1:=hid hG
   have HO1:=hid hO
   have HB1:=hid hB
   clear hM hG hO hB M0 G0 O0 B0
   by_cases hlt:k<l.length
   ·obtain ⟨b,ao,rfl,hbb,h0,h1⟩:=H.out.cells hlt
    have hbw:b<wr.heap.size:=Nat.lt_of_lt_of_le hbb HB1.out.size
    have c0:=(HB1.out.cell (p:=⟨b,ao+k*2,none⟩) hbb).trans h0
    have c1:=(HB1.out.cell (p:=⟨b,ao+k*2+1,none⟩) hbb).trans h1
    have HNO:=hid (Fu4 (s:=s) hlt)
    have HNEW:=hid (Es6 (s:=s) hlt)
    have HLESS:=hid (fun b=>Dw1 (s:=s) (b:=b) hlt)
    have HSTAY:=hid (fun b=>Dw0 (s:=s) (b:=b) hlt)
    have HLAST:=hid (fun h=>De3 (s:=s) (k:=l[k]) h)
    clear h0 h1 hbb
    generalize l[k]=z at *
    obtain ⟨z0,z1⟩:=z
    simp only at c0 c1
    have hw:IntKind.i64.wrap ((k:Int)+1)=(k:Int)+1:=IntWalk.i64_in _ (by omega)
    have C0:=hid c0
    have C1:=hid c1
    by_cases hs0:s.length=0
    ·have FR:=hid (show Pv s ⟨z0,z1⟩=true by rw [List.eq_nil_of_length_eq_zero hs0];rfl)
     have q0:decide ((0:Int)<(s.length:Int))=false:=by simp [hs0]
     have q1:(0<s.length)=False:=by simp [hs0]
     clear hs0 HLAST c0 c1
     go_upto_region 7 with fail
     refine tkS (S:=(fun w'=>Below wr.heap.size wr w')) (by (first|(with_reducible exact Af (Below.refl _ _)))) (fun hHeld=>?_)
     refine tkl [0,1,2,3] ?_
     iterate 4
      refine tW ?_
      try go_frame
     refine tkl [4,5,6,7,8,9,10,11,12,13,14,15] ?_
     iterate 12
      refine tN ?_
      try go_frame
     refine tkl [16] (tW ?_)
     try go_frame
     refine tkD ?_
     have HM2:=hid HM1.out.drew
     have HG2:=hid (HG1.out.call (Af (Below.refl _ _)))
     have HO2:=hid (Ar.call HO1.out (Af (Below.refl _ _)))
     have HB2:=hid (Af HB1.out)
     have C20:=hid (Bz C0.out hbw (Af (Below.refl _ _)))
     have C21:=hid (Bz C1.out hbw (Af (Below.refl _ _)))
     have HBW:=hid (show b<wr.drew.heap.size from hbw)
     clear hbw HM1 HG1 HO1 HB1 C0 C1
     generalize wr.drew=W2 at *
     cases hbest:Kl s l k with
     | none =>
       have HE:=hid (HNEW.out FR.out hbest)
       rw [hbest] at HM2
       have c0:=C20.out
       have c1:=C21.out
       clear HNO HNEW HLESS HSTAY hbest
       go_upto_region 8 with fail
       refine tkS (S:=(fun w'=>Below W2.heap.size W2 w')) (by (first|(with_reducible exact Af (Below.refl _ _)))) (fun hHeld=>?_)
       refine tkl [0,1,2] ?_
       iterate 3
        refine tW ?_
        try go_frame
       refine tkl [3,4,5,6,7,8] ?_
       iterate 6
        refine tN ?_
        try go_frame
       refine tkl [9] (tW ?_)
       try go_frame
       refine tkD ?_
       have HM3:=hid HM2.out.drew
       have HG3:=hid (HG2.out.call (Af (Below.refl _ _)))
       have HO3:=hid (Ar.call HO2.out (Af (Below.refl _ _)))
       have HB3:=hid (Af HB2.out)
       have c0:W2.drew.cell? ⟨b,ao+k*2,none⟩=some (.int .i64 z0):=C20.out
       have c1:W2.drew.cell? ⟨b,ao+k*2+1,none⟩=some (.int .i64 z1):=C21.out
       clear hHeld HM2 HG2 HO2 HB2 C20 C21 HBW
       generalize W2.drew=W3 at *
       have hm3:=HM3.out.lt
       have hz3:=HM3.out.frozen
       have hcm:∀i,W3.cell? ⟨m,i,none⟩=(#[.int .i64 0,.int .i64 0][i]?:Option Value):=HM3.out.cell
       have HX:=hid (Bd8 (.int .i64 z0) (.int .i64 z1) HG3.out HO3.out HSA.out)
       have HBX:=hid ((HB3.out.setCell (p:=⟨m,0,none⟩) HM.out (.int .i64 z0)).setCell (p:=⟨m,1,none⟩) HM.out (.int .i64 z1))
       have HMX:=hid ((HM3.out.set_ 0 (.int .i64 z0)).set_ 1 (.int .i64 z1))
       go_wp2_with fail
       go_roundw
       case rel=>exact ⟨k+1,by omega,by go_num,by simp [HE.out],by rw [HE.out];simpa [Bc2,keyV] using HMX.out,HX.out.1,HX.out.2,HBX.out⟩
       case measure=>simp [intOf];omega
     | some q =>
       obtain ⟨q0,q1⟩:=q
       have HL1:=hid (HLESS.out _ FR.out hbest)
       have HS1:=hid (HSTAY.out _ FR.out hbest)
       have HBE:=hid hbest
       rw [hbest] at HM2
       clear HNO HNEW HLESS HSTAY hbest
       have D0:=hid (show W2.cell? ⟨m,0,none⟩=some (.int .i64 q0) by simpa [Bc2,keyV] using HM2.out.cell 0)
       have D1:=hid (show W2.cell? ⟨m,1,none⟩=some (.int .i64 q1) by simpa [Bc2,keyV] using HM2.out.cell 1)
       have HMLT:=hid HM2.out.lt
       have KS:Hid (∀W,Below W2.heap.size W2 W→W.cell? ⟨b,ao+k*2,none⟩=some (.int .i64 z0)∧W.cell? ⟨b,ao+k*2+1,none⟩=some (.int .i64 z1)∧W.cell? ⟨m,0,none⟩=some (.int .i64 q0)∧W.cell? ⟨m,1,none⟩=some (.int .i64 q1)):=hid (fun W hb=>⟨Bz C20.out HBW.out hb,Bz C21.out HBW.out hb,Bz D0.out HMLT.out hb,Bz D1.out HMLT.out hb⟩)
       by_cases hless:Ev ⟨z0,z1⟩ ⟨q0,q1⟩=true
       ·have HLT:=hid hless
        clear hless
        go_upto_region 8 with fail
        have E8:=hid (Af (Below.refl W2.heap.size W2))
        refine tkS (S:=(fun w'=>w'.cell? ⟨b,ao+k*2,none⟩=some (.int .i64 z0)∧w'.cell? ⟨b,ao+k*2+1,none⟩=some (.int .i64 z1)∧w'.cell? ⟨m,0,none⟩=some (.int .i64 q0)∧w'.cell? ⟨m,1,none⟩=some (.int .i64 q1))) (by (first|(with_reducible exact KS.out _ E8.out))) (fun hHeld=>?_)
        refine tkl [0,1,2,3,4,5,6,7] ?_
        iterate 8
         refine tW ?_
         try go_frame
        refine rdy1 8 (fun K hK=>?_)
        go_simp
        refine (Ui ⟨z0,z1⟩ ⟨q0,q1⟩ _).mono ?_;rintro e9 w9 ⟨rfl,hb9⟩;have E9:=hid (bl E8.out hb9);rw [HLT.out];clear hb9
        try go_wp2_with fail
        refine hK.out _ _ (by (first|(with_reducible exact KS.out _ E9.out))) (fun hHeld=>?_)
        clear hK K
        try go_frame
        refine tkl [9] (tW ?_)
        try go_frame
        refine tkD ?_
        have HM3:=hid (HM2.out.call E9.out)
        have HG3:=hid (HG2.out.call E9.out)
        have HO3:=hid (Ar.call HO2.out E9.out)
        have HB3:=hid (bl HB2.out E9.out)
        have c0:=(KS.out _ E9.out).1
        have c1:=(KS.out _ E9.out).2.1
        have HE:=hid (HL1.out HLT.out)
        have hm3:=HM3.out.lt
        have hz3:=HM3.out.frozen
        have hcm:∀i,w9.cell? ⟨m,i,none⟩=(#[.int .i64 q0,.int .i64 q1][i]?:Option Value):=HM3.out.cell
        have HX:=hid (Bd8 (.int .i64 z0) (.int .i64 z1) HG3.out HO3.out HSA.out)
        have HBX:=hid ((HB3.out.setCell (p:=⟨m,0,none⟩) HM.out (.int .i64 z0)).setCell (p:=⟨m,1,none⟩) HM.out (.int .i64 z1))
        have HMX:=hid ((HM3.out.set_ 0 (.int .i64 z0)).set_ 1 (.int .i64 z1))
        go_wp2_with fail
        go_roundw
        case rel=>exact ⟨k+1,by omega,by go_num,by simp [HE.out],by rw [HE.out];simpa [Bc2,keyV] using HMX.out,HX.out.1,HX.out.2,HBX.out⟩
        case measure=>simp [intOf];omega
       ·have HLT:=hid (show Ev ⟨z0,z1⟩ ⟨q0,q1⟩=false by simpa using hless)
        clear hless
        go_upto_region 8 with fail
        have E8:=hid (Af (Below.refl W2.heap.size W2))
        refine tkS (S:=(fun w'=>w'.cell? ⟨b,ao+k*2,none⟩=some (.int .i64 z0)∧w'.cell? ⟨b,ao+k*2+1,none⟩=some (.int .i64 z1)∧w'.cell? ⟨m,0,none⟩=some (.int .i64 q0)∧w'.cell? ⟨m,1,none⟩=some (.int .i64 q1))) (by (first|(with_reducible exact KS.out _ E8.out))) (fun hHeld=>?_)
        refine tkl [0,1,2,3,4,5,6,7] ?_
        iterate 8
         refine tW ?_
         try go_frame
        refine rdy1 8 (fun K hK=>?_)
        go_simp
        refine (Ui ⟨z0,z1⟩ ⟨q0,q1⟩ _).mono ?_;rintro e9 w9 ⟨rfl,hb9⟩;have E9:=hid (bl E8.out hb9);rw [HLT.out];clear hb9
        try go_wp2_with fail
        refine hK.out _ _ (by (first|(with_reducible exact KS.out _ E9.out))) (fun hHeld=>?_)
        clear hK K
        try go_frame
        refine tkl [9] (tW ?_)
        try go_frame
        refine tkD ?_
        have HM3:=hid (HM2.out.call E9.out)
        have HG3:=hid (HG2.out.call E9.out)
        have HO3:=hid (Ar.call HO2.out E9.out)
        have HB3:=hid (bl HB2.out E9.out)
        have c0:=(KS.out _ E9.out).1
        have c1:=(KS.out _ E9.out).2.1
        have HE:=hid (HS1.out HLT.out)
        clear c0 c1
        go_wp2_with fail
        go_roundw
        case rel=>exact ⟨k+1,by omega,by go_num,by simp [HE.out],by rw [HE.out];exact HM3.out,HG3.out,HO3.out,HB3.out⟩
        case measure=>simp [intOf];omega
    ·have hsp:0<s.length:=by omega
     obtain ⟨g,go,rfl,hgb,d0,d1⟩:=Au.cells HO1.out (show s.length-1<s.length by omega)
     have HFR:=hid (HLAST.out hsp)
     clear HLAST
     generalize s[s.length-1]=y at *
     obtain ⟨y0,y1⟩:=y
     simp only at d0 d1
     have D0:=hid d0
     have D1:=hid d1
     have HGB:=hid hgb
     have HBV:=hid hbw
     clear d0 d1 hgb c0 c1 hs0
     have q0:decide ((0:Int)<(s.length:Int))=true:=by simpa using hsp
     have q1:(0<s.length)=True:=by simpa using hsp
     have i0:((s.length:Int)-1).toNat=s.length-1:=by omega
     have i1:(0:Int)≤(s.length:Int)-1:=by omega
     have i4:(1:Int)≤(s.length:Int):=by omega
     have i2:(s.length:Int)-1<(s.length:Int):=by omega
     have i3:=HSL.out
     have iw:IntKind.i64.wrap ((s.length:Int)-1)=(s.length:Int)-1:=IntWalk.i64_in _ (by omega)
     have KT:Hid (∀W,Below wr.heap.size wr W→W.cell? ⟨b,ao+k*2,none⟩=some (.int .i64 z0)∧W.cell? ⟨b,ao+k*2+1,none⟩=some (.int .i64 z1)∧W.cell? ⟨g,go+(s.length-1)*2,none⟩=some (.int .i64 y0)∧W.cell? ⟨g,go+(s.length-1)*2+1,none⟩=some (.int .i64 y1)):=hid (fun W hb=>⟨Bz C0.out HBV.out hb,Bz C1.out HBV.out hb,Bz D0.out HGB.out hb,Bz D1.out HGB.out hb⟩)
     by_cases hfr:Ev ⟨y0,y1⟩ ⟨z0,z1⟩=true
     rotate_left
     ·have HLT:=hid (show Ev ⟨y0,y1⟩ ⟨z0,z1⟩=false by simpa using hfr)
      have FR:=hid (HFR.out.trans HLT.out)
      clear hfr HFR
      go_upto_region 7 with fail
      have E6:=hid (Af (Below.refl wr.heap.size wr))
      refine tkS (S:=(fun w'=>w'.cell? ⟨b,ao+k*2,none⟩=some (.int .i64 z0)∧w'.cell? ⟨b,ao+k*2+1,none⟩=some (.int .i64 z1)∧w'.cell? ⟨g,go+(s.length-1)*2,none⟩=some (.int .i64 y0)∧w'.cell? ⟨g,go+(s.length-1)*2+1,none⟩=some (.int .i64 y1))) (by (first|(with_reducible exact KT.out _ E6.out))) (fun hHeld=>?_)
      refine tkl [0,1,2,3,4,5,6,7,8,9,10,11,12,13] ?_
      iterate 14
       refine tW ?_
       try go_frame
      refine rdy1 14 (fun K hK=>?_)
      go_simp
      refine (Ui ⟨y0,y1⟩ ⟨z0,z1⟩ _).mono ?_;rintro e7 w7 ⟨rfl,hb7⟩;have E7:=hid (bl E6.out hb7);rw [HLT.out];clear hb7
      try go_wp2_with fail
      refine hK.out _ _ (by (first|(with_reducible exact KT.out _ E7.out))) (fun hHeld=>?_)
      clear hK K
      try go_frame
      refine tkl [15,16] ?_
      iterate 2
       refine tW ?_
       try go_frame
      refine tkD ?_
      have HM2:=hid (HM1.out.call E7.out)
      have HG2:=hid (HG1.out.call E7.out)
      have HO2:=hid (Ar.call HO1.out E7.out)
      have HB2:=hid (bl HB1.out E7.out)
      have HE:=hid (HNO.out FR.out)
      rw [←HE.out] at HM2
      go_wp2_with fail
      go_roundw
      case rel=>exact ⟨k+1,by omega,by go_num,by rw [HE.out],HM2.out,HG2.out,HO2.out,HB2.out⟩
      case measure=>simp [intOf];omega
     ·have HLT:=hid (show Ev ⟨y0,y1⟩ ⟨z0,z1⟩=true by simpa using hfr)
      have FR:=hid (HFR.out.trans HLT.out)
      clear hfr HFR
      go_upto_region 7 with fail
      have E6:=hid (Af (Below.refl wr.heap.size wr))
      refine tkS (S:=(fun w'=>w'.cell? ⟨b,ao+k*2,none⟩=some (.int .i64 z0)∧w'.cell? ⟨b,ao+k*2+1,none⟩=some (.int .i64 z1)∧w'.cell? ⟨g,go+(s.length-1)*2,none⟩=some (.int .i64 y0)∧w'.cell? ⟨g,go+(s.length-1)*2+1,none⟩=some (.int .i64 y1))) (by (first|(with_reducible exact KT.out _ E6.out))) (fun hHeld=>?_)
      refine tkl [0,1,2,3,4,5,6,7,8,9,10,11,12,13] ?_
      iterate 14
       refine tW ?_
       try go_frame
      refine rdy1 14 (fun K hK=>?_)
      go_simp
      refine (Ui ⟨y0,y1⟩ ⟨z0,z1⟩ _).mono ?_;rintro e7 w7 ⟨rfl,hb7⟩;have E7:=hid (bl E6.out hb7);rw [HLT.out];clear hb7
      try go_wp2_with fail
      refine hK.out _ _ (by (first|(with_reducible exact KT.out _ E7.out))) (fun hHeld=>?_)
      clear hK K
      try go_frame
      refine tkl [15,16] ?_
      iterate 2
       refine tW ?_
       try go_frame
      refine tkD ?_
      have HM2:=hid (HM1.out.call E7.out)
      have HG2:=hid (HG1.out.call E7.out)
      have HO2:=hid (Ar.call HO1.out E7.out)
      have HB2:=hid (bl HB1.out E7.out)
      have C20:=hid (KT.out _ E7.out).1
      have C21:=hid (KT.out _ E7.out).2.1
      have HBW:=hid (show b<w7.heap.size from Nat.lt_of_lt_of_le HBV.out E7.out.size)
      clear hbw HM1 HG1 HO1 HB1 C0 C1 KT E6 E7 D0 D1 HGB HBV hHeld
      generalize w7=W2 at *
      cases hbest:Kl s l k with
      | none =>
        have HE:=hid (HNEW.out FR.out hbest)
        rw [hbest] at HM2
        have c0:=C20.out
        have c1:=C21.out
        clear HNO HNEW HLESS HSTAY hbest
        go_upto_region 8 with fail
        refine tkS (S:=(fun w'=>Below W2.heap.size W2 w')) (by (first|(with_reducible exact Af (Below.refl _ _)))) (fun hHeld=>?_)
        refine tkl [0,1,2] ?_
        iterate 3
         refine tW ?_
         try go_frame
        refine tkl [3,4,5,6,7,8] ?_
        iterate 6
         refine tN ?_
         try go_frame
        refine tkl [9] (tW ?_)
        try go_frame
        refine tkD ?_
        have HM3:=hid HM2.out.drew
        have HG3:=hid (HG2.out.call (Af (Below.refl _ _)))
        have HO3:=hid (Ar.call HO2.out (Af (Below.refl _ _)))
        have HB3:=hid (Af HB2.out)
        have c0:W2.drew.cell? ⟨b,ao+k*2,none⟩=some (.int .i64 z0):=C20.out
        have c1:W2.drew.cell? ⟨b,ao+k*2+1,none⟩=some (.int .i64 z1):=C21.out
        clear hHeld HM2 HG2 HO2 HB2 C20 C21 HBW
        generalize W2.drew=W3 at *
        have hm3:=HM3.out.lt
        have hz3:=HM3.out.frozen
        have hcm:∀i,W3.cell? ⟨m,i,none⟩=(#[.int .i64 0,.int .i64 0][i]?:Option Value):=HM3.out.cell
        have HX:=hid (Bd8 (.int .i64 z0) (.int .i64 z1) HG3.out HO3.out HSA.out)
        have HBX:=hid ((HB3.out.setCell (p:=⟨m,0,none⟩) HM.out (.int .i64 z0)).setCell (p:=⟨m,1,none⟩) HM.out (.int .i64 z1))
        have HMX:=hid ((HM3.out.set_ 0 (.int .i64 z0)).set_ 1 (.int .i64 z1))
        go_wp2_with fail
        go_roundw
        case rel=>exact ⟨k+1,by omega,by go_num,by simp [HE.out],by rw [HE.out];simpa [Bc2,keyV] using HMX.out,HX.out.1,HX.out.2,HBX.out⟩
        case measure=>simp [intOf];omega
      | some q =>
        obtain ⟨q0,q1⟩:=q
        have HL1:=hid (HLESS.out _ FR.out hbest)
        have HS1:=hid (HSTAY.out _ FR.out hbest)
        have HBE:=hid hbest
        rw [hbest] at HM2
        clear HNO HNEW HLESS HSTAY hbest
        have D0:=hid (show W2.cell? ⟨m,0,none⟩=some (.int .i64 q0) by simpa [Bc2,keyV] using HM2.out.cell 0)
        have D1:=hid (show W2.cell? ⟨m,1,none⟩=some (.int .i64 q1) by simpa [Bc2,keyV] using HM2.out.cell 1)
        have HMLT:=hid HM2.out.lt
        have KS:Hid (∀W,Below W2.heap.size W2 W→W.cell? ⟨b,ao+k*2,none⟩=some (.int .i64 z0)∧W.cell? ⟨b,ao+k*2+1,none⟩=some (.int .i64 z1)∧W.cell? ⟨m,0,none⟩=some (.int .i64 q0)∧W.cell? ⟨m,1,none⟩=some (.int .i64 q1)):=hid (fun W hb=>⟨Bz C20.out HBW.out hb,Bz C21.out HBW.out hb,Bz D0.out HMLT.out hb,Bz D1.out HMLT.out hb⟩)
        by_cases hless:Ev ⟨z0,z1⟩ ⟨q0,q1⟩=true
        ·have HLT:=hid hless
         clear hless
         go_upto_region 8 with fail
         have E8:=hid (Af (Below.refl W2.heap.size W2))
         refine tkS (S:=(fun w'=>w'.cell? ⟨b,ao+k*2,none⟩=some (.int .i64 z0)∧w'.cell? ⟨b,ao+k*2+1,none⟩=some (.int .i64 z1)∧w'.cell? ⟨m,0,none⟩=some (.int .i64 q0)∧w'.cell? ⟨m,1,none⟩=some (.int .i64 q1))) (by (first|(with_reducible exact KS.out _ E8.out))) (fun hHeld=>?_)
         refine tkl [0,1,2,3,4,5,6,7] ?_
         iterate 8
          refine tW ?_
          try go_frame
         refine rdy1 8 (fun K hK=>?_)
         go_simp
         refine (Ui ⟨z0,z1⟩ ⟨q0,q1⟩ _).mono ?_;rintro e9 w9 ⟨rfl,hb9⟩;have E9:=hid (bl E8.out hb9);rw [HLT.out];clear hb9
         try go_wp2_with fail
         refine hK.out _ _ (by (first|(with_reducible exact KS.out _ E9.out))) (fun hHeld=>?_)
         clear hK K
         try go_frame
         refine tkl [9] (tW ?_)
         try go_frame
         refine tkD ?_
         have HM3:=hid (HM2.out.call E9.out)
         have HG3:=hid (HG2.out.call E9.out)
         have HO3:=hid (Ar.call HO2.out E9.out)
         have HB3:=hid (bl HB2.out E9.out)
         have c0:=(KS.out _ E9.out).1
         have c1:=(KS.out _ E9.out).2.1
         have HE:=hid (HL1.out HLT.out)
         have hm3:=HM3.out.lt
         have hz3:=HM3.out.frozen
         have hcm:∀i,w9.cell? ⟨m,i,none⟩=(#[.int .i64 q0,.int .i64 q1][i]?:Option Value):=HM3.out.cell
         have HX:=hid (Bd8 (.int .i64 z0) (.int .i64 z1) HG3.out HO3.out HSA.out)
         have HBX:=hid ((HB3.out.setCell (p:=⟨m,0,none⟩) HM.out (.int .i64 z0)).setCell (p:=⟨m,1,none⟩) HM.out (.int .i64 z1))
         have HMX:=hid ((HM3.out.set_ 0 (.int .i64 z0)).set_ 1 (.int .i64 z1))
         go_wp2_with fail
         go_roundw
         case rel=>exact ⟨k+1,by omega,by go_num,by simp [HE.out],by rw [HE.out];simpa [Bc2,keyV] using HMX.out,HX.out.1,HX.out.2,HBX.out⟩
         case measure=>simp [intOf];omega
        ·have HLT:=hid (show Ev ⟨z0,z1⟩ ⟨q0,q1⟩=false by simpa using hless)
         clear hless
         go_upto_region 8 with fail
         have E8:=hid (Af (Below.refl W2.heap.size W2))
         refine tkS (S:=(fun w'=>w'.cell? ⟨b,ao+k*2,none⟩=some (.int .i64 z0)∧w'.cell? ⟨b,ao+k*2+1,none⟩=some (.int .i64 z1)∧w'.cell? ⟨m,0,none⟩=some (.int .i64 q0)∧w'.cell? ⟨m,1,none⟩=some (.int .i64 q1))) (by (first|(with_reducible exact KS.out _ E8.out))) (fun hHeld=>?_)
         refine tkl [0,1,2,3,4,5,6,7] ?_
         iterate 8
          refine tW ?_
          try go_frame
         refine rdy1 8 (fun K hK=>?_)
         go_simp
         refine (Ui ⟨z0,z1⟩ ⟨q0,q1⟩ _).mono ?_;rintro e9 w9 ⟨rfl,hb9⟩;have E9:=hid (bl E8.out hb9);rw [HLT.out];clear hb9
         try go_wp2_with fail
         refine hK.out _ _ (by (first|(with_reducible exact KS.out _ E9.out))) (fun hHeld=>?_)
         clear hK K
         try go_frame
         refine tkl [9] (tW ?_)
         try go_frame
         refine tkD ?_
         have HM3:=hid (HM2.out.call E9.out)
         have HG3:=hid (HG2.out.call E9.out)
         have HO3:=hid (Ar.call HO2.out E9.out)
         have HB3:=hid (bl HB2.out E9.out)
         have c0:=(KS.out _ E9.out).1
         have c1:=(KS.out _ E9.out).2.1
         have HE:=hid (HS1.out HLT.out)
         clear c0 c1
         go_wp2_with fail
         go_roundw
         case rel=>exact ⟨k+1,by omega,by go_num,by simp [HE.out],by rw [HE.out];exact HM3.out,HG3.out,HO3.out,HB3.out⟩
         case measure=>simp [intOf];omega
   ·have hke:k=l.length:=by omega
    subst hke
    cases hbb:Kl s l l.length with
    | none =>
      have HE:=hid (HS.out.ends hbb)
      clear hbb
      go_wp2_with fail
      go_ret
      have hO2:=HG1.out.own Ni
      obtain ⟨a2,c2,e2,hO2⟩:=hO2
      cases e2
      exact ⟨sa,sc,s,rfl,HE.out,hO2,HB1.out⟩
    | some b =>
      have HE:=hid (HS.out.step hbb)
      rw [hbb] at HM1
      clear hbb
      obtain ⟨b0,b1⟩:=b
      have hcm:∀i,wr.cell? ⟨m,i,none⟩=(#[.int .i64 b0,.int .i64 b1][i]?:Option Value):=HM1.out.cell
      obtain ⟨v3,W3,hr3,hg3,hb3⟩:=HG1.out.one Try.underlying32 Bh9 rfl (by decide) (by decide) Ni Zk ⟨b0,b1⟩ (by have:=HSL.out;omega) HB1.out.size
      have HR3:=hid (show (Builtin.append_ #[32,32] 32 #[_,.slice (some ⟨wr.heap.size,0,none⟩) 1 1]).run Try.prog (wr.alloc (.cells #[.int .i64 b0,.int .i64 b1] 47))=.ok v3 W3 by simpa [plC] using hr3)
      have HG3:=hid hg3
      have HB3:=hid hb3
      clear hr3 hg3 hb3
      go_wp2_with (at_builtin;refine Bb rfl (.tmp 47) (.tmp 49) 32 rfl _ _ v3 W3 rfl rfl HR3.out ?_)
      go_roundw
      case rel=>exact ⟨_,HE.out,HG3.out,HG1.out.below HB1.out HB3.out (Nat.le_refl _)⟩
      case measure=>rw [HG3.out.len];have:=HE.out.len;simp [lenV] at this ⊢;omega
end Go.Proofs.Ytenpcndoilcjcaa
