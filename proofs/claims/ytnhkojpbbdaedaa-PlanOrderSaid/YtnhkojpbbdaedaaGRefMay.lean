/- The document's own May, of descriptions: the mathematics; lengths and caps that may not be. -/
import Derived.Test.YtnhkojpbbdaedaaGRight
import Derived.Test.YtnhkojpbbdaedaaGRefD
namespace Go.Proofs.Ytnhkojpbbdaedaa
open Go.ChangeShapes Go.WideShapes Go.ChangeAt Go.RowKit
set_option linter.unusedVariables false
section
theorem Pd (xs:List Int) (k:Int):(Bu xs).count ⟨0,k⟩=xs.count k:=by
 induction xs with
 | nil=>rfl
 | cons x r ih =>
   simp only [Bu,List.map_cons,List.count_cons] at ih ⊢
   rw [ih]
   congr 1
   simp
def Yi (d:Ds):Prop:=1≤d.exits.length∧d.exits.length≤8∧1≤d.players.length∧d.players.length≤6∧d.coins.length=d.players.length∧d.items.length≤16∧d.boxes.length=d.items.length
theorem Dk2 {d:Ds} (h:¬Yi d):mayD d=false:=by
 rw [Bool.eq_false_iff];intro hm
 have:=Kv hm
 exact h ⟨by omega,by omega,by omega,by omega,by omega,by omega,by omega⟩
theorem Si (n:Int):inB n 65=capB n:=by
 unfold inB capB
 congr 1
 simp;omega
theorem Bv6 {d:Ds} (h:Yi d) (hc:Ot [d.room,d.player,d.box]=true):mayD d=(d.exits.all (exB d.exits.length)&&((ofB d.players d.exits.length&&Kk d.coins)&&(ofB d.items d.exits.length&&fitB d (Bu d.items)))):=by
 obtain ⟨h1,h2,h3,h4,h5,h6,h7⟩:=h
 simp only [mayD,Oy,Qp,Dr,Iw,hc,h5,h7,decide_eq_true h1,decide_eq_true h2,decide_eq_true h3,decide_eq_true h4,decide_eq_true h6,Bool.true_and,decide_true]
theorem Dl5 {d:Ds} (hc:Ot [d.room,d.player,d.box]=false):mayD d=false:=by simp [mayD,hc]
def Cr4 (d:Ds) (k:Nat):Prop:=∀i:Nat,i<k→((d.items.count (i:Int):Nat):Int)≤d.room
theorem Di6 {d:Ds} {k:Nat} (hr:0≤d.room) (h:¬((d.items.count (k:Int):Nat):Int)≤d.room):fitB d (Bu d.items)=false:=by
 have hm:(⟨0,(k:Int)⟩:Pl)∈Bu d.items:=by
  have:0<(Bu d.items).count ⟨0,k⟩:=by rw [Pd];omega
  exact List.count_pos_iff.1 this
 rw [Bool.eq_false_iff];intro hf
 have:=List.all_eq_true.1 hf _ hm
 rw [Pd] at this
 simp [Cb] at this
 omega
theorem Cm9 {d:Ds} (h:Cr4 d d.exits.length) (ho:ofB d.items d.exits.length=true):fitB d (Bu d.items)=true:=by
 simp only [fitB,List.all_eq_true,decide_eq_true_eq]
 intro p hp
 obtain ⟨n,hn,rfl⟩:=List.mem_map.1 hp
 obtain ⟨n0,n1⟩:=(Ux _ _).1 ho n hn
 obtain ⟨m,rfl⟩:∃m:Nat,n=m:=⟨n.toNat,by omega⟩
 rw [Pd]
 have:=h m (by omega)
 simpa [Cb] using this
theorem Cp5 {xs:List Int} {k:Nat} {p:Int} (hk:k<xs.length) (h:xs[k]=p):(xs.take (k+1)).count p=(xs.take k).count p+1:=by
 rw [List.take_succ_eq_append_getElem hk,List.count_append,h];simp
theorem Dk4 {xs:List Int} {k:Nat} {p:Int} (hk:k<xs.length) (h:¬xs[k]=p):(xs.take (k+1)).count p=(xs.take k).count p:=by
 rw [List.take_succ_eq_append_getElem hk,List.count_append,show [xs[k]].count p=0 from List.count_eq_zero.2 (by simpa using fun e=>h e.symm)];rfl
theorem Dk8 (e:Ex) {j:Nat} (hj:j<4):(exC e)[j]?=some (.int .i64 (e.get j)):=by
 match j,hj with
 | 0,_=>rfl
 | 1,_=>rfl
 | 2,_=>rfl
 | 3,_=>rfl
end
section
end
section
def Aw3 (x:Wd):Prop:=x.at_.length=x.d.players.length∧x.coins.length=x.d.players.length∧x.wher.length=x.d.items.length
theorem Cn1 {x:Wd} (h:¬(mayD x.d=true∧Aw3 x)):Ai x=false:=by
 rw [Bool.eq_false_iff];intro hr
 simp only [Ai,Dr,Dv,Bool.and_eq_true,decide_eq_true_eq] at hr
 exact h ⟨hr.1,by omega,by omega,by omega⟩
theorem Av3 {x:Wd} (hm:mayD x.d=true) (h:Aw3 x):Ai x=((ofB x.at_ x.d.exits.length&&Kk x.coins)&&(x.wher.all (Cw x.d)&&(Sk x.wher&&fitB x.d x.wher))):=by
 obtain ⟨h1,h2,h3⟩:=h
 simp [Ai,Dr,Dv,hm,h1,h2,h3]
end
end Go.Proofs.Ytnhkojpbbdaedaa
