/- desc.May. -/
import Derived.Test.YtnhkojpbbdaedaaGreatDescMay
namespace Go.Proofs.YtnhkojpbbdaedaaGreat
open Go.ChangeShapes Go.WideShapes Go.ChangeAt Go.RowKit
set_option linter.unusedVariables false
section
theorem Gf5 {w:World} {n:Nat} {t:TypeId} {a b c:Int} (h:Blk w n t #[.int .i64 a,.int .i64 b,.int .i64 c]):Ae w (some ⟨n,0,none⟩) [a,b,c] :=
 h.ints (by simp [maxLen]) (fun i hi=>by
  obtain rfl|rfl|rfl:i=0∨i=1∨i=2:=by simp at hi;omega
  ·rfl
  ·rfl
  ·rfl)
end
section
theorem Xc {d:Ds} {ps:List Pl} (hm:mayD d=true) (h:Dv d ps=true):Zh ps:=by
 intro p hp hk
 simp only [Dv,Bool.and_eq_true,decide_eq_true_eq,List.all_eq_true] at h
 have h2:=h.2 p hp
 simp only [mayD,Iw,Bool.and_eq_true,decide_eq_true_eq] at hm
 simp only [Cw,hk] at h2
 have h3:inB p.id d.boxes.length=true:=by
  cases e:inB p.id d.boxes.length
  ·rw [e] at h2;simp at h2
  ·rfl
 have:=(Bi _ _).1 h3
 omega
theorem Cg5 {d:Ds} {ps:List Pl} (hm:mayD d=true) (h:Dv d ps=true):ps.length≤16:=by
 simp only [Dv,Bool.and_eq_true,decide_eq_true_eq] at h
 simp only [mayD,Iw,Bool.and_eq_true,decide_eq_true_eq] at hm
 omega
theorem Kv {d:Ds} (hm:mayD d=true):1≤d.exits.length∧d.exits.length≤8∧1≤d.players.length∧d.players.length≤6∧d.items.length≤16∧d.boxes.length=d.items.length∧d.coins.length=d.players.length:=by
 simp only [mayD,Oy,Qp,Dr,Iw,Bool.and_eq_true,decide_eq_true_eq] at hm
 omega
theorem Ve {d:Ds} {p:Pl} (h:Cw d p=true):(p.kind=0∧0≤p.id∧p.id<d.exits.length)∨(p.kind=1∧0≤p.id∧p.id<d.players.length)∨(p.kind=2∧0≤p.id∧p.id<d.boxes.length∧d.boxes.getD p.id.toNat false=true):=by
 unfold Cw at h
 by_cases h0:p.kind=0
 ·rw [if_pos h0] at h;exact .inl ⟨h0,(Bi _ _).1 h⟩
 rw [if_neg h0] at h
 by_cases h1:p.kind=1
 ·rw [if_pos h1] at h;exact .inr (.inl ⟨h1,(Bi _ _).1 h⟩)
 rw [if_neg h1] at h
 by_cases h2:p.kind=2
 ·rw [if_pos h2,Bool.and_eq_true] at h
  have:=(Bi _ _).1 h.1
  exact .inr (.inr ⟨h2,this.1,this.2,h.2⟩)
 ·rw [if_neg h2] at h;cases h
theorem Ap8 {d:Ds} {ps:List Pl} (hm:mayD d=true) (h:Dv d ps=true):∀p∈ps,0≤p.kind∧p.kind<3∧PlWf p:=by
 intro p hp
 simp only [Dv,Bool.and_eq_true,decide_eq_true_eq,List.all_eq_true] at h
 have hf:=Kv hm
 rcases Ve (h.2 p hp) with h|h|h
 all_goals exact ⟨by omega,by omega,Ul (by omega) (by omega),Ul (by omega) (by omega)⟩
end
end Go.Proofs.YtnhkojpbbdaedaaGreat
