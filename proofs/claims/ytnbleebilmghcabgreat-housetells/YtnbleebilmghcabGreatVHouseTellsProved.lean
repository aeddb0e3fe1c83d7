/- The statement HouseTells holds: whatever is done with a house, the program tells what the document tells, for every input. -/
import Derived.Test.YtnbleebilmghcabGreatRows
import Derived.Test.YtnbleebilmghcabGreatChecked
import Derived.Test.YtnbleebilmghcabGreatUBY
import Derived.Test.YtnbleebilmghcabGreatUBX
set_option linter.all false
set_option maxRecDepth 100000
open Go.Value renaming slice→S
open Option renaming none→N,some→O
open Go.Proofs.Tryz renaming prog→Au
namespace Go.Proofs.YtnbleebilmghcabGreat.houseTells
open Go.ChangeShapes Go.WideShapes Go.ChangeAt Go.RowKit
theorem own:ownKnob Au.godebug=N:=by kernel_rfl
theorem jR(os:Os)(E:os.Started)(H:Type)(enc:TypeId×Value→H):
  ReturnsInHanded {} Tryz.checked os 5 .any (Rows.houseTellsSpec.pre6 enc Au Tryz.f5 Rows.houseTellsRow.domain false) (Rows.houseTellsSpec.post enc Au Tryz.f5 false true false false):=by
 refine returnsInHanded_of_change (C:=Tryz.checked) own E (by kernel_rfl) Tryz.func5
  (ChangeSpec.witness6 (enc:=enc) (C:=Tryz.checked) false ⟨#[],#[S N 0 0,S N 0 0],[]⟩ 8 (by kernel_rfl) (by kernel_rfl) (by kernel_rfl) (by kernel_rfl)) ?_
 intro W V D ds gs hm F hW hq _;have J:∀(j:Nat) t v,Tryz.f5.params[j]?=O t→D[j]?=O v→Value.okWide Au W .any V t v:=F;have L:=hW;obtain⟨p,q,Y,hV,rfl,ht,hu⟩:=hW;have hA:DataW.TrodAll enc Au W 0 (fun _=>true) true Tryz.f5.params.toList D.toList ds p:=Y;rw[Tryz.params5]at hA J;obtain⟨v0,hv,d0,hw,p0,q0,hn,rfl,rfl,h0,r0⟩:=trodAll_cons hA;obtain⟨v1,hy,d1,hz,p1,q1,rfl,rfl,rfl,h1,r1⟩:=trodAll_cons r0;obtain⟨rfl,rfl,rfl⟩:=trodAll_nil r1;obtain rfl:D=#[v0,v1]:=by cases D;simp_all
 obtain⟨rfl,rfl⟩:=trodVars_none hV;obtain⟨Z,ho,ha,rfl⟩:=okWide_slice Tryz.underlying50 (J 0 50 v0 R R);obtain⟨M,hb⟩:=h0;obtain⟨L0,hB,l0,hc,hr,hd⟩:=Yu (v:=S Z ho ha) hb;simp only[A9]at hc;obtain⟨rfl,rfl,rfl⟩:=hc;obtain⟨hf,hp,hh,rfl⟩:=okWide_slice Tryz.underlying51 (J 1 51 v1 R R);obtain⟨U,hi⟩:=h1;obtain⟨L1,hC,l1,hj,hs,hk⟩:=bJ (v:=S hf hp hh) hi;simp only[A9]at hj;obtain⟨rfl,rfl,rfl⟩:=hj;clear Y F;simp only[CN]at L;have hl:∀x∈p0++p1,x.block<W.heap.size:=fun x hx=>by simpa using L.lt x hx
 refine(Wt Z ha l0 hf hh l1 W hd hk).mono fun e W' ⟨he,hg⟩=>?_;subst he;exact⟨_,rfl,_,_,_,[],_,[],L,trodAll_mk1 (shut_bool Tryz.underlying4 _),(trodAll_cons_mk (Below.trod j8 (by kernel_rfl) (AM (by kernel_rfl)) ⟨M,hb⟩ hg (fun x hx=>hl x (by simp[hx]))) (trodAll_cons_mk (Below.trod j8 (by kernel_rfl) (AM (by kernel_rfl)) ⟨U,hi⟩ hg (fun x hx=>hl x (by simp[hx]))) trodAll_mk0)),rfl,hg.frame _,fun h=>by cases h⟩
theorem iz:Rows.houseTellsRow.holds Tryz.pinned (OpenSpec.ofChange Rows.houseTellsSpec):=
 OpenClaim.holds_of_wide 5 Tryz.f5 R R R R R R R ⟨rfl,rfl,rfl,rfl,rfl⟩ R R R R R (by kernel_rfl) Tryz.func5 (by kernel_rfl)
  (AM (by kernel_rfl)) (by unfold Func.isWrapper;first|(rw[AF (by decide +kernel)];kernel_rfl)|(rw[AA (by decide +kernel)];exact⟨rfl,rfl⟩))
  (fun D h H enc _=>jR D h H enc)
theorem proved:Rows.HouseTellsSaid :=
 iz
end Go.Proofs.YtnbleebilmghcabGreat.houseTells
set_option maxHeartbeats 1000000
namespace Go.Proofs.YtnbleebilmghcabGreat
open Go Go.RowKit Go.ChangeShapes Go.WideShapes Go.ChangeAt
theorem houseTells_holds:Rows.HouseTellsSaid:=houseTells.proved
#print axioms houseTells_holds
end Go.Proofs.YtnbleebilmghcabGreat
